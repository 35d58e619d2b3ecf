import PyProof.Rows.All
import Wide.All
import OpenK.AllK
import Wide.FinOn
import PyProof.EqAt
import PyProof.EqKinds
import PyProof.TupleCall
import PyProof.EnumFor
import PyProof.EnumStmt
import PyProof.EnumMake
import PyProof.StrOps2
import PyProof.ZipIter
import PyProof.SumWalkG
import PyProof.IsiPairs
import PyProof.DictRoadsH
import PyProof.Rows.TupTab
import KE.KSortAsk
import KE.KSortTup
import PySem.Challenge.RW_poolrules_k21_steps_that_do_not_meet
set_option Elab.async false
set_option linter.all false
namespace PySem.W.Fast
def tw14141258147541998162:=True
def tw10901211577849419259:=True
def tw11768804325247952122:=True
def tw12877858543803039882:=True
def tw18419804355020414294:=True
def tw10313125505942340410:=True
def tw15604010337050135877:=True
def tw3794786893595707953:=True
def tw8723481745354119354:=True
def tw15972764733139532247:=True
def tw2913803339810710404:=True
def tw17792364940925723635:=True
def tw7106193070223732534:=True
def tw12135232467743651801:=True
def tw15105838103112772966:=True
def tw7658665858692440484:=True
def tw5092361863415483142:=True
def tw10823133429460685871:=True
def tw8637244201861167414:=True
def tw4652112997241307085:=True
def tw4120724860189714206:=True
def tw15228659816200333399:=True
def tw12984346268865849834:=True
def tw6492295337709411793:=True
def tw9292271496371962732:=True
def tw10191385164532708926:=True
def tw17710349745099765641:=True
def tw63117123253780865:=True
def tw16786498106078598831:=True
def tw1289879753061050561:=True
def tw2978711570303447875:=True
def tw11605566294266051838:=True
def tw13850255741379273164:=True
def tw13243269842095421072:=True
def tw9682397101305752615:=True
def tw7573849448976782657:=True
def tw3400162293532398554:=True
def tw9653525467300790421:=True
def tw3269864062960018082:=True
def tw4025809254866001307:=True
def tw14525035946309062980:=True
def tw1853663585748159300:=True
def tw14265606755088671385:=True
def tw14896060896496084637:=True
def tw11840768924166831626:=True
def tw2954365206920463957:=True
def tw13926722605036131158:=True
def tw8301109178752746671:=True
def tw9836555383014021787:=True
def tw15387646825853652934:=True
def tw16770502744657985730:=True
def tw15679937079639737202:=True
def tw6998978049589282763:=True
def tw7655078008179250260:=True
def tw12844717320108358278:=True
def tw12470577120071353290:=True
def tw2490132782421448479:=True
def tw14911791640285080362:=True
def tw16007519265247145645:=True
def tw7838994186952779962:=True
def tw3863406149781163706:=True
def tw5281864053718892803:=True
def tw17228224030416527463:=True
def tw14354198279761153407:=True
def tw15228219359747189032:=True
def tw11219243873872765337:=True
def tw4631915882678914961:=True
def tw4784124669689506079:=True
def tw6295109585325525152:=True
def tw14734595492706897762:=True
def tw1023517823391234808:=True
def tw7369492157194898405:=True
def tw3026240111913998995:=True
def tw10899013163658416683:=True
def tw2881190251737458523:=True
def tw2511839616542248423:=True
def tw1814547257934187960:=True
def tw9601021642904939317:=True
def tw17721924523079161548:=True
def tw14605556115173585181:=True
def tw25449372718730559:=True
def tw5856393426526077074:=True
def tw5207937644929447745:=True
def tw17244286587680827201:=True
def tw13749604078638214830:=True
def tw3043464322317425788:=True
def tw15267079195170691061:=True
def tw5975158487803483512:=True
def tw3851237154445490280:=True
def tw12228558963200393438:=True
def tw5167490178324973268:=True
def tw11008712776512397373:=True
def tw3624471797827837892:=True
def tw7078441567650000847:=True
def tw7447236366604408918:=True
def tw12730136682053150209:=True
def tw4427764211920329939:=True
def tw10333189037539069815:=True
def tw8558764431812700410:=True
def tw16255068672660579838:=True
def tw14358804170451283992:=True
def tw5681045332053844606:=True
def tw17774192516211779615:=True
def tw2202483587925198103:=True
def tw6863944203877421051:=True
def tw2349201264379963371:=True
def tw7655937282262238985:=True
def tw12128624568958777994:=True
def tw16994595690886715879:=True
def tw12354561210286133850:=True
def tw4769628738976466439:=True
def tw18363762768296082127:=True
def tw1977298857931483524:=True
def tw13504971814385556005:=True
def tw10078296803326493092:=True
def tw5622255666262028638:=True
def tw3036880121559237138:=True
def tw17134914692524649770:=True
def tw7799918772642635335:=True
def tw14018654922041963166:=True
def tw6074123558988475373:=True
def tw2944679657737373306:=True
def tw17832518883096713736:=True
def tw12812922633697157634:=True
def tw2155148144181660346:=True
def tw15840221625423346973:=True
def tw701990763333693419:=True
def tw700297458333879059:=True
def tw9566009525776920649:=True
def tw6664717474177073071:=True
def tw17031689683834128329:=True
def tw3277710561429490371:=True
def tw114044514555203210:=True
def tw3343899027292310519:=True
def tw14483547621777273776:=True
def tw7027652503568078833:=True
def tw14128629215303956361:=True
def tw1834371489989012511:=True
def tw10218525179991198999:=True
def tw11629190683097340872:=True
def tw11104846630418755083:=True
def tw7244056580226556456:=True
def tw15501963094401505776:=True
def tw5973639855302336623:=True
def tw7819793383595585686:=True
def tw4211862252647861346:=True
def tw2857281275356165822:=True
def tw12138217647491431431:=True
def tw17974100337370445428:=True
def tw16763703698938165990:=True
def tw2163873883199503014:=True
def tw10133669805813535506:=True
def tw13416930354096196770:=True
def tw5315568742491733814:=True
def tw13866617425347701306:=True
def tw3783591743051679669:=True
def tw13211466423053300441:=True
def tw9368280352728347935:=True
def tw13352386974421383984:=True
def tw12635219922968072407:=True
def tw9334486366179130192:=True
def tw4250481780775710027:=True
def tw12655165922632973322:=True
def tw10025563619571942157:=True
def tw6853357188036801181:=True
def tw3806348672203618811:=True
def tw8832848232960047048:=True
def tw16570753233675440910:=True
def tw15873373493480576871:=True
def tw9261431372639337411:=True
def tw16823079172908403535:=True
def tw9266829106169839546:=True
def tw4175272493920130566:=True
def tw18422353839181060896:=True
def tw10127739412541554645:=True
def tw8255204589506927415:=True
def tw16996745783436657613:=True
def tw6365612930757143735:=True
def tw11373347215334570151:=True
def tw17667135838817214900:=True
def tw17247999366444602448:=True
def tw16605380240798795499:=True
def tw9403580522907028898:=True
def tw6411099942019391565:=True
def tw4614519748334649806:=True
def tw1075251352217458927:=True
def tw15390410945722109860:=True
def tw3511008458960864504:=True
def tw8197745516640981609:=True
def tw14330108712652154165:=True
def tw15613870431459686034:=True
def tw11286605433822257722:=True
def tw2451335452812204063:=True
def tw5965916175861144347:=True
def tw7573077947989411001:=True
def tw9657308191817159608:=True
def tw3091540308434567716:=True
def tw14606834735817627192:=True
def tw5484044133318667888:=True
def tw2248821591261032883:=True
def tw10467840685421294893:=True
def tw11575628850891912266:=True
def tw17170530633157825486:=True
def tw4239566469907841939:=True
def tw18379991972548829736:=True
def tw845571273051823334:=True
def tw10210203791863969682:=True
def tw4827470166944137301:=True
def tw11088105489589790401:=True
def tw7124459089093370557:=True
def tw8764706980267616858:=True
def tw14216728162207692050:=True
def tw1101616868007555616:=True
def tw10867385144755051171:=True
def tw1383505517653096191:=True
def tw15704946524741209877:=True
def tw3005823160040376944:=True
def tw2252624391810695241:=True
def tw6721377610909697966:=True
def tw18201630040473769651:=True
def tw5815000757070701381:=True
def tw5938720857757695859:=True
def tw2468339076088165279:=True
def tw6268201256367680480:=True
def tw7400004857435751211:=True
def tw5485981676877369476:=True
def tw10513703911960184487:=True
def tw14763767202693333244:=True
def tw10316653052910118009:=True
def tw14588361514993651126:=True
def tw9045921203538723220:=True
def tw3630432789802357251:=True
def tw4963993737772264393:=True
def tw1720837168177665897:=True
def tw9837507958783826700:=True
def tw14837825674498765128:=True
def tw435259404571721796:=True
def tw2779964036957617060:=True
def tw3855271405623038497:=True
def tw13310934397771997619:=True
def tw14168287054787450701:=True
def tw4506018667922032444:=True
def tw723650707351391801:=True
def tw6472959918195278086:=True
def tw11792725867579956759:=True
def tw957272472167039703:=True
def tw10384462360962620756:=True
def tw13182876789096986088:=True
def tw7482477541959441242:=True
def tw13674536246763999145:=True
def tw1581503194754801497:=True
def tw1865159370277374775:=True
def tw12446937080629325348:=True
def tw10055243105150103269:=True
def tw16562184615795082509:=True
def tw1253705125037550975:=True
def tw5781278367247327927:=True
def tw6409680765789359197:=True
def tw11603678664168737480:=True
def tw610882664465224634:=True
def tw15673551292596473008:=True
def tw1051516089023359001:=True
def tw145215155699534451:=True
def tw15383156590015121625:=True
def tw18204994425349347610:=True
def tw976645496064519248:=True
def tw3286082050805525162:=True
def tw14601026877399138875:=True
def tw11208935862343400071:=True
def tw4675338822484962055:=True
def tw3669039986481086578:=True
def tw7392818963676468155:=True
def tw8014975394819400031:=True
def tw4489729159599147933:=True
def tw1976436782005350233:=True
def tw17246356510444254880:=True
def tw4482143619902040561:=True
def tw850908993341711007:=True
def tw4137742757369601523:=True
def tw18430987686702472526:=True
def tw8612087768040965791:=True
def tw8480543129326792496:=True
def tw1838035238498805553:=True
def tw18358825638765503147:=True
def tw15943452238648108467:=True
def tw15196291923342600089:=True
def tw14959620331615752243:=True
def tw18432517053063906305:=True
def tw12374597903384344399:=True
def tw17079839765025601612:=True
def tw10913926947268858306:=True
def tw13267392216266763730:=True
def tw483033370568570031:=True
def tw7535497308216607139:=True
def tw8360469670910647759:=True
def tw9994857218010592735:=True
def tw6032167683174432609:=True
def tw14360947530768429744:=True
def tw11467747320580579222:=True
def tw4282165262984806361:=True
def tw12853441140824110747:=True
def tw9345378057696998982:=True
def tw6564738787984495764:=True
def tw9896900310272810869:=True
def tw320077586561233006:=True
def tw15850301801795726244:=True
def tw15832894002261806055:=True
def tw2809510419779953162:=True
def tw3579782547988571074:=True
def tw8181945593023564654:=True
def tw1593570735537231776:=True
def tw8707889146160489535:=True
def tw16484594130365560110:=True
def tw6851137578105392791:=True
def tw11182026524194605922:=True
def tw9227139840588048067:=True
def tw8135062224752262267:=True
def tw15912603369204602204:=True
def tw2069472606017914783:=True
def tw1530896053169839033:=True
def tw5886801160162903166:=True
def tw4702819956204774909:=True
def tw14336943894674347361:=True
def tw12810887088203291692:=True
def tw15980977666387375997:=True
def tw1822014755245764446:=True
def tw5788837672630475203:=True
def tw6683803028685301016:=True
def tw13378230878775079309:=True
def tw5504638141530412774:=True
def tw11764528165872003393:=True
def tw2802880398439198590:=True
def tw6224269955862628592:=True
def tw5090300852079584099:=True
def tw8863552884279350406:=True
def tw16104994114178090752:=True
def tw1075577953664961131:=True
def tw1630674818956032280:=True
def tw2130662098130851396:=True
def tw15329848791961221695:=True
def tw4523542936644831545:=True
def tw11647973995781584830:=True
def tw17149786132636685640:=True
def tw14978722742321402951:=True
def tw3012573550683922793:=True
def tw15978605245496530260:=True
def tw15878380717419287084:=True
def tw14022851902371370093:=True
def tw12087920529181440078:=True
def tw7438134185068186419:=True
def tw13231287111644889258:=True
def tw4206807480040719530:=True
def tw2724967548960310295:=True
def tw17914645481493390462:=True
def tw5187075751944344759:=True
def tw9586808393286556240:=True
def tw15013709574020682185:=True
def tw14614483487215224030:=True
def tw14124984394145473599:=True
def tw5726000890016978755:=True
def tw7687734748537602329:=True
def tw1315134783976364328:=True
def tw2309338658926540489:=True
def tw11759274586817904366:=True
def tw9594782445263866509:=True
def tw16742259886064282479:=True
def tw9345249121403966692:=True
def tw17238776423254044188:=True
def tw7362795561675627291:=True
def tw11699468892671368982:=True
def tw2284288456545209363:=True
def tw924152396824360404:=True
def tw13582629476938839914:=True
def tw15868101614274358580:=True
def tw13326910526542717628:=True
def tw2273860458753981614:=True
def tw651124836040372081:=True
def tw15408618521111420437:=True
def tw10878152104083081169:=True
def tw12460641742549042488:=True
def tw5271551207648344535:=True
def tw14072697261033474070:=True
def tw13357181950116427453:=True
def tw7108649171250242969:=True
def tw5333001676595474814:=True
def tw12161198409596211335:=True
def tw9998417286829312258:=True
def tw14405905759452436574:=True
def tw17497494499513750386:=True
def tw479654317454035918:=True
def tw1790712756980014608:=True
def tw15437030892329417580:=True
def tw17598786427033834195:=True
def tw6272098281276142632:=True
def tw17544499839404932511:=True
def tw1576199320166118418:=True
def tw7478282677466572031:=True
def tw2572011958453795025:=True
def tw8776537629000206812:=True
def tw7052434379886022635:=True
def tw412683739410232771:=True
def tw9387374951832756362:=True
def tw14829349217561368735:=True
def tw12857780187120651192:=True
def tw1455795327450639029:=True
def tw4771761736722578517:=True
def tw6994969307856050897:=True
def tw9943374860569933548:=True
def tw9082699224487277702:=True
def tw11122463335811916333:=True
def tw15213638455884167278:=True
def tw11719566328897466601:=True
def tw18344422613577758664:=True
def tw15186935774635856328:=True
def tw4383368809839839940:=True
def tw3925168894590780508:=True
def tw9542814389078358209:=True
def tw18435925731345308940:=True
def tw3141728817735710026:=True
def tw15615078285178385472:=True
def tw8210092466997034669:=True
def tw7417126296163714134:=True
def tw1489721701899769572:=True
def tw11537420003973150902:=True
def tw14883516840749625638:=True
def tw15664283766964286842:=True
def tw13530123619817119870:=True
def tw3475635456777172582:=True
def tw4073748848782738933:=True
def tw11737384363883608103:=True
def tw2106725060508266352:=True
def tw16839211515110053903:=True
def tw17926763508552837471:=True
def tw5075229603819488307:=True
def tw13991765264630311871:=True
def tw13239571754274026776:=True
def tw6142352549101003660:=True
def tw16368932292664199737:=True
def tw10155058897853846321:=True
def tw5508519972394774819:=True
def tw12928313008935493665:=True
def tw11383235475711033144:=True
def tw3854385012370816894:=True
def tw6174296148258160808:=True
def tw8655343620069209121:=True
def tw17001236304203154036:=True
def tw2379479757548064860:=True
def tw9842813954249430314:=True
def tw1267566689611316325:=True
def tw8441692798304489668:=True
def tw7472055288513462545:=True
def tw9129744841283752420:=True
def tw17695287024943548261:=True
def tw13535943118587648401:=True
def tw10915005230553371551:=True
def tw14171133776828605515:=True
def tw11966148739401743094:=True
def tw17570091246369488822:=True
def tw7780333954873347723:=True
def tw8541572046844649163:=True
def tw15994393541804802998:=True
def tw1215316462763525809:=True
def tw8310894146427653851:=True
def tw671792629690132202:=True
def tw3982937437709666207:=True
def tw10153201994625622515:=True
def tw7427246428403653818:=True
def tw9820430626070539699:=True
def tw12914532517607784968:=True
def tw10772558338761320461:=True
def tw3584912846352754097:=True
def tw10860555051983787359:=True
def tw14198881927997128767:=True
def tw9206439130193532360:=True
def tw4389239365839683100:=True
def tw15288682089195675213:=True
def tw1602337029216469955:=True
def tw2488137581898023797:=True
def tw12240378376724254038:=True
def tw6770344474347967732:=True
def tw2871477646975243380:=True
def tw13602264530781607804:=True
def tw14362589741943434691:=True
def tw13520245221307204310:=True
def tw11963463305875549574:=True
def tw3668815588659161509:=True
def tw1272493349154813365:=True
def tw11629397563840232951:=True
def tw1304707530791051994:=True
def tw5968776041769379245:=True
def tw11037542095966180854:=True
def tw14907826234127702489:=True
def tw9957769836829626637:=True
def tw13289852098739166205:=True
def tw14324286302599795753:=True
def tw17985044047013187095:=True
def tw2451476507659706698:=True
def tw11915883709273134850:=True
def tw5682684528905523577:=True
def tw1630467930938384830:=True
def tw7883901878292391006:=True
def tw7028599432478101042:=True
def tw4101673605302305305:=True
def tw10155122439517571592:=True
def tw4230041078969916231:=True
def tw2808703194878726973:=True
def tw1776971515851928745:=True
def tw6026320660371116196:=True
def tw8608300728273902399:=True
def tw2930798793186521377:=True
def tw4887725078099887902:=True
def tw5739258367481549607:=True
def tw12529138052506558610:=True
def tw1376520545700479929:=True
def tw17310272122369762296:=True
def tw6213892143337032556:=True
def tw5424956989987821897:=True
def tw3245284382710143713:=True
def tw4104264229719164389:=True
def tw1623049977120968623:=True
def tw17649539007980175379:=True
def tw8506210162393345690:=True
def tw1495654851765105094:=True
def tw7294005351472862733:=True
def tw6660346286757713448:=True
def tw15443204888777131610:=True
def tw14911192264243991307:=True
def tw1159107560626073638:=True
def tw11855331379599895998:=True
def tw4145633296235794108:=True
def tw16003206073371291605:=True
def tw2343618242425256797:=True
def tw2152467177518360381:=True
def tw3696472037019617139:=True
def tw3864020537903648832:=True
def tw13525940108521924752:=True
def tw2548027777384510921:=True
def tw12480477938277367541:=True
def tw12726488946901141555:=True
def tw17189654579702053358:=True
def tw12905388848285373082:=True
def tw3560896339843994008:=True
def tw17626714685713340592:=True
def tw5288862532876692478:=True
def tw15927613335000623249:=True
def tw17112938100691702356:=True
def tw453056191134016788:=True
def tw15992177542241874800:=True
def tw4345020785344838320:=True
def tw4534811414692726913:=True
def tw8848260838120183694:=True
def tw15988533250410607424:=True
def tw12107530112270589194:=True
def tw5202520879103673063:=True
def tw3756192976490747886:=True
def tw18442321029742380169:=True
def tw16133390598997853449:=True
def tw10520930699462399792:=True
def tw10284996106363454967:=True
def tw1057940361249217832:=True
def tw13310519756550925300:=True
def tw2373223770184009999:=True
def tw7573977036460282058:=True
def tw15492226532727932218:=True
def tw1336977608763685112:=True
def tw13009701123991585372:=True
def tw242612156253262384:=True
def tw1388028547498571728:=True
def tw7824164369063544621:=True
def tw37854296903326530:=True
def tw8383003544635285355:=True
def tw13043448042475579280:=True
def tw9570797479631089541:=True
def tw5387213760751491807:=True
def tw16636877335271518619:=True
def tw3672649646814342808:=True
def tw1533771186974346916:=True
def tw1700732823203736583:=True
def tw5804550446327393894:=True
def tw7241885831721463021:=True
def tw5376461608846618519:=True
def tw18360766328638458923:=True
def tw16441432607433145978:=True
def tw4511587583672736382:=True
def tw16448534277664259621:=True
def tw18071241617270067979:=True
def tw14213426542461785209:=True
def tw7987673335846100673:=True
def tw3531608903607505089:=True
def tw15209879627153239900:=True
def tw14507464110352451485:=True
def tw11550251848862567274:=True
def tw13744156721740831227:=True
def tw16429037529800863220:=True
def tw3453189946684516149:=True
def tw16208894381096639081:=True
def tw3537073013360197288:=True
def tw6852986371123084022:=True
def tw3558351617979572687:=True
def tw9792092925924594550:=True
def tw12452919689528998568:=True
def tw10269208308826948538:=True
def tw3667904217343327150:=True
def tw12219007239090499074:=True
def tw4196911284642825292:=True
def tw9163536809967687256:=True
def tw17900603042140705596:=True
def tw6017979116058072502:=True
def tw700418964789609486:=True
def tw11095907869733407701:=True
def tw8296626186458651033:=True
def tw10055081601235349104:=True
def tw17583456122528197945:=True
def tw11754567451314603847:=True
def tw13259069343912649759:=True
def tw15912153996943882744:=True
def tw2824965715994571104:=True
def tw7271173290860508307:=True
def tw13869333225840911923:=True
def tw2284965689197350632:=True
def tw5930816172437388073:=True
def tw14409036502432005990:=True
def tw4021895872787191012:=True
def tw9290440197985803721:=True
def tw17413476911442733775:=True
def tw8742035460271732019:=True
def tw15504245753294758557:=True
def tw8266601999088202607:=True
def tw16906335927602346226:=True
def tw25960880422819970:=True
def tw14157902190413452402:=True
def tw4563333532471233618:=True
def tw2297095002519268535:=True
def tw9982497270921868203:=True
def tw5383083391088061437:=True
def tw15468937448581216000:=True
def tw117827657998522314:=True
def tw5624665531080508602:=True
def tw9484680403042181826:=True
def tw10811037141030272829:=True
def tw2321933257354048835:=True
def tw13366254366938114263:=True
def tw283278237702948187:=True
def tw7938795833178251692:=True
def tw7116776222066567520:=True
def tw13561867881031098831:=True
def tw4037441017420511444:=True
def tw16332226904626423129:=True
def tw5346524147183128170:=True
def tw4236284302658156633:=True
def tw6795962154275807999:=True
def tw11913360699158686193:=True
def tw8446930274536854705:=True
def tw2154303213245970651:=True
def tw5069186106239673830:=True
def tw606770325232895754:=True
def tw7031887896322921847:=True
def tw18228562910013279558:=True
def tw14316497020547122832:=True
def tw13512528487069351289:=True
def tw12924783663274490167:=True
def tw8326328046179614618:=True
def tw2040756783126266590:=True
def tw13070201602968257168:=True
def tw5356032200565476448:=True
def tw1151414003548459993:=True
def tw13313495896431321103:=True
def tw6919444303106595331:=True
def tw5450400196190120237:=True
def tw4601251144134220683:=True
def tw2647346702115588049:=True
def tw3765924849759950231:=True
def tw16153520784254786155:=True
def tw1071722216826631006:=True
def tw11134851244286507801:=True
def tw5365324012281712767:=True
def tw8961673107665575813:=True
def tw5757084625855796631:=True
def tw14895629090223175156:=True
def tw17887404902746441706:=True
def tw11441180706333814318:=True
def tw9275818506883659103:=True
def tw15416425482663987787:=True
def tw17510178485217322545:=True
def tw12771140191995616161:=True
def tw712915497582723540:=True
def tw8564491596342440841:=True
def tw865890513133248708:=True
def tw10103336280804313885:=True
def tw7070059175806582520:=True
def tw2527963452261178346:=True
def tw11635119698806263306:=True
def tw3239908370963163941:=True
def tw6596532784967002808:=True
def tw15303792710064682370:=True
def tw15188446407150955460:=True
def tw7631006304697955241:=True
def tw11155581653418737576:=True
def tw17734184673899602434:=True
def tw13987841363455785771:=True
def tw6877463687982991853:=True
def tw1322353090884208625:=True
def tw6177154519518644351:=True
def tw3223885209574409580:=True
def tw3792504894906400530:=True
def tw9043556615075565595:=True
def tw10267868944014746874:=True
end PySem.W.Fast
set_option maxRecDepth 100000
open PySem renaming wpAny_bind->Ui,wpAny_pure->Uk,Value->Uq,Shared->Uu,wpAny->UK,sizeLine->UU,Addr->U2,SetTable->U8,mem_of_lookup->Va,wpAny_setState_of->Vg,mainGlobals->Vh,Around->Vj,Program->VB,sizeLine_eq->VV,World->Wy,evalArgs_none->Z7
open PySem.Heap renaming get?_push_of_some->Uj,get?_push_size->Us,lt_size->UP,get?_update_other->U6,size_push->VC,get?_update_self->VL,SameBut->V6,get?_push_ne->Xo,size_update->Yi,get?_update_ne->Yw,NewExcOf->aag
open List renaming length_append->Ul,mem_cons_self->Um,all_eq_true->Uo,mem_cons_of_mem->Up,mem_map->Ur,length_cons->Ut,mem_append_left->Uv,map_cons->Uy,mem_append->Uz,mem_append_right->UB,map_append->UD,mem_map_of_mem->UE,mem_cons->UG,getElem?_eq_some_iff->UI,getElem_mem->UJ,getElem?_map->UM,append_assoc->UN,append_nil->UQ,mem_singleton->UR,lookup_cons->US,map_map->UT,length_nil->UW,mem_filter->UZ,replicate->U3,map_congr_left->U5,mem_of_getElem?->U7,length_drop->U9,length_take->Vc,nodup_cons->Vd,all_cons->Vf,take_of_length_le->Vm,mem_range->Vn,range->Vp,nil_append->Vq,length_singleton->Vx,map_nil->Vy,findIdx?_eq_some_iff_getElem->VH,zip_cons_cons->VI,find?_cons->VN,size_toArray->VO,nodup_append->VS,count_append->VT,mem_of_mem_take->VW,find?_eq_none->VY,drop_eq_getElem_cons->VZ,ext_getElem->V4,any_eq_true->V5,not_mem_nil->Wa,getElem_of_mem->Wb,getElem?_eq_none->Wf,pairwise_cons->Wh,cons_append->Wi,map_take->Wq,mapM_cons->Wr,length->Ww,map_eq_nil_iff->Wx,perm_ext_iff_of_nodup->Wz,getElem_map->WC,length_filter_le->WI,mem_of_find?_eq_some->WK,getElem?_cons_zero->WW,nodup_nil->W5,drop_eq_nil_of_le->W9,length_pos_of_mem->Xa,count_pos_iff->Xb,forIn_cons->Xe,of_mem_zip->Xf,take_append_drop->Xj,pairwise_map->Xq,length_range->Xr,exists_cons_of_ne_nil->Xu,mem_iff_getElem->Xw,forall_mem_cons->Xx,mem_flatMap->XG,cons_ne_nil->XH,length_pos_iff->XJ,length_erase_of_mem->XQ,any_eq_false->X3,map_id->X8,drop_left->Ya,drop_drop->Yb,toArray->Ye,singleton_append->Yg,getElem?_set_ne->Yj,count_singleton->Yo,foldl_cons->Yu,filter_eq_self->Yy,perm_iff_count->Yz,length_eraseIdx_of_lt->YE,mem_filterMap->YH,findIdx?_cons->YI,all_nil->YJ,filter_append->YO,getElem?_eq_none_iff->YR,findIdx?_eq_none_iff->YT,lt_irrefl->YU,pairwise_iff_getElem->YV,forIn_nil->YW,extract_eq_drop_take->YX,ext_getElem?->YZ,foldl_append->Y8,flatMap_cons->Zj,lookup->Zk,length_eq_zero_iff->Zq,getElem?_cons_succ->Zv,getElem?_set_self->ZC,drop_of_length_le->ZE,range_succ_eq_map->ZF,pairwise_lt_range->ZL,filter_eq_nil_iff->ZP,all_map->ZS,countP_map->ZX,dropLast_concat->Z1,nodup_iff_count->Z2,drop_zero->Z3,take_succ->Z4,replicate_succ->Z6,take_succ_cons->Z9,filterMap_cons->aaa,takeWhile_cons->aac,flatMap_append->aad,lt_trans->aah
open Bool renaming and_eq_true->Uw,false_eq_true->UC,eq_iff_iff->V8,not_true->Wm,false_ne_true->WE,false_and->W3,not_false->W6,or_eq_true->Xg,true_and->Xp,and_false->X9,or_eq_false_iff->Ym,not_eq_true'->Zi,and_true->Zu
open Array renaming getElem?_eq_getElem->Ux,getD_eq_getD_getElem?->U1,size_map->Vv,length_toList->VK,getD->Wc,getElem_of_mem->Wk,getElem?_eq_some_iff->Xt,mem_toList_iff->Xv,getElem?_push->XI,forIn_toList->XT,getElem?_toList->Yd,getElem?_eq_none_iff->YF,getElem_mem->Y4,toList_push->Y7,toList_map->Zz,getElem?_extract->ZK,toList_filterMap->ZM,toList_extract->Z0
open Option renaming map_eq_some_iff->UA,isSome_iff_exists->Vs,bind_eq_some_iff->Wl,getD_some->WA,bind_some->WD,join_some->WZ,getD_none->Zx,map_eq_none_iff->ZQ
open Nat renaming le_refl->UH,le_trans->UO,lt_of_lt_of_le->UY,ne_of_lt->U0,zero_le->U4,ne_of_gt->Vw,lt_succ_of_lt->VD,lt_irrefl->V0,lt_succ_self->V9,lt_trans->Ws,le_succ->Wv,le_add_right->W2,pow_succ->Xi,add_assoc->Xn,le_of_lt->XK,le_of_eq->XM,le_add_left->XU,reduceAdd->XY,mod_lt->X6,min_le_right->Yh,mul_le_mul_right->Yn,lt_of_le_of_lt->YG,add_zero->YK,succ_pos->YL,add_sub_cancel->YN,lt_trichotomy->Zc,reduceSub->Zw,succ_le_succ->Zy,mod_eq_of_lt->ZA,lt_or_ge->ZT,pow_le_pow_right->ZZ,mul_comm->aal,succ_mul->aam
open PySem.Paired renaming length->UL
open PySem.W renaming Frag->UX,instObj->Vr,emptyDict->Vt,findIn->Vu,keepIn->VE,nsIn->VG,fnOf->Wg,codeIn->W4,plainGet->XF,isFn->XN,cellsFrom_some->X0,hasDictIn->X4,plainGet_of->Ys,makesIn->Yt,lookIn->YS,plainOver->Y0,takerIn->ZR,callWith_K0->Z5,callWith_K->aae,codeRec_of->aaf,mg_of->aaj,handedIn->aao
open PySem.SetTable renaming insertAt->Vb,runEnd->Ve,bits->Vi,below->Vo,leap->VA,turns->We,Probe->Wt,grown->Wu,advance->WY,fresh->XE,layClean->X7,sizeAbove->YM,has->ZV,fill->aai
open PySem.Builtin.SmallTypes renaming nextOf->Vk,ownedTupleIsFree->Vl,ownedTupleHandOut->XD
open Classical renaming propDecidable->Vz,byContradiction->Wd,skolem->aaq
open PySem.Around renaming under_plainId->VF
open PySem.Value renaming none->VJ,ref->Wj,str->Yc,builtin->Yp,type->Ze,int->aas
open PySem.Heap.SameBut renaming update->VM
open PySem.Obj renaming mapSeq->VP,data_mapFields->WG,isFreed_of_fields->Yf,cls_mapFields->Zb,mapFields->Zr,data_mapDictKeys->ZY,putSet->aak
open PyProof.Rows renaming slot_tuple_getitem->VQ,callWith_type1->Xc,lt_str->Z8
open Function renaming comp_def->VR
open Ne renaming symm->VU
open PySem.Str renaming ofString->VX
open PySem.NameKind renaming free->V3,cell->Zl
open Option.some renaming inj->V7
open List.cons renaming inj->Wo
open PySem.SeqAt renaming EqAt->WB
open Int renaming emod_lt_of_pos->WH,toNat_natCast->WR,emod_nonneg->WS,lt_irrefl->Zo,toNat->aat
open PySem.Builtin.Slice renaming slicePlaces->WJ,sliceAdjust->XA,sliceApplied->YB
open PySem.PassesOwn renaming never->WL
open PySem.Builtin.Tuple renaming tupleExact->WM,tupleItemsOf->Xs,tupleHashOf->Xz
open PySem.Builtin.List renaming listTooLong->WN,listExtendWith->Xl,listLengthHint->Yx,listSameRef->Zf
open PySem.F renaming slot_tuple_getattribute->WQ,slot_list_getattribute->WU,slot_zip_getattribute->WX,slot_str_split->W7,slot_tuple_hash->W8,slot_zip_next->Xh,called_set->Xk,args_str_split_2->XO,entry_str_split->XS,plainAttrs_dict->XW,plainAttrs_list->XX,slot_tuple_iterator_next->XZ,plainAttrs_str->X2,slot_list_append->Yk,slot_list_extend->Yl,slot_dict_setdefault->Yq,kt_typeCall_dict_1->YC,plain_extend_loop->YY,slot_tuple_count->Y5,slot_tuple_index->Y6,args_dict_init_2->Y9,plainAttrs_tuple->Zh,slot_list_count->Zm,entry_dict_init->Zn,args_zip_next_1->Zp,plain_list_iadd->Zs,slot_dict_items->Zt,kt_called_dict->ZI,entry_zip_next->ZJ,slot_dict_get->ZU
open PySem.SetTable.probe renaming go->WT
open PySem.Builtin.Dict renaming updateFrom->WV,selfAndRest->Za,pairItems->ZH
open ForInStep renaming yield->Xd
open PySem.Calls renaming spliced_nil->Xm,call_function_entry->XC,spliced_cons->XR,Name_function_global->YA,callWith_builtin->ZG
open PySem.Txt renaming split->Xy,stripChars->YQ,slice->aar
open PySem.SetTable.layClean renaming free->X1
open PySem.SetTable.below renaming go->X5
open PySem.Shared renaming TypeIs->Yr
open PySem.Builtin.Str renaming strSliceIndices->Yv
open PySem.Manifest.ParamKind renaming posOnly->YD
open False renaming elim->Y1
open PySem.AutoSeq1 renaming sub_tuple_tuple->Y2,wpAny_loadPart'->Y3
open List.Pairwise renaming imp_of_mem->Zd,nil->Zg
open PySem.Manifest.Receiver renaming self->ZN,none->ZO
open PySem.SetTable.sizeAbove renaming go->ZW
open PySem.W.KT renaming app_list->aab
open PySem.IsL renaming update->aan
open Std.Legacy renaming Range->aap
theorem Lm9 {α:Type _} {β:Type _} {as:List α} (f:α->β):(as.map f).length=as.length:=List.length_map f
theorem Ge9 {α:Type _} {l:List α} {i:Nat} (h:i<l.length):l[i]?=some l[i]:=List.getElem?_eq_getElem h
theorem Gd9 {α:Type _} {l:List α} {i:Nat} {a:α}:l.getD i a=(l[i]?).getD a:=List.getD_eq_getElem?_getD
namespace Om
theorem q1 {a m k:Nat} (h:a<=m:=by with_reducible assumption) (g:m<k:=by decide):a<k:=YG h g
theorem q2 {a b k:Nat} (h:a<b:=by with_reducible assumption) (e:b=k:=by with_reducible assumption):a<k:=e▸h
theorem q3 {a b k:Nat} (h:a<b:=by with_reducible assumption) (e:k=b:=by with_reducible assumption):a<k:=e▸h
theorem q4 {a b m k:Nat} (e:a=b:=by with_reducible assumption) (h:b<=m:=by with_reducible assumption) (g:m<=k:=by decide):a<=k:=UO (e▸h) g
theorem q5 {a b m k:Nat} (e:b=a:=by with_reducible assumption) (h:b<=m:=by with_reducible assumption) (g:m<=k:=by decide):a<=k:=UO (e▸h) g
theorem q6 {a m k:Nat} (e:a=m:=by with_reducible assumption) (g:m<=k:=by decide):a<=k:=e▸g
end Om
local macro_rules|`(tactic| omega)=>`(tactic| first|exact Om.q0|exact Om.q1|exact Om.q2|exact Om.q3|exact Om.q4|exact Om.q5|exact Om.q6|lia -abstractProof)
local macro_rules|`(tactic| grind)=>`(tactic| grind -abstractProof)
set_option bootstrap.genMatcherCode false
set_option compiler.extract_closed false
namespace M
open PySem
abbrev Cs:=List Nat
theorem sL {g:Prop} (h:∀G:Prop,(g->G)->G):g:=h g id
inductive T where
 | cm|bl (b:Bool)|int (i:Int)|str (s:Cs)|tup (xs:List T)|lst (xs:List T)|aS (ks:List (T × T))|obj (c:Str) (fs:List (Str × T))|ref (n:Nat)|cl (c:Uq)
abbrev aa:=List T
abbrev Fr:=List (Option T)
noncomputable def at_ {α:Type}:List α->Nat->Option α
 | [],_=>none
 | c::L,n=>if n=L.length then some c else at_ L n
noncomputable def put {α:Type}:List α->Nat->α->List α
 | [],_,_=>[]
 | c::L,n,d=>if n=L.length then d::L else c::put L n d
inductive R (α:Type) where
 | ok (a:α) (L:aa)|bad
noncomputable def R.bind {α β:Type}:R α->(α->aa->R β)->R β
 | .ok a L,f=>f a L
 | .bad,_=>.bad
theorem R.of {α β:Type} {r:R α} {f:α->aa->R β} {b L} (h:r.bind f=.ok b L):∃a L1,r=.ok a L1/\f a L1=.ok b L:=by
 cases r with
 | ok a L1=>exact⟨a,L1,rfl,h⟩
 | bad=>cases h
inductive O where
 | nx (φ:Fr) (L:aa)|rt (t:T) (L:aa)|bk (φ:Fr) (L:aa)|ct (φ:Fr) (L:aa)|bad
noncomputable def O.of {α:Type} (r:R α) (f:α->aa->O):O:=match r with
 | .ok a L=>f a L
 | .bad=>.bad
abbrev SE:=Fr->aa->R T
abbrev ST:=Fr->aa->R Bool
abbrev SA:=Fr->aa->R (List T)
abbrev SS:=Fr->aa->O
abbrev Fn:=List T->aa->R T
abbrev SI:=Fr->aa->R (List T × (aa->Prop))
noncomputable def vw (L:aa):T->T
 | .ref n=>(at_ L n).getD .cm
 | t=>t
noncomputable def lim:Nat:=16777216
noncomputable def cx {α:Type} (c:Prop) [Decidable c] (r:R α):R α:=if c then r else .bad
noncomputable def mk (fz:Bool) (t:T) (L:aa):R T:=if fz=true then .ok t L else .ok (.ref L.length) (t::L)
noncomputable def fF (fz:Bool) (xs:List T) (L:aa):R T:=cx (xs.length<=lim) (mk fz (.lst xs) L)
noncomputable def lift (o:Option T) (L:aa):R T:=match o with
 | some t=>.ok t L
 | none=>.bad
noncomputable def dat:Nat->T->Bool
 | _+1,.cm=>true
 | _+1,.bl _=>true
 | _+1,.int _=>true
 | _+1,.str _=>true
 | n+1,.tup xs=>xs.all (dat n)
 | n+1,.lst xs=>xs.all (dat n)
 | _,_=>false
noncomputable def nL (f:T->T->Bool):List T->List T->Bool
 | [],[]=>true
 | a::r,b::q=>f a b && nL f r q
 | _,_=>false
noncomputable def uK:Nat->T->T->Bool
 | _+1,.cm,.cm=>true
 | _+1,.bl a,.bl b=>a == b
 | _+1,.bl a,.int b=>(if a then 1 else 0) == b
 | _+1,.int a,.bl b=>a == (if b then 1 else 0)
 | _+1,.int a,.int b=>a == b
 | _+1,.str a,.str b=>a == b
 | n+1,.tup a,.tup b=>nL (uK n) a b
 | n+1,.lst a,.lst b=>nL (uK n) a b
 | _,_,_=>false
noncomputable abbrev eqT:T->T->Bool:=uK 8
noncomputable def j9:T->Bool
 | .int _=>true
 | .str _=>true
 | _=>false
noncomputable def kd:Nat->T->Bool
 | n+1,.tup xs=>xs.all (kd n)
 | _+1,t=>j9 t
 | 0,_=>false
noncomputable def En:T->Bool
 | .tup xs=>xs.all (kd 6)
 | _=>false
noncomputable def gI (ks:List T):Bool:=ks.all j9 || ks.all En
noncomputable def dZ (ks:List (T × T)) (y:T):Prop:=gI (y::ks.map (·.1))=true
noncomputable instance (ks:List (T × T)) (y:T):Decidable (dZ ks y):=by unfold dZ;exact inferInstance
open Classical in
noncomputable def dK (ks:List (T × T)) (k:T):Option T:=(ks.find? fun p=>decide (p.1=k)).map (·.2)
open Classical in
noncomputable def dput (ks:List (T × T)) (k v:T):List (T × T) :=
 if (ks.any fun p=>decide (p.1=k))=true then ks.map (fun p=>if p.1=k then (p.1,v) else p) else ks++[(k,v)]
noncomputable def uL (i j:Int):Prop:=(-(2 ^ 64)<i/\i<2 ^ 64)\/(-(2 ^ 64)<j/\j<2 ^ 64)
noncomputable instance (i j:Int):Decidable (uL i j):=Vz _
noncomputable def xu (j:Int):Prop:=0<j/\j<1073741824
noncomputable instance (j:Int):Decidable (xu j):=Vz _
noncomputable def Iw (i j:Int):Prop:=0<=j/\j<=1000000/\i.natAbs<2 ^ 64
noncomputable instance (i j:Int):Decidable (Iw i j):=Vz _
noncomputable def sS (j:Int):Prop:=-(2 ^ 62)<=j/\j<=1000000
noncomputable instance (j:Int):Decidable (sS j):=Vz _
noncomputable def oI (op:Operator) (i j:Int) (L:aa):R T:=match op with
 | .Add=>.ok (.int (i+j)) L
 | .Sub=>.ok (.int (i - j)) L
 | .Mult=>cx (uL i j) (.ok (.int (i * j)) L)
 | .FloorDiv=>cx (xu j) (.ok (.int (i / j)) L)
 | .Mod=>cx (0<j) (.ok (.int (i % j)) L)
 | .Pow=>cx (Iw i j) (.ok (.int (i ^ j.toNat)) L)
 | _=>.bad
noncomputable def oS (op:Operator) (a:Cs) (y:T) (L:aa):R T:=match y with
 | .str b=>match op with
  | .Add=>cx (a.length+b.length<=lim) (.ok (.str (a++b)) L)
  | _=>.bad
 | .int j=>match op with
  | .Mult=>match a with
   | [ch]=>cx (sS j) (.ok (.str (U3 j.toNat ch)) L)
   | _=>.bad
  | _=>.bad
 | _=>.bad
noncomputable def bf (fz:Bool) (op:Operator) (x y:T) (L:aa):R T:=match vw L x with
 | .int i=>match vw L y with
  | .int j=>oI op i j L
  | _=>.bad
 | .str a=>oS op a (vw L y) L
 | .lst a=>match vw L y with
  | .lst b=>match op with
   | .Add=>fF fz (a++b) L
   | _=>.bad
  | _=>.bad
 | _=>.bad
noncomputable def ag (op:Operator) (x y:T) (L:aa):R T:=match op,x,y with
 | .Add,.int i,.int j=>.ok (.int (i+j)) L
 | .Sub,.int i,.int j=>.ok (.int (i - j)) L
 | _,_,_=>.bad
noncomputable def Eo (x y:T) (L:aa):R Bool:=cx (dat 8 (vw L x)=true/\dat 8 (vw L y)=true) (.ok (eqT (vw L x) (vw L y)) L)
noncomputable def LF (x y:T) (L:aa):R Bool:=match x,y with
 | .int i,.int j=>.ok (i != j) L
 | .str a,.str b=>.ok (a != b) L
 | _,_=>.bad
noncomputable def LG (x y:T) (L:aa):R Bool:=match x,y with
 | .int i,.int j=>.ok (decide (i<j)) L
 | .str a,.str b=>.ok (decide (a<b)) L
 | _,_=>.bad
noncomputable def LH (x y:T) (L:aa):R Bool:=match x,y with
 | .int i,.int j=>.ok (decide (j<i)) L
 | _,_=>.bad
noncomputable def Ep (x y:T) (L:aa):R Bool:=match x,y with
 | .int i,.int j=>.ok (decide (i<=j)) L
 | _,_=>.bad
noncomputable def nO (x y:T) (L:aa):R Bool:=match vw L y with
 | .str b=>match x with
  | .str [ch]=>.ok (decide (ch∈b)) L
  | _=>.bad
 | .lst ys=>cx (dat 8 x=true/\ys.all (dat 8)=true) (.ok (ys.any fun y=>eqT y x) L)
 | .tup ys=>cx (dat 8 x=true/\ys.all (dat 8)=true) (.ok (ys.any fun y=>eqT y x) L)
 | .aS ks=>cx (dZ ks x) (.ok (dK ks x).isSome L)
 | _=>.bad
noncomputable def Dt:T->Bool
 | .cm=>true
 | _=>false
noncomputable def R.map {α β:Type} (f:α->β):R α->R β
 | .ok a L=>.ok (f a) L
 | .bad=>.bad
noncomputable def Bi (op:CmpOp) (x y:T) (L:aa):R Bool:=match op with
 | .Eq=>Eo x y L
 | .NotEq=>LF x y L
 | .Lt=>LG x y L
 | .Gt=>LH x y L
 | .LtE=>Ep x y L
 | .GtE=>Ep y x L
 | .In=>nO x y L
 | .NotIn=>(nO x y L).map (!·)
 | .Is=>match y with
  | .cm=>.ok (Dt x) L
  | _=>.bad
 | .IsNot=>match y with
  | .cm=>.ok (!Dt x) L
  | _=>.bad
noncomputable def cmp (op:CmpOp) (x y:T) (L:aa):R T:=(Bi op x y L).map .bl
noncomputable def place (n:Nat) (i:Int):Option Nat:=if 0<=i then (if i<n then some i.toNat else none) else if -(n:Int)<=i then some (i+n).toNat else none
noncomputable def ix (x y:T) (L:aa):R T:=match vw L x with
 | .str s=>match y with
  | .int i=>lift (((place s.length i).bind fun k=>s[k]?).map fun ch=>.str [ch]) L
  | _=>.bad
 | .tup xs=>match y with
  | .int i=>lift ((place xs.length i).bind fun k=>xs[k]?) L
  | _=>.bad
 | .lst xs=>match y with
  | .int i=>lift ((place xs.length i).bind fun k=>xs[k]?) L
  | _=>.bad
 | .aS ks=>cx (dZ ks y) (lift (dK ks y) L)
 | _=>.bad
noncomputable def clip (n d:Nat):Option Int->Nat
 | none=>d
 | some i=>if i<0 then (i+n).toNat else min i.toNat n
noncomputable def cut {α:Type} (xs:List α) (lo hi:Option Int):List α:=(xs.drop (clip xs.length 0 lo)).take (clip xs.length xs.length hi - clip xs.length 0 lo)
noncomputable def jf (fz:Bool) (x:T) (lo hi:Option Int) (L:aa):R T:=match vw L x with
 | .str s=>match lo,hi with
  | some i,some j=>cx (0<=i/\i<=j/\j<=s.length) (.ok (.str ((s.drop i.toNat).take (j - i).toNat)) L)
  | _,_=>.bad
 | .tup xs=>.ok (.tup (cut xs lo hi)) L
 | .lst xs=>fF fz (cut xs lo hi) L
 | _=>.bad
noncomputable def fld (f:Str) (x:T) (L:aa):R T:=match vw L x with
 | .obj _ fs=>lift (fs.lookup f) L
 | _=>.bad
noncomputable def v (i:Nat):SE:=fun φ L=>lift ((φ[i]?).join) L
noncomputable def c (x:T):SE:=fun _ L=>.ok x L
noncomputable def no {α:Type}:Fr->aa->R α:=fun _ _=>.bad
noncomputable def iM:List SE->SA
 | [],_,L=>.ok [] L
 | m::ms,φ,L=>(m φ L).bind fun t L1=>(iM ms φ L1).bind fun ts L2=>.ok (t::ts) L2
noncomputable def b1 (a:SE) (f:T->aa->R T):SE:=fun φ L=>(a φ L).bind f
noncomputable def b2 (a b:SE) (f:T->T->aa->R T):SE:=fun φ L=>(a φ L).bind fun x L1=>(b φ L1).bind fun y L2=>f x y L2
noncomputable def neg (x:T) (L:aa):R T:=match x with
 | .int i=>.ok (.int (-i)) L
 | _=>.bad
noncomputable def wh (op oh:CmpOp) (a b d:SE):SE:=fun φ L=>(a φ L).bind fun x L1=>(b φ L1).bind fun y L2=>(Bi op x y L2).bind fun k L3=>if k=true then (d φ L3).bind fun z L4=>cmp oh y z L4 else .ok (.bl false) L3
noncomputable def tv (a:SE):ST:=fun φ L=>(a φ L).bind fun x L1=>match x with
 | .bl b=>.ok b L1
 | _=>.bad
noncomputable def Bj (a b:ST):ST:=fun φ L=>(a φ L).bind fun x L1=>if x=true then b φ L1 else .ok false L1
noncomputable def LI (a b:ST):ST:=fun φ L=>(a φ L).bind fun x L1=>if x=true then .ok true L1 else b φ L1
noncomputable def eL (a:ST):ST:=fun φ L=>(a φ L).map (!·)
noncomputable def Bl (a b:SE):SE:=fun φ L=>(tv a φ L).bind fun x L1=>if x=true then b φ L1 else .ok (.bl false) L1
noncomputable def LJ (a b:SE):SE:=fun φ L=>(tv a φ L).bind fun x L1=>if x=true then .ok (.bl true) L1 else b φ L1
noncomputable def mq (a:SE):SE:=fun φ L=>(tv a φ L).map fun b=>.bl (!b)
noncomputable def yes:ST:=fun _ L=>.ok true L
noncomputable def Mj (k:ST) (a b:SE):SE:=fun φ L=>(k φ L).bind fun x L1=>if x=true then a φ L1 else b φ L1
noncomputable def tup (ms:List SE):SE:=fun φ L=>(iM ms φ L).bind fun ts L1=>.ok (.tup ts) L1
noncomputable def lst (fz:Bool) (ms:List SE):SE:=fun φ L=>(iM ms φ L).bind fun ts L1=>fF fz ts L1
noncomputable def wi (fz:Bool):SE:=fun _ L=>mk fz (.aS []) L
noncomputable def Er:Option SE->Fr->aa->R (Option Int)
 | none,_,L=>.ok none L
 | some m,φ,L=>(m φ L).bind fun t L1=>match t with
  | .int i=>.ok (some i) L1
  | _=>.bad
noncomputable def sl (fz:Bool) (a:SE) (lo hi:Option SE):SE:=fun φ L=>(a φ L).bind fun x L1=>(Er lo φ L1).bind fun i L2=>(Er hi φ L2).bind fun j L3=>jf fz x i j L3
noncomputable def ae (f:Fn) (ms:List SE):SE:=fun φ L=>(iM ms φ L).bind f
noncomputable def oY (m:Str) (f:Str->Option Fn) (a:SE) (ms:List SE):SE:=fun φ L=>(a φ L).bind fun x L1=>match vw L1 x with
 | .obj c fs=>match f c with
  | some F=>if (fs.lookup m).isNone=true then (iM ms φ L1).bind fun ts L2=>F (x::ts) L2 else .bad
  | none=>.bad
 | _=>.bad
inductive Ty where
 | s|l|t|d
noncomputable def Du (L:aa) (t:T):Option Ty:=match vw L t with
 | .str _=>some .s
 | .lst _=>some .l
 | .tup _=>some .t
 | .aS _=>some .d
 | _=>none
noncomputable def aU (f:Ty->Option (T->Fn)) (a:SE) (ms:List SE):SE:=fun φ L=>(a φ L).bind fun x L1=>match (Du L1 x).bind f with
 | some F=>(iM ms φ L1).bind fun ts L2=>F x ts L2
 | none=>.bad
open Classical in
noncomputable def stays (x:T) (L:aa):aa->Prop:=fun L'=>∀n,x=.ref n->at_ L' n=at_ L n
noncomputable def items (x:T) (L:aa):Option (List T):=match vw L x with
 | .str s=>some (s.map fun ch=>.str [ch])
 | .tup xs=>some xs
 | .lst xs=>some xs
 | _=>none
noncomputable def src (a:SE):SI:=fun φ L=>(a φ L).bind fun x L1=>match items x L1 with
 | some xs=>.ok (xs,stays x L1) L1
 | none=>.bad
noncomputable def upTo (lo:Int) (n:Nat):List T:=(Vp n).map fun(k:Nat)=>.int (lo+k)
noncomputable def sT (i:Int):Prop:=-(2 ^ 62)<=i/\i<2 ^ 62
noncomputable instance (i:Int):Decidable (sT i):=Vz _
noncomputable def xw (a b:SE):SI:=fun φ L=>(a φ L).bind fun x L1=>(b φ L1).bind fun y L2=>match x,y with
 | .int i,.int j=>cx (sT i/\sT j) (.ok (upTo i (j - i).toNat,fun _=>True) L2)
 | _,_=>.bad
noncomputable def num (n:Nat):List T->List T
 | []=>[]
 | x::r=>.tup [.int n,x]::num (n+1) r
noncomputable def LK (a:SE):SI:=fun φ L=>(a φ L).bind fun x L1=>match vw L1 x with
 | .lst xs=>.ok (num 0 xs,stays x L1) L1
 | _=>.bad
noncomputable def zp (xs ys:List T):List T:=(xs.zip ys).map fun p=>.tup [p.1,p.2]
noncomputable def Ml (a b:SE):SI:=fun φ L=>(src a φ L).bind fun p L1=>(src b φ L1).bind fun q L2=>.ok (zp p.1 q.1,fun L'=>p.2 L'/\q.2 L') L2
noncomputable def br (ks:List (T × T)):List T:=ks.map fun p=>.tup [p.1,p.2]
noncomputable def Mm (a:SE):SI:=fun φ L=>(a φ L).bind fun x L1=>match vw L1 x with
 | .aS ks=>.ok (br ks,stays x L1) L1
 | _=>.bad
inductive Tg where
 | one (i:Nat)|many (is:List Nat)
noncomputable def sets:List Nat->List T->Fr->Fr
 | i::is,t::ts,φ=>sets is ts (φ.set i (some t))
 | _,_,φ=>φ
noncomputable def Tg.set:Tg->T->Fr->Option Fr
 | .one i,t,φ=>some (φ.set i (some t))
 | .many is,.tup ts,φ=>if ts.length=is.length then some (sets is ts φ) else none
 | _,_,_=>none
open Classical in
noncomputable def compLoop (k:aa->Prop) (tg:Tg) (ts:ST) (m:SE) (ψ:Fr):List T->List T->aa->R (List T)
 | [],acc,L=>if k L then .ok acc L else .bad
 | t::r,acc,L=>if k L/\acc.length<lim then match tg.set t ψ with
   | some ψ1=>(ts ψ1 L).bind fun b L1=>if b=true then (m ψ1 L1).bind fun y L2=>compLoop k tg ts m ψ r (acc++[y]) L2 else compLoop k tg ts m ψ r acc L1
   | none=>.bad
  else .bad
noncomputable def inner (aZ:List (Option Nat)) (φ:Fr):Fr:=aZ.map fun o=>o.bind fun i=>(φ[i]?).join
noncomputable def comp (fz:Bool) (s:SI) (aZ:List (Option Nat)) (tg:Tg) (ts:ST) (m:SE):SE:=fun φ L=>(s φ L).bind fun u L1=>(compLoop u.2 tg ts m (inner aZ φ) u.1 [] L1).bind fun xs L2=>mk fz (.lst xs) L2
noncomputable def O.next (o:O) (f:Fr->aa->O):O:=match o with
 | .nx φ L=>f φ L
 | o=>o
noncomputable def ab:List SS->SS
 | [],φ,L=>.nx φ L
 | s::r,φ,L=>(s φ L).next (ab r)
noncomputable def pass:SS:=fun φ L=>.nx φ L
noncomputable def brk:SS:=fun φ L=>.bk φ L
noncomputable def cnt:SS:=fun φ L=>.ct φ L
noncomputable def gf:SS:=fun _ _=>.bad
noncomputable def asg (tg:Tg) (m:SE):SS:=fun φ L=>O.of (m φ L) fun t L1=>match tg.set t φ with
 | some φ1=>.nx φ1 L1
 | none=>.bad
noncomputable def gg (m:SE):SS:=fun φ L=>O.of (m φ L) fun _ L1=>.nx φ L1
noncomputable def ret (m:SE):SS:=fun φ L=>O.of (m φ L) fun t L1=>.rt t L1
noncomputable def iff (k:ST) (a b:SS):SS:=fun φ L=>O.of (k φ L) fun x L1=>if x=true then a φ L1 else b φ L1
noncomputable def aug (op:Operator) (i:Nat) (m:SE):SS:=fun φ L=>O.of (b2 (v i) m (ag op) φ L) fun t L1=>.nx (φ.set i (some t)) L1
noncomputable def jv (fs:List (Str × T)) (f:Str) (t:T):List (Str × T):=match fs with
 | []=>[(f,t)]
 | (g,u)::r=>if g=f then (f,t)::r else (g,u)::jv r f t
noncomputable def sU (f:Str) (x t:T) (L:aa):Option aa:=match x with
 | .ref n=>match at_ L n with
  | some (.obj c fs)=>if fs.length<200 then some (put L n (.obj c (jv fs f t))) else none
  | _=>none
 | _=>none
noncomputable def jg (o:SE) (f:Str) (m:SE):SS:=fun φ L=>O.of (m φ L) fun t L1=>O.of (o φ L1) fun x L2=>match sU f x t L2 with
 | some L3=>.nx φ L3
 | none=>.bad
noncomputable def jw (x y t:T) (L:aa):Option aa:=match x with
 | .ref n=>match at_ L n with
  | some (.aS ks)=>if ks.length<lim/\dZ ks y then some (put L n (.aS (dput ks y t))) else none
  | some (.lst xs)=>match y with
   | .int i=>if 0<=i/\i<xs.length then some (put L n (.lst (xs.set i.toNat t))) else none
   | _=>none
  | _=>none
 | _=>none
noncomputable def qL (o i m:SE):SS:=fun φ L=>O.of (m φ L) fun t L1=>O.of (o φ L1) fun x L2=>O.of (i φ L2) fun y L3=>match jw x y t L3 with
 | some L4=>.nx φ L4
 | none=>.bad
noncomputable def Iy (x y:T) (L:aa):R T:=match vw L x with
 | .aS ks=>cx (dZ ks y) (lift (dK ks y) L)
 | _=>.bad
noncomputable def xx (op:Operator) (o i m:SE):SS:=fun φ L=>O.of (o φ L) fun x L1=>O.of (i φ L1) fun y L2=>O.of (Iy x y L2) fun z L3=>O.of (m φ L3) fun t L4=>O.of (ag op z t L4) fun r L5=>match jw x y r L5 with
 | some L6=>.nx φ L6
 | none=>.bad
noncomputable def qD (k:ST) (b:SS):Nat->SS
 | 0,_,_=>.bad
 | n+1,φ,L=>O.of (k φ L) fun x L1=>if x=true then match b φ L1 with
   | .nx φ2 L2=>qD k b n φ2 L2
   | .ct φ2 L2=>qD k b n φ2 L2
   | .bk φ2 L2=>.nx φ2 L2
   | o=>o
  else .nx φ L1
open Classical in
noncomputable def forL (k:aa->Prop) (tg:Tg) (b:SS):List T->SS
 | [],φ,L=>if k L then .nx φ L else .bad
 | t::r,φ,L=>if k L then match tg.set t φ with
   | some φ1=>match b φ1 L with
    | .nx φ2 L2=>forL k tg b r φ2 L2
    | .ct φ2 L2=>forL k tg b r φ2 L2
    | .bk φ2 L2=>.nx φ2 L2
    | o=>o
   | none=>.bad
  else .bad
noncomputable def cf (s:SI) (tg:Tg) (b:SS):SS:=fun φ L=>O.of (s φ L) fun u L1=>forL u.2 tg b u.1 φ L1
mutual
noncomputable def lt (n:Nat):T->Bool
 | .ref k=>decide (k<n)
 | .tup xs=>cK n xs
 | .lst xs=>cK n xs
 | .aS ks=>A9 n ks
 | .obj _ fs=>nP n fs
 | _=>true
noncomputable def cK (n:Nat):List T->Bool
 | []=>true
 | x::xs=>lt n x && cK n xs
noncomputable def A9 (n:Nat):List (T × T)->Bool
 | []=>true
 | (x,y)::xs=>lt n x && lt n y && A9 n xs
noncomputable def nP (n:Nat):List (Str × T)->Bool
 | []=>true
 | (_,y)::xs=>lt n y && nP n xs
end
noncomputable def cz (n0:Nat) (L:aa):Nat->T->Option T
 | 0,_=>none
 | k+1,t=>if lt n0 t=true then some t else match t with
  | .ref n=>match at_ L n with
   | some c=>cz n0 L k c
   | none=>none
  | .tup xs=>(xs.mapM (cz n0 L k)).map .tup
  | .lst xs=>(xs.mapM (cz n0 L k)).map .lst
  | .aS ks=>(ks.mapM fun p=>if lt n0 p.1=true then (cz n0 L k p.2).map fun x=>(p.1,x) else none).map .aS
  | .obj c fs=>(fs.mapM fun p=>(cz n0 L k p.2).map fun x=>(p.1,x)).map (.obj c)
  | _=>none
noncomputable def old (L Lo:aa):Prop:=∀n c,at_ Lo n=some c->at_ L n=some c\/lt L.length c=true
open Classical in
noncomputable def fin (L:aa) (t:T) (L':aa):R T:=if old L (L'.drop (L'.length - L.length)) then lift (cz L.length L' 9 t) (L'.drop (L'.length - L.length)) else .bad
noncomputable def run (np nn:Nat) (b:SS):Fn:=fun xs L=>if xs.length=np then match b (xs.map some++U3 (nn - np) none) L with
  | .rt t L'=>fin L t L'
  | .nx _ L'=>fin L .cm L'
  | _=>.bad
 else .bad
noncomputable def make (cn:Str) (init:Fn):Fn:=fun xs L=>match init (.ref L.length::xs) (.obj cn []::L) with
 | .ok .cm L'=>fin L (.ref L.length) L'
 | _=>.bad
end M
namespace M
open PySem PySem.Spec PyProof.Rows
noncomputable def bM:Fn:=fun xs L=>match xs with
 | [x]=>match vw L x with
  | .str s=>.ok (.int s.length) L
  | .tup ys=>.ok (.int ys.length) L
  | .lst ys=>.ok (.int ys.length) L
  | _=>.bad
 | _=>.bad
noncomputable def fo (fz:Bool):Fn:=fun xs L=>match xs with
 | [x]=>match vw L x with
  | .tup ys=>fF fz ys L
  | .lst ys=>fF fz ys L
  | .aS ks=>cx ((ks.map (·.1)).all j9=true) (fF fz (ks.map (·.1)) L)
  | _=>.bad
 | _=>.bad
noncomputable def iY:Fn:=fun xs L=>match xs with
 | [x]=>match vw L x with
  | .tup ys=>.ok (.tup ys) L
  | .lst ys=>.ok (.tup ys) L
  | _=>.bad
 | _=>.bad
noncomputable def HT:T->Option Bool
 | .bl b=>some b
 | _=>none
noncomputable def QF:T->Option Int
 | .int i=>some i
 | _=>none
noncomputable def HU:T->Option Cs
 | .str s=>some s
 | _=>none
noncomputable def Es {α:Type} (f:T->Option α) (g:List α->T):Fn:=fun xs L=>match xs with
 | [x]=>match vw L x with
  | .lst ys=>lift ((ys.mapM f).map g) L
  | _=>.bad
 | _=>.bad
noncomputable def qM:Fn:=Es HT fun bs=>.bl (bs.all id)
noncomputable def wj:Fn:=Es HT fun bs=>.bl (bs.any id)
noncomputable def xy:Fn:=fun xs L=>match xs with
 | [.int i,.int j]=>.ok (.int (if j<i then j else i)) L
 | [.str a,.str b]=>.ok (.str (if b<a then b else a)) L
 | _=>.bad
noncomputable def sW:Fn:=fun xs L=>match xs with
 | [.int i]=>cx (i.natAbs.log2<1920/\(VX (toString i)).cps.toList.length<=lim) (.ok (.str (VX (toString i)).cps.toList) L)
 | _=>.bad
noncomputable def wm:Fn:=fun xs L=>match xs with
 | [.str z]=>match PySem.intText? ⟨z.toArray⟩ with
  | some n=>cx (z.length<=640) (.ok (.int n) L)
  | none=>.bad
 | _=>.bad
noncomputable def LL (L:aa) (n:String):T->R T
 | .bl _=>if n="bool" then .ok (.bl true) L else if n="int" then .ok (.bl true) L else .bad
 | .int _=>if n="bool" then .ok (.bl false) L else if n="int" then .ok (.bl true) L else .bad
 | _=>.bad
noncomputable def Mn:T->Option String
 | .cl c=>match c with
  | .type n=>some n
  | _=>none
 | _=>none
noncomputable def QG:Fn:=fun xs L=>match xs with
 | [x,y]=>match Mn y with
  | some n=>LL L n x
  | none=>.bad
 | _=>.bad
noncomputable def toS (z:Cs):Str:=⟨z.toArray⟩
noncomputable def Bm:T->Fn:=fun x ts L=>match x,ts with
 | .ref n,[t]=>match at_ L n with
  | some (.lst xs)=>cx (xs.length<lim) (.ok .cm (put L n (.lst (xs++[t]))))
  | _=>.bad
 | _,_=>.bad
noncomputable def xA:T->Fn:=fun x ts L=>match x,ts with
 | .ref n,[t]=>match at_ L n,vw L t with
  | some (.lst xs),.lst ys=>cx (xs.length+ys.length<=lim) (.ok .cm (put L n (.lst (xs++ys))))
  | some (.lst xs),.tup ys=>cx (xs.length+ys.length<=lim) (.ok .cm (put L n (.lst (xs++ys))))
  | _,_=>.bad
 | _,_=>.bad
noncomputable def uM:T->Fn:=fun x ts L=>match vw L x,ts with
 | .lst xs,[t]=>cx (dat 8 t=true/\xs.all (dat 8)=true) (.ok (.int (xs.countP fun y=>eqT y t:Nat)) L)
 | _,_=>.bad
noncomputable def uN:T->Fn:=fun x ts L=>match vw L x,ts with
 | .tup xs,[t]=>cx (dat 8 t=true/\xs.all (dat 8)=true) (.ok (.int (xs.countP fun y=>eqT y t:Nat)) L)
 | _,_=>.bad
noncomputable def Bn:T->Fn:=fun x ts L=>match x,ts with
 | .tup xs,[t]=>cx (dat 8 t=true/\xs.all (dat 8)=true) (match xs.findIdx? fun y=>eqT y t with
  | some j=>.ok (.int j) L
  | none=>.bad)
 | _,_=>.bad
noncomputable def jn (sep:Cs):List Cs->Cs
 | []=>[]
 | x::r=>match r with
  | []=>x
  | _::_=>x++sep++jn sep r
noncomputable def kZ:T->Fn:=fun x ts L=>match x,ts with
 | .str sep,[t]=>match (items t L).bind fun ys=>ys.mapM HU with
  | some zs=>match vw L t with
   | .str _=>.bad
   | _=>cx ((zs.map (·.length)).sum+zs.length * sep.length<=16777216) (.ok (.str (jn sep zs)) L)
  | none=>.bad
 | _,_=>.bad
noncomputable def mr (fz:Bool):T->Fn:=fun x ts L=>match x,ts with
 | .str z,[.str y]=>cx (y≠[]/\((Xy (toS z) (toS y)).all fun s=>decide (s.cps.toList.length<=lim))=true) (fF fz ((Xy (toS z) (toS y)).map fun s=>.str s.cps.toList) L)
 | _,_=>.bad
noncomputable def mw:T->Fn:=fun x ts L=>match x,ts with
 | .str z,[.str y]=>cx ((YQ (toS z) (toS y)).cps.toList.length<=lim) (.ok (.str (YQ (toS z) (toS y)).cps.toList) L)
 | _,_=>.bad
noncomputable def iZ:T->Fn:=fun x ts L=>match vw L x,ts with
 | .aS ks,[y,t]=>cx (dZ ks y) (.ok ((dK ks y).getD t) L)
 | _,_=>.bad
noncomputable def xB:T->Fn:=fun x ts L=>match x,ts with
 | .ref n,[y,t]=>match at_ L n with
  | some (.aS ks)=>cx (ks.length<lim/\dZ ks y) (match dK ks y with
   | some z=>.ok z L
   | none=>.ok t (put L n (.aS (dput ks y t))))
  | _=>.bad
 | _,_=>.bad
noncomputable def prsOf:List T->Option (List (T × T))
 | []=>some []
 | t::r=>match t,prsOf r with
  | .tup [k,x],some ps=>some ((k,x)::ps)
  | _,_=>none
noncomputable def qE (ps:List (T × T)):List (T × T):=ps.foldl (fun acc p=>dput acc p.1 p.2) []
noncomputable def xC (ys:List T) (L:aa):R T:=match prsOf ys with
 | some ps=>cx (gI (ps.map (·.1))=true/\ps.length<=100000) (.ok (.ref L.length) (.aS (qE ps)::L))
 | none=>.bad
noncomputable def jx:Fn:=fun xs L=>match xs with
 | [x]=>match vw L x with
  | .lst ys=>xC ys L
  | .tup ys=>xC ys L
  | _=>.bad
 | _=>.bad
abbrev Hp:=U2->Option (Bool × Obj)
noncomputable def upd (H:Hp) (a:U2) (x:Bool × Obj):Hp:=fun b=>if b=a then some x else H b
theorem aw {H:Hp} {a x}:upd H a x a=some x:=if_pos rfl
theorem aE {H:Hp} {a b x} (h:b≠a):upd H a x b=H b:=if_neg h
structure G where
 H:Hp
 α:List (U2 × U2)
 B:Heap
 cls:Str->Option U2
 w:Wy
noncomputable def G.kn (g:G) (b:Bool) (a:U2) (o:Obj):Prop:=g.H a=some (b,o)\/(b=true/\g.B.get? a=some o)
noncomputable def sX (p:Option (U2 × U2)) (a d:U2):Prop:=p=none\/p=some (a,d)
mutual
noncomputable def hT (w:Wy):T->Int
 | .int i=>hashInt i
 | .str s=>hashStr w ⟨s.toArray⟩
 | .tup xs=>reduceHash (Xz (Ba w xs))
 | _=>0
noncomputable def Ba (w:Wy):List T->List Int
 | []=>[]
 | x::xs=>hT w x::Ba w xs
end
inductive RT (g:G):Option (U2 × U2)->T->Uq->Prop
 | cm:RT g none .cm .none
 | bl (b):RT g none (.bl b) (.bool b)
 | int (i t):RT g none (.int i) (.int i t)
 | str (s t) (h:s.length<=UU):RT g none (.str s) (.str ⟨s.toArray⟩ t)
 | ty (n):RT g none (.cl (.type n)) (.type n)
 | own {n C} (h:g.cls n=some C):RT g none (.cl (.ref C)) (.ref C)
 | ref {n p} (h:at_ g.α n=some p):RT g none (.ref n) (.ref p.1)
 | tup {a o its n xs} (hk:g.kn true a o) (hc:o.cls=.type "tuple"/\o.dict=none) (hd:o.data=.seq its n) (hz:xs.length<=UU) (hl:xs.length=its.size)
   (hi:∀(i:Nat) x v,xs[i]?=some x->its[i]?=some v->RT g none x v):RT g none (.tup xs) (.ref a)
 | lst {p a its n xs} (ht:sX p a a) (hk:g.kn p.isNone a { cls:=.type "list",data:=.seq its n }) (hz:xs.length<=UU) (hl:xs.length=its.size)
   (hi:∀(i:Nat) x v,xs[i]?=some x->its[i]?=some v->RT g none x v):RT g p (.lst xs) (.ref a)
 | aS {p a o es n ks} (ht:sX p a a) (hk:g.kn p.isNone a o) (hx:o.ExactDict) (hd:o.data=.dict es n) (hz:ks.length<=UU) (hl:ks.length=es.size) (hn:(ks.map (·.1)).Nodup/\gI (ks.map (·.1))=true) (hs:(a == sysModules)=false)
   (hh:∀(i:Nat) x e,ks[i]?=some x->es[i]?=some e->e.hash=hT g.w x.1) (h1:∀(i:Nat) x e,ks[i]?=some x->es[i]?=some e->RT g none x.1 e.key)
   (h2:∀(i:Nat) x e,ks[i]?=some x->es[i]?=some e->RT g none x.2 e.val):RT g p (.aS ks) (.ref a)
 | obj {p a d C od es n c fs} (ht:sX p a d) (hne:d≠a) (hc:g.cls c=some C) (hk:g.kn p.isNone a (Vr C d)) (qF:g.kn p.isNone d od) (hd:od.data=.dict es n) (hs:StrKeys es) (hu:UniqKeys es)
   (hz:fs.length<=1000) (hn:(fs.map (·.1)).Nodup) (hl:∀f,(fs.lookup f).isSome=(nsFind es f).isSome) (hi:∀f x v,fs.lookup f=some x->nsFind es f=some v->RT g none x v):RT g p (.obj c fs) (.ref a)
structure Le (g g':G):Prop where
 f:∀a o,g.H a=some (true,o)->g'.H a=some (true,o)
 α:∀n p,at_ g.α n=some p->at_ g'.α n=some p
 B:g'.B=g.B
 m:g'.cls=g.cls
 w:g'.w=g.w
theorem Le.refl (g:G):Le g g:=⟨fun _ _ h=>h,fun _ _ h=>h,rfl,rfl,rfl⟩
theorem Le.trans {a b c:G} (x:Le a b) (y:Le b c):Le a c:=⟨fun _ _ h=>y.f _ _ (x.f _ _ h),fun _ _ h=>y.α _ _ (x.α _ _ h),y.B.trans x.B,y.m.trans x.m,y.w.trans x.w⟩
theorem Le.kn {g g':G} (l:Le g g') {a o} (h:g.kn true a o):g'.kn true a o:=by
 rcases h with h|⟨_,h⟩
 ·exact .inl (l.f _ _ h)
 ·exact .inr ⟨rfl,by rw [l.B];exact h⟩
theorem RT.up {g g':G} (l:Le g g') {p:Option (U2 × U2)} (hp:∀q,p=some q->g'.H q.1=g.H q.1/\g'.H q.2=g.H q.2) {t v} (h:RT g p t v):RT g' p t v:=by
 have kn:∀{p:Option (U2 × U2)} {a d b o},(∀q,p=some q->g'.H q.1=g.H q.1/\g'.H q.2=g.H q.2)->sX p a d->b=a\/b=d->g.kn p.isNone b o->g'.kn p.isNone b o:=fun {p a d b o} hp ht hb hk=>by
  rcases ht with rfl|rfl
  ·exact l.kn hk
  ·rcases hk with hk|⟨z,_⟩
   ·refine .inl ?_
    rcases hb with rfl|rfl
    ·rw [(hp _ rfl).1];exact hk
    ·rw [(hp _ rfl).2];exact hk
   ·cases z
 have n0:∀q:U2 × U2,(none:Option (U2 × U2))=some q->g'.H q.1=g.H q.1/\g'.H q.2=g.H q.2:=fun q z=>by cases z
 induction h with
 | cm=>exact .cm
 | bl b=>exact .bl b
 | int i t=>exact .int i t
 | str s t h=>exact .str s t h
 | ty n=>exact .ty n
 | own h=>exact .own (by rw [l.m];exact h)
 | ref h=>exact .ref (l.α _ _ h)
 | tup hk hc hd hz hl hi ih=>exact .tup (l.kn hk) hc hd hz hl fun i x v e1 e2=>ih i x v e1 e2 n0
 | lst ht hk hz hl hi ih=>exact .lst ht (kn hp ht (.inl rfl) hk) hz hl fun i x v e1 e2=>ih i x v e1 e2 n0
 | aS ht hk hx hd hz hl hn hs hh h1 h2 i1 i2=>exact .aS ht (kn hp ht (.inl rfl) hk) hx hd hz hl hn hs (by rw [l.w];exact hh) (fun i x v e1 e2=>i1 i x v e1 e2 n0) fun i x v e1 e2=>i2 i x v e1 e2 n0
 | obj ht hne hc hk qF hd hs hu hz hn hl hi ih=>exact .obj ht hne (by rw [l.m];exact hc) (kn hp ht (.inl rfl) hk) (kn hp ht (.inr rfl) qF) hd hs hu hz hn hl fun f x v e1 e2=>ih f x v e1 e2 n0
theorem RT.le {g g':G} {t v} (h:RT g none t v) (l:Le g g'):RT g' none t v:=h.up l (fun _ z=>by cases z)
theorem RT.iI {g:G} {p:Option (U2 × U2)} {i:Int} {v:Uq} (h:RT g p (.int i) v):∃t,v=.int i t:=by cases h;exact⟨_,rfl⟩
noncomputable def Mo (g:G) (xs:List T) (its:Array Uq):Prop:=xs.length=its.size/\∀(i:Nat) x v,xs[i]?=some x->its[i]?=some v->RT g none x v
theorem RT.cI {g:G} {p:Option (U2 × U2)} {n:String} {v:Uq} (h:RT g p (.cl (.type n)) v):v=.type n:=by cases h;rfl
theorem RT.nI {g:G} {p:Option (U2 × U2)} {v:Uq} (h:RT g p .cm v):v=.none:=by cases h;rfl
theorem RT.bI {g:G} {p:Option (U2 × U2)} {b:Bool} {v:Uq} (h:RT g p (.bl b) v):v=.bool b:=by cases h;rfl
theorem RT.jh {g:G} {p:Option (U2 × U2)} {z:Cs} {v:Uq} (h:RT g p (.str z) v):∃t,v=.str ⟨z.toArray⟩ t/\z.length<=UU:=by cases h with|str _ t h=>exact⟨t,rfl,h⟩
theorem RT.sI {g:G} {p:Option (U2 × U2)} {z:Cs} {v:Uq} (h:RT g p (.str z) v):∃t,v=.str ⟨z.toArray⟩ t:=h.jh.imp fun _ h=>h.1
theorem RT.tI {g:G} {p:Option (U2 × U2)} {xs:List T} {v:Uq} (h:RT g p (.tup xs) v):RT g none (.tup xs) v/\∃a o its n,v=.ref a/\g.kn true a o/\(o.cls=.type "tuple"/\o.dict=none)/\o.data=.seq its n/\xs.length<=UU/\Mo g xs its:=by cases h with|tup hk hc hd hz hl hi=>exact⟨.tup hk hc hd hz hl hi,_,_,_,_,rfl,hk,hc,hd,hz,hl,hi⟩
abbrev cP (g:G) (xs:List T) (us:List Uq):Prop:=Paired (RT g none) xs us
theorem cP.le {g g':G} {xs us} (h:cP g xs us) (l:Le g g'):cP g' xs us:=by
 induction h with
 | nil=>exact .nil
 | cons a _ ih=>exact .cons (a.le l) ih
theorem dM {α β:Type} {F:α->β->Prop}:∀{xs:List α} {ys:List β},xs.length=ys.length->(∀(i:Nat) x v,xs[i]?=some x->ys[i]?=some v->F x v)->Paired F xs ys
 | [],[],_,_=>.nil
 | x::xs,y::ys,hl,h=>.cons (h 0 x y rfl rfl) (dM (by simpa using hl) fun i a b e1 e2=>h (i+1) a b (by simpa using e1) (by simpa using e2))
theorem wo {α β:Type} {F:α->β->Prop} {xs:List α} {ys:List β} (h:Paired F xs ys):∀(i:Nat) x v,xs[i]?=some x->ys[i]?=some v->F x v:=by
 induction h with
 | nil=>intro i x v e;simp at e
 | cons a _ ih =>
  intro i x v e1 e2;cases i with
  | zero=>simp at e1 e2;subst e1 e2;exact a
  | succ i=>exact ih i x v (by simpa using e1) (by simpa using e2)
theorem sY {α β:Type} {F:α->β->Prop} {xs:List α} {ys:List β} (h:Paired F xs ys) {i:Nat} {x} (e:xs[i]?=some x):∃v,ys[i]?=some v/\F x v:=by
 have hl:=UL h;have hi:i<ys.length:=by rw [<- hl];exact(UI.mp e).1
 exact⟨ys[i],by simp,wo h i x _ e (by simp)⟩
structure Rel (g:G) (L:aa):Prop where
 len:g.α.length=L.length
 cells:∀n c,at_ L n=some c->∃p,at_ g.α n=some p/\RT g (some p) c (.ref p.1)
 apart:∀n m p q,at_ g.α n=some p->at_ g.α m=some q->n≠m->p.1≠q.1/\p.1≠q.2/\p.2≠q.1/\p.2≠q.2
 live:∀n p,at_ g.α n=some p->(∃o,g.H p.1=some (false,o))/\∃o,g.H p.2=some (false,o)
noncomputable def Bb (H:Hp) (h:Heap):Prop:=∀a b o,H a=some (b,o)->h.get? a=some o
structure Un (ex:List U2) (H H':Hp) (h h':Heap):Prop where
 keep:∀b o,h.get? b=some o->H b=none->b∉ex->h'.get? b=some o
 free:∀b o,h.get? b=some o->H b=none->b∉ex->H' b=none
 cz:∀b o,H b=some (true,o)->H' b=some (true,o)
theorem Un.trans {ex H H1 H2 h h1 h2} (a:Un ex H H1 h h1) (b:Un ex H1 H2 h1 h2):Un ex H H2 h h2 where
 keep:=fun c o q n x=>b.keep c o (a.keep c o q n x) (a.free c o q n x) x
 free:=fun c o q n x=>b.free c o (a.keep c o q n x) (a.free c o q n x) x
 cz:=fun c o q=>b.cz c o (a.cz c o q)
theorem Un.kept {ex H h h'} (k:∀b u,h.get? b=some u->h'.get? b=some u):Un ex H H h h':=⟨fun b o q _ _=>k b o q,fun _ _ _ n _=>n,fun _ _ q=>q⟩
theorem Bb.fresh {H h a} (x:Bb H h) (e:h.objs.size<=a):H a=none:=by
 cases q:H a with
 | none=>rfl
 | some u=>exact absurd (UY (UP (x a u.1 u.2 q)) e) (V0 _)
structure Mod (K:UX) (mg:Str->Option Uq) (base:Heap):Prop where
 HV:K.In base
 glob:base.Ns Vh mg
 blt:∃mb,base.Ns builtinsNs mb/\∀x:Str,x≠"__name__"->mb x=bootBuiltins x
 nolimit:base.NoLimit
structure Cx where
 prog:VB
 w:Wy
 K:UX
 mg:Str->Option Uq
 cls:Str->Option U2
 base:Heap
 A:Vj
 N:List Str
 s₀:Uu
 H₀:Hp
 env:Env
 ex:List U2
 fn:Str->Bool
noncomputable def LM (sc:Scope) (x:Str):Prop:=sc.names.lookup x=some .local\/sc.names.lookup x=some .cell\/sc.names.lookup x=some .free
noncomputable def Loc (sc:Scope) (x:Str):Prop:=sc.names.lookup x=some .local\/sc.names.lookup x=some .cell
noncomputable def Look (env:Env) (h:Heap) (m:Str->Option Uq) (x:Str) (u:Uq):Prop :=
 (env.kindOf x=some .local/\m x=some u)\/((env.kindOf x=some .cell\/env.kindOf x=some .free)/\∃c,env.cells.lookup x=some c/\h.IsCell c (some u))
structure Cx.Ok (X:Cx):Prop where
 mod:Mod X.K X.mg X.base
 kind:X.env.scope.kind=.function
 glob:X.env.globals=Vh
 blt:X.env.builtins=builtinsNs
 above:X.s₀.heap.objs.size<=X.env.locals
 inj:∀x y c,X.env.cells.lookup x=some c->X.env.cells.lookup y=some c->x=y
 has:∀x,(X.env.kindOf x=some .cell\/X.env.kindOf x=some .free)->∃c,X.env.cells.lookup x=some c
 QH:∀x c,X.fn x=true->X.env.cells.lookup x=some c->X.s₀.heap.objs.size<=c
 hd:X.A.handled=none
 TJ:∀b∈X.ex,b≠X.env.locals/\∀x c,X.env.cells.lookup x=some c->c≠b
 bs:∀b o,X.base.get? b=some o->X.s₀.heap.get? b=some o/\X.H₀ b=none
 HW:X.base.objs.size<=X.s₀.heap.objs.size
 Et:∀b o,X.base.get? b=some o->b∉X.ex
abbrev bg:=List (U2 × Obj)
structure Inv (X:Cx) (pins:bg) (φ:Fr) (g:G) (L:aa) (s:Uu):Prop where
 ok:X.Ok
 os:s.os=X.s₀.os
 bare:AllBare s.gens
 base:Un X.ex X.H₀ g.H X.s₀.heap s.heap
 loc:∃m,s.heap.Ns X.env.locals m/\∀(i:Nat) (x:Str) (t:T),X.N[i]?=some x->φ[i]?=some (some t)->LM X.env.scope x->∃u,RT g none t u/\Look X.env s.heap m x u
 cell:∀x c,X.env.cells.lookup x=some c->∃v,s.heap.IsCell c v
 free:g.H X.env.locals=none
 qN:∀x c,X.env.cells.lookup x=some c->g.H c=none
 pin:∀p∈pins,s.heap.get? p.1=some p.2/\g.H p.1=none/\p.1≠X.env.locals/\∀v,p.2.data≠.cell v
 hok:Bb g.H s.heap
 len:φ.length=X.N.length
 rel:Rel g L
 gB:g.B=X.base
 gm:g.cls=X.cls
 gw:g.w=X.w
section
variable {X:Cx} {pins:bg} {φ:Fr} {g g':G} {L L':aa} {s:Uu} {h':Heap}
theorem Inv.bs (I:Inv X pins φ g L s):∀b o,X.base.get? b=some o->s.heap.get? b=some o/\g.H b=none:=fun b o e =>
 ⟨I.base.keep b o (I.ok.bs b o e).1 (I.ok.bs b o e).2 (I.ok.Et b o e),I.base.free b o (I.ok.bs b o e).1 (I.ok.bs b o e).2 (I.ok.Et b o e)⟩
theorem Inv.bk (I:Inv X pins φ g L s):∀b o,X.base.get? b=some o->s.heap.get? b=some o:=fun b o e=>(I.bs b o e).1
theorem Inv.kn (I:Inv X pins φ g L s) {b a o} (h:g.kn b a o):s.heap.get? a=some o:=by
 rcases h with h|⟨_,h⟩
 ·exact I.hok _ _ _ h
 ·exact I.bk _ _ (by rw [<- I.gB];exact h)
theorem Inv.mod (I:Inv X pins φ g L s):Mod X.K X.mg X.base:=I.ok.mod
theorem Inv.Eu (I:Inv X pins φ g L s):X.K.In s.heap:=I.ok.mod.HV.keeps I.bk
theorem Inv.nolimit (I:Inv X pins φ g L s):s.heap.NoLimit:=I.ok.mod.nolimit.keeps I.bk
theorem Inv.lt (I:Inv X pins φ g L s):X.env.locals<s.heap.objs.size:=let ⟨_,hn,_⟩:=I.loc;hn.lt
theorem Inv.sz (I:Inv X pins φ g L s):X.s₀.heap.objs.size<=s.heap.objs.size:=UO I.ok.above (XK I.lt)
theorem Inv.fresh (I:Inv X pins φ g L s):g.H s.heap.objs.size=none:=I.hok.fresh (UH _)
theorem Inv.HX (I:Inv X pins φ g L s):∀x c,X.env.cells.lookup x=some c->c≠X.env.locals:=fun x c e z=>by
 obtain⟨v,o,ho,hd⟩:=I.cell x c e;obtain⟨m,⟨o',es,ep,ho',hd',_⟩,_⟩:=I.loc;rw [z,ho'] at ho;cases ho;rw [hd'] at hd;cases hd
theorem Inv.step {g1:Array GenState} {t':Nat} {d':Drawn} {ch:List U2} (I:Inv X pins φ g L s) (l:Le g g')
  (qG:∀b∈ch,(b∈X.ex\/X.s₀.heap.objs.size<=b)/\b≠X.env.locals/\(∀x c,X.env.cells.lookup x=some c->c≠b)/\∀p∈pins,p.1≠b)
  (keep:∀b o,b≠X.env.locals->b∉ch->s.heap.get? b=some o->g.H b=none->h'.get? b=some o) (free:∀b o,b∉ch->s.heap.get? b=some o->g.H b=none->g'.H b=none)
  (ns:∀m,s.heap.Ns X.env.locals m->h'.Ns X.env.locals m) (hok:Bb g'.H h') (hg:AllBare g1) (rel:Rel g' L'):Inv X pins φ g' L' { s with heap:=h',gens:=g1,drawn:=d',toks:=t' }:=by
 have QI:∀b o,X.s₀.heap.get? b=some o->b≠X.env.locals:=fun b o e=>U0 (UY (UP e) I.ok.above)
 have O5:∀b o,X.s₀.heap.get? b=some o->b∉X.ex->b∉ch:=fun b o e hx hb=>by
  rcases(qG b hb).1 with z|z
  ·exact hx z
  ·exact absurd (UY (UP e) z) (V0 _)
 have cellK:∀x c,X.env.cells.lookup x=some c->∀v,s.heap.IsCell c v->h'.IsCell c v:=fun x c e v ⟨o,ho,hd⟩ =>
  ⟨o,keep c o (I.HX x c e) (fun z=>(qG c z).2.2.1 x c e rfl) ho (I.qN x c e),hd⟩
 refine⟨I.ok,I.os,hg,⟨fun b o e n hx=>?_,fun b o e n hx=>?_,fun b o e=>l.f b o (I.base.cz b o e)⟩,?_,fun x c e=>?_,?_,fun x c e=>?_,fun p hp=>?_,hok,I.len,rel,l.B.trans I.gB,l.m.trans I.gm,l.w.trans I.gw⟩
 ·exact keep b o (QI b o e) (O5 b o e hx) (I.base.keep b o e n hx) (I.base.free b o e n hx)
 ·exact free b o (O5 b o e hx) (I.base.keep b o e n hx) (I.base.free b o e n hx)
 ·obtain⟨m,hn,hl⟩:=I.loc
  refine⟨m,ns m hn,fun i x v e1 e2 e3=>?_⟩;obtain⟨u,r,q⟩:=hl i x v e1 e2 e3;refine⟨u,r.le l,?_⟩;rcases q with q|⟨k,c,e,z⟩
  ·exact .inl q
  ·exact .inr ⟨k,c,e,cellK x c e _ z⟩
 ·obtain⟨v,z⟩:=I.cell x c e
  exact⟨v,cellK x c e v z⟩
 ·obtain⟨m,⟨o,_,_,ho,_⟩,_⟩:=I.loc
  exact free _ o (fun z=>(qG _ z).2.1 rfl) ho I.free
 ·obtain⟨v,o,ho,hd⟩:=I.cell x c e
  exact free c o (fun z=>(qG c z).2.2.1 x c e rfl) ho (I.qN x c e)
 ·obtain⟨e,n,ne,d⟩:=I.pin p hp
  have O6:p.1∉ch:=fun z=>(qG p.1 z).2.2.2 p hp rfl
  exact⟨keep p.1 p.2 ne O6 e n,free p.1 p.2 O6 e n,ne,d⟩
theorem Inv.un {t':Nat} (I:Inv X pins φ g L s) (l:Le g g') (u:Un [] g.H g'.H s.heap h') (hok:Bb g'.H h') (rel:Rel g' L'):Inv X pins φ g' L' { s with heap:=h',toks:=t' }:=by
 obtain⟨m,⟨o,es,ep,ho,r⟩,_⟩:=id I.loc;have hL:=u.keep _ o ho I.free (by simp)
 exact I.step (g1:=s.gens) (d':=s.drawn) (ch:=[]) l (fun _ z=>nomatch z) (fun b o _ _ e n=>u.keep b o e n (by simp)) (fun b o _ e n=>u.free b o e n (by simp)) (fun m' hm=>by
  obtain⟨o',fW,HY,ho',r'⟩:=hm;rw [ho] at ho';cases ho';exact⟨_,fW,HY,hL,r'⟩) hok I.bare rel
theorem Inv.call {s':Uu} {ch:List U2} (I:Inv X pins φ g L s) (l:Le g g') (ho:s'.os=s.os) (u:Un ch g.H g'.H s.heap s'.heap) (hok:Bb g'.H s'.heap) (hg:AllBare s'.gens) (rel:Rel g' L')
  (qG:∀b∈ch,(b∈X.ex\/X.s₀.heap.objs.size<=b)/\b≠X.env.locals/\(∀x c,X.env.cells.lookup x=some c->c≠b)/\∀p∈pins,p.1≠b):Inv X pins φ g' L' s':=by
 obtain⟨hh,g1,d',t',o'⟩:=s';obtain rfl:o'=s.os:=ho;obtain⟨m,⟨o,es,ep,ho,r⟩,_⟩:=id I.loc;have hL:=u.keep _ o ho I.free fun z=>(qG _ z).2.1 rfl
 exact I.step (ch:=ch) l qG (fun b o _ hc e n=>u.keep b o e n hc) (fun b o hc e n=>u.free b o e n hc) (fun m' hm=>by
  obtain⟨o',fW,HY,ho',r'⟩:=hm;rw [ho] at ho';cases ho';exact⟨_,fW,HY,hL,r'⟩) hok hg rel
noncomputable def gh (X:Cx) (pins:bg) (H:Hp) (b:U2):Prop:=H b=none/\b≠X.env.locals/\(b∈X.ex\/X.s₀.heap.objs.size<=b)/\(∀x c,X.env.cells.lookup x=some c->c≠b)/\∀p∈pins,p.1≠b
theorem Inv.sZ {b:U2} {H':Hp} (I:Inv X pins φ g L s) (hb:s.heap.objs.size<=b) (hn:H' b=none):gh X pins H' b:=by
 refine⟨hn,Vw (UY I.lt hb),.inr (UO I.sz hb),fun x c e z=>?_,fun p hp z=>?_⟩
 ·obtain⟨v,q⟩:=I.cell x c e
  exact absurd (UY q.lt (by rw [z];exact hb)) (V0 _)
 ·exact absurd (UY (UP (I.pin p hp).1) (by rw [z];exact hb)) (V0 _)
theorem Inv.turned {t':Nat} {ch:List U2} (I:Inv X pins φ g L s) (k:∀b o,b∉ch->s.heap.get? b=some o->h'.get? b=some o) (hf:∀b∈ch,gh X pins g.H b):Inv X pins φ g L { s with heap:=h',toks:=t' }:=by
 refine I.step (g1:=s.gens) (d':=s.drawn) (ch:=ch) (Le.refl g) (fun b hb=>⟨(hf b hb).2.2.1,(hf b hb).2.1,(hf b hb).2.2.2⟩) (fun b o _ hc e _=>k b o hc e) (fun _ _ _ _ n=>n) (fun m hm=>?_) (fun b c u e=>?_) I.bare I.rel
 ·obtain⟨o,es,ep,ho,r⟩:=hm
  exact⟨o,es,ep,k _ o (fun z=>(hf _ z).2.1 rfl) ho,r⟩
 ·exact k b u (fun z=>by rw [(hf b z).1] at e;cases e) (I.hok b c u e)
theorem Inv.kept {t':Nat} (I:Inv X pins φ g L s) (k:∀b u,s.heap.get? b=some u->h'.get? b=some u):Inv X pins φ g L { s with heap:=h',toks:=t' }:=I.un (Le.refl g) (Un.kept k) (fun a b o e=>k a o (I.hok a b o e)) I.rel
theorem Inv.tok (I:Inv X pins φ g L s) (t:Nat):Inv X pins φ g L { s with toks:=t }:=I.kept (h':=s.heap) fun _ _ e=>e
theorem fL {α:Type}:∀{L:List α} {n:Nat} {c:α},at_ L n=some c->n<L.length
 | c::L,n,d,h=>by
  unfold at_ at h
  split at h
  ·rename_i e;simp [e]
  ·have:=fL h;simp;omega
theorem lL {α:Type} {L:List α} {n:Nat} {c d:α} (h:at_ L n=some c):at_ (d::L) n=some c:=by
 unfold at_
 rw [if_neg (U0 (fL h))];exact h
theorem fq {α:Type} {L:List α} {d:α}:at_ (d::L) L.length=some d:=if_pos rfl
noncomputable def G.lay (g:G) (a:U2) (o:Obj):G:={ g with H:=upd g.H a (true,o) }
theorem Rel.le {g g':G} (r:Rel g L) (l:Le g g') (e:g'.α=g.α) (k:∀a o,g.H a=some (false,o)->g'.H a=g.H a):Rel g' L:=by
 refine⟨by rw [e];exact r.len,fun n c h=>?_,by rw [e];exact r.apart,fun n p h=>?_⟩
 ·obtain⟨p,h1,h2⟩:=r.cells n c h
  refine⟨p,by rw [e];exact h1,h2.up l fun q z=>?_⟩;cases z;obtain⟨⟨o,e1⟩,o2,e2⟩:=r.live n p h1;exact⟨k _ _ e1,k _ _ e2⟩
 ·rw [e] at h
  obtain⟨⟨o,e1⟩,o2,e2⟩:=r.live n p h;exact⟨⟨o,(k _ _ e1).trans e1⟩,o2,(k _ _ e2).trans e2⟩
theorem Le.lay {a:U2} {o:Obj} (h:g.H a=none):Le g (g.lay a o):=⟨fun b u e=>by
  have z:b≠a:=fun z=>by rw [z,h] at e;cases e
  exact(aE z).trans e,fun _ _ e=>e,rfl,rfl,rfl⟩
theorem Inv.laid {a:U2} {o:Obj} {t':Nat} (I:Inv X pins φ g L s) (k:∀b u,s.heap.get? b=some u->h'.get? b=some u) (hp:s.heap.objs.size<=a) (new:h'.get? a=some o) :
  Inv X pins φ (g.lay a o) L { s with heap:=h',toks:=t' }:=by
 have hn:=I.hok.fresh hp;refine I.un (Le.lay hn) ⟨fun b u q _ _=>k b u q,fun b u q n _=>?_,(Le.lay hn).f⟩ (fun b c u e=>?_) (I.rel.le (Le.lay hn) rfl fun b u e=>?_)
 ·exact(aE (U0 (UY (UP q) hp))).trans n
 ·by_cases hb:b=a
  ·subst hb
   have e':some (true,o)=some (c,u):=(aw (H:=g.H)).symm.trans e;cases e';exact new
  ·exact k b u (I.hok b c u ((aE hb).symm.trans e))
 ·exact aE (fun z=>by rw [z,hn] at e;cases e)
noncomputable def G.new (g:G) (a:U2) (o:Obj):G:={ g with H:=upd g.H a (false,o),α:=(a,a)::g.α }
theorem Le.new {a:U2} {o:Obj} (h:g.H a=none):Le g (g.new a o):=⟨fun b u e=>by
  have z:b≠a:=fun z=>by rw [z,h] at e;cases e
  exact(aE z).trans e,fun _ _ e=>lL e,rfl,rfl,rfl⟩
theorem Rel.new {a:U2} {o:Obj} {c:T} (r:Rel g L) (h:g.H a=none) (hc:RT (g.new a o) (some (a,a)) c (.ref a)):Rel (g.new a o) (c::L):=by
 have ne:∀n p,at_ g.α n=some p->p.1≠a/\p.2≠a:=fun n p e=>by
  obtain⟨⟨o1,e1⟩,o2,e2⟩:=r.live n p e;exact⟨fun z=>(by rw [z,h] at e1;cases e1),fun z=>(by rw [z,h] at e2;cases e2)⟩
 refine⟨by simp [G.new,r.len],fun n d e=>?_,fun n m p q e1 e2 QJ=>?_,fun n p e=>?_⟩
 ·unfold at_ at e
  split at e
  ·rename_i en
   cases e;exact⟨(a,a),by rw [en,<- r.len];exact fq,hc⟩
  ·obtain⟨p,h1,h2⟩:=r.cells n d e
   refine⟨p,lL h1,h2.up (Le.new h) fun q z=>?_⟩;cases z;exact⟨aE (ne n p h1).1,aE (ne n p h1).2⟩
 ·have e1':at_ ((a,a)::g.α) n=some p:=e1
  have e2':at_ ((a,a)::g.α) m=some q:=e2
  unfold at_ at e1' e2'
  split at e1'
  ·cases e1'
   split at e2'
   ·omega
   ·have z:=ne m q e2'
    exact⟨VU z.1,VU z.2,VU z.1,VU z.2⟩
  ·split at e2'
   ·cases e2'
    have z:=ne n p e1';exact⟨z.1,z.1,z.2,z.2⟩
   ·exact r.apart n m p q e1' e2' QJ
 ·have e':at_ ((a,a)::g.α) n=some p:=e
  unfold at_ at e'
  split at e'
  ·cases e';exact⟨⟨o,aw⟩,o,aw⟩
  ·obtain⟨⟨o1,h1⟩,o2,h2⟩:=r.live n p e'
   exact⟨⟨o1,(aE (ne n p e').1).trans h1⟩,o2,(aE (ne n p e').2).trans h2⟩
theorem Inv.new {a:U2} {o:Obj} {c:T} {t':Nat} (I:Inv X pins φ g L s) (k:∀b u,s.heap.get? b=some u->h'.get? b=some u) (hp:s.heap.objs.size<=a) (new:h'.get? a=some o) (hc:RT (g.new a o) (some (a,a)) c (.ref a)) :
  Inv X pins φ (g.new a o) (c::L) { s with heap:=h',toks:=t' }:=by
 have hn:=I.hok.fresh hp;refine I.un (Le.new hn) ⟨fun b u q _ _=>k b u q,fun b u q n _=>?_,(Le.new hn).f⟩ (fun b c u e=>?_) (I.rel.new hn hc)
 ·exact(aE (U0 (UY (UP q) hp))).trans n
 ·by_cases hb:b=a
  ·subst hb
   have e':some (false,o)=some (c,u):=(aw (H:=g.H)).symm.trans e;cases e';exact new
  ·exact k b u (I.hok b c u ((aE hb).symm.trans e))
noncomputable def G.set (g:G) (a:U2) (o:Obj):G:={ g with H:=upd g.H a (false,o) }
theorem Le.set {a:U2} {o u:Obj} (h:g.H a=some (false,u)):Le g (g.set a o):=⟨fun b v e=>by
  have z:b≠a:=fun z=>by rw [z,h] at e;cases e
  exact(aE z).trans e,fun _ _ e=>e,rfl,rfl,rfl⟩
theorem oZ {α:Type}:∀{L:List α} {n m:Nat} {c d:α},at_ (put L n d) m=some c->(m=n/\c=d)\/(m≠n/\at_ L m=some c)
 | x::L,n,m,c,d,h=>by
  have lp:∀(L:List α),(put L n d).length=L.length:=fun L=>by
   induction L with
   | nil=>rfl
   | cons y L ih=>unfold put;split <;> simp [ih]
  unfold put at h;split at h
  ·rename_i en
   unfold at_ at h ⊢
   split at h
   ·rename_i em;cases h;exact .inl ⟨by omega,rfl⟩
   ·rename_i em;rw [if_neg em];exact .inr ⟨by omega,h⟩
  ·rename_i en
   unfold at_ at h ⊢
   rw [lp] at h;split at h
   ·rename_i em;rw [if_pos em];exact .inr ⟨by omega,h⟩
   ·rename_i em;rw [if_neg em];exact oZ h
theorem uO {α:Type} {L:List α} {n:Nat} {d:α}:(put L n d).length=L.length:=by
 induction L with
 | nil=>rfl
 | cons y L ih=>unfold put;split <;> simp [ih]
theorem Inv.set {n:Nat} {p:U2 × U2} {a:U2} {o u:Obj} {c:T} {t':Nat} (I:Inv X pins φ g L s) (hp:at_ g.α n=some p) (ha:a=p.1\/a=p.2) (hH:g.H a=some (false,u)) (k:∀b v,b≠a->s.heap.get? b=some v->h'.get? b=some v) (new:h'.get? a=some o)
  (hc:RT (g.set a o) (some p) c (.ref p.1)):Inv X pins φ (g.set a o) (put L n c) { s with heap:=h',toks:=t' }:=by
 have hb:∀b,g.H b=none->b≠a:=fun b n z=>by rw [z,hH] at n;cases n
 refine I.un (Le.set hH) ⟨fun b v q z _=>k b v (hb b z) q,fun b v q z _=>(aE (hb b z)).trans z,(Le.set hH).f⟩ (fun b c v e=>?_) ⟨by rw [uO];exact I.rel.len,fun m d e=>?_,I.rel.apart,fun m q e=>?_⟩
 ·by_cases hb:b=a
  ·subst hb
   have e':some (false,o)=some (c,v):=(aw (H:=g.H)).symm.trans e;cases e';exact new
  ·exact k b v hb (I.hok b c v ((aE hb).symm.trans e))
 ·rcases oZ e with⟨rfl,rfl⟩|⟨hm,e⟩
  ·exact⟨p,hp,hc⟩
  ·obtain⟨q,h1,h2⟩:=I.rel.cells m d e
   refine⟨q,h1,h2.up (Le.set hH) fun q' z=>?_⟩;cases z;have ap:=I.rel.apart m n q p h1 hp hm
   rcases ha with rfl|rfl
   ·exact⟨aE ap.1,aE ap.2.2.1⟩
   ·exact⟨aE ap.2.1,aE ap.2.2.2⟩
 ·have sel:∀b v,g.H b=some (false,v)->∃v,upd g.H a (false,o) b=some (false,v):=fun b v e=>by
   by_cases hb:b=a
   ·exact⟨o,by rw [hb];exact aw⟩
   ·exact⟨v,(aE hb).trans e⟩
  obtain⟨⟨o1,h1⟩,o2,h2⟩:=I.rel.live m q e;exact⟨sel _ _ h1,sel _ _ h2⟩
theorem Inv.iN {pins':bg} (I:Inv X pins φ g L s) (h:∀p∈pins',s.heap.get? p.1=some p.2/\g.H p.1=none/\p.1≠X.env.locals/\∀v,p.2.data≠.cell v):Inv X pins' φ g L s:={ I with pin:=h }
end
end M
namespace M
open PySem PySem.Spec PyProof.Rows
abbrev F0:Uq->Uu->Prop:=fun _ _=>False
theorem thn {α:Type} {t:Sem α} {Q Q':α->Uu->Prop} {Md:Model} {A:Vj} {E:Uq->Uu->Prop} {s:Uu} (h:UK Md A t Q F0 s) (hQ:∀a s,Q a s->Q' a s):UK Md A t Q' E s:=wpAny_mono h hQ fun _ _ z=>z.elim
noncomputable def EP (X:Cx) (pins:bg) (φ:Fr) (g:G) (w:T) (L':aa) (u:Uq) (s':Uu):Prop:=∃g',Le g g'/\Inv X pins φ g' L' s'/\RT g' none w u
noncomputable def AP (X:Cx) (pins:bg) (φ:Fr) (g:G) (w:List T) (L':aa) (u:List Uq) (s':Uu):Prop:=∃g',Le g g'/\Inv X pins φ g' L' s'/\cP g' w u
noncomputable def TP (X:Cx) (pins:bg) (φ:Fr) (g:G) (w:Bool) (L':aa) (b:Bool) (s':Uu):Prop:=∃g',Le g g'/\Inv X pins φ g' L' s'/\b=w
noncomputable def SP (X:Cx) (pins:bg) (g:G) (o:O) (f:Flow) (s':Uu):Prop:=∃g',Le g g'/\match o,f with
 | .nx φ L,.next=>Inv X pins φ g' L s'
 | .bk φ L,.brk=>Inv X pins φ g' L s'
 | .ct φ L,.cont=>Inv X pins φ g' L s'
 | .rt t L,.ret u=>(∃φ,Inv X pins φ g' L s')/\RT g' none t u
 | _,_=>False
noncomputable def PE (X:Cx) (e:Expr) (m:SE):Prop:=∀{pins:bg} {φ:Fr} {g:G} {L:aa} {s:Uu} {w:T} {L':aa},Inv X pins φ g L s->m φ L=.ok w L'->UK (model X.prog X.w) X.A (eval e X.env) (EP X pins φ g w L') F0 s
noncomputable def PT (X:Cx) (e:Expr) (m:ST):Prop:=∀{pins:bg} {φ:Fr} {g:G} {L:aa} {s:Uu} {w:Bool} {L':aa} (whole:Sem Uq),(whole=eval e X.env\/∃op es p,e=.BoolOp op es p)->Inv X pins φ g L s->m φ L=.ok w L'->UK (model X.prog X.w) X.A (isTrue e X.env whole) (TP X pins φ g w L') F0 s
noncomputable def PA (X:Cx) (es:List Expr) (m:SA):Prop:=∀{pins:bg} {φ:Fr} {g:G} {L:aa} {s:Uu} {w:List T} {L':aa} (pos:Pos),Inv X pins φ g L s->m φ L=.ok w L'->UK (model X.prog X.w) X.A (spliced (backTo pos (starEach es X.env))) (AP X pins φ g w L') F0 s
noncomputable def PS (X:Cx) (st:Stmt) (m:SS):Prop:=∀{pins:bg} {φ:Fr} {g:G} {L:aa} {s:Uu},Inv X pins φ g L s->m φ L≠.bad->UK (model X.prog X.w) X.A (exec st X.env) (SP X pins g (m φ L)) F0 s
noncomputable def xD (X:Cx) (st:List Stmt) (m:SS):Prop:=∀{pins:bg} {φ:Fr} {g:G} {L:aa} {s:Uu},Inv X pins φ g L s->m φ L≠.bad->UK (model X.prog X.w) X.A (execs st X.env) (SP X pins g (m φ L)) F0 s
noncomputable def xE (X:Cx) (f:Uq->Uq->Sem Uq) (m:T->T->aa->R T):Prop:=∀{pins:bg} {φ:Fr} {g:G} {L:aa} {s:Uu} {x y w:T} {L':aa} {u v:Uq},Inv X pins φ g L s->RT g none x u->RT g none y v->m x y L=.ok w L'->UK (model X.prog X.w) X.A (f u v) (EP X pins φ g w L') F0 s
noncomputable def d8 (X:Cx) (f:Uq) (m:Fn):Prop:=∀{pins:bg} {φ:Fr} {g:G} {L:aa} {s:Uu} {xs:List T} {w:T} {L':aa} {us:List Uq},Inv X pins φ g L s->cP g xs us->m xs L=.ok w L'->UK (model X.prog X.w) X.A (call f us) (EP X pins φ g w L') F0 s
section
variable {X:Cx} {pins:bg} {φ:Fr} {g g1:G} {L L':aa} {s s':Uu} {w:T} {u:Uq} {e a b:Expr} {es:List Expr} {m ma mb:SE} {pos:Pos} {x:Str}
theorem EP.le (h:EP X pins φ g1 w L' u s') (l:Le g g1):EP X pins φ g w L' u s':=let ⟨g',k,r⟩:=h;⟨g',l.trans k,r⟩
theorem SP.le {o:O} {f:Flow} (h:SP X pins g1 o f s') (l:Le g g1):SP X pins g o f s':=let ⟨g',k,r⟩:=h;⟨g',l.trans k,r⟩
theorem Inv.ep (I:Inv X pins φ g L s) (r:RT g none w u):EP X pins φ g w L u s:=⟨g,.refl g,I,r⟩
theorem two {f:T->T->aa->R T} (ha:PE X a ma) (hb:PE X b mb) (I:Inv X pins φ g L s) (h:b2 ma mb f φ L=.ok w L') {α:Type} {Q:α->Uu->Prop} {F:Uq->Uq->Sem α}
  (hf:∀{g' x y L2 u v s2},Le g g'->Inv X pins φ g' L2 s2->RT g' none x u->RT g' none y v->f x y L2=.ok w L'->UK (model X.prog X.w) X.A (F u v) Q F0 s2) :
  UK (model X.prog X.w) X.A (eval a X.env) (fun u s₁=>UK (model X.prog X.w) X.A (eval b X.env) (fun v s₂=>UK (model X.prog X.w) X.A (F u v) Q F0 s₂) F0 s₁) F0 s:=by
 obtain⟨x,L1,e1,h⟩:=R.of h;obtain⟨y,L2,e2,h⟩:=R.of h;refine thn (ha I e1) fun u s1 ⟨g1,l1,I1,r1⟩=>thn (hb I1 e2) fun v s2 ⟨g2,l2,I2,r2⟩=>hf (l1.trans l2) I2 (r1.le l2) r2 h
theorem Ew {i:Nat} (hN:X.N[i]?=some x) (hv:LM X.env.scope x) (hd:(x == ("__debug__":Str))=false) (hcd:(x == ("__classdict__":Str))=false):PE X (.Name x pos) (v i):=by
 intro pins φ g L s w L' I h;unfold v at h;cases e:φ[i]? with
 | none=>rw [e] at h;cases h
 | some o =>
  cases o with
  | none=>rw [e] at h;cases h
  | some t =>
   rw [e] at h;cases h;obtain⟨m,hn,hl⟩:=I.loc;obtain⟨u,r,l⟩:=hl i x _ hN e hv;have fin:=I.ep r
   rcases l with⟨hk,hm⟩|⟨hk,c,hc,hcell⟩
   ·exact wpAny_Name (wpAny_loadName_local I.ok.kind hk hn hm fin) hd
   ·rcases hk with hk|hk
    ·exact wpAny_Name (wpAny_loadName_cell I.ok.kind hk hc hcell fin) hd
    ·exact wpAny_Name (wpAny_loadName_free I.ok.kind hk hc hcell fin hcd) hd
theorem cT:PE X e no:=fun _ h=>by cases h
theorem Ex {i:Int} {j:Nat}:PE X (.Constant (.int i) j pos) (c (.int i)):=fun I h=>by cases h;exact wpAny_Constant_int ((I.tok _).ep (.int i _))
theorem Iz {b:Bool} {j:Nat}:PE X (.Constant (.bool b) j pos) (c (.bl b)):=fun I h=>by cases h;exact Constant_bool (I.ep (.bl b))
theorem Ey {j:Nat}:PE X (.Constant .none j pos) (c .cm):=fun I h=>by cases h;exact Constant_none (I.ep .cm)
theorem Ez {x:Str} {j:Nat} (hz:x.cps.toList.length<=UU):PE X (.Constant (.str x) j pos) (c (.str x.cps.toList)):=fun I h=>by cases h;exact Calls.Constant_str ((I.tok _).ep (.str _ _ hz))
abbrev Gl (X:Cx) (x:Str):Prop:=X.env.kindOf x=some .globalImplicit
theorem pd {Q:Uq->Uu->Prop} (I:Inv X pins φ g L s) (hg:Gl X x) (hm:X.mg x=some u) (h:Q u s) (hd:(x == ("__debug__":Str))=false):UK (model X.prog X.w) X.A (eval (.Name x pos) X.env) Q F0 s :=
 YA I.ok.kind hg (Calls.loadGlobal_global (by rw [I.ok.glob];exact I.mod.glob.keeps I.bk) hm h) hd
theorem fX {Q:Uq->Uu->Prop} (I:Inv X pins φ g L s) (hg:Gl X x) (hm:X.mg x=none) (hv:bootBuiltins x=some u) (h:Q u s) (hn:x≠"__name__") (hd:(x == ("__debug__":Str))=false):UK (model X.prog X.w) X.A (eval (.Name x pos) X.env) Q F0 s:=by
 obtain⟨mb,h1,h2⟩:=I.mod.blt;exact YA I.ok.kind hg (Calls.loadGlobal_builtin (by rw [I.ok.glob];exact I.mod.glob.keeps I.bk) hm (by rw [I.ok.blt];exact h1.keeps I.bk) ((h2 x hn).trans hv) h) hd
noncomputable def O7 (X:Cx) (t:T) (u:Uq):Prop:=∀g:G,g.B=X.base->g.cls=X.cls->g.w=X.w->RT g none t u
theorem EA {t:T} (hg:Gl X x) (hm:X.mg x=some u) (r:O7 X t u) (hd:(x == ("__debug__":Str))=false):PE X (.Name x pos) (c t):=fun I h=>by cases h;exact pd I hg hm (I.ep (r _ I.gB I.gm I.gw)) hd
theorem EB {t:T} (hg:Gl X x) (hm:X.mg x=none) (hv:bootBuiltins x=some u) (r:O7 X t u) (hn:x≠"__name__") (hd:(x == ("__debug__":Str))=false):PE X (.Name x pos) (c t):=fun I h=>by cases h;exact fX I hg hm hv (I.ep (r _ I.gB I.gm I.gw)) hn hd
theorem EC {op:Operator} {f:T->T->aa->R T} (ho:xE X (binaryOp op) f) (ha:PE X a ma) (hb:PE X b mb):PE X (.BinOp a op b pos) (b2 ma mb f):=fun I h =>
 wpAny_BinOp (two ha hb I h fun l I r1 r2 h=>thn (ho I r1 r2 h) fun _ _ z=>z.le l)
theorem ED {op:CmpOp} {f:T->T->aa->R T} (ho:xE X (compareOp op) f) (ha:PE X a ma) (hb:PE X b mb) (hm:behindInMarks op b=false):PE X (.Compare a [op] [b] pos) (b2 ma mb f):=fun I h =>
 wpAny_Compare1 (two ha hb I h fun l I r1 r2 h=>thn (ho I r1 r2 h) fun _ _ z=>z.le l) hm
theorem IA {f:T->T->aa->R T} (ho:xE X (fun o i=>subscriptTail a b o i) f) (ha:PE X a ma) (hb:PE X b mb):PE X (.Subscript a b pos) (b2 ma mb f):=fun I h =>
 Subscript_ (two ha hb I h fun l I r1 r2 h=>thn (ho I r1 r2 h) fun _ _ z=>z.le l)
theorem IB {op:UnaryOp} {f:T->aa->R T} (ho:∀{pins φ g L s x w L' u},Inv X pins φ g L s->RT g none x u->f x L=.ok w L'->UK (model X.prog X.w) X.A (unaryOp op u) (EP X pins φ g w L') F0 s) (ha:PE X a ma):PE X (.UnaryOp op a pos) (b1 ma f):=fun I h=>by
 obtain⟨x,L1,e1,h⟩:=R.of h;exact UnaryOp_ (thn (ha I e1) fun v s1 ⟨g1,l1,I1,r1⟩=>thn (ho I1 r1 h) fun _ _ z=>z.le l1)
theorem EE {x w:T} {L':aa} (h:neg x L=.ok w L'):∃i,x=.int i/\w=.int (-i)/\L'=L:=by
 cases x with
 | int i=>cases h;exact⟨i,rfl,rfl,rfl⟩
 | _=>cases h
theorem EF {pins φ g L s x w L' u} (I:Inv X pins φ g L s) (r:RT g none x u) (h:neg x L=.ok w L'):UK (model X.prog X.w) X.A (unaryOp .USub u) (EP X pins φ g w L') F0 s:=by
 obtain⟨i,rfl,rfl,rfl⟩:=EE h;obtain⟨_,rfl⟩:=r.iI;exact neg_int ((I.tok _).ep (.int _ _))
theorem oi {a:SE} {φ L b L'} (h:tv a φ L=.ok b L'):a φ L=.ok (.bl b) L':=by
 obtain⟨x,L1,e1,h⟩:=R.of h;cases x <;> first|cases h|skip
 exact e1
theorem pf {α β:Type} {f:α->β} {r:R α} {b:β} {L:aa} (h:r.map f=.ok b L):∃a,r=.ok a L/\f a=b:=by
 cases r with
 | bad=>cases h
 | ok a L1=>cases h;exact⟨a,rfl,rfl⟩
theorem EG (ha:PE X a ma):PE X (.UnaryOp .Not a pos) (mq ma):=fun I h=>by
 obtain⟨b,e,rfl⟩:=pf h;exact UnaryOp_ (thn (ha I (oi e)) fun v s1 ⟨g1,l1,I1,r1⟩=>by obtain rfl:=r1.bI;exact not_of (wpAny_truthy_bool ⟨g1,l1,I1,.bl _⟩))
theorem xF {op:BoolOp} (h:PE X a m):PE X (.BoolOp op [a] pos) m:=fun I hw=>BoolOp_one (h I hw)
theorem EH (ha:PE X a ma) (hb:PE X (.BoolOp .And (b::es) pos) mb):PE X (.BoolOp .And (a::b::es) pos) (Bl ma mb):=fun I h=>by
 obtain⟨k,L1,e,h⟩:=R.of h;refine BoolOp_and (thn (ha I (oi e)) fun v s1 ⟨g1,l1,I1,r1⟩=>?_);obtain rfl:=r1.bI;refine wpAny_truthy_bool ?_;cases k with
 | true=>exact thn (hb I1 h) fun _ _ z=>z.le l1
 | false=>cases h;exact⟨g1,l1,I1,.bl _⟩
theorem IC (ha:PE X a ma) (hb:PE X (.BoolOp .Or (b::es) pos) mb):PE X (.BoolOp .Or (a::b::es) pos) (LJ ma mb):=fun I h=>by
 obtain⟨k,L1,e,h⟩:=R.of h;refine BoolOp_or (thn (ha I (oi e)) fun v s1 ⟨g1,l1,I1,r1⟩=>?_);obtain rfl:=r1.bI;refine wpAny_truthy_bool ?_;cases k with
 | false=>exact thn (hb I1 h) fun _ _ z=>z.le l1
 | true=>cases h;exact⟨g1,l1,I1,.bl _⟩
theorem uP:PT X e no:=fun _ _ _ h=>by cases h
theorem EI (h:PE X e m) (he:∀whole,isTrue e X.env whole=(do let v <- whole;standAt e.pos;holding [v] (truthy v))) (hb:∀op es p,e≠.BoolOp op es p):PT X e (tv m):=fun {_ _ _ _ _ _ _} whole hw I q=>by
 rcases hw with rfl|⟨_,_,_,z⟩
 ·exact isTrue_plain (thn (h I (oi q)) fun v s1 ⟨g1,l1,I1,r1⟩=>by obtain rfl:=r1.bI;exact wpAny_truthy_bool ⟨g1,l1,I1,rfl⟩) (he _)
 ·exact absurd z (hb _ _ _)
theorem EJ {m:ST} (ha:PT X a m):PT X (.UnaryOp .Not a pos) (eL m):=fun {_ _ _ _ _ _ _} whole _ I h=>by
 obtain⟨b,e,rfl⟩:=pf h;exact isTrue_not (thn (ha _ (.inl rfl) I e) fun _ _ ⟨g1,l1,I1,e1⟩=>⟨g1,l1,I1,by rw [e1]⟩)
theorem Bo {m:ST} (ha:PT X a m):PT X (.BoolOp .And [a] pos) m:=fun {_ _ _ _ _ _ _} whole _ I h=>by
 refine isTrue_and (thn (ha _ (.inl rfl) I h) fun c s1 e=>?_);cases c with
 | true=>exact isTrue_and_nil e
 | false=>exact e
theorem EK {m:ST} (ha:PT X a m):PT X (.BoolOp .Or [a] pos) m:=fun {_ _ _ _ _ _ _} whole _ I h=>by
 refine isTrue_or (thn (ha _ (.inl rfl) I h) fun c s1 e=>?_);cases c with
 | true=>exact e
 | false=>exact isTrue_or_nil e
theorem EL {ma mb:ST} (ha:PT X a ma) (hb:PT X (.BoolOp .And (b::es) pos) mb):PT X (.BoolOp .And (a::b::es) pos) (Bj ma mb):=fun {_ _ _ _ _ _ _} whole _ I h=>by
 obtain⟨k,L1,e,h⟩:=R.of h;refine isTrue_and (thn (ha _ (.inl rfl) I e) fun c s1 ⟨g1,l1,I1,e1⟩=>?_);subst e1;cases c with
 | true=>exact thn (hb whole (.inr ⟨_,_,_,rfl⟩) I1 h) fun _ _ ⟨g2,l2,r⟩=>⟨g2,l1.trans l2,r⟩
 | false=>cases h;exact⟨g1,l1,I1,rfl⟩
theorem ID {ma mb:ST} (ha:PT X a ma) (hb:PT X (.BoolOp .Or (b::es) pos) mb):PT X (.BoolOp .Or (a::b::es) pos) (LI ma mb):=fun {_ _ _ _ _ _ _} whole _ I h=>by
 obtain⟨k,L1,e,h⟩:=R.of h;refine isTrue_or (thn (ha _ (.inl rfl) I e) fun c s1 ⟨g1,l1,I1,e1⟩=>?_);subst e1;cases c with
 | false=>exact thn (hb whole (.inr ⟨_,_,_,rfl⟩) I1 h) fun _ _ ⟨g2,l2,r⟩=>⟨g2,l1.trans l2,r⟩
 | true=>cases h;exact⟨g1,l1,I1,rfl⟩
theorem EM {op:CmpOp} {f:T->T->aa->R T} (ho:xE X (compareOp op) f) (ha:PE X a ma) (hb:PE X b mb) (hm:behindInMarks op b=false):PT X (.Compare a [op] [b] pos) (tv (b2 ma mb f)):=fun {_ _ _ _ _ _ _} whole _ I h =>
 wpAny_isTrue_Compare1 (two ha hb I (oi h) fun l I r1 r2 h=>thn (ho I r1 r2 h) fun _ _ ⟨g1,l1,I1,r1⟩=>by obtain rfl:=r1.bI;exact wpAny_truthy_bool ⟨g1,l.trans l1,I1,rfl⟩) hm
theorem uQ {op oh:CmpOp} {a b d:SE} {φ L w L'} (h:wh op oh a b d φ L=.ok w L'):∃x L1 y L2 k L3,a φ L=.ok x L1/\b φ L1=.ok y L2/\cmp op x y L2=.ok (.bl k) L3/\((k=false/\w=.bl false/\L'=L3)\/(k=true/\∃z L4,d φ L3=.ok z L4/\cmp oh y z L4=.ok w L')):=by
 obtain⟨x,L1,e1,h⟩:=R.of h;obtain⟨y,L2,e2,h⟩:=R.of h;obtain⟨k,L3,e3,h⟩:=R.of h;refine⟨x,L1,y,L2,k,L3,e1,e2,by unfold cmp;rw [e3];rfl,?_⟩;cases k with
 | false=>cases h;exact .inl ⟨rfl,rfl,rfl⟩
 | true=>obtain⟨z,L4,e4,h⟩:=R.of h;exact .inr ⟨rfl,z,L4,e4,h⟩
theorem xG {op oh:CmpOp} {d:Expr} {md:SE} (ho:∀op,xE X (compareOp op) (cmp op)) (ha:PE X a ma) (hb:PE X b mb) (hd:PE X d md) (hm:lastMarks [op,oh] [b,d]=false):PE X (.Compare a [op,oh] [b,d] pos) (wh op oh ma mb md):=fun I h=>by
 obtain⟨x,L1,y,L2,k,L3,e1,e2,e3,h⟩:=uQ h;refine Compare_chain (thn (ha I e1) fun v s1 ⟨g1,l1,I1,r1⟩=>chain_link (thn (hb I1 e2) fun u s2 ⟨g2,l2,I2,r2⟩=>thn (ho op I2 (r1.le l2) r2 e3) fun d s3 ⟨g3,l3,I3,r3⟩=>?_)) hm;cases r3;refine wpAny_truthy_bool ?_;have Bc:=(l1.trans l2).trans l3
 rcases h with⟨rfl,rfl,rfl⟩|⟨rfl,z,L4,e4,h⟩
 ·exact ite_ff ⟨g3,Bc,I3,.bl _⟩
 ·exact ite_tt (chain_last (thn (hd I3 e4) fun w' s4 ⟨g4,l4,I4,r4⟩=>thn (ho oh I4 (r2.le (l3.trans l4)) r4 h) fun _ _ z=>z.le (Bc.trans l4)))
theorem xH {op oh:CmpOp} {d:Expr} {md:SE} (ho:∀op,xE X (compareOp op) (cmp op)) (ha:PE X a ma) (hb:PE X b mb) (hd:PE X d md) (hm:lastMarks [op,oh] [b,d]=false):PT X (.Compare a [op,oh] [b,d] pos) (tv (wh op oh ma mb md)):=fun {_ _ _ _ _ _ _} whole _ I h=>by
 obtain⟨x,L1,y,L2,k,L3,e1,e2,e3,h⟩:=uQ (oi h);refine isTrue_chain (thn (ha I e1) fun v s1 ⟨g1,l1,I1,r1⟩=>test_link (thn (hb I1 e2) fun u s2 ⟨g2,l2,I2,r2⟩=>thn (ho op I2 (r1.le l2) r2 e3) fun d s3 ⟨g3,l3,I3,r3⟩=>?_)) hm;cases r3;refine wpAny_truthy_bool ?_;have Bc:=(l1.trans l2).trans l3
 rcases h with⟨rfl,e,rfl⟩|⟨rfl,z,L4,e4,h⟩
 ·cases e;exact ite_ff ⟨g3,Bc,I3,rfl⟩
 ·exact ite_tt (test_last (thn (hd I3 e4) fun w' s4 ⟨g4,l4,I4,r4⟩=>thn (ho oh I4 (r2.le (l3.trans l4)) r4 h) fun _ _ ⟨g5,l5,I5,r5⟩=>by cases r5;exact wpAny_truthy_bool ⟨g5,(Bc.trans l4).trans l5,I5,rfl⟩))
theorem EN {k:Expr} {mk:ST} (hk:PT X k mk) (ha:PE X a ma) (hb:PE X b mb):PE X (.IfExp k a b pos) (Mj mk ma mb):=fun I h=>by
 obtain⟨k,L1,e,h⟩:=R.of h;refine wpAny_IfExp (thn (hk _ (.inl rfl) I e) fun d s1 ⟨g1,l1,I1,e1⟩=>?_);subst e1;cases d with
 | true=>exact thn (ha I1 h) fun _ _ z=>z.le l1
 | false=>exact thn (hb I1 h) fun _ _ z=>z.le l1
noncomputable def bo:Expr->Bool
 | .Starred ..=>false
 | _=>true
theorem aD {env:Env} (h:bo e=true):starEach (e::es) env=(false,eval e env)::starEach es env:=by
 cases e <;> first|rfl|cases h
theorem ph:PA X [] (iM []):=fun {_ _ _ _ _ _ _} _ I h=>by cases h;exact Xm ⟨_,.refl _,I,.nil⟩
theorem jy {ms:List SE} (ha:PE X e m) (hr:PA X es (iM ms)) (hs:bo e=true):PA X (e::es) (iM (m::ms)):=fun {_ _ _ _ _ _ _} pos I h=>by
 obtain⟨t,L1,e1,h⟩:=R.of h;obtain⟨ts,L2,e2,h⟩:=R.of h;cases h;rw [aD hs];show UK _ _ (spliced ((false,eval e X.env)::backTo pos (starEach es X.env))) _ _ _
 exact XR (thn (ha I e1) fun u s1 ⟨g1,l1,I1,r1⟩=>thn (hr pos I1 e2) fun us s2 ⟨g2,l2,I2,r2⟩=>⟨g2,l1.trans l2,I2,.cons (r1.le l2) r2⟩)
theorem cP.lst {us:List Uq} {xs:List T} {p:Option (U2 × U2)} {a:U2} {n:Nat} {o:Obj} (r:cP g xs us) (l:Le g g1) (ht:sX p a a) (hk:g1.kn p.isNone a { cls:=.type "list",data:=.seq us.toArray n }) (hz:xs.length<=UU):RT g1 p (.lst xs) (.ref a) :=
 .lst ht hk hz (by simpa using UL r) fun i x v e1 e2=>(wo r i x v e1 (by simpa using e2)).le l
theorem kh {fz:Bool} {xs:List T} {us:List Uq} {L2:aa} {t' n:Nat} {h':Heap} (I:Inv X pins φ g L s) (r:cP g xs us) (h:fF fz xs L=.ok w L2) (k:∀b u,s.heap.get? b=some u->h'.get? b=some u) (new:h'.get? s.heap.objs.size=some { cls:=.type "list",data:=.seq us.toArray n }) :
  EP X pins φ g w L2 (.ref s.heap.objs.size) { s with heap:=h',toks:=t' }:=by
 unfold fF cx at h;split at h
 ·rename_i hz
  unfold mk at h;split at h
  ·cases h
   exact⟨_,Le.lay I.fresh,I.laid k (UH _) new,r.lst (n:=n) (o:=default) (Le.lay I.fresh) (.inl rfl) (.inl aw) hz⟩
  ·cases h
   refine⟨_,Le.new I.fresh,I.new k (UH _) new (r.lst (n:=n) (o:=default) (Le.new I.fresh) (.inr rfl) (.inl aw) hz),?_⟩;have:=I.rel.len
   exact .ref (p:=(s.heap.objs.size,s.heap.objs.size)) (by show at_ ((_,_)::g.α) _=_;rw [<- this];exact fq)
 ·cases h
theorem pj {fz:Bool} {xs:List T} {L2:aa} (h:fF fz xs L=.ok w L2):xs.length<=UU:=by
 unfold fF cx at h;split at h
 ·assumption
 ·cases h
theorem EO {ms:List SE} {fz:Bool} (h:PA X es (iM ms)):PE X (.List es pos) (lst fz ms):=fun I q=>by
 obtain⟨ts,L1,e1,q⟩:=R.of q;refine wpAny_List_spliced (thn (h pos I e1) fun us s1 ⟨g1,l1,I1,r⟩=>⟨by rw [<- UL r];exact pj q,?_⟩);exact(kh (t':=s1.toks) I1 r q (fun b u e=>Uj _ e) (Us _ rfl)).le l1
theorem cP.tup {us:List Uq} {xs:List T} {a:U2} {n:Nat} {o:Obj} (r:cP g xs us) (l:Le g g1) (hk:g1.kn true a o) (hc:o.cls=.type "tuple"/\o.dict=none) (hd:o.data=.seq us.toArray n) (hz:xs.length<=UU):RT g1 none (.tup xs) (.ref a) :=
 .tup hk hc hd hz (by simpa using UL r) fun i x v e1 e2=>(wo r i x v e1 (by simpa using e2)).le l
theorem ER {ms:List SE} {k:Nat} (h:PA X es (iM ms)) (hz:es.length<=UU) (hl:es.length=ms.length):PE X (.Tuple es k pos) (tup ms):=fun I q=>by
 obtain⟨ts,L1,e1,q⟩:=R.of q;cases q;have len:∀{ms:List SE} {φ L ts L1},iM ms φ L=.ok ts L1->ts.length=ms.length:=fun {ms}=>by
  induction ms with
  | nil=>intro φ L ts L1 h;cases h;rfl
  | cons m ms ih =>
   intro φ L ts L1 h;obtain⟨t,L1,e1,h⟩:=R.of h;obtain⟨ts,L2,e2,h⟩:=R.of h;cases h;simp [ih e2]
 have hz':ts.length<=UU:=by rw [len e1,<- hl];exact hz
 refine wpAny_Tuple_spliced (thn (h pos I e1) fun us s1 ⟨g1,l1,I1,r⟩=>⟨by rw [<- UL r];exact hz',?_⟩);exact⟨_,l1.trans (Le.lay I1.fresh),I1.laid (t':=s1.toks) (fun b u e=>Uj _ e) (UH _) (Us _ rfl),r.tup (Le.lay I1.fresh) (.inl aw) ⟨rfl,rfl⟩ rfl hz'⟩
end
section
variable {X:Cx} {pins:bg} {φ:Fr} {g g1:G} {L L':aa} {s s':Uu} {w:T} {u:Uq} {e a b:Expr} {es:List Expr} {m ma mb:SE} {pos:Pos} {x:Str} {st:Stmt} {rest:List Stmt} {ms m1 m2:SS}
theorem xI:PS X st gf:=fun _ h=>absurd rfl h
theorem Bp:xD X [] (ab []):=fun I _=>wpAny_execs_nil ⟨_,.refl _,I⟩
theorem xJ {r:List SS} (h1:PS X st ms) (h2:xD X rest (ab r)):xD X (st::rest) (ab (ms::r)):=fun {pins φ g L s} I h=>by
 have e:ab (ms::r) φ L=(ms φ L).next (ab r):=rfl
 rw [e] at h ⊢;refine wpAny_execs_cons (thn (h1 I fun z=>h (by rw [z];rfl)) fun f s1 q=>?_);cases o:ms φ L with
 | bad=>rw [o] at h;exact absurd rfl h
 | nx φ1 L1 =>
  rw [o] at q h;obtain⟨g',l,q⟩:=q;cases f <;> first|exact q.elim|skip
  exact thn (h2 q h) fun _ _ z=>z.le l
 | _ =>
  rw [o] at q;obtain⟨g',l,q⟩:=q;cases f <;> first|exact q.elim|exact⟨g',l,q⟩
theorem Bq:PS X (.Pass pos) pass:=fun I _=>wpAny_Pass ⟨_,.refl _,I⟩
theorem ES:PS X (.Break pos) brk:=fun I _=>wpAny_Break ⟨_,.refl _,I⟩
theorem ET:PS X (.Continue pos) cnt:=fun I _=>wpAny_Continue ⟨_,.refl _,I⟩
theorem Inv.quiet (I:Inv X pins φ g L s):interactive X.env=false:=by simp [interactive,I.ok.kind]
theorem ij {α:Type} {r:R α} {f:α->aa->O} (h:O.of r f≠.bad):∃a L,r=.ok a L/\O.of r f=f a L/\f a L≠.bad:=by
 cases r with
 | bad=>exact absurd rfl h
 | ok a L=>exact⟨a,L,rfl,rfl,h⟩
noncomputable def i9:Expr->Bool
 | .ListComp ..=>false
 | .SetComp ..=>false
 | .DictComp ..=>false
 | _=>true
theorem jz {t:Option Expr} {l:Nat} {env:Env} (h:i9 e=true):swapsWith e t l env=pure false:=by
 cases e <;> first|rfl|cases h
theorem EU (he:PE X e m) (hs:i9 e=true):PS X (.Expr e pos) (gg m):=fun I h=>by
 obtain⟨t,L1,e1,e2,h⟩:=ij h;rw [show gg m _ _=_ from e2];exact wpAny_Expr_any (thn (he I e1) fun v s1 ⟨g1,l1,I1,r1⟩=>⟨g1,l1,I1⟩) I.quiet (jz hs)
theorem EV (he:PE X e m):PS X (.Return (some e) pos) (ret m):=fun I h=>by
 obtain⟨t,L1,e1,e2,h⟩:=ij h;rw [show ret m _ _=_ from e2];exact wpAny_Return_some (thn (he I e1) fun v s1 ⟨g1,l1,I1,r1⟩=>⟨g1,l1,⟨_,I1⟩,r1⟩)
theorem Br:PS X (.Return none pos) (ret (c .cm)):=fun I _=>wpAny_Return_none ⟨_,.refl _,⟨_,I⟩,.cm⟩
theorem IE {k:Expr} {mk:ST} {sa sb:List Stmt} (hk:PT X k mk) (ha:xD X sa m1) (hb:xD X sb m2):PS X (.If k sa sb pos) (iff mk m1 m2):=fun I h=>by
 obtain⟨k,L1,e1,e2,h⟩:=ij h;rw [show iff mk m1 m2 _ _=_ from e2];refine wpAny_If (thn (hk _ (.inl rfl) I e1) fun d s1 ⟨g1,l1,I1,e⟩=>?_);subst e;cases d with
 | true=>exact thn (ha I1 h) fun _ _ z=>z.le l1
 | false=>exact thn (hb I1 h) fun _ _ z=>z.le l1
theorem qO {N:List Str} (hN:N.Nodup) {i j:Nat} {x:Str} (a:N[i]?=some x) (b:N[j]?=some x):i=j:=by
 obtain⟨h1,e1⟩:=UI.mp a;obtain⟨h2,e2⟩:=UI.mp b;exact(List.getElem_inj hN).mp (e1.trans e2.symm)
structure s9 (X:Cx) (i:Nat) (x:Str):Prop where
 nd:X.N.Nodup
 ix:X.N[i]?=some x
 loc:Loc X.env.scope x
 fn:X.fn x=true\/X.env.scope.names.lookup x=some .local
theorem mx {Md:Model} {A:Vj} {E:Uq->Uu->Prop} {i:Nat} {t:T} {Q:Unit->Uu->Prop} (I:Inv X pins φ g L s) (S:s9 X i x) (r:RT g none t u)
  (h:∀s',Inv X pins (φ.set i (some t)) g L s'->(∃a,V6 a s.heap s'.heap/\(a=X.env.locals\/X.env.cells.lookup x=some a))->Q () s'):UK Md A (storeName X.env x u) Q E s:=by
 obtain⟨m,hn,hl⟩:=id I.loc;have Mp:(X.env.scope.kind == .class || (X.env.scope.kind == .module && X.env.locals != X.env.globals))=false:=by rw [I.ok.kind];rfl
 have O8:i<φ.length:=by rw [I.len];exact(UI.mp S.ix).1
 have HX:=I.HX;have tracked:∀{a:U2} {h':Heap},g.H a=none->V6 a s.heap h'->Bb g.H h':=fun {a h'} hf hs b c o e=>(hs.2 b fun z=>by rw [z,hf] at e;cases e).trans (I.hok b c o e)
 have IF:∀{a:U2} {h':Heap},X.s₀.heap.objs.size<=a->V6 a s.heap h'->Un X.ex X.H₀ g.H X.s₀.heap h':=fun {a h'} ha hs =>
  ⟨fun b o e n hx=>(hs.2 b (U0 (UY (UP e) ha))).trans (I.base.keep b o e n hx),I.base.free,I.base.cz⟩
 rcases S.loc with hk|hk
 ·refine wpAny_storeName_local hk hn (fun h' hn' hs=>?_) Mp
  refine h _ { I with base:=IF I.ok.above hs,loc:=⟨_,hn',fun j y v' e1 e2 e3=>?_⟩,cell:=fun y c e=>?_,pin:=fun p hp=>?_,hok:=tracked I.free hs,len:=by simpa using I.len } ⟨_,hs,.inl rfl⟩
  ·by_cases hj:j=i
   ·subst hj
    rw [S.ix] at e1;cases e1;rw [ZC O8] at e2;cases e2;exact⟨u,r,.inl ⟨hk,by simp⟩⟩
   ·rw [Yj (VU hj)] at e2
    obtain⟨u',r',q⟩:=hl j y v' e1 e2 e3;refine⟨u',r',?_⟩;rcases q with⟨k,e⟩|⟨k,c,e,z⟩
    ·refine .inl ⟨k,?_⟩
     have:y≠x:=fun e=>hj (qO S.nd e1 (e ▸ S.ix))
     simp [this,e]
    ·exact .inr ⟨k,c,e,z.sameBut hs (HX y c e)⟩
  ·obtain⟨w',z⟩:=I.cell y c e
   exact⟨w',z.sameBut hs (HX y c e)⟩
  ·obtain⟨e,n,ne,d⟩:=I.pin p hp
   exact⟨(hs.2 p.1 ne).trans e,n,ne,d⟩
 ·have Mq:X.fn x=true:=by
   rcases S.fn with z|z
   ·exact z
   ·rw [z] at hk;cases hk
  obtain⟨c,hc⟩:=I.ok.has x (.inl hk);obtain⟨w',z⟩:=I.cell x c hc;refine wpAny_storeName_cell I.ok.kind hk hc z (fun h' hc' hs=>?_);obtain⟨oc,QK,Mr⟩:=id z;refine h { s with heap:=h' } { I with base:=IF (I.ok.QH x c Mq hc) hs,loc:=⟨m,hn.sameBut hs (VU (HX x c hc)),fun j y v' e1 e2 e3=>?_⟩,cell:=fun y c' e=>?_,pin:=fun p hp=>?_,hok:=tracked (I.qN x c hc) hs,len:=by simpa using I.len } ⟨c,hs,.inr hc⟩
  ·by_cases hj:j=i
   ·subst hj
    rw [S.ix] at e1;cases e1;rw [ZC O8] at e2;cases e2;exact⟨u,r,.inr ⟨.inl hk,c,hc,hc'⟩⟩
   ·rw [Yj (VU hj)] at e2
    obtain⟨u',r',q⟩:=hl j y v' e1 e2 e3;refine⟨u',r',?_⟩;rcases q with q|⟨k,c',e,z'⟩
    ·exact .inl q
    ·refine .inr ⟨k,c',e,z'.sameBut hs ?_⟩
     rintro rfl;exact hj (qO S.nd e1 (I.ok.inj _ _ _ e hc ▸ S.ix))
  ·by_cases HZ:c'=c
   ·subst HZ;exact⟨_,hc'⟩
   ·obtain⟨w2,z2⟩:=I.cell y c' e
    exact⟨w2,z2.sameBut hs HZ⟩
  ·obtain⟨e,n,ne,d⟩:=I.pin p hp
   refine⟨(hs.2 p.1 ?_).trans e,n,ne,d⟩;intro q;rw [q,QK] at e;have q':oc=p.2:=V7 e
   exact d w' (by rw [<- q'];exact Mr)
noncomputable def PG (X:Cx) (tg:Expr) (m:Tg):Prop:=∀{pins:bg} {φ φ':Fr} {g:G} {L:aa} {s:Uu} {t:T} {u:Uq},Inv X pins φ g L s->RT g none t u->m.set t φ=some φ'->UK (model X.prog X.w) X.A (assign tg X.env u) (fun _ s'=>Inv X pins φ' g L s') F0 s
theorem lM {i:Nat} (S:s9 X i x):PG X (.Name x pos) (.one i):=fun I r h=>by cases h;exact wpAny_assign_Name (mx I S r fun s' I' _=>I')
noncomputable def IG (X:Cx) (ts:List Expr) (is:List Nat):Prop:=∀{pins:bg} {φ:Fr} {g:G} {L:aa} {s:Uu} {xs:List T} {us:List Uq},Inv X pins φ g L s->cP g xs us->xs.length=is.length ->
 UK (model X.prog X.w) X.A (assignInOrder ((assignEach ts X.env).map (·.2)) us) (fun _ s'=>Inv X pins (sets is xs φ) g L s') F0 s
theorem Bs:IG X [] []:=fun I r _=>by cases r with|nil=>exact assignInOrder_nil I|cons _ _=>contradiction
theorem xK {i:Nat} {is:List Nat} {ts:List Expr} (S:s9 X i x) (h:IG X ts is):IG X (.Name x pos::ts) (i::is):=fun I r hl=>by
 cases r with
 | nil=>cases hl
 | cons r1 r2 =>
  show UK _ _ (assignInOrder (assign (.Name x pos) X.env::(assignEach ts X.env).map (·.2)) _) _ _ _;exact assignInOrder_cons (thn (lM S I r1 rfl) fun _ s1 I1=>h I1 r2 (by simpa using hl))
theorem Inv.tup {xs:List T} (I:Inv X pins φ g L s) (r:RT g none (.tup xs) u):∃a its,u=.ref a/\IsTup s.heap a its/\cP g xs its.toList/\xs.length<=UU:=by
 cases r with
 | tup hk hc hd hz hl hi=>exact⟨_,_,rfl,⟨_,I.kn hk,hc.1,_,hd⟩,dM (by simpa using hl) fun i x v e1 e2=>hi i x v e1 (by simpa using e2),hz⟩
theorem xM {is:List Nat} {ts:List Expr} {k:Nat} (h:IG X ts is) (hn:(assignEach ts X.env).length=is.length) (lN:(assignEach ts X.env).findIdx? (·.1)=none):PG X (.Tuple ts k pos) (.many is):=fun {_ _ _ _ _ _ t _} I r hw=>by
 cases t <;> try cases hw
 rename_i xs;have hw':(if xs.length=is.length then some (sets is xs _) else none)=some _:=hw
 clear hw;rename_i φ φ' _ _ _ _;split at hw'
 ·rename_i hl
  cases hw';obtain⟨a,its,rfl,ht,rv,hz⟩:=I.tup r;refine assign_Tuple_tuple I.ok.hd ht (by rw [hn,<- hl,UL rv];simp) lN fun h' hx=>?_
  exact h (I.kept (t':=_) fun b o e=>hx b o (U0 (UP e)) e) rv hl
 ·cases hw'
theorem ta {tg:Expr} {t:Tg} (he:PE X e m) (hg:PG X tg t) (hs:swapsWithSole [tg] e pos.line X.env=pure false) (hw:swappedStores [tg] e X.env=pure none) (h1:(assignEach [tg] X.env).map (·.2)=[assign tg X.env]):PS X (.Assign [tg] e pos) (asg t m):=fun {pins φ g L s} I h=>by
 obtain⟨v,L1,e1,e2,h⟩:=ij h;cases ef:t.set v φ with
 | none=>simp only [ef] at h;exact absurd rfl h
 | some φ1 =>
  have e3:asg t m φ L=.nx φ1 L1:=by
   rw [show asg t m φ L=_ from e2];simp only [ef]
  rw [e3];refine wpAny_Assign_stores (thn (he I e1) fun v s1 ⟨g1,l1,I1,r1⟩=>?_) hs hw;rw [h1];exact thn (hg I1 r1 ef) fun _ s2 q=>⟨g1,l1,q⟩
theorem EW {op:Operator} {i:Nat} (S:s9 X i x) (he:PE X e m) (ho:xE X (inplaceOp op) (ag op)):PS X (.AugAssign (.Name x pos) op e pos') (aug op i m):=fun {pins φ g L s} I h=>by
 obtain⟨t,L1,e1,e2,h⟩:=ij h;rw [show aug op i m _ _=_ from e2];obtain⟨x0,L2,q1,e3⟩:=R.of e1;obtain⟨y,L3,q2,e4⟩:=R.of e3;unfold v at q1;cases ev:φ[i]? with
 | none=>rw [ev] at q1;cases q1
 | some o =>
  cases o with
  | none=>rw [ev] at q1;cases q1
  | some t0 =>
   rw [ev] at q1;cases q1;obtain⟨mm,hn,hl⟩:=I.loc;have QL:LM X.env.scope x:=by rcases S.loc with k|k;exact .inl k;exact .inr (.inl k)
   obtain⟨u,r,l⟩:=hl i x _ S.ix ev QL;refine wpAny_AugAssign_Name ?_;have go:UK (model X.prog X.w) X.A (eval e X.env) (fun w s₂=>UK (model X.prog X.w) X.A (inplaceOp op u w) (fun r s₃=>UK (model X.prog X.w) X.A (storeName X.env x r) (fun _=>SP X pins g (.nx (φ.set i (some t)) L1) .next) F0 s₃) F0 s₂) F0 s:=by
    refine thn (he I q2) fun w s1 ⟨g1,l1,I1,r1⟩=>thn (ho I1 (r.le l1) r1 e4) fun z s2 ⟨g2,l2,I2,r2⟩=>?_
    exact mx I2 S r2 fun s3 I3 _=>⟨g2,l1.trans l2,I3⟩
   rcases l with⟨hk,hm⟩|⟨hk,c,hc,hcell⟩
   ·exact wpAny_loadName_local I.ok.kind hk hn hm go
   ·rcases hk with hk|hk
    ·exact wpAny_loadName_cell I.ok.kind hk hc hcell go
    ·have hk:X.env.scope.names.lookup x=some .free:=hk
     rcases S.loc with k|k <;> (rw [k] at hk;cases hk)
theorem EX {k:Expr} {mk:ST} {sb:List Stmt} {mb:SS} (hk:PT X k mk) (hb:xD X sb mb) (n:Nat):PS X (.While k sb [] pos) (qD mk mb n):=fun {pins φ g L s} I h=>by
 refine wpAny_While (codeAny_whileLoop (fun n' s'=>∃φ' g' L',Le g g'/\Inv X pins φ' g' L' s'/\qD mk mb n' φ' L'≠.bad/\qD mk mb n' φ' L'=qD mk mb n φ L) ?_ n ⟨φ,g,L,.refl g,I,h,rfl⟩);rintro n' s1 ⟨φ1,g1,L1,l1,I1,h1,eq⟩;rw [<- eq];cases n' with
 | zero=>exact absurd rfl h1
 | succ n' =>
  obtain⟨b,L2,e1,e2,h2⟩:=ij h1;have e2':qD mk mb (n'+1) φ1 L1=_:=e2
  rw [e2'] at eq ⊢;refine wpAny_passesOwn WL (thn (hk _ (.inl rfl) I1 e1) fun b' s2 ⟨g2,l2,I2,e⟩=>?_);subst e;cases b' with
  | false=>exact wpAny_execs_nil ⟨g2,l1.trans l2,I2⟩
  | true =>
   rw [if_pos rfl] at h2 eq ⊢;rw [if_pos rfl];have hb':mb φ1 L2≠.bad:=fun z=>by rw [z] at h2;exact absurd rfl h2
   refine wpAny_passesOwn WL (thn (hb I2 hb') fun f s3 ⟨g3,l3,q3⟩=>?_);have Bc:=(l1.trans l2).trans l3
   cases eb:mb φ1 L2 with
   | bad=>exact absurd eb hb'
   | nx φ3 L3 =>
    rw [eb] at q3 h2 eq;cases f <;> first|exact q3.elim|exact⟨n',V9 _,φ3,g3,L3,Bc,q3,h2,rfl⟩
   | ct φ3 L3 =>
    rw [eb] at q3 h2 eq;cases f <;> first|exact q3.elim|exact⟨n',V9 _,φ3,g3,L3,Bc,q3,h2,rfl⟩
   | bk φ3 L3 =>
    rw [eb] at q3;cases f <;> first|exact q3.elim|exact⟨g3,Bc,q3⟩
   | rt t3 L3 =>
    rw [eb] at q3;cases f <;> first|exact q3.elim|exact⟨g3,Bc,q3⟩
end
section
variable {X:Cx} {pins:bg} {φ:Fr} {g g1:G} {L L':aa} {s s':Uu} {w t:T} {u:Uq} {e a b:Expr} {es:List Expr} {m ma mb:SE} {pos:Pos} {x:Str} {h':Heap} {xs:List T}
theorem pq {α:Type}:∀{L:List α} {n:Nat},n<L.length->∃c,at_ L n=some c
 | c::L,n,h=>by
  unfold at_
  split
  ·exact⟨c,rfl⟩
  ·exact pq (by simp at h;omega)
theorem Inv.view (I:Inv X pins φ g L s) (r:RT g none t u):∃p,RT g p (vw L t) u:=by
 cases r with
 | ref h =>
  rename_i n p;obtain⟨c,hc⟩:=pq (L:=L) (by rw [<- I.rel.len];exact fL h);obtain⟨q,h1,h2⟩:=I.rel.cells n c hc;rw [h] at h1;cases h1;exact⟨_,by show RT g _ ((at_ L n).getD .cm) _;rw [hc];exact h2⟩
 | _=>exact⟨none,by first|exact .cm|exact .bl _|exact .int _ _|exact .str _ _ (by assumption)|exact .ty _|exact .own (by assumption)|exact .tup (by assumption) (by assumption) (by assumption) (by assumption) (by assumption) (by assumption)|exact .lst (by assumption) (by assumption) (by assumption) (by assumption) (by assumption)|exact .aS (by assumption) (by assumption) (by assumption) (by assumption) (by assumption) (by assumption) (by assumption) (by assumption) (by assumption) (by assumption) (by assumption)|exact .obj (by assumption) (by assumption) (by assumption) (by assumption) (by assumption) (by assumption) (by assumption) (by assumption) (by assumption) (by assumption) (by assumption) (by assumption)⟩
theorem Inv.lst {p:Option (U2 × U2)} (I:Inv X pins φ g L s) (r:RT g p (.lst xs) u):∃a its n,u=.ref a/\s.heap.get? a=some { cls:=.type "list",data:=.seq its n }/\cP g xs its.toList/\xs.length<=UU:=by
 cases r with
 | lst ht hk hz hl hi=>exact⟨_,_,_,rfl,I.kn hk,dM (by simpa using hl) fun i x v e1 e2=>hi i x v e1 (by simpa using e2),hz⟩
theorem Inv.tupP {p:Option (U2 × U2)} (I:Inv X pins φ g L s) (r:RT g p (.tup xs) u):∃a its,u=.ref a/\IsTup s.heap a its/\cP g xs its.toList/\xs.length<=UU:=by
 obtain⟨_,_,_,_,_,rfl,hk,hc,hd,hz,hl,hi⟩:=r.tI;exact⟨_,_,rfl,⟨_,I.kn hk,hc.1,_,hd⟩,dM (by simpa using hl) fun i x v e1 e2=>hi i x v e1 (by simpa using e2),hz⟩
theorem af {h:Heap} {a:U2} {its:Array Uq} {n:Nat} (e:h.get? a=some { cls:=.type "list",data:=.seq its n }):h.IsList a its:=⟨_,e,rfl,n,rfl⟩
end
structure Turn (P:VB) (w:Wy) (tg:Expr) (g0:G) (xs:List T) (k:aa->Prop) (fp:List U2) (it:U2) (tn:Nat->Heap->Prop):Prop where
 mem:it∈fp
 obj:∀i h,tn i h->∀b∈fp,∃o,h.get? b=some o/\∀v,o.data≠.cell v
 keep:∀i h h',tn i h->(∀b∈fp,∀o,h.get? b=some o->h'.get? b=some o)->tn i h'
 item:∀{X:Cx},X.prog=P->X.w=w->∀{i:Nat} {pins:bg} {φ:Fr} {g:G} {L:aa} {s:Uu} {E:Uq->Uu->Prop} {x:T},Le g0 g->Inv X pins φ g L s->(∀b∈fp,gh X pins g.H b)->tn i s.heap->k L->xs[i]?=some x ->
  UK (model P w) X.A (pyNext (.ref it)) (fun r s1=>∃u,r=some u/\UK (model P w) X.A (letOwnedTupleGo tg (.ref it) u) (fun _ s2=>∃g',Le g g'/\Inv X pins φ g' L s2/\RT g' none x u/\tn (i+1) s2.heap/\∀b∈fp,g'.H b=none) E s1) E s
 done:∀{X:Cx},X.prog=P->X.w=w->∀{i:Nat} {pins:bg} {φ:Fr} {g:G} {L:aa} {s:Uu} {E:Uq->Uu->Prop},Le g0 g->Inv X pins φ g L s->(∀b∈fp,gh X pins g.H b)->tn i s.heap->k L->i=xs.length ->
  UK (model P w) X.A (pyNext (.ref it)) (fun r s1=>r=none/\Inv X pins φ g L s1) E s
 self:∀(A:Vj) (i:Nat) (s:Uu) (Q:Uq->Uu->Prop) (E:Uq->Uu->Prop),tn i s.heap->Q (.ref it) s->UK (model P w) A (pyIter (.ref it)) Q E s
noncomputable def H0 (X:Cx) (pins:bg) (φ:Fr) (g:G) (tg:Expr) (xs:List T) (k:aa->Prop) (L':aa) (Ms:Uq) (s2:Uu):Prop :=
 ∃(it:U2) (fp:List U2) (tn:Nat->Heap->Prop) (g':G),Ms=.ref it/\Le g g'/\Inv X pins φ g' L' s2/\Turn X.prog X.w tg g' xs k fp it tn/\tn 0 s2.heap/\∀b∈fp,gh X pins g'.H b
noncomputable def PI (X:Cx) (tg iter:Expr) (m:SI):Prop:=∀{pins:bg} {φ:Fr} {g:G} {L:aa} {s:Uu} {xs:List T} {k:aa->Prop} {L':aa},Inv X pins φ g L s->m φ L=.ok (xs,k) L' ->
 UK (model X.prog X.w) X.A (eval iter X.env) (fun v s1=>UK (model X.prog X.w) X.A (pyIter v) (H0 X pins φ g tg xs k L') F0 s1) F0 s
theorem uR {Md:Model} {A:Vj} {E:Uq->Uu->Prop} {s:Uu} {tg:Expr} {it:U2} {u:Uq} {o:Obj} {n:String} {vs:Array Uq} {Q:Unit->Uu->Prop} (ho:s.heap.get? it=some o) (hc:o.cls=.type n) (hd:o.data=.fields vs)
    (hn:["enumerate","zip","dict_itemiterator","dict_reverseitemiterator","odict_iterator","itertools.zip_longest","itertools.pairwise"].contains n=false) (hQ:Q () s):UK Md A (letOwnedTupleGo tg (.ref it) u) Q E s:=by
  unfold letOwnedTupleGo;cases tg <;> first
    | exact Uk hQ
    | (cases u <;> first
        | exact Uk hQ
        | (refine Ui (wpAny_load ho ?_)
           rw [hc,hd];show UK Md A (if (["enumerate","zip","dict_itemiterator","dict_reverseitemiterator","odict_iterator","itertools.zip_longest","itertools.pairwise"].contains n && vs[0]? == some (rawInt _))=true then _ else _) Q E s
           rw [if_neg (by intro h;rw [hn,W3] at h;cases h)];exact Uk hQ))
section
variable {P:VB} {wd:Wy} {tg:Expr} {g0:G} {xs:List T} {t:T} {L0:aa} {a it:U2}
theorem lO {o:Obj} {h:Heap} {vs:Array Uq} (e:h.get? it=some o) (d:o.data=.fields vs):∀b∈[it],∃o,h.get? b=some o/\∀v,o.data≠.cell v:=fun b hb=>by
 have z:b=it:=by simpa using hb
 subst z;exact⟨o,e,fun v z=>by rw [d] at z;cases z⟩
theorem gi {L:aa} (h:stays t L0 L):vw L t=vw L0 t:=by
 cases t with
 | ref n=>show(at_ L n).getD _=(at_ L0 n).getD _;rw [h n rfl]
 | _=>rfl
theorem wq (r0:RT g0 none t (.ref a)) (hv:vw L0 t=.lst xs):Turn P wd tg g0 xs (stays t L0) [it] it (fun i h=>h.IsListIter it a i) where
 mem:=by simp
 obj:=fun i h st=>by obtain⟨o,e,c,d⟩:=st;exact lO e d
 keep:=fun i h h' st k=>st.at fun o e=>k it (by simp) o e
 item:=by
  intro X hP hw i pins φ g L s E x l I hf st hk hx;subst hP hw;obtain⟨p,r⟩:=I.view (r0.le l);rw [gi hk,hv] at r;obtain⟨a',its,n,e1,e2,rv,_⟩:=I.lst r;cases e1;obtain⟨u,hu,ru⟩:=sY rv hx;refine wpAny_pyNext_list_item st (af e2) (x:=u) (by simpa using hu) fun h' eG sb=>?_
  have I1:Inv X pins φ g L { s with heap:=h' }:=I.turned (t':=s.toks) (ch:=[it]) (fun b o hb e=>(sb.2 b (by simpa using hb)).trans e) hf;obtain⟨o,e,c,d⟩:=id eG;exact⟨u,rfl,uR (s:={ s with heap:=h' }) e c d (by decide) ⟨g,.refl g,I1,ru,eG,fun b hb=>(hf b hb).1⟩⟩
 done:=by
  intro X hP hw i pins φ g L s E l I hf st hk hx;subst hP hw;obtain⟨p,r⟩:=I.view (r0.le l);rw [gi hk,hv] at r;obtain⟨a',its,n,e1,e2,rv,_⟩:=I.lst r;cases e1;have hl:=UL rv
  exact wpAny_pyNext_list_end I.ok.hd st (af e2) (by have z:=hl;simp at z ⊢;omega) fun h' eb=>⟨rfl,I.turned (t':=s.toks) (ch:=[it]) (fun b o hb e=>eb b o (by simpa using hb) e) hf⟩
 self:=fun _ _ _ _ _ st h=>wpAny_pyIter_listiter st h
theorem xN (r0:RT g0 none t (.ref a)) (hv:vw L0 t=.tup xs):Turn P wd tg g0 xs (stays t L0) [it] it (fun i h=>h.IsTupleIter it a i) where
 mem:=by simp
 obj:=fun i h st=>by obtain⟨o,e,c,d⟩:=st;exact lO e d
 keep:=fun i h h' st k=>st.at fun o e=>k it (by simp) o e
 item:=by
  intro X hP hw i pins φ g L s E x l I hf st hk hx;subst hP hw;obtain⟨p,r⟩:=I.view (r0.le l);rw [gi hk,hv] at r;obtain⟨a',its,e1,e2,rv,_⟩:=I.tupP r;cases e1;obtain⟨u,hu,ru⟩:=sY rv hx;refine wpAny_pyNext_tuple_item st (show s.heap.IsTuple a its from e2) (x:=u) (by simpa using hu) fun h' eG sb=>?_
  have I1:Inv X pins φ g L { s with heap:=h' }:=I.turned (t':=s.toks) (ch:=[it]) (fun b o hb e=>(sb.2 b (by simpa using hb)).trans e) hf;obtain⟨o,e,c,d⟩:=id eG;exact⟨u,rfl,uR (s:={ s with heap:=h' }) e c d (by decide) ⟨g,.refl g,I1,ru,eG,fun b hb=>(hf b hb).1⟩⟩
 done:=by
  intro X hP hw i pins φ g L s E l I hf st hk hx;subst hP hw;obtain⟨p,r⟩:=I.view (r0.le l);rw [gi hk,hv] at r;obtain⟨a',its,e1,e2,rv,_⟩:=I.tupP r;cases e1;have hl:=UL rv
  exact wpAny_pyNext_tuple_end I.ok.hd st (show s.heap.IsTuple a its from e2) (by have z:=hl;simp at z ⊢;omega) fun h' eb=>⟨rfl,I.turned (t':=s.toks) (ch:=[it]) (fun b o hb e=>eb b o (by simpa using hb) e) hf⟩
 self:=fun _ _ _ _ _ st h=>wpAny_pyIter_tupleiter st h
theorem tc {lo:Int} {n:Nat}:Turn P wd tg g0 (upTo lo n) (fun _=>True) [it] it (fun i h=>IsRangeIter h it (lo+(i:Nat) * 1) ((n:Int) - (i:Nat)) 1) where
 mem:=by simp
 obj:=fun i h st=>lO st rfl
 keep:=fun i h h' st k=>k it (by simp) _ st
 item:=by
  intro X hP hw i pins φ g L s E x l I hf st hk hx;subst hP hw;have W:=Walks.range (prog:=X.prog) (w:=X.w) I.ok.hd it lo 1 n
  have hx':i<n/\x=.int (lo+i):=by
   simp only [upTo,UM,List.getElem?_range'] at hx;by_cases hi:i<n
   ·simp [hi] at hx;exact⟨hi,hx.symm⟩
   ·simp [hi] at hx
  obtain⟨hi,rfl⟩:=hx';refine W.item i s _ _ hi st fun v h' tk hv eG kk=>?_
  obtain⟨t,rfl⟩:=hv;have I1:Inv X pins φ g L { s with heap:=h',toks:=tk }:=I.turned (ch:=[it]) (fun b o hb e=>kk b o (by simpa using hb) e) hf
  refine⟨_,rfl,uR (s:={ s with heap:=h',toks:=tk }) (n:="range_iterator") eG rfl rfl (by decide) ⟨g,.refl g,I1,?_,eG,fun b hb=>(hf b hb).1⟩⟩;rw [Int.mul_one];exact .int _ _
 done:=by
  intro X hP hw i pins φ g L s E l I hf st hk hx;subst hP hw;exact wpAny_pyNext_range_end I.ok.hd st (by simp [upTo] at hx;omega) fun h' eb=>⟨rfl,I.turned (t':=s.toks) (ch:=[it]) (fun b o hb e=>eb b o (by simpa using hb) e) hf⟩
 self:=fun _ _ _ _ _ st h=>wpAny_pyIter_rangeiter st h
theorem qP {z:Cs} {tk:Tok} (ty:String) (H3:ty="str_ascii_iterator"\/ty="str_iterator"):Turn P wd tg g0 (z.map fun ch=>.str [ch]) (stays (.str z) L0) [it] it (fun i h=>h.IsStrIter it ty ⟨z.toArray⟩ tk i) where
 mem:=by simp
 obj:=fun i h st=>by obtain⟨o,e,c,d⟩:=st;exact lO e d
 keep:=fun i h h' st k=>by obtain⟨o,e,r⟩:=st;exact⟨o,k it (by simp) o e,r⟩
 item:=by
  intro X hP hw i pins φ g L s E x l I hf st hk hx;subst hP hw;have wk:Walks X.prog X.w X.A it [it] [it] z.toArray.size (SignAt ⟨z.toArray⟩) (fun i h=>h.IsStrIter it ty ⟨z.toArray⟩ tk i):=by
   rcases H3 with e|e
   ·subst e;exact Walks.strAscii I.ok.hd it _ tk
   ·subst e;exact Walks.strWide I.ok.hd it _ tk
  have hn:["enumerate","zip","dict_itemiterator","dict_reverseitemiterator","odict_iterator","itertools.zip_longest","itertools.pairwise"].contains ty=false:=by
   rcases H3 with e|e <;> subst e <;> decide
  rw [UM] at hx;obtain⟨c0,O9,rfl⟩:=UA.mp hx;refine wk.item i s _ E (by simpa using (UI.mp O9).1) st fun v h' tk' hv eG kk=>?_
  obtain⟨c,u,hc',rfl⟩:=hv;have ec:c0=c:=by
   have:z[i]?=some c:=by simpa using hc'
   rw [O9] at this;exact V7 this
  subst ec;have I1:Inv X pins φ g L { s with heap:=h',toks:=tk' }:=I.turned (ch:=[it]) (fun b o hb e=>kk b o (by simpa using hb) e) hf
  obtain⟨o,e,ec,d⟩:=id eG;exact⟨_,rfl,uR (s:={ s with heap:=h',toks:=tk' }) e ec d hn ⟨g,.refl g,I1,.str [c0] u (by show 1<=UU;decide),eG,fun b hb=>(hf b hb).1⟩⟩
 done:=by
  intro X hP hw i pins φ g L s E l I hf st hk hx;subst hP hw;have wk:Walks X.prog X.w X.A it [it] [it] z.toArray.size (SignAt ⟨z.toArray⟩) (fun i h=>h.IsStrIter it ty ⟨z.toArray⟩ tk i):=by
   rcases H3 with e|e
   ·subst e;exact Walks.strAscii I.ok.hd it _ tk
   ·subst e;exact Walks.strWide I.ok.hd it _ tk
  have hi:i=z.toArray.size:=by simpa using hx
  subst hi;exact wk.done s _ E st fun h' tk kk=>⟨rfl,I.turned (ch:=[it]) (fun b o hb e=>kk b o (by simpa using hb) e) hf⟩
 self:=fun A i s Q E st h=>by
  rcases H3 with e|e
  ·subst e;exact wpAny_pyIter_striter_ascii st h
  ·subst e;exact wpAny_pyIter_striter_wide st h
theorem qQ (h:Heap) (a:U2) (o:Obj) (ha:a≠h.objs.size):(h.push o).get? a=h.get? a:=by
 cases h;simp only [Heap.push,Heap.get?,XI];rw [if_neg ha]
theorem xO:∀(xs:List T) (n i:Nat),(num n xs)[i]?=(xs[i]?).map fun x=>.tup [.int ((n+i:Nat):Int),x]
 | [],n,i=>by simp [num]
 | x::xs,n,0=>by simp [num]
 | x::xs,n,i+1=>by show(num (n+1) xs)[i]?=_;rw [xO xs (n+1) i,show n+1+i=n+(i+1) by omega];simp
theorem uS:∀(xs:List T) (n:Nat),(num n xs).length=xs.length
 | [],n=>rfl
 | x::xs,n=>by simp [num,uS xs]
theorem Inv.pair {X:Cx} {pins:bg} {φ:Fr} {g:G} {L:aa} {s:Uu} {h2:Heap} {t':Nat} {ch:List U2} {x y:T} {u v:Uq} (I:Inv X pins φ g L s) (r1:RT g none x u) (r2:RT g none y v) (hf:∀b∈ch,gh X pins g.H b) (bN:∀b∈ch,b<s.heap.objs.size)
  (ht:h2.get? s.heap.objs.size=some { cls:=.type "tuple",data:=.seq #[u,v] }) (k:∀b o,b∉ch->s.heap.get? b=some o->h2.get? b=some o) :
  ∃g',Le g g'/\Inv X pins φ g' L { s with heap:=h2,toks:=t' }/\RT g' none (.tup [x,y]) (.ref s.heap.objs.size)/\∀b∈ch,g'.H b=none:=by
 have I1:=I.laid (a:=s.heap.objs.size) (o:={ cls:=.type "tuple",data:=.seq #[u,v] }) (h':=s.heap.push { cls:=.type "tuple",data:=.seq #[u,v] }) (t':=t') (fun b u q=>Uj _ q) (UH _) (Us _ rfl);have l:=Le.lay (o:={ cls:=.type "tuple",data:=.seq #[u,v] }) I.fresh
 have fr:∀b∈ch,(g.lay s.heap.objs.size { cls:=.type "tuple",data:=.seq #[u,v] }).H b=none:=fun b hb=>(aE (U0 (bN b hb))).trans (hf b hb).1
 refine⟨_,l,Inv.turned (s:={ s with heap:=s.heap.push { cls:=.type "tuple",data:=.seq #[u,v] },toks:=t' }) (t':=t') (ch:=ch) I1 (fun b o hb q=>?_) (fun b hb=>⟨fr b hb,(hf b hb).2⟩),cP.tup (us:=[u,v]) (.cons r1 (.cons r2 .nil)) l (.inl aw) ⟨rfl,rfl⟩ rfl (by show 2<=UU;decide),fr⟩;by_cases Dv:b=s.heap.objs.size
 ·subst Dv
  have q2:(s.heap.push { cls:=.type "tuple",data:=.seq #[u,v] }).get? s.heap.objs.size=some o:=q;rw [Us _ rfl] at q2;rw [ht,<- q2]
 ·exact k b o hb ((qQ _ _ _ Dv).symm.trans q)
theorem wt {elts:List Expr} {x1:Nat} {pos:Pos} {e:U2} (hne:e≠it) (r0:RT g0 none t (.ref a)) (hv:vw L0 t=.lst xs):Turn P wd (.Tuple elts x1 pos) g0 (num 0 xs) (stays t L0) [e,it] e (fun i h=>(∃old,IsEnum h e it ((i:Nat):Int) old)/\h.IsListIter it a i) where
 mem:=by simp
 obj:=fun i h st b hb=>by
  obtain⟨⟨old,td⟩,bH⟩:=st;rcases(by simpa using hb:b=e\/b=it) with z|z
  ·subst z
   exact⟨_,td,fun v z=>nomatch z⟩
  ·subst z
   obtain⟨o,e,c,d⟩:=bH;exact⟨o,e,fun v z=>by rw [d] at z;cases z⟩
 keep:=fun i h h' st k=>by
  obtain⟨⟨old,td⟩,bH⟩:=st;exact⟨⟨old,k e (by simp) _ td⟩,bH.at fun o q=>k it (by simp) o q⟩
 item:=by
  intro X hP hw i pins φ g L s E x l I hf st hk hx;subst hP hw;obtain⟨⟨old,td⟩,bH⟩:=st;obtain⟨p,r⟩:=I.view (r0.le l);rw [gi hk,hv] at r;obtain⟨a',its,n,e1,e2,rv,_⟩:=I.lst r;cases e1;rw [xO,UA] at hx;obtain⟨y,hy,rfl⟩:=hx;obtain⟨u,hu,ru⟩:=sY rv hy;refine wpAny_pyNext_enum_item td bH (af e2) (x:=u) (by simpa using hu) hne fun h1 QM xP QN Pa tf=>?_
  refine⟨_,rfl,wpAny_letOwnedTupleGo_enum QM fun h2 QO sM=>?_⟩
  replace sM:V6 e h1 h2:=sM
  have QP:e<s.heap.objs.size:=UP td;have TK:it<s.heap.objs.size:=by obtain⟨o,q,_⟩:=id bH;exact UP q
  have QR:h2.get? s.heap.objs.size=some { cls:=.type "tuple",data:=.seq #[.int i s.toks,u] }:=(sM.2 _ (Vw QP)).trans QN;obtain⟨g',l',I',r',f'⟩:=I.pair (t':=s.toks+1) (ch:=[e,it]) (.int (i:Int) s.toks) ru hf (fun b hb=>by rcases(by simpa using hb:b=e\/b=it) with z|z <;> rw [z] <;> assumption) QR fun b o hb q=>by
   have hb1:b≠e:=fun z=>hb (by simp [z])
   have wu:b≠it:=fun z=>hb (by simp [z])
   exact(sM.2 b hb1).trans (tf b o hb1 wu q)
  refine⟨g',l',I',by simpa using r',⟨⟨u,?_⟩,xP.at fun o q=>(sM.2 it (VU hne)).trans q⟩,f'⟩;show IsEnum h2 e it (((i+1:Nat)):Int) u
  rw [show(((i+1:Nat)):Int)=(i:Int)+1 by push_cast;rfl];exact QO
 done:=by
  intro X hP hw i pins φ g L s E l I hf st hk hx;subst hP hw;obtain⟨⟨old,td⟩,bH⟩:=st;obtain⟨p,r⟩:=I.view (r0.le l);rw [gi hk,hv] at r;obtain⟨a',its,n,e1,e2,rv,_⟩:=I.lst r;cases e1;have hl:=UL rv
  rw [uS] at hx;exact wpAny_pyNext_enum_end I.ok.hd td bH (af e2) (by have z:=hl;simp at z ⊢;omega) fun h' eb=>⟨rfl,I.turned (t':=s.toks) (ch:=[e,it]) (fun b o hb e=>eb b o (fun z=>hb (by simp [z])) e) hf⟩
 self:=fun _ _ _ _ _ st h=>by obtain⟨⟨old,td⟩,_⟩:=st;exact wpAny_pyIter_enum td h
end
section
variable {X:Cx} {tg e a b:Expr} {m ma mb:SE} {pos p QS:Pos}
theorem aG {α:Type} {c:Prop} [Decidable c] {r:R α} {a:α} {L:aa} (h:cx c r=.ok a L):c/\r=.ok a L:=by
 unfold cx at h;split at h
 ·exact⟨by assumption,h⟩
 ·cases h
theorem IH {φ:Fr} {L L':aa} {t:T} (h:m φ L=.ok t L'):iM [m] φ L=.ok [t] L':=by simp [iM,R.bind,h]
theorem Mt {φ:Fr} {L L1 L':aa} {t u:T} (h:ma φ L=.ok t L1) (h2:mb φ L1=.ok u L'):iM [ma,mb] φ L=.ok [t,u] L':=by simp [iM,R.bind,h,h2]
theorem EY {φ:Fr} {L L':aa} {xs:List T} {k:aa->Prop} (h:src m φ L=.ok (xs,k) L'):∃t,m φ L=.ok t L'/\items t L'=some xs/\k=stays t L':=by
 obtain⟨t,L1,e1,h⟩:=R.of h;cases ei:items t L1 with
 | none=>rw [ei] at h;cases h
 | some ys=>rw [ei] at h;cases h;exact⟨t,e1,ei,rfl⟩
theorem Inv.II {X:Cx} {pins:bg} {φ:Fr} {g:G} {L:aa} {s:Uu} {xs:List T} {k:aa->Prop} {o:Obj} {tn:Nat->Heap->Prop} (I:Inv X pins φ g L s) (T:Turn X.prog X.w tg g xs k [s.heap.objs.size] s.heap.objs.size tn) (h0:tn 0 (s.heap.push o)):H0 X pins φ g tg xs k L (.ref s.heap.objs.size) { s with heap:=s.heap.push o }:=by
 refine⟨_,_,_,g,rfl,.refl g,I.kept (t':=s.toks) fun b o e=>Uj _ e,T,h0,fun b hb=>?_⟩;have z:b=s.heap.objs.size:=by simpa using hb
 subst z;exact I.sZ (UH _) I.fresh
theorem H0.le {X:Cx} {pins:bg} {φ:Fr} {g g1:G} {L':aa} {xs:List T} {k:aa->Prop} {u:Uq} {s':Uu} (h:H0 X pins φ g1 tg xs k L' u s') (l:Le g g1):H0 X pins φ g tg xs k L' u s':=let ⟨a,b,c,d,e,f,r⟩:=h;⟨a,b,c,d,e,l.trans f,r⟩
theorem RT.sV {g:G} {p:Option (U2 × U2)} {t:T} {L:aa} {z:Cs} {x:Str} {k:Tok} (r:RT g p t (.str x k)) (e:vw L t=.str z):t=.str z:=by
 cases t with
 | ref n=>cases r
 | _=>exact e
theorem ki (he:PE X e m):PI X tg e (src m):=fun I h=>by
 obtain⟨t,e1,ei,rfl⟩:=EY h;refine thn (he I e1) fun v s1 ⟨g1,l1,I1,r1⟩=>?_
 obtain⟨p,r⟩:=I1.view r1;unfold items at ei;cases ev:vw _ t with
 | lst xs =>
  rw [ev] at ei r;cases ei;obtain⟨a,its,n,rfl,e2,rv,_⟩:=I1.lst r;exact wpAny_pyIter_list (af e2) ((I1.II (wq r1 ev) ⟨_,Us _ rfl,rfl,rfl⟩).le l1)
 | tup xs =>
  rw [ev] at ei r;cases ei;obtain⟨a,its,rfl,e2,rv,_⟩:=I1.tupP r;exact wpAny_pyIter_tuple (show s1.heap.IsTuple a its from e2) ((I1.II (xN r1 ev) ⟨_,Us _ rfl,rfl,rfl⟩).le l1)
 | str z =>
  rw [ev] at ei r;cases ei;obtain⟨tk,rfl,hz⟩:=r.jh;obtain rfl:=r1.sV ev;cases ha:(⟨z.toArray⟩:Str).cps.all (·<128)
  ·exact wpAny_pyIter_wide ha ((I1.II (qP _ (.inr rfl)) ⟨_,Us _ rfl,rfl,rfl⟩).le l1)
  ·exact wpAny_pyIter_ascii ha ((I1.II (qP _ (.inl rfl)) ⟨_,Us _ rfl,rfl,rfl⟩).le l1)
 | _=>rw [ev] at ei;cases ei
theorem qR {X:Cx} {pins:bg} {φ:Fr} {g:G} {L:aa} {s:Uu} {E:Uq->Uu->Prop} {lo hi:Int} {t u v:Tok} {tk:Nat} (I:Inv X pins φ g L s) (h1:sT lo) (h2:sT hi) :
  UK (model X.prog X.w) X.A (pyIter (.ref s.heap.objs.size)) (H0 X pins φ g tg (upTo lo (hi - lo).toNat) (fun _=>True) L) E { s with heap:=s.heap.push { cls:=.type "range",data:=.fields #[.int lo t,.int hi u,.int 1 v] },toks:=tk }:=by
 refine wpAny_pyIter_range (IsRange.new ..) (small_one h1.1 h1.2 h2.1 h2.2) ?_;have I1:Inv X pins φ g L { s with heap:=s.heap.push { cls:=.type "range",data:=.fields #[.int lo t,.int hi u,.int 1 v] },toks:=tk }:=I.kept fun b o e=>Uj _ e
 refine I1.II tc ?_;have e2:(((hi - lo).toNat:Nat):Int) - ((0:Nat):Int)=Builtin.Range.rangeSize lo hi 1:=by rw [rangeSize_one];split <;> omega
 show IsRangeIter _ _ (lo+((0:Nat):Int) * 1) ((((hi - lo).toNat:Nat):Int) - ((0:Nat):Int)) 1;rw [show lo+((0:Nat):Int) * 1=lo by simp,e2];exact Us _ rfl
theorem xQ {φ:Fr} {L L':aa} {xs:List T} {k:aa->Prop} (h:xw ma mb φ L=.ok (xs,k) L'):∃i j L1,ma φ L=.ok (.int i) L1/\mb φ L1=.ok (.int j) L'/\sT i/\sT j/\xs=upTo i (j - i).toNat/\k=fun _=>True:=by
 obtain⟨x,L1,e1,h⟩:=R.of h;obtain⟨y,L2,e2,h⟩:=R.of h;cases x with
 | int i =>
  cases y with
  | int j =>
   obtain⟨q,h⟩:=aG h;cases h;exact⟨_,_,L1,e1,e2,q.1,q.2,rfl,rfl⟩
  | _=>cases h
 | _=>cases h
theorem Bt (hg:Gl X "range") (hm:X.mg "range"=none) (ha:PE X a ma) (hs:bo a=true):PI X tg (.Call (.Name "range" p) [a] [] pos) (xw (c (.int 0)) ma):=fun I h=>by
 obtain⟨i,j,L1,e1,e2,z1,z2,rfl,rfl⟩:=xQ h;cases e1;refine Call_ (fX I hg hm boot_range (Xc (thn (jy ha ph hs pos I (IH e2)) fun us s1 ⟨g1,l1,I1,r1⟩=>?_) (aD hs) rfl) (by decide) (by decide));cases r1 with
 | cons r rr =>
  cases rr;obtain⟨_,rfl⟩:=r.iI;exact call_range_1 (wpAny_mono (qR I1 z1 z2) (fun _ _ z=>z.le l1) fun _ _ z=>z)
theorem Bu (hg:Gl X "range") (hm:X.mg "range"=none) (ha:PE X a ma) (hb:PE X b mb) (hs:bo a=true) (sM:bo b=true):PI X tg (.Call (.Name "range" p) [a,b] [] pos) (xw ma mb):=fun I h=>by
 obtain⟨i,j,L1,e1,e2,z1,z2,rfl,rfl⟩:=xQ h;refine Call_ (fX I hg hm boot_range (Xc (thn (jy ha (jy hb ph sM) hs pos I (Mt e1 e2)) fun us s1 ⟨g1,l1,I1,r1⟩=>?_) (aD hs) (by rw [aD sM];rfl)) (by decide) (by decide));cases r1 with
 | cons r rr =>
  cases rr with
  | cons r' rr =>
   cases rr;obtain⟨_,rfl⟩:=r.iI;obtain⟨_,rfl⟩:=r'.iI;exact call_range_2 (wpAny_mono (qR I1 z1 z2) (fun _ _ z=>z.le l1) fun _ _ z=>z)
theorem EZ {elts:List Expr} {x1:Nat} {Mu:Pos} (hg:Gl X "enumerate") (hm:X.mg "enumerate"=none) (ha:PE X a ma) (hs:bo a=true):PI X (.Tuple elts x1 Mu) (.Call (.Name "enumerate" p) [a] [] pos) (LK ma):=fun I h=>by
 obtain⟨t,L1,e3,h⟩:=R.of h;refine wpAny_Call_Name_kw (fX I hg hm boot_enumerate ?_ (by decide) (by decide));refine Xc (thn (jy ha ph hs pos I (IH e3)) fun us s1 ⟨g1,l1,I1,r1⟩=>?_) (aD hs) rfl;cases r1 with
 | cons r rr =>
  cases rr;obtain⟨p,rv⟩:=I1.view r;cases ev:vw L1 t with
  | lst ys =>
   rw [ev] at h rv;cases h;obtain⟨a,its,n,rfl,e2,rr,_⟩:=I1.lst rv;refine call_enumerate_list (af e2) fun h' he hit hz' hk=>wpAny_pyIter_enum he ?_
   refine⟨s1.heap.objs.size+1,[s1.heap.objs.size+1,s1.heap.objs.size],_,g1,rfl,l1,I1.kept (t':=s1.toks) hk,wt (Nat.succ_ne_self _) r ev,⟨⟨_,he⟩,hit⟩,fun b hb=>?_⟩;have hb':s1.heap.objs.size<=b:=by
    rcases(by simpa using hb:b=s1.heap.objs.size+1\/b=s1.heap.objs.size) with z|z <;> rw [z]
    ·exact Wv _
    ·exact UH _
   exact I1.sZ hb' (I1.hok.fresh hb')
  | _=>rw [ev] at h;cases h
theorem ji {fp:List U2} {h:Heap} {b:U2} {o:Obj} (hb:b∈fp) (e:h.get? b=some o):(b,o)∈fp.filterMap fun b=>(h.get? b).map fun o=>(b,o):=YH.mpr ⟨b,hb,by rw [e];rfl⟩
theorem Inv.pinned {X:Cx} {pins:bg} {φ:Fr} {g:G} {L:aa} {s:Uu} {fp:List U2} (I:Inv X pins φ g L s) (hf:∀b∈fp,gh X pins g.H b) (ho:∀b∈fp,∃o,s.heap.get? b=some o/\∀v,o.data≠.cell v) :
  Inv X (pins++fp.filterMap fun b=>(s.heap.get? b).map fun o=>(b,o)) φ g L s :=
 I.iN fun p hp=>(Uz.mp hp).elim (I.pin p) fun z=>by
  obtain⟨b,hb,e⟩:=YH.mp z;obtain⟨o,e',d⟩:=ho b hb;rw [e'] at e;cases e;exact⟨e',(hf b hb).1,(hf b hb).2.1,d⟩
theorem Inv.my {X:Cx} {pins pl:bg} {φ:Fr} {g:G} {L:aa} {s:Uu} (I:Inv X (pins++pl) φ g L s):Inv X pins φ g L s:=I.iN fun p hp=>I.pin p (Uv _ hp)
noncomputable def jj:Expr->Bool
 | .Set ..=>false
 | _=>true
theorem uT {env:Env} (h:jj e=true):∀x,foldedSetIterable e env x=pure x:=fun x=>by
 cases e <;> first|rfl|cases h
theorem E0 {sb:List Stmt} {mi:SI} {t:Tg} {mb:SS} (hi:PI X tg e mi) (hg:PG X tg t) (hb:xD X sb mb) (hs:jj e=true):PS X (.For tg e sb [] pos) (cf mi t mb):=fun {pins φ g L s} I h=>by
 obtain⟨⟨xs,k⟩,L1,e1,e2,h⟩:=ij h;rw [show cf mi t mb φ L=_ from e2];clear e2;refine wpAny_For (thn (hi I e1) fun v s1 h1=>thn h1 fun Ms s2 ⟨it,fp,tn,g2,e,l2,I2,T,bH,f2⟩=>?_) (uT hs);subst e;have th:∀{H':Hp},(∀b∈fp,H' b=none)->∀b∈fp,gh X pins H' b:=fun hn b hb=>⟨hn b hb,(f2 b hb).2⟩
 generalize ho:forL k t mb xs φ L1=o at h;refine codeAny_forLoop_any (fun n s'=>∃i φ' g' L',n=xs.length - i/\i<=xs.length/\Le g2 g'/\Inv X pins φ' g' L' s'/\tn i s'.heap/\(∀b∈fp,g'.H b=none)/\forL k t mb (xs.drop i) φ' L'=o) ?_ xs.length
  ⟨0,φ,g2,L1,rfl,U4 _,.refl g2,I2,bH,fun b hb=>(f2 b hb).1,ho⟩
 rintro n s3 ⟨i,φ3,g3,L3,rfl,hi,l3,I3,IJ,Pb,eq⟩;by_cases bN:i<xs.length
 ·rw [VZ bN] at eq
  unfold forL at eq;by_cases hk:k L3
  ·rw [if_pos hk] at eq
   refine wpAny_passesOwn WL (wpAny_mono (T.item rfl rfl l3 I3 (th Pb) IJ hk (Ge9 bN)) (fun r s4 ⟨u,hr,h4⟩=>?_) fun _ _ z=>z);subst hr;refine wpAny_passesOwn WL (wpAny_mono h4 (fun _ s5 ⟨g5,l5,I5,r5,E1,Mw⟩=>?_) fun _ _ z=>z);have QT:=I5.pinned (th Mw) (T.obj _ _ E1)
   cases ef:t.set xs[i] φ3 with
   | none=>rw [ef] at eq;exact absurd eq.symm h
   | some φ6 =>
    simp only [ef] at eq;refine wpAny_passesOwn WL (thn (hg QT r5 ef) fun _ s6 I6=>?_);have hb':mb φ6 L3≠.bad:=fun z=>by rw [z] at eq;exact absurd eq.symm h
    refine wpAny_passesOwn WL (thn (hb I6 hb') fun f s7 ⟨g7,l7,q7⟩=>?_);have Mx:=(l3.trans l5).trans l7
    have again:∀{φ7:Fr} {L7:aa},Inv X (pins++fp.filterMap fun b=>(s5.heap.get? b).map fun o=>(b,o)) φ7 g7 L7 s7->forL k t mb (xs.drop (i+1)) φ7 L7=o->∃m,m<xs.length - i/\∃j φ' g' L',m=xs.length - j/\j<=xs.length/\Le g2 g'/\Inv X pins φ' g' L' s7/\tn j s7.heap/\(∀b∈fp,g'.H b=none)/\forL k t mb (xs.drop j) φ' L'=o:=fun {φ7 L7} I7 h7=>by
     refine⟨xs.length - (i+1),by omega,i+1,φ7,g7,L7,rfl,bN,Mx,I7.my,T.keep _ _ _ E1 fun b hb o e=>(I7.pin (b,o) (UB _ (ji hb e))).1,fun b hb=>?_,h7⟩;obtain⟨o,e,d⟩:=T.obj _ _ E1 b hb;exact(I7.pin (b,o) (UB _ (ji hb e))).2.1
    cases eb:mb φ6 L3 with
    | bad=>exact absurd eb hb'
    | nx φ7 L7 =>
     rw [eb] at q7 eq;cases f <;> first|exact q7.elim|exact again q7 eq
    | ct φ7 L7 =>
     rw [eb] at q7 eq;cases f <;> first|exact q7.elim|exact again q7 eq
    | bk φ7 L7 =>
     rw [eb] at q7 eq;subst eq;cases f <;> first|exact q7.elim|exact⟨g7,l2.trans Mx,q7.my⟩
    | rt t7 L7 =>
     rw [eb] at q7 eq;subst eq;cases f <;> first|exact q7.elim|exact⟨g7,l2.trans Mx,⟨_,q7.1.choose_spec.my⟩,q7.2⟩
  ·rw [if_neg hk] at eq;exact absurd eq.symm h
 ·have ei:i=xs.length:=by omega
  rw [ZE (by omega)] at eq;unfold forL at eq;by_cases hk:k L3
  ·rw [if_pos hk] at eq
   subst eq;refine wpAny_passesOwn WL (wpAny_mono (T.done rfl rfl l3 I3 (th Pb) IJ hk ei) (fun r s4 ⟨hr,I4⟩=>?_) fun _ _ z=>z);subst hr;exact wpAny_execs_nil ⟨g3,l2.trans l3,I4⟩
  ·rw [if_neg hk] at eq;exact absurd eq.symm h
end
noncomputable def aX (env:Env):List (Str × NameKind)->List (Str × U2)->List (Str × U2)
 | [],cs=>cs
 | (n,k)::r,cs=>if (k == V3)=true then aX env r ((n,(env.cells.lookup n).getD 0)::cs) else aX env r cs
theorem fY {env:Env}:∀(names:List (Str × NameKind)) (cs:List (Str × U2)),(∀y∈names,y.2=.free->(env.cells.lookup y.1).isSome=true) ->
  (forIn names cs (fun x (cs:List (Str × U2))=>(match x with|(name,kind)=>if (kind == V3)=true then (do let a <- cellOf env name;pure (Xd ((name,a)::cs))) else pure (Xd cs):Sem (ForInStep (List (Str × U2))))):Sem (List (Str × U2)))=pure (aX env names cs)
 | [],cs,_=>rfl
 | (n,k)::r,cs,h=>by
  have hr:∀y∈r,y.2=.free->(env.cells.lookup y.1).isSome=true:=fun y hy=>h y (Up _ hy)
  rw [Xe];by_cases hk:(k == V3)=true
  ·have e:k=.free:=by simpa using hk
   have hs:=h (n,k) Um e;obtain⟨a,ha⟩:=Vs.mp hs;simp only [hk,if_true,aX,cellOf,ha,WA,pure_bind];exact fY r _ hr
  ·simp only [hk,aX,pure_bind,UC,if_false]
   exact fY r _ hr
theorem tj {env:Env} {scope:Scope} (h:∀y∈scope.names,y.2=.free->(env.cells.lookup y.1).isSome=true):closureFor scope env=pure (aX env scope.names []):=by
 have e:=fY (env:=env) scope.names [] h;unfold closureFor;simp only [bind_pure_comp,map_pure] at e ⊢;rw [<- e];simp
theorem jA {env:Env}:∀{names:List (Str × NameKind)} {cs:List (Str × U2)} {y:Str} {c:U2},(∀z∈names,z.2=.free->(env.cells.lookup z.1).isSome=true)->(∀y c,cs.lookup y=some c->env.cells.lookup y=some c) ->
  (aX env names cs).lookup y=some c->env.cells.lookup y=some c
 | [],_,_,_,_,hc,h=>hc _ _ h
 | (n,k)::r,cs,y,c,hn,hc,h=>by
  have hr:∀z∈r,z.2=.free->(env.cells.lookup z.1).isSome=true:=fun z hz=>hn z (Up _ hz)
  unfold aX at h;by_cases hk:(k == V3)=true
  ·rw [if_pos hk] at h
   have e:k=.free:=by simpa using hk
   obtain⟨a,ha⟩:=Vs.mp (hn (n,k) Um e);refine jA hr (fun z d q=>?_) h;rw [US] at q;cases hz:z == n with
   | true =>
    have ez:z=n:=by simpa using hz
    rw [hz] at q;simp only [ha,WA] at q;have ha':env.cells.lookup n=some a:=ha
    rw [ez,ha'];exact q
   | false =>
    rw [hz] at q;exact hc z d q
  ·rw [if_neg hk] at h
   exact jA hr hc h
theorem jB {env:Env}:∀{names:List (Str × NameKind)} {cs:List (Str × U2)} {y:Str},((y,V3)∈names\/(cs.lookup y).isSome=true)->((aX env names cs).lookup y).isSome=true
 | [],_,_,h=>by
  rcases h with h|h
  ·cases h
  ·exact h
 | (n,k)::r,cs,y,h=>by
  unfold aX;have key:∀a:U2,(cs.lookup y).isSome=true->(Zk y ((n,a)::cs)).isSome=true:=fun a q=>by
   rw [US];cases y == n with
   | true=>rfl
   | false=>exact q
  by_cases hk:(k == V3)=true
  ·rw [if_pos hk]
   refine jB ?_;rcases h with h|h
   ·rcases UG.mp h with e|h
    ·cases e
     refine .inr ?_;rw [US];simp
    ·exact .inl h
   ·exact .inr (key _ h)
  ·rw [if_neg hk]
   refine jB ?_;rcases h with h|h
   ·rcases UG.mp h with e|h
    ·cases e
     exact absurd (by simp) hk
    ·exact .inl h
   ·exact .inr h
theorem jC {scope:Scope} {env:Env} {y:Str} {k':NameKind} (h:(relabel scope env).names.lookup y=some k'):∃k,scope.names.lookup y=some k/\(k'=k\/(k=.free/\k'=.cell)):=by
 have go:∀(names:List (Str × NameKind)),(names.map fun(n,k)=>if (k == V3 && env.scope.kind == .function && env.kindOf n == some .cell) then (n,Zl) else (n,k)).lookup y=some k' ->
   ∃k,names.lookup y=some k/\(k'=k\/(k=.free/\k'=.cell)):=by
  intro names;induction names with
  | nil=>intro h;simp at h
  | cons a r ih =>
   obtain⟨n,k⟩:=a;intro h;rw [Uy] at h;by_cases hc:(k == V3 && env.scope.kind == .function && env.kindOf n == some .cell)=true
   ·simp only [hc,if_true,US] at h
    rw [US];cases hy:y == n with
    | true =>
     rw [hy] at h;have hk:k=.free:=by
      simp only [Uw,beq_iff_eq] at hc;exact hc.1.1
     exact⟨k,rfl,.inr ⟨hk,(V7 h).symm⟩⟩
    | false =>
     rw [hy] at h;exact ih h
   ·simp only [hc,UC,if_false,US] at h
    rw [US];cases hy:y == n with
    | true =>
     rw [hy] at h;exact⟨k,rfl,.inl (V7 h).symm⟩
    | false =>
     rw [hy] at h;exact ih h
 exact go scope.names h
theorem jD {scope:Scope} {env:Env} {y:Str} (h:scope.names.lookup y=some .free):(relabel scope env).names.lookup y=some .cell\/(relabel scope env).names.lookup y=some .free:=by
 have go:∀(names:List (Str × NameKind)),names.lookup y=some .free->(names.map fun(n,k)=>if (k == V3 && env.scope.kind == .function && env.kindOf n == some .cell) then (n,Zl) else (n,k)).lookup y=some .cell \/
   (names.map fun(n,k)=>if (k == V3 && env.scope.kind == .function && env.kindOf n == some .cell) then (n,Zl) else (n,k)).lookup y=some .free:=by
  intro names;induction names with
  | nil=>intro h;simp at h
  | cons a r ih =>
   obtain⟨n,k⟩:=a;intro h;rw [Uy];rw [US] at h;by_cases hc:(k == V3 && env.scope.kind == .function && env.kindOf n == some .cell)=true
   ·simp only [hc,if_true,US]
    cases hy:y == n with
    | true=>exact .inl rfl
    | false =>
     rw [hy] at h;exact ih h
   ·simp only [hc,UC,if_false,US]
    cases hy:y == n with
    | true =>
     rw [hy] at h;have h':k=.free:=V7 h
     exact .inr (by rw [h'])
    | false =>
     rw [hy] at h;exact ih h
 exact go scope.names h
theorem pv {prog:VB} {w:Wy} {A:Vj} {R:Result->Uu->Prop} {s:Uu} {elt target iter:Expr} {ifs:List Expr} {scope:Scope} {pos:Pos} {it acc:Uq} {env:Env} (I:Nat->Uu->Prop)
  (turn:∀n s,I n s->UK (model prog w) A (pyNext it) (fun r s₁=>match r with
   | none=>R (.ok .next) s₁
   | some v=>UK (model prog w) A (letOwnedTupleGo target it v) (fun _ Pc=>UK (model prog w) A (assign target env v) (fun _ s₂ =>
     UK (model prog w) A (forIn ifs true fun c r=>if r=true then do let ok <- isTrue c env (eval c env);pure (Xd ok) else pure (Xd r)) (fun ok s₃ =>
      if ok=true then UK (model prog w) A (eval elt env) (fun x s₄ =>
       UK (model prog w) A (call (.builtin "list.append") [acc,x]) (fun _ s₅=>∃m,m<n/\I m s₅) (fun _ _=>False) s₄) (fun _ _=>False) s₃
      else ∃m,m<n/\I m s₃) (fun _ _=>False) s₂) (fun _ _=>False) Pc) (fun _ _=>False) s₁) (fun _ _=>False) s)
  (n:Nat) (h:I n s):codeAny (model prog w) A (.compLoop (.ListComp elt [⟨target,iter,ifs,0⟩] scope pos) 0 it acc env) R s:=by
 refine codeAny_loop rfl I (fun n s hI=>?_) n h;show UK _ A ((compTurn (.ListComp elt [⟨target,iter,ifs,0⟩] scope pos) 0 it acc env).onRaise (fun x=>do noteFrame x env;theTreesLotGoes x)) _ _ s
 refine wpAny_noted ?_;rw [compTurn_list];refine Ui (wpAny_standAt (Ui (wpAny_mono (turn n s hI) (fun r s₁ h₁=>?_) fun _ _ h'=>h'.elim)));cases r with
 | none=>exact Uk h₁
 | some v =>
  refine Ui (wpAny_mono h₁ (fun _ Pc QU=>?_) fun _ _ h'=>h'.elim);refine Ui (wpAny_mono QU (fun _ s₂ h₂=>Ui (wpAny_mono h₂ (fun ok s₃ h₃=>?_) fun _ _ h'=>h'.elim)) fun _ _ h'=>h'.elim);cases ok with
  | false=>exact Uk ⟨rfl,h₃⟩
  | true =>
   exact Ui (Ui (wpAny_mono h₃ (fun x s₄ h₄=>Ui (wpAny_mono h₄ (fun _ s₅ h₅=>Uk (Uk ⟨rfl,h₅⟩)) fun _ _ h'=>h'.elim)) fun _ _ h'=>h'.elim))
noncomputable def dz (X:Cx) (scope:Scope) (cl:List (Str × U2)) (N:List Str) (C:U2) (s₀:Uu) (H₀:Hp) (ex:List U2):Cx:={ X with N:=N,s₀:=s₀,H₀:=H₀,env:=compEnvC scope cl C X.env,ex:=ex,fn:=fun _=>false }
structure mz (X:Cx) (scope:Scope) (N:List Str) (aZ:List (Option Nat)):Prop where
 kind:scope.kind=.function
 mB:∀y∈scope.names,y.2≠.cell
 locs:∀y∈scope.names,y.2=.local->scope.names.lookup y.1=some .local
 frees:∀y∈scope.names,y.2=.free->(X.env.scope.names.lookup y.1=some .cell\/X.env.scope.names.lookup y.1=some .free)
 QV:∀(i:Nat) y j,N[i]?=some y->aZ[i]?=some (some j)->X.N[j]?=some y/\scope.names.lookup y=some .free
 nd:N.Nodup
 len:N.length=aZ.length
section
variable {X:Cx} {pins:bg} {φ:Fr} {g:G} {L:aa} {s:Uu}
theorem Inv.weak {φ':Fr} (I:Inv X pins φ g L s) (hl:φ'.length=φ.length) (w:∀(i:Nat) t,φ'[i]?=some (some t)->φ[i]?=some (some t)):Inv X pins φ' g L s :=
 { I with loc:=let ⟨m,hn,hl'⟩:=I.loc;⟨m,hn,fun i x v e1 e2 e3=>hl' i x v e1 (w i v e2) e3⟩,len:=hl.trans I.len }
theorem Inv.IK {a:U2} {o:Obj} (I:Inv X pins φ g L s) (f:gh X pins g.H a) (h:s.heap.get? a=some o):Inv X pins φ (g.lay a o) L s:=by
 refine I.step (g1:=s.gens) (t':=s.toks) (d':=s.drawn) (h':=s.heap) (ch:=[a]) (Le.lay f.1) (fun b hb=>?_) (fun b u _ _ e _=>e) (fun b u hb e n=>(aE (fun z=>hb (by simp [z]))).trans n) (fun _ m=>m) (fun b c u e=>?_) I.bare (I.rel.le (Le.lay f.1) rfl fun b u e=>aE (fun z=>by rw [z,f.1] at e;cases e))
 ·have z:b=a:=by simpa using hb
  subst z;exact⟨f.2.2.1,f.2.1,f.2.2.2⟩
 ·by_cases hb:b=a
  ·subst hb
   have e':some (true,o)=some (c,u):=(aw (H:=g.H)).symm.trans e;cases e';exact h
  ·exact I.hok b c u ((aE hb).symm.trans e)
theorem Inv.E2 {a:U2} {o:Obj} {c:T} (I:Inv X pins φ g L s) (f:gh X pins g.H a) (h:s.heap.get? a=some o) (hc:RT (g.new a o) (some (a,a)) c (.ref a)):Inv X pins φ (g.new a o) (c::L) s:=by
 refine I.step (g1:=s.gens) (t':=s.toks) (d':=s.drawn) (h':=s.heap) (ch:=[a]) (Le.new f.1) (fun b hb=>?_) (fun b u _ _ e _=>e) (fun b u hb e n=>(aE (fun z=>hb (by simp [z]))).trans n) (fun _ m=>m) (fun b c u e=>?_) I.bare (I.rel.new f.1 hc)
 ·have z:b=a:=by simpa using hb
  subst z;exact⟨f.2.2.1,f.2.1,f.2.2.2⟩
 ·by_cases hb:b=a
  ·subst hb
   have e':some (false,o)=some (c,u):=(aw (H:=g.H)).symm.trans e;cases e';exact h
  ·exact I.hok b c u ((aE hb).symm.trans e)
theorem tm {scope:Scope} {N:List Str} {aZ:List (Option Nat)} {s3:Uu} {h1:Heap} {ex:List U2} {m:Str->Option Uq} {tk:Nat} (ok:mz X scope N aZ) (I:Inv X pins φ g L s3)
  (hf:∀b∈ex,gh X pins g.H b) (bN:∀b∈ex,b<s3.heap.objs.size) (hn:h1.Ns s3.heap.objs.size m) (keep:∀b o,s3.heap.get? b=some o->h1.get? b=some o) :
  Inv (dz X scope (aX X.env scope.names []) N s3.heap.objs.size s3 g.H ex) [] (inner aZ φ) g L { s3 with heap:=h1,toks:=tk }:=by
 have uU:∀z∈scope.names,z.2=.free->(X.env.cells.lookup z.1).isSome=true:=fun z hz xR=>by
  obtain⟨c,e⟩:=I.ok.has z.1 (ok.frees z hz xR);rw [e];rfl
 have sub:∀y c,(aX X.env scope.names []).lookup y=some c->X.env.cells.lookup y=some c:=fun y c h=>jA uU (fun _ _ q=>by simp at q) h
 refine⟨⟨I.ok.mod,ok.kind,I.ok.glob,I.ok.blt,UH _,fun y z c e1 e2=>I.ok.inj y z c (sub _ _ e1) (sub _ _ e2),fun y hy=>?_,fun y c Mq _=>absurd Mq (by simp [dz]),I.ok.hd,fun b hb=>⟨U0 (bN b hb),fun y c e=>(hf b hb).2.2.2.1 y c (sub _ _ e)⟩,
   I.bs,UO I.ok.HW I.sz,fun b o e hb=>?_⟩,
  rfl,I.bare,Un.kept keep,⟨m,hn,fun i y v e1 e2 e3=>?_⟩,fun y c e=>?_,I.fresh,fun y c e=>I.qN y c (sub _ _ e),fun p hp=>(by simp at hp),fun a b o e=>keep a o (I.hok a b o e),by show(inner aZ φ).length=N.length;rw [ok.len];simp [inner],I.rel,I.gB,I.gm,I.gw⟩
 ·have hy':(relabel scope X.env).names.lookup y=some .cell\/(relabel scope X.env).names.lookup y=some .free:=hy
  have fr:scope.names.lookup y=some .free:=by
   rcases hy' with q|q
   ·obtain⟨k,e,z⟩:=jC q
    rcases z with z|⟨z,_⟩
    ·exact absurd z.symm (ok.mB _ (Va e))
    ·rw [e,z]
   ·obtain⟨k,e,z⟩:=jC q
    rcases z with z|⟨_,z⟩
    ·rw [e,z]
    ·cases z
  exact Vs.mp (jB (.inl (Va fr)))
 ·rcases(hf b hb).2.2.1 with z|z
  ·exact I.ok.Et b o e z
  ·exact absurd (UY (UP e) (UO I.ok.HW z)) (V0 _)
 ·have e2':(aZ.map fun o=>o.bind fun i=>(φ[i]?).join)[i]?=some (some v):=e2
  rw [UM] at e2';cases hj:aZ[i]? with
  | none=>rw [hj] at e2';cases e2'
  | some oj =>
   rw [hj] at e2';cases oj with
   | none=>cases e2'
   | some j =>
    obtain⟨eN,hy⟩:=ok.QV i y j e1 hj;have hσ:φ[j]?=some (some v):=by
     cases q:φ[j]? with
     | none=>simp [q] at e2'
     | some o=>simp [q] at e2';rw [e2']
    have hk:=ok.frees (y,.free) (Va hy) rfl;obtain⟨m',_,hl⟩:=I.loc;obtain⟨u,r,q⟩:=hl j y v eN hσ (.inr hk);refine⟨u,r,.inr ⟨jD hy,?_⟩⟩;rcases q with⟨k,_⟩|⟨_,c,e,z⟩
    ·have k':X.env.scope.names.lookup y=some .local:=k
     rw [k'] at hk;rcases hk with hk|hk <;> cases hk
    ·obtain⟨c',e'⟩:=Vs.mp (jB (env:=X.env) (cs:=[]) (.inl (Va hy)))
     have ec:=sub _ _ e';rw [e] at ec;cases ec;obtain⟨o,ho,hd⟩:=z;exact⟨c,e',o,keep c o ho,hd⟩
 ·obtain⟨v,o,ho,hd⟩:=I.cell y c (sub _ _ e)
  exact⟨v,o,keep c o ho,hd⟩
noncomputable def E3 (X:Cx) (ifs:List Expr) (m:ST):Prop:=∀{pins:bg} {φ:Fr} {g:G} {L:aa} {s:Uu} {w:Bool} {L':aa},Inv X pins φ g L s->m φ L=.ok w L' ->
 UK (model X.prog X.w) X.A (forIn ifs true fun c r=>if r=true then do let ok <- isTrue c X.env (eval c X.env);pure (Xd ok) else pure (Xd r)) (TP X pins φ g w L') F0 s
theorem Bv:E3 X [] yes:=fun I h=>by cases h;exact wpAny_tests_nil ⟨_,.refl _,I,rfl⟩
theorem Bw {k:Expr} {m:ST} (h:PT X k m):E3 X [k] m:=fun I q=>wpAny_tests_one (h _ (.inl rfl) I q)
noncomputable def Tg.slots:Tg->List Nat
 | .one i=>[i]
 | .many is=>is
theorem kj {ψ:Fr}:∀{is:List Nat} {ts:List T} {ψ':Fr},(∀i∈is,ψ[i]?=some none)->(ψ'.length=ψ.length/\∀(i:Nat) t,ψ[i]?=some (some t)->ψ'[i]?=some (some t))->(M.sets is ts ψ').length=ψ.length/\∀(i:Nat) t,ψ[i]?=some (some t)->(sets is ts ψ')[i]?=some (some t)
 | [],_,_,_,h=>by unfold sets;exact h
 | _::_,[],_,_,h=>by unfold sets;exact h
 | j::is,t0::ts,ψ',hi,h=>by
  unfold sets;refine kj (fun i m=>hi i (Up _ m)) ⟨by simpa using h.1,fun i t e=>?_⟩;rw [Yj]
  ·exact h.2 i t e
  ·rintro rfl
   rw [hi j Um] at e;cases e
theorem Bx {ψ ψ1:Fr} {tg:Tg} {t:T} (hi:∀i∈tg.slots,ψ[i]?=some none) (h:tg.set t ψ=some ψ1):ψ.length=ψ1.length/\∀(i:Nat) t,ψ[i]?=some (some t)->ψ1[i]?=some (some t):=by
 cases tg with
 | one j =>
  cases h;have z:=kj (is:=[j]) (ts:=[t]) hi ⟨rfl,fun _ _ e=>e⟩
  exact⟨z.1.symm,z.2⟩
 | many is =>
  cases t with
  | tup ts =>
   have h':(if ts.length=is.length then some (sets is ts ψ) else none)=some ψ1:=h;split at h'
   ·cases h'
    have z:=kj (ts:=ts) hi ⟨rfl,fun _ _ e=>e⟩;exact⟨z.1.symm,z.2⟩
   ·cases h'
  | _=>cases h
theorem om {tg iter elt:Expr} {ifs:List Expr} {scope:Scope} {N:List Str} {aZ:List (Option Nat)} {mi:SI} {t:Tg} {mt:ST} {me:SE} {pos p:Pos} {use:Option (Uq->Sem Unit)} {QQ:Uq->Uu->Prop} {xs:List T} {k:aa->Prop} {L1 L2:aa} {ys:List T}
  (ok:mz X scope N aZ) (Dw:∀i∈t.slots,aZ[i]?=some none) (hi:PI X tg iter mi) (hg:∀cl C s₀ H₀ ex,PG (dz X scope cl N C s₀ H₀ ex) tg t)
  (ht:∀cl C s₀ H₀ ex,E3 (dz X scope cl N C s₀ H₀ ex) ifs mt) (he:∀cl C s₀ H₀ ex,PE (dz X scope cl N C s₀ H₀ ex) elt me) (hs:jj iter=true)
  (I:Inv X pins φ g L s) (h1:mi φ L=.ok (xs,k) L1) (h2:compLoop k t mt me (inner aZ φ) xs [] L1=.ok ys L2)
  (fin:∀(D C:U2) (g':G) (s':Uu) (m:Str->Option Uq) (us:List Uq) (n:Nat),Le g g'->Inv X pins φ g' L2 s'->cP g' ys us->ys.length<=UU->s'.heap.get? D=some { cls:=.type "list",data:=.seq us.toArray n }->gh X pins g'.H D->D≠C->s'.heap.Ns C m->gh X pins g'.H C->compPost (model X.prog X.w) X.A F0 use QQ (.ref D) C (.ok .next) s') :
  UK (model X.prog X.w) X.A (comprehension (.ListComp elt [⟨tg,iter,ifs,0⟩] scope pos) scope X.env p (newList []) false (eval iter X.env) use) QQ F0 s:=by
 have uU:∀z∈scope.names,z.2=.free->(X.env.cells.lookup z.1).isSome=true:=fun z hz xR=>by
  obtain⟨c,e⟩:=I.ok.has z.1 (ok.frees z hz xR);rw [e];rfl
 refine wpAny_comprehension_free (cl:=aX X.env scope.names []) (use:=use) rfl (uT hs) (tj uU) ok.kind ok.locs (thn (hi I h1) fun v s1 h1=>thn h1 fun Ms s2 ⟨it,fp,tn,g2,e,l2,I2,T,bH,f2⟩=>?_);subst e;refine wpAny_newObj_type (wpAny_newFunctionEnv ok.mB (by intro y hy;simp at hy) (fun h₁ E4 E5=>?_) ok.kind);dsimp only at E4 E5 ⊢;have E6:∀b∈fp,b<s2.heap.objs.size:=fun b hb=>by
  obtain⟨o,e,_⟩:=T.obj 0 _ bH b hb;exact UP e
 generalize hD:s2.heap.objs.size=D at E6 ⊢;have fD:gh X pins g2.H D:=I2.sZ (XM hD) (I2.hok.fresh (XM hD))
 have hsz:(s2.heap.push { cls:=.type "list",dict:=none,data:=.seq ([]:List Uq).toArray }).objs.size=D+1:=by rw [<- hD];exact VC ..
 have I3:Inv X pins φ g2 L1 { s2 with heap:=s2.heap.push { cls:=.type "list",dict:=none,data:=.seq ([]:List Uq).toArray } }:=I2.kept (t':=s2.toks) fun b u e=>Uj _ e
 have IJ:tn 0 (s2.heap.push { cls:=.type "list",dict:=none,data:=.seq ([]:List Uq).toArray }):=T.keep _ _ _ bH fun b _ o e=>Uj _ e
 have Pd:(s2.heap.push { cls:=.type "list",dict:=none,data:=.seq ([]:List Uq).toArray }).get? D=some { cls:=.type "list",data:=.seq ([]:List Uq).toArray }:=by rw [<- hD];exact Us _ rfl
 generalize TL:s2.heap.push { cls:=.type "list",dict:=none,data:=.seq ([]:List Uq).toArray }=h3 at E4 E5 hsz I3 IJ Pd ⊢;have fx:∀b∈D::fp,gh X pins g2.H b:=fun b hb=>(UG.mp hb).elim (fun z=>by rw [z];exact fD) (f2 b)
 have IL:∀b∈D::fp,b<h3.objs.size:=fun b hb=>by
  rw [hsz];rcases UG.mp hb with z|z
  ·rw [z];exact V9 _
  ·exact VD (E6 b z)
 have keep:∀b o,h3.get? b=some o->h₁.get? b=some o:=fun b o e=>E5.extBut b o (U0 (UP e)) (Uj _ e)
 have I4:=tm (s3:={ s2 with heap:=h3 }) (ex:=D::fp) (tk:=s2.toks+([]:List (Str × Uq)).length) ok I3 fx IL E4 keep;have Pe:tn 0 h₁:=T.keep _ _ _ IJ fun b _ o e=>keep b o e
 generalize Be:dz X scope (aX X.env scope.names []) N ({ s2 with heap:=h3 }:Uu).heap.objs.size { s2 with heap:=h3 } g2.H (D::fp)=X' at I4;have eA:X'.A=X.A:=by rw [<- Be] <;> rfl
 have eP:X'.prog=X.prog:=by rw [<- Be] <;> rfl
 have ew:X'.w=X.w:=by rw [<- Be] <;> rfl
 have ee:X'.env=compEnvC scope (aX X.env scope.names []) h3.objs.size X.env:=by rw [<- Be] <;> rfl
 have hG':PG X' tg t:=by rw [<- Be];exact hg _ _ _ _ _
 have hT':E3 X' ifs mt:=by rw [<- Be];exact ht _ _ _ _ _
 have hE':PE X' elt me:=by rw [<- Be];exact he _ _ _ _ _
 have th:∀{H':Hp} {b:U2},b∈D::fp->H' b=none->gh X' [] H' b:=fun {H' b} hb hn=>by
  refine⟨hn,?_,.inl ?_,fun y c e=>?_,fun p hp=>by simp at hp⟩
  ·rw [ee];exact U0 (IL b hb)
  ·rw [<- Be];exact hb
  ·have e':(aX X.env scope.names []).lookup y=some c:=by rw [ee] at e;exact e
   exact(fx b hb).2.2.2.1 y c (jA uU (fun _ _ q=>by simp at q) e')
 have IM:D∉fp:=fun z=>V0 _ (E6 D z)
 have leave:∀{ψ:Fr} {g':G} {s':Uu} {us:List Uq} {n:Nat},Le g2 g'->Inv X' [] ψ g' L2 s'->cP g' ys us->ys.length<=UU->s'.heap.get? D=some { cls:=.type "list",data:=.seq us.toArray n }->g'.H D=none->compPost (model X.prog X.w) X.A F0 use QQ (.ref D) h3.objs.size (.ok .next) s':=fun {ψ g' s' us n} l J r hz hd hn=>by
  have un:Un (D::fp) g2.H g'.H h3 s'.heap:=by have z:=J.base;rw [<- Be] at z;exact z
  have By:s'.os=s2.os:=by have z:=J.os;rw [<- Be] at z;exact z
  have Jx:=Inv.call (s:={ s2 with heap:=h3 }) (s':=s') (ch:=D::fp) I3 l By un J.hok J.bare J.rel fun b hb=>⟨(fx b hb).2.2.1,(fx b hb).2.1,(fx b hb).2.2.2⟩
  obtain⟨m,wx,_⟩:=J.loc;have hn':s'.heap.Ns h3.objs.size m:=by rw [ee] at wx;exact wx
  have xR:g'.H h3.objs.size=none:=by have z:=J.free;rw [ee] at z;exact z
  exact fin D _ g' s' m us n (l2.trans l) Jx r hz hd ⟨hn,fD.2⟩ (U0 (by rw [hsz];exact V9 _)) hn' (I3.sZ (UH _) xR)
 have loop:∀s₃:Uu,s₃={ s2 with heap:=h₁,toks:=s2.toks+([]:List (Str × Uq)).length } ->
   codeAny (model X.prog X.w) X.A (.compLoop (.ListComp elt [⟨tg,iter,ifs,0⟩] scope pos) 0 (.ref it) (.ref D) (compEnvC scope (aX X.env scope.names []) h3.objs.size X.env)) (compPost (model X.prog X.w) X.A F0 use QQ (.ref D) h3.objs.size) s₃:=by
  rintro s₃ rfl;have IP:∀{ψ:Fr} {g':G} {L':aa} {s':Uu} {o:Obj},Inv X' [] ψ g' L' s'->s'.heap.get? D=some o->g'.H D=none->(∀v,o.data≠.cell v)->Inv X' [(D,o)] ψ g' L' s':=fun {ψ g' L' s' o} J e n d=>J.iN fun p hp=>by
   have z:p=(D,o):=by simpa using hp
   subst z;exact⟨e,n,(th Um n).2.1,d⟩
  refine pv (fun n s'=>∃i acc us nn g' L',n=xs.length - i/\i<=xs.length/\Le g2 g'/\Inv X' [(D,{ cls:=.type "list",data:=.seq (us:List Uq).toArray nn })] (inner aZ φ) g' L' s'/\tn i s'.heap/\(∀b∈fp,g'.H b=none)/\cP g' acc us/\acc.length<=UU /\
   compLoop k t mt me (inner aZ φ) (xs.drop i) acc L'=.ok ys L2) ?_ xs.length ⟨0,[],[],0,g2,L1,rfl,U4 _,.refl g2,IP I4 (keep D _ Pd) fD.1 (fun v z=>nomatch z),Pe,fun b hb=>(f2 b hb).1,.nil,U4 _,h2⟩
  intro n s' hj;refine sL fun G n9=>?_
  obtain⟨i,acc,us,nn,g3,L3,en,hi,l3,J,eG,Pf,ra,hz,eq⟩:=hj;refine n9 ?_;clear n9 G;subst en;have My:∀{H':Hp} {o:Obj},(∀b∈fp,H' b=none)->∀b∈fp,gh X' [(D,o)] H' b:=fun {H' o} hn b hb=>by
   have z:=th (Up _ hb) (hn b hb);refine⟨z.1,z.2.1,z.2.2.1,z.2.2.2.1,fun p hp e=>?_⟩;have zp:p=(D,o):=by simpa using hp
   subst zp;exact IM (by rw [show D=b from e];exact hb)
  by_cases bN:i<xs.length
  ·rw [VZ bN] at eq
   unfold compLoop at eq;split at eq
   ·rename_i hk
    obtain⟨hk,QW⟩:=hk;have z:=T.item eP ew (E:=F0) l3 J (My Pf) eG hk (Ge9 bN)
    rw [eA] at z;refine wpAny_mono z (fun r s4 ⟨u,hr,h4⟩=>?_) fun _ _ z=>z
    subst hr;refine wpAny_mono h4 (fun _ s5 ⟨g5,l5,J5,r5,E1,Mw⟩=>?_) fun _ _ z=>z
    have QX:=J5.pinned (My Mw) (T.obj _ _ E1);cases ef:t.set xs[i] (inner aZ φ) with
    | none=>rw [ef] at eq;cases eq
    | some ψ1 =>
     simp only [ef] at eq;have wk:=Bx (fun i hi=>by show(aZ.map _)[i]?=_;rw [UM,Dw i hi];rfl) ef
     have zg:=hG' QX r5 ef;rw [eP,ew,eA,ee] at zg;refine thn zg fun _ s6 J6=>?_
     obtain⟨b,L7,e7,eq⟩:=R.of eq;have zt:=hT' J6 e7
     rw [eP,ew,eA,ee] at zt;refine thn zt fun b' s7 ⟨g7,l7,J7,e⟩=>?_
     subst e;have again:∀{g8:G} {L8:aa} {s8:Uu} {eM:List M.T} {us':List Uq} {n':Nat},Le g7 g8->Inv X' [] ψ1 g8 L8 s8->(∀b∈fp,∀o,s5.heap.get? b=some o->s8.heap.get? b=some o/\g8.H b=none)->s8.heap.get? D=some { cls:=.type "list",data:=.seq us'.toArray n' }->g8.H D=none->cP g8 eM us'->eM.length<=UU ->
       compLoop k t mt me (inner aZ φ) (xs.drop (i+1)) eM L8=.ok ys L2->∃m,m<xs.length - i/\∃j acc us nn g' L',m=xs.length - j/\j<=xs.length/\Le g2 g'/\Inv X' [(D,{ cls:=.type "list",data:=.seq (us:List Uq).toArray nn })] (inner aZ φ) g' L' s8/\tn j s8.heap/\(∀b∈fp,g'.H b=none)/\cP g' acc us/\acc.length<=UU/\compLoop k t mt me (inner aZ φ) (xs.drop j) acc L'=.ok ys L2:=fun {g8 L8 s8 eM us' n'} l8 J8 kf hd hn QY hz' QZ =>
      ⟨xs.length - (i+1),by omega,i+1,eM,us',n',g8,L8,rfl,bN,((l3.trans l5).trans l7).trans l8,IP (J8.weak wk.1 wk.2) hd hn (fun v z=>nomatch z),T.keep _ _ _ E1 fun b hb o e=>(kf b hb o e).1,fun b hb=>(let ⟨o,e,_⟩:=T.obj _ _ E1 b hb;(kf b hb o e).2),QY,hz',QZ⟩
     have pk:∀{g8:G} {L8:aa} {s8:Uu},Inv X' ([(D,{ cls:=.type "list",data:=.seq us.toArray nn })]++fp.filterMap fun b=>(s5.heap.get? b).map fun o=>(b,o)) ψ1 g8 L8 s8->∀b∈fp,∀o,s5.heap.get? b=some o->s8.heap.get? b=some o/\g8.H b=none:=fun J8 b hb o e =>
      let z:=J8.pin (b,o) (UB _ (ji hb e));⟨z.1,z.2.1⟩
     cases b' with
     | false =>
      obtain⟨d1,d2,_⟩:=J7.pin (D,_) (Uv _ Um);exact again (.refl g7) (J7.iN fun p hp=>by simp at hp) (pk J7) d1 d2 (ra.le ((l5).trans l7)) hz eq
     | true =>
      obtain⟨y,L8,e8,eq⟩:=R.of eq;have ze:=hE' J7 e8
      rw [eP,ew,eA,ee] at ze;refine thn ze fun yv s8 ⟨g8,l8,J8,r8⟩=>?_
      obtain⟨d1,d2,_⟩:=J8.pin (D,_) (Uv _ Um);have lu:=UL ra
      refine call_meets Yk ⟨_,d1,rfl⟩ F.entry_list_append (F.args_list_append_2 _ _) (PySem.list_append D us.toArray nn yv (by rw [VO,<- lu];exact hz)) ⟨d1,?_⟩;have q:=aan d1 (fun x=>x.push yv)
      have ot:∀b,b≠D->(s8.heap.update D (VP fun x=>x.push yv)).get? b=s8.heap.get? b:=fun b hb=>U6 s8.heap _ (VU hb)
      have J9:Inv X' [] ψ1 g8 L8 { s8 with heap:=s8.heap.update D (VP fun x=>x.push yv) }:=(J8.iN (pins':=[]) fun p hp=>by simp at hp).turned (t':=s8.toks) (ch:=[D]) (fun b o hb e=>(ot b (by simpa using hb)).trans e) fun b hb=>by
       have z:b=D:=by simpa using hb
       subst z;exact th Um d2
      refine again (us':=us++[yv]) l8 J9 (fun b hb o e=>?_) (by simpa using q) d2 (Paired.snoc (ra.le ((l5.trans l7).trans l8)) r8) (by simp;show acc.length<lim;exact QW) eq;have z:=pk J8 b hb o e
      exact⟨(ot b fun e=>IM (e ▸ hb)).trans z.1,z.2⟩
   ·cases eq
  ·have ei:i=xs.length:=by omega
   rw [ZE (by omega)] at eq;unfold compLoop at eq;split at eq
   ·rename_i hk
    cases eq;have z:=T.done eP ew (E:=F0) l3 J (My Pf) eG hk ei
    rw [eA] at z;refine wpAny_mono z (fun r s4 ⟨hr,J4⟩=>?_) fun _ _ z=>z
    subst hr;obtain⟨d1,d2,_⟩:=J4.pin (D,_) Um;exact leave l3 (J4.iN fun p hp=>by simp at hp) ra hz d1 d2
   ·cases eq
 exact codeAny_compStart_list (loop _ rfl) (T.self _ 0 _ _ _ Pe (loop _ rfl))
theorem qS {fz:Bool} {D:U2} {ys:List T} {us:List Uq} {n:Nat} {w:T} {L':aa} (I:Inv X pins φ g L s) (r:cP g ys us) (hz:ys.length<=UU) (hd:s.heap.get? D=some { cls:=.type "list",data:=.seq us.toArray n }) (f:gh X pins g.H D) (h:mk fz (.lst ys) L=.ok w L'):∃g',Le g g'/\Inv X pins φ g' L' s/\RT g' none w (.ref D)/\∀b,b≠D->g'.H b=g.H b:=by
 unfold mk at h;split at h
 ·cases h
  exact⟨_,Le.lay f.1,I.IK f hd,r.lst (o:=default) (Le.lay f.1) (.inl rfl) (.inl aw) hz,fun b hb=>aE hb⟩
 ·cases h
  refine⟨_,Le.new f.1,I.E2 f hd (r.lst (o:=default) (Le.new f.1) (.inr rfl) (.inl aw) hz),?_,fun b hb=>aE hb⟩;have:=I.rel.len
  exact .ref (p:=(D,D)) (by show at_ ((_,_)::g.α) _=_;rw [<- this];exact fq)
theorem uV {fz:Bool} {tg iter elt:Expr} {ifs:List Expr} {scope:Scope} {N:List Str} {aZ:List (Option Nat)} {mi:SI} {t:Tg} {mt:ST} {me:SE} {pos:Pos}
  (ok:mz X scope N aZ) (Dw:∀i∈t.slots,aZ[i]?=some none) (hi:PI X tg iter mi) (hg:∀cl C s₀ H₀ ex,PG (dz X scope cl N C s₀ H₀ ex) tg t)
  (ht:∀cl C s₀ H₀ ex,E3 (dz X scope cl N C s₀ H₀ ex) ifs mt) (he:∀cl C s₀ H₀ ex,PE (dz X scope cl N C s₀ H₀ ex) elt me) (hs:jj iter=true):PE X (.ListComp elt [⟨tg,iter,ifs,0⟩] scope pos) (comp fz mi aZ t mt me):=fun I h=>by
 obtain⟨⟨xs,k⟩,L1,e1,h⟩:=R.of h;obtain⟨ys,L2,e2,h⟩:=R.of h;rw [eval_ListComp];refine om (use:=none) ok Dw hi hg ht he hs I e1 e2 fun D C g' s' m us n l J r hz hd fD hne hn fC=>⟨m,hn,fun h' sb=>?_⟩
 have J':=J.turned (t':=s'.toks) (h':=h') (ch:=[C]) (fun b o hb e=>(sb.2 b (by simpa using hb)).trans e) fun b hb=>by
  have z:b=C:=by simpa using hb
  subst z;exact fC
 obtain⟨g2,l2,J2,r2,_⟩:=qS J' r hz ((sb.2 D hne).trans hd) fD h;exact⟨g2,l.trans l2,J2,r2⟩
theorem Bz {i:Nat} {y:Str} {py E7:Pos} {fz:Bool} {tg iter elt:Expr} {ifs:List Expr} {scope:Scope} {N:List Str} {aZ:List (Option Nat)} {mi:SI} {t:Tg} {mt:ST} {me:SE} {pos:Pos} (S:s9 X i y)
  (ok:mz X scope N aZ) (Dw:∀i∈t.slots,aZ[i]?=some none) (hi:PI X tg iter mi) (hg:∀cl C s₀ H₀ ex,PG (dz X scope cl N C s₀ H₀ ex) tg t)
  (ht:∀cl C s₀ H₀ ex,E3 (dz X scope cl N C s₀ H₀ ex) ifs mt) (he:∀cl C s₀ H₀ ex,PE (dz X scope cl N C s₀ H₀ ex) elt me) (hs:jj iter=true) :
  PS X (.Assign [.Name y py] (.ListComp elt [⟨tg,iter,ifs,0⟩] scope pos) E7) (asg (.one i) (comp fz mi aZ t mt me)):=fun {pins φ g L s} I h=>by
 cases hb:(X.env.blockKind == .function && X.env.kindOf y == some .local && py.line == pos.line && !(scope.names.any fun(n,k)=>n == y && (k == .local || k == .cell))) with
 | false =>
  have hsw:swapsWith (.ListComp elt [⟨tg,iter,ifs,0⟩] scope pos) (some (.Name y py)) E7.line X.env=pure false:=by
   show(pure _:Sem Bool)=pure false;rw [<- hb];rfl
  exact ta (uV ok Dw hi hg ht he hs) (lM S) hsw rfl rfl I h
 | true =>
  have hsw:swapsWith (.ListComp elt [⟨tg,iter,ifs,0⟩] scope pos) (some (.Name y py)) E7.line X.env=pure true:=by
   show(pure _:Sem Bool)=pure true;rw [<- hb];rfl
  obtain⟨v,L3,e0,e2,h⟩:=ij h;rw [show asg (.one i) (comp fz mi aZ t mt me) φ L=.nx (φ.set i (some v)) L3 from e2];obtain⟨⟨xs,k⟩,L1,e1,e0⟩:=R.of e0;obtain⟨ys,L2,e3,e0⟩:=R.of e0;rw [exec_Assign_Name_used _ _ _ _ hsw];refine Ui (wpAny_standAt (Ui ?_));show UK _ X.A (do let _ <- comprehension (.ListComp elt [⟨tg,iter,ifs,0⟩] scope pos) scope X.env _ (newList []) false (eval iter X.env) (some (assign (.Name y py) X.env))) _ _ s
  refine Ui (wpAny_mono (om (QQ:=fun _ s'=>SP X pins g (.nx (φ.set i (some v)) L3) .next s') (use:=some (assign (.Name y py) X.env)) ok Dw hi hg ht he hs I e1 e3 fun D C g' s' m us n l J r hz hd fD hne hn fC=>?_) (fun _ s' hq=>Uk (Uk hq)) fun _ _ e=>e);obtain⟨g2,l2,J2,r2,kp⟩:=qS J r hz hd fD e0;have Q0:gh X pins g2.H C:=⟨(kp C (VU hne)).trans fC.1,fC.2⟩
  refine wpAny_assign_Name (mx J2 S r2 fun s2 I2 Dx=>?_);obtain⟨a,sb,ha⟩:=Dx;have Mz:C≠a:=by
   rcases ha with rfl|e
   ·exact fC.2.1
   ·exact fun z=>fC.2.2.2.1 y a e z.symm
  exact⟨m,hn.sameBut sb Mz,fun TM Q3=>⟨g2,l.trans l2,I2.turned (t':=s2.toks) (ch:=[C]) (fun b o hb e=>(Q3.2 b (by simpa using hb)).trans e) fun b hb=>by
   have z:b=C:=by simpa using hb
   subst z;exact Q0⟩⟩
end
theorem gJ {n:Nat}:∀{xs:List T},cK n xs=true↔∀(i:Nat) x,xs[i]?=some x->lt n x=true
 | []=>by simp [cK]
 | x::xs=>by
  rw [cK,Uw,gJ];constructor
  ·rintro⟨h1,h2⟩ i y e
   cases i with
   | zero=>simp at e;subst e;exact h1
   | succ i=>exact h2 i y (by simpa using e)
  ·exact fun h=>⟨h 0 x rfl,fun i y e=>h (i+1) y (by simpa using e)⟩
theorem lP {n:Nat}:∀{xs:List (T × T)},A9 n xs=true↔∀(i:Nat) x,xs[i]?=some x->lt n x.1=true/\lt n x.2=true
 | []=>by simp [A9]
 | (a,b)::xs=>by
  rw [A9,Uw,Uw,lP];constructor
  ·rintro⟨h1,h2⟩ i y e
   cases i with
   | zero=>simp at e;subst e;exact h1
   | succ i=>exact h2 i y (by simpa using e)
  ·exact fun h=>⟨h 0 _ rfl,fun i y e=>h (i+1) y (by simpa using e)⟩
theorem xS {n:Nat}:∀{xs:List (Str × T)},nP n xs=true->∀f x,xs.lookup f=some x->lt n x=true
 | [],_,f,x,e=>by simp at e
 | (a,b)::xs,h,f,x,e=>by
  rw [nP,Uw] at h;rw [US] at e;split at e
  ·cases e;exact h.1
  ·exact xS h.2 f x e
theorem RT.re {g' dy:G} {n0:Nat} (hr:∀n p,n<n0->at_ g'.α n=some p->at_ dy.α n=some p) (nQ:∀a o,g'.kn true a o->dy.kn true a o) (hm:dy.cls=g'.cls) (hw:dy.w=g'.w) {p:Option (U2 × U2)} {t:T} {v:Uq} (h:RT g' p t v) :
  ∀{q:Option (U2 × U2)},lt n0 t=true->(p=none->q=none)->(∀a d b o,sX p a d->(b=a\/b=d)->g'.kn p.isNone b o->sX q a d/\dy.kn q.isNone b o)->RT dy q t v:=by
 have k0:∀a d b o,sX none a d->(b=a\/b=d)->g'.kn (none:Option (U2 × U2)).isNone b o->sX none a d/\dy.kn (none:Option (U2 × U2)).isNone b o:=fun a d b o _ _ k=>⟨.inl rfl,nQ b o k⟩
 induction h with
 | cm=>intro q _ hp _;rw [hp rfl];exact .cm
 | bl b=>intro q _ hp _;rw [hp rfl];exact .bl b
 | int i t=>intro q _ hp _;rw [hp rfl];exact .int i t
 | str s t h=>intro q _ hp _;rw [hp rfl];exact .str s t h
 | ty n=>intro q _ hp _;rw [hp rfl];exact .ty n
 | own h=>intro q _ hp _;rw [hp rfl];exact .own (by rw [hm];exact h)
 | ref h=>intro q hl hp _;rw [hp rfl];exact .ref (hr _ _ (by rw [lt] at hl;exact of_decide_eq_true hl) h)
 | tup hk hc hd hz hl hi ih =>
  intro q bN hp hk';rw [hp rfl];rw [lt] at bN;exact .tup (nQ _ _ hk) hc hd hz hl fun i x v e1 e2=>ih i x v e1 e2 (gJ.mp bN i x e1) (fun _=>rfl) k0
 | lst ht hk hz hl hi ih =>
  intro q bN hp hk';have z:=hk' _ _ _ _ ht (.inl rfl) hk
  rw [lt] at bN;exact .lst z.1 z.2 hz hl fun i x v e1 e2=>ih i x v e1 e2 (gJ.mp bN i x e1) (fun _=>rfl) k0
 | aS ht hk hx hd hz hl hn hs hh h1 h2 i1 i2 =>
  intro q bN hp hk';have z:=hk' _ _ _ _ ht (.inl rfl) hk
  rw [lt] at bN;exact .aS z.1 z.2 hx hd hz hl hn hs (by rw [hw];exact hh) (fun i x v e1 e2=>i1 i x v e1 e2 (lP.mp bN i x e1).1 (fun _=>rfl) k0) fun i x v e1 e2=>i2 i x v e1 e2 (lP.mp bN i x e1).2 (fun _=>rfl) k0
 | obj ht hne hc hk qF hd hs hu hz hn hl hi ih =>
  intro q bN hp hk';have z:=hk' _ _ _ _ ht (.inl rfl) hk
  have z2:=hk' _ _ _ _ ht (.inr rfl) qF;rw [lt] at bN;exact .obj z.1 hne (by rw [hm];exact hc) z.2 z2.2 hd hs hu hz hn hl fun f x v e1 e2=>ih f x v e1 e2 (xS bN f x e1) (fun _=>rfl) k0
theorem uW {n:Nat}:∀{xs:List (Str × T)},(∀p∈xs,lt n p.2=true)->nP n xs=true
 | [],_=>rfl
 | (a,b)::xs,h=>by
  rw [nP,h _ Um,uW fun p hp=>h p (Up _ hp)];rfl
theorem iO {α β:Type} {f:α->Option β}:∀{xs:List α} {ys:List β},xs.mapM f=some ys->xs.length=ys.length/\∀(i:Nat) y,ys[i]?=some y->∃x,xs[i]?=some x/\f x=some y
 | [],ys,h=>by simp at h;subst h;exact⟨rfl,fun i y e=>by simp at e⟩
 | x::xs,ys,h=>by
  rw [Wr] at h;cases e1:f x with
  | none=>rw [e1] at h;cases h
  | some y =>
   cases e2:xs.mapM f with
   | none=>rw [e1,e2] at h;cases h
   | some zs =>
    rw [e1,e2] at h;cases h;obtain⟨l,a⟩:=iO e2;refine⟨by simp [l],fun i z e=>?_⟩;cases i with
    | zero=>simp at e;subst e;exact⟨x,rfl,e1⟩
    | succ i=>exact a i z (by simpa using e)
theorem gK {g' dy:G} {n0:Nat} {L':aa} (hr:∀n p,n<n0->at_ g'.α n=some p->at_ dy.α n=some p) (nQ:∀a o,g'.kn true a o->dy.kn true a o) (hc:∀n c,n0<=n->at_ L' n=some c->(∀k,cz n0 L' k c=none)\/∃p,at_ g'.α n=some p/\RT g' (some p) c (.ref p.1)/\∀b o,(b=p.1\/b=p.2)->g'.kn false b o->dy.kn true b o) (hm:dy.cls=g'.cls) (hw:dy.w=g'.w) :
  ∀(k:Nat) {p:Option (U2 × U2)} {t t':T} {v:Uq},RT g' p t v->(∀q,p=some q->∀b o,(b=q.1\/b=q.2)->g'.kn false b o->dy.kn true b o)->cz n0 L' k t=some t'->RT dy none t' v
 | 0,_,_,_,_,_,_,e=>by cases e
 | k+1,p,t,t',v,h,hp,e=>by
  have kn:∀a d b o,sX p a d->(b=a\/b=d)->g'.kn p.isNone b o->sX none a d/\dy.kn (none:Option (U2 × U2)).isNone b o:=fun a d b o ht hb hk=>by
   refine⟨.inl rfl,?_⟩;rcases ht with rfl|rfl
   ·exact nQ b o hk
   ·exact hp _ rfl b o hb hk
  unfold cz at e;split at e
  ·rename_i hl
   cases e;exact h.re hr nQ hm hw hl (fun _=>rfl) kn
  ·rename_i bN
   have LN:∀q:U2 × U2,(none:Option (U2 × U2))=some q->∀b o,(b=q.1\/b=q.2)->g'.kn false b o->dy.kn true b o:=fun q z=>by cases z
   cases h with
   | cm=>cases e
   | bl b=>cases e
   | int i t=>cases e
   | str s t h=>cases e
   | ty n=>cases e
   | own h=>cases e
   | ref h =>
    rename_i n p;have hn:n0<=n:=Nat.le_of_not_lt fun z=>bN (by rw [lt];exact decide_eq_true z)
    cases ec:at_ L' n with
    | none=>simp only [ec] at e;cases e
    | some c =>
     simp only [ec] at e;rcases hc n c hn ec with z|⟨q,h1,h2,h3⟩
     ·rw [z] at e;cases e
     ·rw [h] at h1;cases h1
      exact gK hr nQ hc hm hw k h2 (fun q z=>by cases z;exact h3) e
   | tup hk HZ hd hz hl hi =>
    obtain⟨ys,e1,rfl⟩:=UA.mp e;obtain⟨len,at'⟩:=iO e1;exact .tup (nQ _ _ hk) HZ hd (by rw [<- len];exact hz) (by rw [<- len];exact hl) fun i y v q1 q2=>let ⟨x,x1,x2⟩:=at' i y q1;gK hr nQ hc hm hw k (hi i x v x1 q2) LN x2
   | lst ht hk hz hl hi =>
    obtain⟨ys,e1,rfl⟩:=UA.mp e;obtain⟨len,at'⟩:=iO e1;have z:=kn _ _ _ _ ht (.inl rfl) hk
    exact .lst z.1 z.2 (by rw [<- len];exact hz) (by rw [<- len];exact hl) fun i y v q1 q2=>let ⟨x,x1,x2⟩:=at' i y q1;gK hr nQ hc hm hw k (hi i x v x1 q2) LN x2
   | aS ht hk hx hd hz hl hn hs hh h1 h2 =>
    rename_i a o es nn ks;obtain⟨ys,e1,rfl⟩:=UA.mp e;obtain⟨len,at'⟩:=iO e1;have z:=kn _ _ _ _ ht (.inl rfl) hk
    have at2:∀(i:Nat) y,ys[i]?=some y->∃x,ks[i]?=some x/\lt n0 x.1=true/\x.1=y.1/\cz n0 L' k x.2=some y.2:=fun i y q=>by
     obtain⟨x,x1,x2⟩:=at' i y q;split at x2
     ·rename_i IQ
      obtain⟨z,z1,rfl⟩:=UA.mp x2;exact⟨x,x1,IQ,rfl,z1⟩
     ·cases x2
    refine .aS z.1 z.2 hx hd (by rw [<- len];exact hz) (by rw [<- len];exact hl) ?_ hs (fun i y v q1 q2=>?_) (fun i y v q1 q2=>?_) fun i y v q1 q2=>?_
    ·have:ys.map (·.1)=ks.map (·.1):=YZ fun i=>by
      rw [UM,UM];cases q:ys[i]? with
      | none=>rw [Wf (by rw [len];exact YR.mp q)]
      | some y=>obtain⟨x,x1,_,x3,_⟩:=at2 i y q;rw [x1];show some y.1=some x.1;rw [x3]
     rw [this];exact hn
    ·obtain⟨x,x1,_,x3,_⟩:=at2 i y q1;rw [hw,<- x3];exact hh i x v x1 q2
    ·obtain⟨x,x1,x2,x3,_⟩:=at2 i y q1
     rw [<- x3];exact(h1 i x v x1 q2).re hr nQ hm hw x2 (fun _=>rfl) fun a d b o _ _ k=>⟨.inl rfl,nQ b o k⟩
    ·obtain⟨x,x1,_,_,x4⟩:=at2 i y q1;exact gK hr nQ hc hm hw k (h2 i x v x1 q2) LN x4
   | obj ht hne HZ hk qF hd hs hu hz hn hl hi =>
    rename_i a d C od es nn cn fs;obtain⟨ys,e1,rfl⟩:=UA.mp e;obtain⟨len,at'⟩:=iO e1;have z:=kn _ _ _ _ ht (.inl rfl) hk
    have z2:=kn _ _ _ _ ht (.inr rfl) qF;have lk:∀(fs ys:List (Str × T)),fs.length=ys.length->(∀(i:Nat) y,ys[i]?=some y->∃x,fs[i]?=some x/\x.1=y.1/\cz n0 L' k x.2=some y.2)->∀f,(∀y,ys.lookup f=some y->∃x,fs.lookup f=some x/\cz n0 L' k x=some y)/\(ys.lookup f).isSome=(fs.lookup f).isSome:=fun fs=>by
     induction fs with
     | nil=>intro ys hl _ f;cases ys with
      | nil=>exact⟨fun y e=>by simp at e,rfl⟩
      | cons _ _=>simp at hl
     | cons x fs ih =>
      intro ys hl h f;cases ys with
      | nil=>simp at hl
      | cons y ys =>
       obtain⟨x',q1,q2,q3⟩:=h 0 y rfl;simp at q1;subst q1;have r:=ih ys (by simpa using hl) (fun i y e=>by simpa using h (i+1) y (by simpa using e)) f
       obtain⟨xa,xb⟩:=x;obtain⟨ya,yb⟩:=y;have q2:xa=ya:=q2
       subst q2;rw [US,US];cases f == xa with
       | true=>exact⟨fun y e=>⟨xb,rfl,by cases e;exact q3⟩,rfl⟩
       | false=>exact r
    have at2:=lk _ ys len fun i y q=>by
     obtain⟨x,x1,x2⟩:=at' i y q;obtain⟨z,z1,rfl⟩:=UA.mp x2;exact⟨x,x1,rfl,z1⟩
    have names:ys.map (·.1)=fs.map (·.1):=YZ fun i=>by
     rw [UM,UM];cases q:ys[i]? with
     | none=>rw [Wf (by rw [len];exact YR.mp q)]
     | some y =>
      obtain⟨x,x1,x2⟩:=at' i y q;obtain⟨z,z1,rfl⟩:=UA.mp x2;rw [x1];rfl
    exact .obj z.1 hne (by rw [hm];exact HZ) z.2 z2.2 hd hs hu (by rw [<- len];exact hz) (by rw [names];exact hn) (fun f=>by rw [(at2 f).2];exact hl f) fun f y v q1 q2=>let ⟨x,x1,x2⟩:=(at2 f).1 y q1;gK hr nQ hc hm hw k (hi f x v x1 q2) LN x2
theorem E8 {g' dy:G} {n0:Nat} {L':aa} (hr:∀n p,n<n0->at_ g'.α n=some p->at_ dy.α n=some p) (nQ:∀a o,g'.kn true a o->dy.kn true a o) (tf:∀n p b o,n0<=n->at_ g'.α n=some p->(b=p.1\/b=p.2)->g'.kn false b o->dy.kn true b o) (hm:dy.cls=g'.cls) (hw:dy.w=g'.w) (r:Rel g' L') (k:Nat) {t t':T} {v:Uq} (h:RT g' none t v) (e:cz n0 L' k t=some t'):RT dy none t' v :=
 gK hr nQ (fun n c hn q=>let ⟨p,h1,h2⟩:=r.cells n c q;.inr ⟨p,h1,h2,fun b o hb=>tf n p b o hn h1 hb⟩) hm hw k h (fun q z=>by cases z) e
theorem jE {α:Type} {n0 n:Nat}:∀{L:List α},n<n0->n0<=L.length->at_ (L.drop (L.length - n0)) n=at_ L n
 | [],h1,h2=>by simp at h2;omega
 | c::L,h1,h2=>by
  by_cases e:n0=(c::L).length
  ·rw [<- e,Nat.sub_self,Z3]
  ·have h3:n0<=L.length:=by simp at h2 e;omega
   have e2:(c::L).length - n0=(L.length - n0)+1:=by simp;omega
   rw [e2,List.drop_succ_cons,jE h1 h3];have z:¬ n=L.length:=by omega
   conv=>rhs;unfold at_;rw [if_neg z]
theorem xU {α:Type}:∀{fs:List (Str × α)} {p:Str × α},(fs.map (·.1)).Nodup->p∈fs->fs.lookup p.1=some p.2
 | (a,b)::fs,p,hn,hp=>by
  rw [US];rw [Uy,Vd] at hn;rcases UG.mp hp with rfl|hp
  ·simp
  ·have:(p.1 == a)=false:=by
    cases e:p.1 == a with
    | false=>rfl
    | true=>exact absurd (Ur.mpr ⟨p,hp,by simpa using e⟩) hn.1
   rw [this];exact xU hn.2 hp
theorem RT.lt {g:G} {p:Option (U2 × U2)} {t:T} {v:Uq} (h:RT g p t v):M.lt g.α.length t=true:=by
 induction h with
 | ref h=>rw [M.lt];exact decide_eq_true (fL h)
 | tup hk hc hd hz hl hi ih =>
  rw [M.lt,gJ];intro i x e;have:=(UI.mp e).1
  exact ih i x _ e (by rw [Ux (by omega)])
 | lst ht hk hz hl hi ih =>
  rw [M.lt,gJ];intro i x e;have:=(UI.mp e).1
  exact ih i x _ e (by rw [Ux (by omega)])
 | aS ht hk hx hd hz hl hn hs hh h1 h2 i1 i2 =>
  rw [M.lt,lP];intro i x e;have:=(UI.mp e).1
  exact⟨i1 i x _ e (by rw [Ux (by omega)]),i2 i x _ e (by rw [Ux (by omega)])⟩
 | obj ht hne hc hk qF hd hs hu hz hn hl hi ih =>
  rw [M.lt];refine uW fun q hq=>?_
  have e:=xU hn hq;obtain⟨v,ev⟩:=Vs.mp ((hl q.1).symm.trans (by rw [e];rfl));exact ih q.1 q.2 v e ev
 | _=>rfl
theorem E9 {g g':G} {L L' Lo:aa} {t t':T} {u:Uq} (l:Le g g') (r0:Rel g L) (r:Rel g' L') (h:RT g' none t u) (e:fin L t L'=.ok t' Lo) :
  ∃dy,Le g dy/\Rel dy Lo/\RT dy none t' u/\(∀a b o,dy.H a=some (b,o)->∃b',g'.H a=some (b',o))/\(∀a,g'.H a=none->dy.H a=none)/\∀a o,g'.H a=some (true,o)->dy.H a=some (true,o):=by
 classical
 unfold fin at e;split at e
 ·rename_i ho
  have n0:L.length<=L'.length:=by
   cases hn:L.length with
   | zero=>exact U4 _
   | succ m =>
    obtain⟨p,hp⟩:=pq (L:=g.α) (n:=m) (by rw [r0.len];omega);have:=fL (l.α _ _ hp)
    rw [r.len] at this;omega
  cases ef:cz L.length L' 9 t with
  | none=>rw [ef] at e;cases e
  | some t1 =>
   rw [ef] at e;cases e
   let nw:U2->Prop:=fun a=>∃n p,L.length<=n/\at_ g'.α n=some p/\(a=p.1\/a=p.2)
   let dy:G:={ g' with H:=fun a=>if nw a then (g'.H a).map fun q=>(true,q.2) else g'.H a,α:=g'.α.drop (g'.α.length - L.length) }
   have hH:∀a,dy.H a=if nw a then (g'.H a).map fun q=>(true,q.2) else g'.H a:=fun _=>rfl
   have hα:∀n,n<L.length->at_ dy.α n=at_ g'.α n:=fun n hn=>jE hn (by rw [r.len];exact n0)
   have cz:∀a o,g'.H a=some (true,o)->dy.H a=some (true,o):=fun a o q=>by
    rw [hH];split
    ·rw [q];rfl
    ·exact q
   have nQ:∀a o,g'.kn true a o->dy.kn true a o:=fun a o q=>q.elim (fun q=>.inl (cz a o q)) .inr
   have tf:∀n p b o,L.length<=n->at_ g'.α n=some p->(b=p.1\/b=p.2)->g'.kn false b o->dy.kn true b o:=fun n p b o hn hp hb q=>by
    rcases q with q|⟨z,_⟩
    ·refine .inl ?_
     rw [hH,if_pos ⟨n,p,hn,hp,hb⟩,q];rfl
    ·cases z
   have hr:∀n p,n<L.length->at_ g'.α n=some p->at_ dy.α n=some p:=fun n p hn hp=>(hα n hn).trans hp
   have xV:∀n p,n<L.length->at_ g'.α n=some p->¬ nw p.1/\¬ nw p.2:=fun n p hn hp=>by
    refine⟨?_,?_⟩ <;>
    ·rintro⟨m,q,hm,hq,hb⟩
     have ap:=r.apart n m p q hp hq (by omega);rcases hb with hb|hb
     ·first|exact ap.1 hb|exact ap.2.2.1 hb
     ·first|exact ap.2.1 hb|exact ap.2.2.2 hb
   refine⟨dy,⟨fun a o q=>cz a o (l.f a o q),fun n p q=>hr n p (by rw [<- r0.len];exact fL q) (l.α n p q),l.B,l.m,l.w⟩,⟨?_,fun n c q=>?_,fun n m p q h1 h2=>?_,fun n p q=>?_⟩,E8 hr nQ tf rfl rfl r 9 h ef,fun a b o q=>?_,fun a q=>?_,cz⟩
   ·show(g'.α.drop _).length=_
    rw [U9,U9,r.len]
   ·have hn:n<L.length:=by have:=fL q;rw [U9] at this;omega
    have q':at_ L' n=some c:=(jE hn n0).symm.trans q
    obtain⟨p,h1,h2⟩:=r.cells n c q';have bN:M.lt L.length c=true:=by
     rcases ho n c q with z|z
     ·obtain⟨p0,_,z2⟩:=r0.cells n c z
      rw [<- r0.len];exact z2.lt
     ·exact z
    refine⟨p,hr n p hn h1,h2.re hr nQ rfl rfl bN (fun z=>by cases z) fun a d b o ht hb hk=>⟨ht,?_⟩⟩;have no:=xV n p hn h1
    rcases ht with z|z
    ·cases z
    ·cases z
     rcases hk with hk|⟨z,_⟩
     ·refine .inl ?_
      rw [hH,if_neg (by rcases hb with hb|hb <;> rw [hb];exact no.1;exact no.2)];exact hk
     ·cases z
   ·have hn:n<L.length:=by have:=fL h1;rw [U9,r.len] at this;omega
    have hm:m<L.length:=by have:=fL h2;rw [U9,r.len] at this;omega
    exact r.apart n m p q ((hα n hn).symm.trans h1) ((hα m hm).symm.trans h2)
   ·have hn:n<L.length:=by have:=fL q;rw [U9,r.len] at this;omega
    have q':=(hα n hn).symm.trans q;obtain⟨⟨o1,h1⟩,o2,h2⟩:=r.live n p q';have no:=xV n p hn q'
    exact⟨⟨o1,by rw [hH,if_neg no.1];exact h1⟩,o2,by rw [hH,if_neg no.2];exact h2⟩
   ·rw [hH] at q
    split at q
    ·obtain⟨z,z1,z2⟩:=UA.mp q
     cases z2;exact⟨z.1,z1⟩
    ·exact⟨b,q⟩
   ·rw [hH,q];split <;> rfl
 ·cases e
structure fH (k:Nat) (A:Vj):Prop where
 hd:A.handled=none
 dp:A.depth+3 * k+5<recursionLimit
 un:A.units+16 * k+200<cLine
theorem fH.mono {j k:Nat} {A:Vj} (r:fH k A) (h:j<=k):fH j A:=⟨r.hd,by have:=r.dp;omega,by have:=r.un;omega⟩
theorem fH.deeper {k:Nat} {A:Vj} (r:fH (k+1) A) (env:Env):fH k (A.deeper env) :=
 ⟨r.hd,by have:=r.dp;show A.depth+1+3 * k+5<_;omega,by have:=r.un;show A.units+3+16 * k+200<_;omega⟩
theorem tq {A:Vj} {C:U2} {us:List Uq} {kw:List (Str × Uq)}:(A.under (.builtin "type.__call__" ⟨.ref C::us,kw⟩)).depth=A.depth+1:=by
 first|rfl|simp [Around.under,Code.weight,Code.isCreation,Code.isGuard,Code.isCaller,Code.frames,Code.isFrame,guardIds]
theorem tu {A:Vj} {C:U2} {us:List Uq} {kw:List (Str × Uq)}:(A.under (.builtin "type.__call__" ⟨.ref C::us,kw⟩)).units=A.units+1:=by
 first|rfl|simp [Around.under,Code.cUnits,Code.frames,Code.isFrame]
theorem fH.make {k:Nat} {A:Vj} (r:fH (k+1) A) (C:U2) (us:List Uq) (kw:List (Str × Uq)):fH k (A.under (.builtin "type.__call__" ⟨.ref C::us,kw⟩)) :=
 ⟨r.hd,by have:=r.dp;rw [tq];omega,by have:=r.un;rw [tu];omega⟩
theorem fH.depth {k:Nat} {A:Vj} (r:fH k A):A.depth<recursionLimit:=by have:=r.dp;omega
theorem fH.units {k:Nat} {A:Vj} (r:fH k A):A.units+64<cLine:=by have:=r.un;omega
structure tw (h:Heap) (x dx C:U2) (mA:Str->Option Uq):Prop where
 obj:h.get? x=some (Vr C dx)
 ns:h.Ns1 dx mA
 ne:dx≠x
theorem wy {h:Heap} {dx:U2} {mA:Str->Option Uq} (n:h.Ns1 dx mA):∃od,h.get? dx=some od/\∀name,YS name od=some (mA name):=by
 obtain⟨o,es,ep,ho,hd,hk,_,hm⟩:=n;refine⟨o,ho,fun name=>?_⟩;have e:=hm name
 unfold nsFind findBy at e;rw [<- Array.find?_toList] at e;unfold YS;rw [hd];dsimp only;split
 ·rename_i y q
  rw [q] at e;exact congrArg some e
 ·rename_i q
  rw [q] at e;have a:es.toList.any (·.refKey)=false:=by
   rw [X3];intro y hy;obtain⟨z,t,hkey⟩:=hk y (Xv.mp hy);simp [DictEntry.refKey,hkey]
  have a':¬ es.toList.any (·.refKey)=true:=by rw [a];exact WE
  rw [if_neg a'];exact congrArg some e
theorem tw.look {h:Heap} {x dx C:U2} {mA:Str->Option Uq} (I:tw h x dx C mA):∃od,PySem.W.InstAt h x (Vr C dx) C (some od)/\∀name,YS name od=some (mA name) :=
 let ⟨od,ho,hl⟩:=wy I.ns
 ⟨od,⟨I.obj,rfl,rfl,ho⟩,hl⟩
section
variable {prog:VB} {w:Wy} {A:Vj} {E:Uq->Uu->Prop} {s:Uu} {K:UX} {x dx C f:U2} {mA:Str->Option Uq} {name:Str} {v:Uq}
theorem get_map {expr:Bool} {Q:Uq->Uu->Prop} (X:K.In s.heap) (I:tw s.heap x dx C mA) (hg:XF K C name=true) (hh:X4 K C=true)
  (ha:Vu K (.ref C) name=some none) (hv:mA name=some v) (hv':aao v=true) (h:Q v { s with toks:=s.toks+1 }) :
  UK (model prog w) A (getAttr (.ref x) name expr) Q E s:=by
 obtain⟨od,J,hl⟩:=I.look;exact PySem.W.get_value X J (Ys hg).1 (PySem.W.findObj_own hh ha rfl (by rw [hl,hv])) hv' h
theorem xW {pl:Sem Bool} {Q:Uq × List Uq->Uu->Prop} (X:K.In s.heap) (I:tw s.heap x dx C mA) (hg:XF K C name=true)
  (hf:Vu K (.ref C) name=some (some (.ref f))) (ht:XN K (.ref f)=true) (hv:mA name=none) (h:Q (.ref f,[.ref x]) s) :
  UK (model prog w) A (getMethod (.ref x) name pl) Q E s:=by
 obtain⟨od,J,hl⟩:=I.look;exact PySem.W.method_fn X J (Ys hg).1 (Ys hg).2 hf (beq_iff_eq.mp ht) (by show(YS name od).map (·.isSome)=some false;rw [hl,hv];rfl) h
theorem BB {ns:List Str} {Q:Unit->Uu->Prop} (X:K.In s.heap) (I:tw s.heap x dx C mA)
  (hs:Vu K (.ref C) "__setattr__"=some (some (.builtin "object.__setattr__"))) (hp:Y0 K C=true) (ht:ZR K C name=some none) (hh:X4 K C=true)
  (hw:PySem.Within mA ns) (hsz:ns.length<=UU)
  (h:∀h',tw h' x dx C (fun y=>if y=name then some v else mA y)->V6 dx s.heap h'->Q () { s with heap:=h',toks:=s.toks+2 }) :
  UK (model prog w) A (setAttr (.ref x) name v) Q E s:=by
 obtain⟨od,J,hl⟩:=I.look;refine PySem.W.set_plain X J hs (PySem.W.osa_open (s:={ s with toks:=s.toks+1 }) (r:=none) X J hp ht fun b=>?_);obtain⟨cd,hc,hd'⟩:=PySem.W.any_some hh;have hx:s.heap.get? x=some ⟨.ref C,some dx,.plain,#[]⟩:=I.obj
 refine Ui (Uk (Ui (Ui (wpAny_loadPart hx (Ui (PySem.W.Looks.here (s:={ s with toks:=s.toks+1 }) (PySem.W.looks_clsIn X hc) ?_))))));rw [hd'];refine Uk (a:=some dx) (Ui (Uk (Ui ?_)));refine wpAny_nsSet1 (s:={ s with toks:=s.toks+1 }) I.ns fun h' wx sM=>?_
 obtain⟨oD,TN,TQ,Q4,Q5,Q6⟩:=wx.count (PySem.Within.cons name v hw);refine Ui (wpAny_lookBehind Q4 (by rw [Q5];exact pastItsLine_dict (UO Q6 (by rw [Ut];omega))) ?_);exact Uk (h _ ⟨(sM.2 _ (VU I.ne)).trans I.obj,wx,I.ne⟩ sM)
theorem xX {R:Result->Uu->Prop} {vs:List Uq} {kw:List (Str × Uq)} (X:K.In s.heap) (hm:Yt K C=true)
  (hi:Vu K (.ref C) "__init__"=some (some (.ref f))) (hf:PySem.W.typeIn K (.ref f)=some (.type "function"))
  (h:codeAny (model prog w) (A.under (.builtin "type.__call__" ⟨.ref C::vs,kw⟩)) (.call (.ref f) ⟨.ref (s.heap.objs.size+1)::vs,kw⟩) (PySem.W.InitBack (s.heap.objs.size+1) R)
   { s with heap:=(s.heap.push Vt).push (Vr C s.heap.objs.size) }) :
  codeAny (model prog w) A (.call (.ref C) ⟨vs,kw⟩) R s:=by
 obtain⟨hh,g,d,t,os⟩:=s;exact PySem.W.make_core (PySem.W.makes_of X hm) (PySem.W.looks_findIn X hi) (fun self=>PySem.W.bind_fn X self hf) (.inl rfl) h
end
structure BC (K:UX) (C:U2):Prop where
 pg:XF K C Str.empty=true
 hd:X4 K C=true
 po:Y0 K C=true
 sa:Vu K (.ref C) "__setattr__"=some (some (.builtin "object.__setattr__"))
theorem BC.get {K:UX} {C:U2} (c:BC K C) (f:Str):XF K C f=true:=c.pg
noncomputable def jk (K:UX) (C:U2) (f:Str):Prop:=Vu K (.ref C) f=some none
theorem jk.IS {K:UX} {C:U2} {f:Str} (n:jk K C f):ZR K C f=some none:=by
 unfold ZR;rw [show Vu K (.ref C) f=some none from n];rfl
structure Meth (K:UX) (C:U2) (m:Str) (f:U2):Prop where
 at_:Vu K (.ref C) m=some (some (.ref f))
 fn:XN K (.ref f)=true
 kp:VE K (.ref f)=true
section
variable {A:Vj} {E:Uq->Uu->Prop}
theorem attr_of {prog:VB} {w:Wy} {env:Env} {e:Expr} {f:Str} {pos:Pos} {s:Uu} {Q:Uq->Uu->Prop} (hb:attributeBase e f env (eval e env)=eval e env)
  (h:UK (model prog w) A (eval e env) (fun o s₁=>UK (model prog w) A (getAttr o f true) Q E s₁) E s):UK (model prog w) A (eval (.Attribute e f pos) env) Q E s :=
 Attribute_any_ h (by rw [arm_eval_Attribute,hb])
end
theorem oo {kindOf:Str->Option NameKind} {x:Str}:∀{binds:List (Str × Uq)} {m:Str->Option Uq},(∀v,(x,v)∉binds)->bindL kindOf binds m x=m x
 | [],_,_=>rfl
 | (n,v)::r,m,h=>by
  unfold bindL;rw [oo fun w hw=>h w (Up _ hw)];split
  ·have:x≠n:=by rintro rfl;exact h v Um
   simp [this]
  ·rfl
theorem oq {kindOf:Str->Option NameKind} {x:Str}:∀{binds:List (Str × Uq)} {m:Str->Option Uq},(∀v,(x,v)∉binds)->bindC kindOf binds m x=m x
 | [],_,_=>rfl
 | (n,v)::r,m,h=>by
  unfold bindC;rw [oq fun w hw=>h w (Up _ hw)];split
  ·rfl
  ·have:x≠n:=by rintro rfl;exact h v Um
   simp [this]
theorem ou {kindOf:Str->Option NameKind} {x:Str} {v:Uq}:∀{P:List Str} {vs:List Uq} {i:Nat} {m:Str->Option Uq},P.Nodup->P[i]?=some x->vs[i]?=some v->kindOf x=some .local ->
  bindL kindOf (P.zip vs) m x=some v
 | [],_,_,_,_,h,_,_=>by simp at h
 | _::_,[],_,_,_,_,h,_=>by simp at h
 | p::P,w::vs,0,m,nd,h1,h2,hk=>by
  simp at h1 h2;subst h1;subst h2;show bindL kindOf ((p,w)::P.zip vs) m p=_
  unfold bindL;rw [oo fun v hv=>(Vd.mp nd).1 (Xf hv).1,if_pos hk];simp
 | p::P,w::vs,i+1,m,nd,h1,h2,hk=>by
  show bindL kindOf ((p,w)::P.zip vs) m x=_;unfold bindL;exact ou (i:=i) (Vd.mp nd).2 (by simpa using h1) (by simpa using h2) hk
theorem ow {kindOf:Str->Option NameKind} {x:Str} {v:Uq}:∀{P:List Str} {vs:List Uq} {i:Nat} {m:Str->Option Uq},P.Nodup->P[i]?=some x->vs[i]?=some v->kindOf x≠some .local ->
  bindC kindOf (P.zip vs) m x=some v
 | [],_,_,_,_,h,_,_=>by simp at h
 | _::_,[],_,_,_,_,h,_=>by simp at h
 | p::P,w::vs,0,m,nd,h1,h2,hk=>by
  simp at h1 h2;subst h1;subst h2;show bindC kindOf ((p,w)::P.zip vs) m p=_
  unfold bindC;rw [oq fun v hv=>(Vd.mp nd).1 (Xf hv).1,if_neg hk];simp
 | p::P,w::vs,i+1,m,nd,h1,h2,hk=>by
  show bindC kindOf ((p,w)::P.zip vs) m x=_;unfold bindC;exact ow (i:=i) (Vd.mp nd).2 (by simpa using h1) (by simpa using h2) hk
theorem qT {sc:Scope} {n:Nat} {x:Str} (h:sc.names.lookup x=some .cell):∃c,(cellsFrom n sc.names []).lookup x=some c:=by
 have q:=X0 sc.names n [] (.inl h);exact Vs.mp q
section
variable {X:Cx} {pins:bg} {φ:Fr} {g g1:G} {L L':aa} {s s':Uu} {w t:T} {u:Uq} {e o:Expr} {es:List Expr} {m ma mb:SE} {pos apos:Pos} {x f:Str} {A:Vj} {E:Uq->Uu->Prop}
theorem RT.handed {t:T} {u:Uq} (r:RT g none t u):aao u=true:=by cases r <;> rfl
structure ClsOk (K:UX) (fl:List Str) (C:U2):Prop where
 c:BC K C
 n:∀f∈fl,jk K C f
theorem Inv.obj {p:Option (U2 × U2)} {cn:Str} {fs:List (Str × T)} (I:Inv X pins φ g L s) (r:RT g p (.obj cn fs) u):∃a d C es,u=.ref a/\X.cls cn=some C/\tw s.heap a d C (nsFind es)/\(∀f,(fs.lookup f).isSome=(nsFind es f).isSome)/\(∀f x v,fs.lookup f=some x->nsFind es f=some v->RT g none x v)/\fs.length<=1000/\(fs.map (·.1)).Nodup/\sX p a d/\d≠a /\
  g.kn p.isNone a (Vr C d)/\∃od,g.kn p.isNone d od:=by
 cases r with
 | obj ht hne hc hk qF hd hs hu hz hn hl hi=>exact⟨_,_,_,_,rfl,by rw [<- I.gm];exact hc,⟨I.kn hk,⟨_,_,_,I.kn qF,hd,hs,hu,fun _=>rfl⟩,hne⟩,hl,hi,hz,hn,ht,hne,hk,_,qF⟩
noncomputable def okBase:Expr->Bool
 | .Call (.Name _ _) [] [] _=>false
 | _=>true
theorem base_ok {env:Env} {w:Sem Uq} (h:okBase o=true):attributeBase o x env w=w:=by
 unfold attributeBase;split
 ·cases h
 ·rfl
theorem pe_fld {fl:List Str} (hC:∀c C,X.cls c=some C->ClsOk X.K fl C) (hf:f∈fl) (he:PE X o m) (hb:okBase o=true):PE X (.Attribute o f pos) (b1 m (fld f)):=fun I h=>by
 obtain⟨t,L1,e1,h⟩:=R.of h;refine attr_of (base_ok hb) (thn (he I e1) fun u s1 ⟨g1,l1,I1,r1⟩=>?_);obtain⟨p,r⟩:=I1.view r1;unfold fld at h;cases ev:vw L1 t with
 | obj c fs =>
  rw [ev] at h r;obtain⟨a,d,C,es,rfl,hc,O,hl,hi,_⟩:=I1.obj r;have h:lift (fs.lookup f) L1=.ok _ _:=h
  cases el:fs.lookup f with
  | none=>rw [el] at h;cases h
  | some x =>
   rw [el] at h;cases h;obtain⟨v,ev⟩:=Vs.mp ((hl f).symm.trans (by rw [el];rfl));have K:=hC c C hc
   have rv:=hi f _ v el ev;exact get_map I1.Eu O (K.c.get f) K.c.hd (K.n f hf) ev rv.handed ⟨g1,l1,I1.tok _,rv⟩
 | _=>rw [ev] at h;cases h
theorem pz:∀{fs:List (Str × T)} {f y:Str} {t:T},(jv fs f t).lookup y=if y=f then some t else fs.lookup y
 | [],f,y,t=>by
  unfold jv;rw [US];by_cases h:y=f
  ·subst h;simp
  ·have:(y == f)=false:=by simpa using h
   simp [this,h]
 | (a,b)::fs,f,y,t=>by
  unfold jv;split
  ·rename_i e
   subst e;rw [US,US];by_cases h:y=a
   ·subst h;simp
   ·have:(y == a)=false:=by simpa using h
    simp [this,h]
  ·rename_i e
   rw [US,US,pz];cases q:y == a with
   | true =>
    have:y=a:=by simpa using q
    subst this;simp only [if_neg e]
   | false=>rfl
theorem mC:∀{fs:List (Str × T)} {f:Str} {t:T},(fs.map (·.1)).Nodup->((jv fs f t).map (·.1)).Nodup/\(jv fs f t).length<=fs.length+1/\∀y,y∈(jv fs f t).map (·.1)->y=f\/y∈fs.map (·.1)
 | [],f,t,_=>⟨by simp [jv],by simp [jv],fun y h=>Or.inl (by simpa [jv] using h)⟩
 | (a,b)::fs,f,t,h=>by
  rw [Uy,Vd] at h;unfold jv;split
  ·rename_i e
   subst e;exact⟨by rw [Uy,Vd];exact h,by simp,fun y hy=>Or.inr (by rw [Uy] at hy ⊢;exact hy)⟩
  ·rename_i e
   obtain⟨h1,h2,h3⟩:=mC (f:=f) (t:=t) h.2;refine⟨?_,by simp;omega,fun y hy=>?_⟩
   ·rw [Uy,Vd]
    exact⟨fun z=>(h3 a z).elim e h.1,h1⟩
   ·rw [Uy,UG] at hy
    rcases hy with hy|hy
    ·exact Or.inr (by rw [Uy];exact UG.mpr (Or.inl hy))
    ·exact(h3 y hy).imp id fun z=>by rw [Uy];exact Up _ z
theorem BD {fl:List Str} (hC:∀c C,X.cls c=some C->ClsOk X.K fl C) (hf:f∈fl) (ho:PE X o mb) (he:PE X e m) (hs:i9 e=true):PS X (.Assign [.Attribute o f apos] e pos) (jg mb f m):=fun {pins φ g L s} I h=>by
 obtain⟨t,L1,e1,e2,h⟩:=ij h;rw [show jg mb f m φ L=_ from e2];obtain⟨x,L2,e3,e4,h⟩:=ij h;rw [e4];cases ep:sU f x t L2 with
 | none=>simp only [ep] at h;exact absurd rfl h
 | some L3 =>
  simp only [ep];refine plainObj_wpAny_Assign_Attribute (thn (he I e1) fun u s1 ⟨g1,l1,I1,r1⟩=>thn (ho I1 e3) fun ov s2 ⟨g2,l2,I2,r2⟩=>?_) (jz hs);have Q7:=r1.le l2
  unfold sU at ep;cases x with
  | ref n =>
   cases r2 with
   | ref hp =>
    rename_i p;cases ea:at_ L2 n with
    | none=>simp only [ea] at ep;cases ep
    | some c =>
     cases c with
     | obj cn fs =>
      simp only [ea] at ep;split at ep
      ·rename_i IT
       cases ep;obtain⟨q,h1,h2⟩:=I2.rel.cells n _ ea;rw [hp] at h1;cases h1;obtain⟨a,d,C,es,eu,hc,O,hl,hi,hz,hn,ht,hne,hk,od,qF⟩:=I2.obj h2;rcases ht with z|z
       ·cases z
       cases z;have K:=hC cn C hc
       have hd2:g2.H d=some (false,od):=qF.elim id fun z=>by cases z.1
       have hk':g2.H a=some (false,Vr C d):=hk.elim id fun z=>by cases z.1
       have hw:PySem.Within (nsFind es) (fs.map (·.1)):=fun y hy=>by
        have z:(nsFind es y).isSome=true:=by cases q:nsFind es y with|none=>exact absurd q hy|some _=>rfl
        rw [<- hl y] at z;obtain⟨v,hv⟩:=Vs.mp z;exact Ur.mpr ⟨(y,v),Va hv,rfl⟩
       refine BB I2.Eu O K.c.sa K.c.po (K.n f hf).IS K.c.hd hw (by rw [Lm9,VV];omega) fun h' O' sb=>?_
       obtain⟨Pg,fW,HY,ho',hd',hs',ip,hm'⟩:=O'.ns;have qU:=Le.set (o:=Pg) hd2
       refine⟨g2.set d Pg,(l1.trans l2).trans qU,I2.set (p:=(a,d)) hp (.inr rfl) hd2 (fun b v hb q=>(sb.2 b hb).trans q) ho' ?_⟩;have nm:=mC (f:=f) (t:=t) hn
       refine .obj (.inr rfl) hne (by show g2.cls cn=_;rw [I2.gm];exact hc) (.inl ((aE (VU hne)).trans hk')) (.inl aw) hd' hs' ip (by omega) nm.1 (fun y=>?_) fun y z v q1 q2=>?_
       ·rw [pz,hm' y]
        by_cases hy:y=f
        ·simp [hy]
        ·simp only [hy,if_false];exact hl y
       ·rw [pz] at q1
        rw [hm' y] at q2;by_cases hy:y=f
        ·simp only [hy,if_true] at q1 q2
         cases q1;cases q2;exact Q7.le qU
        ·simp only [hy,if_false] at q1 q2
         exact(hi y z v q1 q2).le qU
      ·cases ep
     | _=>simp only [ea] at ep;cases ep
  | _=>cases ep
end
structure wz (P:VB) (w:Wy) (K:UX) (mg:Str->Option Uq) (cls:Str->Option U2) (base:Heap) (s:Uu) (g:G) (L:aa):Prop where
 mod:Mod K mg base
 bs:∀b o,base.get? b=some o->s.heap.get? b=some o/\g.H b=none
 HW:base.objs.size<=s.heap.objs.size
 hok:Bb g.H s.heap
 bare:AllBare s.gens
 rel:Rel g L
 gB:g.B=base
 gm:g.cls=cls
 gw:g.w=w
noncomputable def CE (g:G) (s:Uu) (t:T) (L':aa) (u:Uq) (s':Uu):Prop:=∃g',s'.os=s.os/\AllBare s'.gens/\Un [] g.H g'.H s.heap s'.heap/\Bb g'.H s'.heap/\Le g g'/\Rel g' L'/\RT g' none t u
noncomputable def CR (g:G) (s:Uu) (t:T) (L':aa) (r:Result) (s':Uu):Prop:=match r with
 | .ok (.ret u)=>CE g s t L' u s'
 | _=>False
noncomputable def fJ (P:VB) (w:Wy) (K:UX) (mg:Str->Option Uq) (cls:Str->Option U2) (base:Heap) (k:Nat) (f:U2) (m:Fn):Prop :=
 ∀{A:Vj} {s:Uu} {g:G} {L L':aa} {us:List Uq} {xs:List T} {t:T},fH k A->wz P w K mg cls base s g L->cP g xs us->m xs L=.ok t L'->codeAny (model P w) A (.call (.ref f) ⟨us,[]⟩) (CR g s t L') s
section
variable {X:Cx} {pins:bg} {φ:Fr} {g g1:G} {L L':aa} {s s':Uu} {w t:T} {u:Uq} {e o:Expr} {es:List Expr} {m ma mb:SE} {pos p apos:Pos} {x f:Str} {k:Nat} {fa C:U2} {F:Fn} {ms:List SE}
theorem Inv.MA (I:Inv X pins φ g L s):wz X.prog X.w X.K X.mg X.cls X.base s g L:=⟨I.ok.mod,I.bs,UO I.ok.HW I.sz,I.hok,I.bare,I.rel,I.gB,I.gm,I.gw⟩
theorem Inv.after (I:Inv X pins φ g L s) (h:CE g s t L' u s'):EP X pins φ g t L' u s':=by
 obtain⟨g',os,bare,un,hok,l,rel,r⟩:=h;exact⟨g',l,I.call (ch:=[]) l os un hok bare rel (fun b z=>absurd z (by simp)),r⟩
theorem tA (hF:fJ X.prog X.w X.K X.mg X.cls X.base k fa F) (hr:fH k X.A):d8 X (.ref fa) F:=fun I r h=>by
 refine wpAny_call (codeAny_mono (hF hr I.MA r h) fun r s' hq=>?_);cases r with
 | error e=>exact Y1 hq
 | ok fl=>cases fl <;> first|exact I.after hq|exact Y1 hq
theorem bU {env:Env}:∀{es:List Expr},es.all bo=true->(backTo pos (starEach es env)).any (·.1)=false
 | [],_=>rfl
 | e::es,h=>by
  rw [Vf,Uw] at h;rw [aD h.1];show(false || (backTo pos (starEach es env)).any (·.1))=false
  rw [bU h.2];rfl
theorem BE (hF:d8 X (.ref fa) F) (hg:Gl X x) (hm:X.mg x=some (.ref fa)) (hk:VE X.K (.ref fa)=true) (IU:(x == ("__debug__":Str))=false):PE X (.Call (.Name x p) [] [] pos) (ae F []):=fun I h =>
 wpAny_Call_Name_kw (pd I hg hm (Z5 I.Eu hk (hF (us:=[]) I .nil h)) IU)
theorem Fb (hF:d8 X (.ref fa) F) (hg:Gl X x) (hm:X.mg x=some (.ref fa)) (hk:VE X.K (.ref fa)=true) (ha:PA X (e::es) (iM ms)) (hs:(e::es).all bo=true) (IU:(x == ("__debug__":Str))=false):PE X (.Call (.Name x p) (e::es) [] pos) (ae F ms):=fun I h=>by
 obtain⟨ts,L1,e1,h⟩:=R.of h;rw [Vf,Uw] at hs;exact wpAny_Call_Name_kw (pd I hg hm (aae (h₀:=X.base) I.ok.mod.HV hk (thn (ha pos I e1) fun us s1 ⟨g1,l1,I1,r1⟩=>⟨I1.Eu,thn (hF I1 r1 h) fun _ _ z=>z.le l1⟩) (aD hs.1) (bU hs.2)) IU)
theorem qV {env:Env}:∀{es:List Expr},es.all bo=true->(backTo pos (starEach es env)).all (fun x=>!x.1)=true
 | [],_=>rfl
 | e::es,h=>by
  rw [Vf,Uw] at h;rw [aD h.1];show(true && (backTo pos (starEach es env)).all (fun x=>!x.1))=true
  rw [qV h.2];rfl
theorem tB {env:Env} (h:es.all bo=true) (hl:es.length<30):((backTo pos (starEach es env)).all (fun x=>!x.1) && (backToKw pos (keywordEach [] env)).all (fun x=>x.1.isSome)
   && decide (es.length+([]:List Keyword).length+(if ([]:List Keyword).isEmpty then 0 else 1)<30))=true:=by
 rw [qV h];show(true && true && decide (es.length+0+0<30))=true
 rw [decide_eq_true (show es.length+0+0<30 by omega)];rfl
theorem BF {o:Expr} {m:Str} {apos pos:Pos} {es:List Expr} {env:Env} (hb:okBase o=true) (h:es.all bo=true) (hl:es.length<30) (mD:(apos.endLine == pos.line)=true) :
  eval (.Call (.Attribute o m apos) es [] pos) env=(do
   let ov <- eval o env
   standAt apos.atName
   let (f,first) <- holding [ov] (getMethod ov m (do return (<- importBound o env).getD true))
   callWith pos f first (backTo pos (starEach es env)) (backToKw pos (keywordEach [] env))):=by
 rw [arm_eval_Call,base_ok hb];have hf:methodCallForm (es.length+([]:List Keyword).length) (backTo pos (starEach es env)) (backToKw pos (keywordEach [] env))=true:=tB h hl
 congr 1;funext ov;congr 1;funext _;unfold methodCall;rw [hf];have hp:methodCallPos true o env apos pos=pure pos:=by
  unfold methodCallPos;rw [mD];rfl
 rw [hp];have hc:calleeOf true o env ov m=getMethod ov m (do return (<- importBound o env).getD true):=rfl
 rw [hc];rfl
theorem BG {mf:Str->Option Fn} (hM:∀c C Fn,X.cls c=some C->mf c=some Fn->∃fa,BC X.K C/\Meth X.K C x fa/\d8 X (.ref fa) Fn) (ho:PE X o m) (ha:PA X es (iM ms)) (h0:es=[]->ms=[]) (hs:es.all bo=true) (hl:es.length<30) (hb:okBase o=true) (mD:(apos.endLine == pos.line)=true) :
  PE X (.Call (.Attribute o x apos) es [] pos) (oY x mf m ms):=fun I h=>by
 obtain⟨t,L1,e1,h⟩:=R.of h;refine PySem.W.methodCall_KW (thn (ho I e1) fun u s1 ⟨g1,l1,I1,r1⟩=>?_) (BF hb hs hl mD);obtain⟨p,r⟩:=I1.view r1;cases ev:vw L1 t with
 | obj c fs =>
  simp only [ev] at h;rw [ev] at r;obtain⟨a,d,C,fW,rfl,hc,O,hl',hi,_⟩:=I1.obj r;cases em:mf c with
  | none=>simp only [em] at h;cases h
  | some F =>
   simp only [em] at h;split at h
   ·rename_i hn
    obtain⟨ts,L2,e2,h⟩:=R.of h;obtain⟨fa,c,hm,hF⟩:=hM c C F hc em;have Q8:nsFind fW x=none:=by
     have z:=hl' x;cases q:nsFind fW x with
     | none=>rfl
     | some v=>rw [q] at z;cases q2:fs.lookup x with
      | none=>rw [q2] at z;cases z
      | some _=>rw [q2] at hn;cases hn
    refine xW I1.Eu O (c.get x) hm.at_ hm.fn Q8 ?_
    cases es with
    | nil =>
     cases h0 rfl;cases e2;exact Z5 (first:=[.ref a]) I1.Eu hm.kp (thn (hF (us:=[.ref a]) I1 (.cons r1 .nil) h) fun _ _ z=>z.le l1)
    | cons e es =>
     rw [Vf,Uw] at hs;exact aae (first:=[.ref a]) (h₀:=X.base) I.ok.mod.HV hm.kp (thn (ha pos I1 e2) fun us s2 ⟨g2,l2,I2,r2⟩=>⟨I2.Eu,thn (hF (us:=.ref a::us) I2 (.cons (r1.le l2) r2) h) fun _ _ z=>z.le (l1.trans l2)⟩) (aD hs.1) (bU hs.2)
   ·cases h
 | _=>simp only [ev] at h;cases h
end
theorem wA {a b:Nat} (h:a<b\/b<a):a≠b:=fun e=>by omega
structure lQ (N ps:List Str) (sc:Scope):Prop where
 kind:sc.kind=.function
 co:sc.isCoroutine=false
 gen:sc.isGenerator=false
 nd:N.Nodup
 pre:N.take ps.length=ps
 par:∀x∈ps,sc.names.lookup x=some .local\/sc.names.lookup x=some .cell
 tC:∀y∈sc.names,y.2≠.free
noncomputable def xY (P:VB) (w:Wy) (K:UX) (mg:Str->Option Uq) (cls:Str->Option U2) (base:Heap) (N:List Str) (qual:Str) (scope:Scope) (f:U2) (cd:Uq) (A:Vj) (s:Uu) (H:Hp):Cx where
 prog:=P
 w:=w
 K:=K
 mg:=mg
 cls:=cls
 base:=base
 A:=A.deeper (envOfC qual scope s.heap.objs.size f cd)
 N:=N
 s₀:=s
 H₀:=H
 env:=envOfC qual scope s.heap.objs.size f cd
 ex:=[]
 fn:=fun _=>true
section
variable {P:VB} {w:Wy} {K:UX} {mg:Str->Option Uq} {cls:Str->Option U2} {base:Heap} {N ps:List Str} {qual:Str} {scope:Scope} {f:U2} {cd:Uq} {A:Vj} {s s1:Uu} {g:G} {L:aa}
theorem ox {us:List Uq} {xs:List T} (S:lQ N ps scope) (hd:A.handled=none) (e0:wz P w K mg cls base s g L) (hl:xs.length=ps.length) (r:cP g xs us)
  (x:InCallC s s.heap.objs.size (bindL (envOfC qual scope s.heap.objs.size f cd).kindOf (ps.zip us) fun _=>none) (cellsFrom (s.heap.objs.size+1) scope.names []) (bindC (envOfC qual scope s.heap.objs.size f cd).kindOf (ps.zip us) fun _=>none) s1) :
  Inv (xY P w K mg cls base N qual scope f cd A s g.H) [] (xs.map some++U3 (N.length - ps.length) none) g L s1:=by
 have hpl:ps.length<=N.length:=by have:=congrArg Ww S.pre;rw [Vc] at this;omega
 obtain⟨h1,tk,rfl,hk⟩:=x.done;refine⟨⟨e0.mod,S.kind,rfl,rfl,UH _,fun y z c h1 h2=>?_,fun y hy=>?_,fun y c _ h=>?_,hd,fun b z=>absurd z (by simp [xY]),e0.bs,e0.HW,fun b _ _=>by simp [xY]⟩,
  rfl,e0.bare,Un.kept hk,⟨_,x.toInCall.ns,fun i y v h1 h2 h3=>?_⟩,fun y c h=>⟨_,x.cell y c h⟩,e0.hok.fresh (UH _),fun y c h=>?_,fun p hp=>(by simp at hp),fun a b o e=>hk a o (e0.hok a b o e),?_,e0.rel,e0.gB,e0.gm,e0.gw⟩
 ·exact name_of_addr x.apart (Va h1) (Va h2)
 ·have hy:scope.names.lookup y=some .cell\/scope.names.lookup y=some .free:=hy
  rcases hy with hy|hy
  ·exact qT hy
  ·exact absurd rfl (S.tC _ (Va hy))
 ·exact XK (x.above y c (Va h))
 ·have hi:i<xs.length:=by
   by_cases hi:i<xs.length
   ·exact hi
   ·rw [List.getElem?_append_right (by simpa using hi),List.getElem?_replicate] at h2
    split at h2 <;> cases h2
  have ha:xs[i]?=some v:=by
   rw [List.getElem?_append_left (by simpa using hi),UM] at h2;cases e:xs[i]? with
   | none=>rw [e] at h2;cases h2
   | some a=>rw [e] at h2;cases h2;rfl
  obtain⟨u,hu,rv⟩:=sY r ha;have hp:ps[i]?=some y:=by
   rw [<- S.pre,List.getElem?_take_of_lt (by omega)];exact h1
  have Ph:ps.Nodup:=by rw [<- S.pre];exact S.nd.sublist (List.take_sublist _ _)
  refine⟨u,rv,?_⟩;rcases S.par y (U7 hp) with k|k
  ·exact .inl ⟨k,ou Ph hp hu k⟩
  ·obtain⟨c,e⟩:=qT (n:=s.heap.objs.size+1) k
   refine .inr ⟨.inl k,c,e,?_⟩;have q:=x.cell y c e
   rw [ow Ph hp hu (by show scope.names.lookup y≠_;rw [k];decide)] at q;exact q
 ·exact e0.hok.fresh (XK (x.above y c (Va h)))
 ·show _=N.length
  rw [Ul,Lm9,List.length_replicate];omega
theorem xZ {g1:G} {L1 Lo:aa} {s':Uu} {t t':T} {u:Uq} (e0:wz P w K mg cls base s g L) (os:s'.os=s.os) (bare:AllBare s'.gens) (un:Un [] g.H g1.H s.heap s'.heap) (hok:Bb g1.H s'.heap) (l:Le g g1) (rel:Rel g1 L1) (r:RT g1 none t u) (e:fin L t L1=.ok t' Lo):CE g s t' Lo u s':=by
 obtain⟨g2,l2,r2,h2,a,b,c⟩:=E9 l e0.rel rel r e;exact⟨g2,os,bare,⟨un.keep,fun x o q n z=>b x (un.free x o q n z),fun x o q=>c x o (un.cz x o q)⟩,fun x y o q=>let ⟨_,z⟩:=a x y o q;hok x _ o z,l2,r2,h2⟩
theorem IV {k:Nat} {name:Str} {params:Arguments} {body:List Stmt} {dV kV doc pm gL ct oc:Uq} {an od:Option U2} {sN:Array (Option Uq)} {mb:SS} (lk:K.lookup f=some ⟨oc,od,.func (Wg name qual params body scope dV kV doc pm an gL ct),sN⟩) (hcd:W4 K gL qual=true) (S:lQ N ps scope)
  (x6:∀us:List Uq,us.length=ps.length->bindArgs (Wg name qual params body scope dV kV doc pm an gL ct) ⟨us,[]⟩=pure (ps.zip us))
  (jF:∀(A:Vj) (s:Uu) (H:Hp),fH k (A.deeper (envOfC qual scope s.heap.objs.size f gL))->xD (xY P w K mg cls base N qual scope f gL A s H) body mb) :
  fJ P w K mg cls base (k+1) f (run ps.length N.length mb):=fun {A s g L L' us xs t} hr e0 r nR=>by
 unfold run at nR;split at nR
 ·rename_i hl
  have MB:us.length=ps.length:=by rw [<- UL r];exact hl
  have KX:K.In s.heap:=e0.mod.HV.keeps fun b o e=>(e0.bs b o e).1
  have lim:s.heap.NoLimit:=e0.mod.nolimit.keeps fun b o e=>(e0.bs b o e).1
  have hkind:∀y∈ps.zip us,scope.names.lookup y.1=some .local\/(scope.names.lookup y.1=some .cell/\((cellsFrom (s.heap.objs.size+1) scope.names []).lookup y.1).isSome=true):=fun⟨n,v⟩ hy=>by
   rcases S.par n (Xf hy).1 with q|q
   ·exact .inl q
   ·exact .inr ⟨q,X0 _ _ _ (.inl q)⟩
  refine codeAny_call_function hr.depth (KX _ _ lk) rfl S.co S.gen rfl (aaf KX hcd) (BindsTo.of_eq (x6 us MB) _ _ _ _ ?_);refine wpAny_newFunctionEnv_cells S.kind hkind fun env he s1 x=>?_
  subst he;refine⟨lim.keeps x.toInCall.keep,codeAny_func ?_⟩;have I:=ox (A:=A) (cd:=gL) S hr.hd e0 hl r x
  have nb:mb (xs.map some++U3 (N.length - ps.length) none) L≠.bad:=fun z=>by rw [z] at nR;cases nR
  refine wpAny_mono (jF A s g.H (hr.deeper _) I nb) (fun fl s' ⟨g',l,hs⟩=>?_) fun e s' hs=>hs.elim
  cases eb:mb (xs.map some++U3 (N.length - ps.length) none) L with
  | nx φ' L1 =>
   rw [eb] at hs nR;cases fl <;> first|exact hs.elim|exact xZ e0 hs.os hs.bare hs.base hs.hok l hs.rel .cm nR
  | rt t0 L1 =>
   rw [eb] at hs nR;cases fl <;> first|exact hs.elim|skip
   obtain⟨⟨φ',J⟩,rt⟩:=hs;exact xZ e0 J.os J.bare J.base J.hok l J.rel rt nR
  | _=>rw [eb] at nR;cases nR
 ·cases nR
structure Mk (K:UX) (C f:U2):Prop where
 makes:Yt K C=true
 init:Vu K (.ref C) "__init__"=some (some (.ref f))
 fn:XN K (.ref f)=true
 kp:VE K (.ref C)=true
theorem IW {k:Nat} {C:U2} {cn:Str} {init:Fn} (M:Mk K C f) (hF:fJ P w K mg cls base k f init) (hc:cls cn=some C):fJ P w K mg cls base (k+1) C (make cn init):=fun {A s g L L' us xs t} hr e0 r h=>by
 have KX:K.In s.heap:=e0.mod.HV.keeps fun b o e=>(e0.bs b o e).1
 refine xX KX M.makes M.init (beq_iff_eq.mp M.fn) ?_;generalize hn:s.heap.objs.size=n;have fr:∀a,n<=a->g.H a=none:=fun a ha=>e0.hok.fresh (by rw [hn];exact ha)
 have e1:(s.heap.push Vt).get? n=some Vt:=by rw [<- hn];exact Us s.heap rfl
 have e2:((s.heap.push Vt).push (Vr C n)).get? (n+1)=some (Vr C n):=by
  have:=Us (s.heap.push Vt) (o:=Vr C n) rfl;rwa [VC,hn] at this
 have e1':((s.heap.push Vt).push (Vr C n)).get? n=some Vt:=Uj _ e1;have kp:∀b o,s.heap.get? b=some o->((s.heap.push Vt).push (Vr C n)).get? b=some o:=fun b o q=>Uj _ (Uj _ q)
 have cK:∀b o,s.heap.get? b=some o->b<n:=fun b o q=>by rw [<- hn];exact UP q
 let g1:G:={ g with H:=upd (upd g.H n (false,Vt)) (n+1) (false,Vr C n),α:=(n+1,n)::g.α }
 have old:∀b,b<n->g1.H b=g.H b:=fun b hb=>(aE (wA (by omega))).trans (aE (wA (by omega)))
 have tr:∀b x,g.H b=some x->b<n:=fun b x q=>cK b x.2 (e0.hok b x.1 x.2 q)
 have h1:g1.H n=some (false,Vt):=(aE (wA (by omega))).trans aw;have h2:g1.H (n+1)=some (false,Vr C n):=aw
 have l1:Le g g1:=⟨fun b o q=>(old b (tr b _ q)).trans q,fun _ _ q=>lL q,rfl,rfl,rfl⟩;have alt:∀m q,at_ g.α m=some q->q.1<n/\q.2<n:=fun m q e=>by
  obtain⟨⟨o1,z1⟩,o2,z2⟩:=e0.rel.live m q e;exact⟨tr _ _ z1,tr _ _ z2⟩
 have ob:RT g1 (some (n+1,n)) (.obj cn []) (.ref (n+1)):=.obj (od:=Vt) (es:=#[]) (n:=0) (.inr rfl) (wA (by omega)) (by show g.cls cn=_;rw [e0.gm];exact hc) (.inl h2) (.inl h1) rfl (fun e he=>absurd he (by simp)) (by simp [UniqKeys]) (by simp) (by simp) (fun f=>rfl) fun f x v q=>by simp at q
 have MC:Rel g1 (.obj cn []::L):=by
  refine⟨by show((n+1,n)::g.α).length=_;simp [e0.rel.len],fun m c q=>?_,fun m m' p q q1 q2 hne=>?_,fun m p q=>?_⟩
  ·unfold at_ at q
   split at q
   ·rename_i em
    cases q;exact⟨(n+1,n),by rw [em,<- e0.rel.len];exact fq,ob⟩
   ·obtain⟨p,z1,z2⟩:=e0.rel.cells m c q
    refine⟨p,lL z1,z2.up l1 fun q z=>?_⟩;cases z;exact⟨old _ (alt m p z1).1,old _ (alt m p z1).2⟩
  ·have q1:at_ ((n+1,n)::g.α) m=some p:=q1
   have q2:at_ ((n+1,n)::g.α) m'=some q:=q2
   unfold at_ at q1 q2
   split at q1
   ·cases q1
    split at q2
    ·omega
    ·have z:=alt m' q q2;exact⟨wA (.inr (VD z.1)),wA (.inr (VD z.2)),wA (.inr z.1),wA (.inr z.2)⟩
   ·split at q2
    ·cases q2
     have z:=alt m p q1;exact⟨wA (.inl (VD z.1)),wA (.inl z.1),wA (.inl (VD z.2)),wA (.inl z.2)⟩
    ·exact e0.rel.apart m m' p q q1 q2 hne
  ·have q:at_ ((n+1,n)::g.α) m=some p:=q
   unfold at_ at q
   split at q
   ·cases q;exact⟨⟨_,h2⟩,_,h1⟩
   ·obtain⟨⟨o1,z1⟩,o2,z2⟩:=e0.rel.live m p q
    have z:=alt m p q;exact⟨⟨o1,(old _ z.1).trans z1⟩,o2,(old _ z.2).trans z2⟩
 have Q9:wz P w K mg cls base { s with heap:=(s.heap.push Vt).push (Vr C n) } g1 (.obj cn []::L):=by
  refine⟨e0.mod,fun b o q=>⟨kp b o (e0.bs b o q).1,(old b (cK b o (e0.bs b o q).1)).trans (e0.bs b o q).2⟩,?_,fun a b o q=>?_,e0.bare,MC,e0.gB,e0.gm,e0.gw⟩
  ·show _<=((s.heap.push _).push _).objs.size
   rw [VC,VC];have:=e0.HW;omega
  ·by_cases z1:a=n+1
   ·subst z1;rw [h2] at q;cases q;exact e2
   ·by_cases z2:a=n
    ·subst z2;rw [h1] at q;cases q;exact e1'
    ·have q:g.H a=some (b,o):=by rw [<- q];exact((aE z1).trans (aE z2)).symm
     exact kp a o (e0.hok a b o q)
 unfold make at h;cases ei:init (.ref L.length::xs) (.obj cn []::L) with
 | bad=>rw [ei] at h;cases h
 | ok t0 L1 =>
  rw [ei] at h;cases t0 with
  | cm =>
   have r1:cP g1 (.ref L.length::xs) (.ref (n+1)::us):=.cons (.ref (p:=(n+1,n)) (by show at_ ((n+1,n)::g.α) _=_;rw [<- e0.rel.len];exact fq)) (r.le l1);refine codeAny_mono (hF (hr.make C us []) Q9 r1 ei) fun r s' hq=>?_
   cases r with
   | error e=>exact Y1 hq
   | ok fl =>
    cases fl with
    | ret u =>
     obtain⟨g2,os,bare,un,hok,l2,MD,r2⟩:=hq;cases r2;refine⟨rfl,?_⟩;have Ra:Un [] g.H g2.H s.heap s'.heap:=⟨fun b o q z x=>un.keep b o (kp b o q) ((old b (cK b o q)).trans z) x,fun b o q z x=>un.free b o (kp b o q) ((old b (cK b o q)).trans z) x,fun b o q=>un.cz b o (l1.f b o q)⟩
     have ra:RT g2 none (.ref L.length) (.ref (n+1)):=.ref (p:=(n+1,n)) (l2.α _ _ (by show at_ ((n+1,n)::g.α) _=_;rw [<- e0.rel.len];exact fq));exact xZ e0 os bare Ra hok (l1.trans l2) MD ra h
    | _=>exact Y1 hq
  | _=>cases h
end
section
variable {X:Cx} {pins:bg} {φ:Fr} {g:G} {L:aa} {s:Uu}
theorem str_beq {a b:Cs}:((⟨a.toArray⟩:Str) == ⟨b.toArray⟩)=(a == b):=by
 rw [V8,beq_iff_eq,beq_iff_eq];constructor
 ·intro h
  have:=congrArg (fun x:Str=>x.cps.toList) h;simpa using this
 ·rintro rfl;rfl
theorem iP {f:T->T->Bool}:∀(a b:List T),((Vp (min a.length b.length)).all (fun i=>f (a.getD i .cm) (b.getD i .cm)) && a.length == b.length)=nL f a b
 | [],[]=>rfl
 | [],b::q=>by simp [nL]
 | a::r,[]=>by simp [nL]
 | a::r,b::q=>by
  rw [nL,<- iP r q];have e:min (a::r).length (b::q).length=min r.length q.length+1:=by simp only [Ut];omega
  rw [e,ZF,Vf,ZS];have e2:((a::r).length == (b::q).length)=(r.length == q.length):=by simp
  rw [e2,Bool.and_assoc];rfl
theorem x7 {n:Nat} {xs:List T} (h:xs.all (dat n)=true) {i:Nat} (hi:i<xs.length):dat n (xs.getD i .cm)=true:=by
 rw [Gd9,Ge9 hi];exact Uo.mp h _ (UJ hi)
theorem getD_at {xs:List T} {i:Nat} (hi:i<xs.length):xs[i]?=some (xs.getD i .cm):=by
 rw [Gd9,Ge9 hi];rfl
theorem jG {f:T->T->Bool}:∀{xs:List T},(∀x∈xs,f x x=true)->nL f xs xs=true
 | [],_=>rfl
 | x::xs,h=>by rw [nL,h x Um,jG fun y hy=>h y (Up _ hy)];rfl
theorem Fd {a:T} (h:dat 0 a=true):False:=by cases a <;> cases h
theorem iu:∀(n:Nat) {a:T},dat n a=true->uK n a a=true
 | 0,a,h=>(Fd h).elim
 | n+1,a,h=>by
  cases a with
  | cm=>rfl
  | bl k=>exact beq_self_eq_true k
  | int i=>exact beq_self_eq_true i
  | str z=>exact beq_self_eq_true z
  | tup xs=>exact jG fun x hx=>iu n (Uo.mp h x hx)
  | lst xs=>exact jG fun x hx=>iu n (Uo.mp h x hx)
  | _=>cases h
noncomputable def It (g:G) (n:Nat) (xs:List T) (its:Array Uq):Prop:=xs.all (dat n)=true/\xs.length=its.size/\∀(i:Nat) x v,xs[i]?=some x->its[i]?=some v->RT g none x v
theorem Inv.dv (I:Inv X pins φ g L s) {n:Nat} {p:Option (U2 × U2)} {P:T->Uq->Prop} (c1:P .cm .none) (c2:∀b,P (.bl b) (.bool b)) (c3:∀i t,P (.int i) (.int i t)) (c4:∀z t,P (.str z) (.str ⟨z.toArray⟩ t))
  (c5:∀xs a its,s.heap.IsTuple a its->It g n xs its->P (.tup xs) (.ref a)) (c6:∀xs a its,s.heap.IsList a its->It g n xs its->P (.lst xs) (.ref a)) {a:T} {u:Uq} (h:dat (n+1) a=true) (r:RT g p a u):P a u:=by
 cases r with
 | cm=>exact c1
 | bl b=>exact c2 b
 | int i t=>exact c3 i t
 | str z t _=>exact c4 z t
 | tup hk hc hd _ hl hi=>exact c5 _ _ _ ⟨_,I.kn hk,hc.1,_,hd⟩ ⟨h,hl,hi⟩
 | lst _ hk _ hl hi=>exact c6 _ _ _ (af (I.kn hk)) ⟨h,hl,hi⟩
 | _=>cases h
noncomputable def tO:Uq->Option T
 | .none=>some .cm
 | .bool b=>some (.bl b)
 | .int i _=>some (.int i)
 | .str z _=>some (.str z.cps.toList)
 | _=>none
noncomputable def Sq (s:Uu) (k:Bool) (a:U2) (its:Array Uq):Prop:=∃o,s.heap.get? a=some o/\o.cls=.type (if k=true then "tuple" else "list")/\∃n,o.data=.seq its n
theorem Sq.eq {k j:Bool} {a:U2} {x y:Array Uq} (h:Sq s k a x) (h':Sq s j a y):k=j/\x=y:=by
 obtain⟨o,e,c,m,d⟩:=h;obtain⟨_,e',c',m',d'⟩:=h';cases V7 (e.symm.trans e');refine⟨?_,(Data.seq.inj (d.symm.trans d')).1⟩;have z:=c.symm.trans c'
 clear c c'
 revert k j
 decide
theorem Inv.uniq (I:Inv X pins φ g L s):∀(n:Nat) {p q:Option (U2 × U2)} {a b:T} {u:Uq},dat n a=true->dat n b=true->RT g p a u->RT g q b u->a=b
 | 0,_,_,a,_,_,h,_,_,_=>(Fd h).elim
 | n+1,_,_,_,_,_,ha,hb,ra,rb=>by
  have key:∀{p a u},dat (n+1) a=true->RT g p a u->tO u=some a\/∃k d its xs,u=.ref d/\Sq s k d its/\It g n xs its/\a=if k=true then .tup xs else .lst xs:=fun h r =>
   I.dv (P:=fun a u=>tO u=some a\/∃k d its xs,u=.ref d/\Sq s k d its/\It g n xs its/\a=if k=true then .tup xs else .lst xs) (.inl rfl) (fun _=>.inl rfl) (fun _ _=>.inl rfl) (fun _ _=>.inl rfl)
    (fun xs a its h j=>.inr ⟨true,a,its,xs,rfl,h,j,rfl⟩) (fun xs a its h j=>.inr ⟨false,a,its,xs,rfl,h,j,rfl⟩) h r
  rcases key ha ra with h|⟨k,d,its,xs,rfl,hk,i,rfl⟩
  ·rcases key hb rb with h'|⟨_,_,_,_,rfl,_⟩
   ·exact V7 (h.symm.trans h')
   ·cases h
  ·rcases key hb rb with h'|⟨j,_,Rb,ys,z,hj,i',rfl⟩
   ·cases h'
   ·cases Value.ref.inj z
    obtain⟨rfl,rfl⟩:=hk.eq hj;rw [show xs=ys from V4 (i.2.1.trans i'.2.1.symm) fun m hi hj=>I.uniq n (Uo.mp i.1 _ (UJ hi)) (Uo.mp i'.1 _ (UJ hj)) (i.2.2 m _ _ (Ge9 hi) (Ux (i.2.1 ▸ hi))) (i'.2.2 m _ _ (Ge9 hj) (Ux (i.2.1 ▸ hi)))]
theorem Inv.same (I:Inv X pins φ g L s) (n:Nat) {p q:Option (U2 × U2)} {a b:T} {u:Uq} (ha:dat n a=true) (hb:dat n b=true) (ra:RT g p a u) (rb:RT g q b u):uK n a b=true:=by
 rw [I.uniq n ha hb ra rb];exact iu n hb
theorem both {A:Vj} {a b:U2} {k:Bool} (h:SeqAt.RcAt A s (.ref a) (.ref b) k) (he:a=b->k=true):SeqAt.RcAt A s (.ref a) (.ref b) k/\WB A s (.ref a) (.ref b) k:=⟨h,by
 by_cases e:a=b
 ·subst e;rw [he rfl];exact SeqAt.EqAt.same _
 ·exact SeqAt.EqAt.of_refs e h⟩
theorem It.eq (I:Inv X pins φ g L s) {n:Nat} {xs ys:List T} {its:Array Uq} (i:It g n xs its) (j:It g n ys its):nL (uK n) xs ys=true:=by
 rw [show ys=xs from V4 (j.2.1.trans i.2.1.symm) fun m hj hi=>I.uniq n (Uo.mp j.1 _ (UJ hj)) (Uo.mp i.1 _ (UJ hi)) (j.2.2 m _ _ (Ge9 hj) (Ux (i.2.1 ▸ hi))) (i.2.2 m _ _ (Ge9 hi) (Ux (i.2.1 ▸ hi)))];exact jG fun x hx=>iu n (Uo.mp i.1 x hx)
abbrev Rq (A:Vj) (s:Uu) (n:Nat) (a:T) (u:Uq) (b:T) (v:Uq):Prop:=SeqAt.RcAt A s u v (uK n a b)/\WB A s u v (uK n a b)
open SeqAt in
theorem Inv.rc (I:Inv X pins φ g L s):∀(n:Nat) {A:Vj} {p q:Option (U2 × U2)} {a b:T} {u v:Uq},dat n a=true->dat n b=true->A.units+n<cLine->RT g p a u->RT g q b v->Rq A s n a u b v
 | 0,_,_,_,a,_,_,_,h,_,_,_,_=>(Fd h).elim
 | n+1,A,_,_,a,b,u,v,ha,hb,hn,ra,rb=>by
  have hu:A.units<cLine:=by omega
  have it:∀{xs ys:List T} {x y:Array Uq},It g n xs x->It g n ys y->∀j (h1:j<x.size) (h2:j<y.size),EqAt A.in1 s x[j] y[j] (uK n (xs.getD j .cm) (ys.getD j .cm)):=fun i k j h1 h2 =>
   (I.rc n (x7 i.1 (i.2.1 ▸ h1)) (x7 k.1 (k.2.1 ▸ h2)) (by show A.units+1+n<cLine;omega) (i.2.2 j _ _ (getD_at (i.2.1 ▸ h1)) (Ux h1)) (k.2.2 j _ _ (getD_at (k.2.1 ▸ h2)) (Ux h2))).2
  refine I.dv (P:=fun a u=>Rq A s (n+1) a u b v) ?_ ?_ ?_ ?_ ?_ ?_ ha ra
  ·exact I.dv (P:=Rq A s (n+1) .cm .none) ⟨.none_none,.same _⟩ (fun _=>⟨.none_bool _,.none_bool _⟩) (fun _ _=>⟨.none_int _ _,.none_int _ _⟩) (fun _ _=>⟨.none_str _ _,.none_str _ _⟩) (fun _ _ _ h _=>⟨.none_tuple h hu,.none_tuple h hu⟩) (fun _ _ _ h _=>⟨.none_list h hu,.none_list h hu⟩) hb rb
  ·exact fun _=>I.dv (P:=Rq A s (n+1) (.bl _) (.bool _)) ⟨.bool_none _,.bool_none _⟩ (fun _=>⟨.bool_bool _ _,.bool_bool _ _⟩) (fun _ _=>⟨.bool_int _ _ _,.bool_int _ _ _⟩) (fun _ _=>⟨.bool_str _ _ _,.bool_str _ _ _⟩) (fun _ _ _ h _=>⟨.bool_tuple _ h hu,.bool_tuple _ h hu⟩) (fun _ _ _ h _=>⟨.bool_list _ h hu,.bool_list _ h hu⟩) hb rb
  ·exact fun _ _=>I.dv (P:=Rq A s (n+1) (.int _) (.int _ _)) ⟨.int_none _ _,.int_none _ _⟩ (fun _=>⟨.int_bool _ _ _,.int_bool _ _ _⟩) (fun _ _=>⟨.int_int _ _ _ _,.int_int _ _ _ _⟩) (fun _ _=>⟨.int_str _ _ _ _,.int_str _ _ _ _⟩) (fun _ _ _ h _=>⟨.int_tuple _ _ h hu,.int_tuple _ _ h hu⟩) (fun _ _ _ h _=>⟨.int_list _ _ h hu,.int_list _ _ h hu⟩) hb rb
  ·exact fun z _=>I.dv (P:=Rq A s (n+1) (.str z) (.str ⟨z.toArray⟩ _)) ⟨.str_none _ _,.str_none _ _⟩ (fun _=>⟨.str_bool _ _ _,.str_bool _ _ _⟩) (fun _ _=>⟨.str_int _ _ _ _,.str_int _ _ _ _⟩) (fun z2 _=>by
    show RcAt A s _ _ (z == z2)/\EqAt A s _ _ (z == z2);rw [<- str_beq];exact⟨.str_str _ _ _ _,.str_str _ _ _ _⟩) (fun _ _ _ h _=>⟨.str_tuple _ _ h hu,.str_tuple _ _ h hu⟩) (fun _ _ _ h _=>⟨.str_list _ _ h hu,.str_list _ _ h hu⟩) hb rb
  ·exact fun xs d x T1 i=>I.dv (P:=Rq A s (n+1) (.tup xs) (.ref d)) ⟨.tuple_none T1 hu,.tuple_none T1 hu⟩ (fun _=>⟨.tuple_bool _ T1 hu,.tuple_bool _ T1 hu⟩) (fun _ _=>⟨.tuple_int _ _ T1 hu,.tuple_int _ _ T1 hu⟩) (fun _ _=>⟨.tuple_str _ _ T1 hu,.tuple_str _ _ T1 hu⟩) (fun ys b y T2 k=>by
    have:=RcAt.tuples T1 T2 hu (it i k);rw [<- i.2.1,<- k.2.1,iP] at this;refine both this fun e=>?_
    subst e;cases (Sq.eq (k:=true) (j:=true) T1 T2).2;exact i.eq I k) (fun _ _ _ h _=>⟨.tuple_list T1 h hu,.tuple_list T1 h hu⟩) hb rb
  ·exact fun xs d x T1 i=>I.dv (P:=Rq A s (n+1) (.lst xs) (.ref d)) ⟨.list_none T1 hu,.list_none T1 hu⟩ (fun _=>⟨.list_bool _ T1 hu,.list_bool _ T1 hu⟩) (fun _ _=>⟨.list_int _ _ T1 hu,.list_int _ _ T1 hu⟩) (fun _ _=>⟨.list_str _ _ T1 hu,.list_str _ _ T1 hu⟩) (fun _ _ _ h _=>⟨.list_tuple T1 h hu,.list_tuple T1 h hu⟩) (fun ys b y T2 k=>by
    refine both ?_ fun e=>?_
    ·show RcAt A s _ _ (nL (uK n) xs ys)
     rw [<- iP,i.2.1,k.2.1];by_cases hs:x.size=y.size
     ·have:=RcAt.lists T1 T2 hs hu (it i k)
      rw [<- hs];simpa using this
     ·rw [show(x.size == y.size)=false by simpa using hs,X9];exact RcAt.lists_lengths T1 T2 (by simpa using hs) hu
    ·subst e
     cases (Sq.eq (k:=false) (j:=false) T1 T2).2;exact i.eq I k) hb rb
end
section
variable {X:Cx} {pins:bg} {φ:Fr} {g:G} {L:aa} {s:Uu} {xs ys:List T} {us vs:List Uq}
theorem cP.app (h:cP g xs us) (h2:cP g ys vs):cP g (xs++ys) (us++vs):=by
 induction h with
 | nil=>exact h2
 | cons a _ ih=>exact .cons a ih
theorem x8 {w:T} {t':Nat} {h':Heap} {n:Nat} (I:Inv X pins φ g L s) (r:cP g xs us) (hz:xs.length<=UU) (k:∀b u,s.heap.get? b=some u->h'.get? b=some u) {a:U2} (ha:s.heap.objs.size<=a) (new:h'.get? a=some { cls:=.type "tuple",data:=.seq us.toArray n }) :
  EP X pins φ g (.tup xs) L (.ref a) { s with heap:=h',toks:=t' } :=
 have f:=I.hok.fresh ha
 ⟨_,Le.lay f,I.laid k ha new,r.tup (Le.lay f) (.inl aw) ⟨rfl,rfl⟩ rfl hz⟩
theorem oy (c:Nat):∀(k:Nat) (a:Array Nat),(U3 k (#[c]:Array Nat)).foldl (fun x1 x2=>x1++x2) a=a++(U3 k c).toArray
 | 0,a=>by simp
 | k+1,a=>by
  rw [Z6,Yu,oy c k,Z6];apply Array.ext';simp
theorem Fe {fz:Bool} {op:Operator} {x y w:T} {L':aa} (h:bf fz op x y L=.ok w L'):(∃i j,vw L x=.int i/\vw L y=.int j/\oI op i j L=.ok w L')\/(∃a b,vw L x=.str a/\vw L y=.str b/\op=.Add/\a.length+b.length<=lim/\w=.str (a++b)/\L'=L)\/(∃ch j,vw L x=.str [ch]/\vw L y=.int j/\op=.Mult/\sS j/\w=.str (U3 j.toNat ch)/\L'=L)\/∃a b,vw L x=.lst a/\vw L y=.lst b/\op=.Add/\fF fz (a++b) L=.ok w L':=by
 unfold bf at h;generalize vw L x=p at h ⊢;generalize vw L y=q at h ⊢;split at h
 ·split at h
  ·exact .inl ⟨_,_,rfl,rfl,h⟩
  ·cases h
 ·unfold oS at h
  split at h
  ·split at h
   ·obtain⟨c,h⟩:=aG h;cases h;exact .inr (.inl ⟨_,_,rfl,rfl,rfl,c,rfl,rfl⟩)
   ·cases h
  ·split at h
   ·split at h
    ·obtain⟨c,h⟩:=aG h;cases h;exact .inr (.inr (.inl ⟨_,_,rfl,rfl,rfl,c,rfl,rfl⟩))
    ·cases h
   ·cases h
  ·cases h
 ·split at h
  ·split at h
   ·exact .inr (.inr (.inr ⟨_,_,rfl,rfl,rfl,h⟩))
   ·cases h
  ·cases h
 ·cases h
theorem Ff {op:Operator} {i j:Int} {t t':Nat} {w:T} {L':aa} (I:Inv X pins φ g L s) (h:oI op i j L=.ok w L'):UK (model X.prog X.w) X.A (binaryOp op (.int i t) (.int j t')) (EP X pins φ g w L') F0 s:=by
 cases op with
 | Add =>
  cases h;exact add_int ((I.tok _).ep (.int _ _))
 | Sub =>
  cases h;exact sub_int ((I.tok _).ep (.int _ _))
 | Mult =>
  obtain⟨hc,h⟩:=aG h;cases h;refine mul_int ((I.tok _).ep (.int _ _)) ?_;rcases hc with⟨h1,h2⟩|⟨h1,h2⟩
  ·exact .of_left (intBits_le_64 h1 h2)
  ·exact .of_right (intBits_le_64 h1 h2)
 | FloorDiv =>
  obtain⟨hc,h⟩:=aG h;cases h;unfold xu at hc;exact floordiv_int (by omega) (by rw [Int.fdiv_eq_ediv_of_nonneg i (by omega)];exact(I.tok _).ep (.int _ _)) (.inl (PyProof.noPylong_small (by omega)))
 | Mod =>
  obtain⟨hc,h⟩:=aG h;cases h;exact mod_int' (by omega) (by rw [Int.fmod_eq_emod_of_nonneg i (by omega)];exact(I.tok _).ep (.int _ _))
 | Pow =>
  obtain⟨hc,h⟩:=aG h;cases h;exact pow_int_small hc.1 hc.2.1 hc.2.2 ((I.tok _).ep (.int _ _))
 | _ =>
  cases h
theorem Fg {c:Nat} {n:Int} {t t':Nat} (I:Inv X pins φ g L s) (hc:sS n):UK (model X.prog X.w) X.A (binaryOp .Mult (.str ⟨[c].toArray⟩ t) (.int n t')) (EP X pins φ g (.str (U3 n.toNat c)) L) F0 s:=by
 unfold sS at hc;have hl:(⟨[c].toArray⟩:Str).length=1:=rfl
 refine PySem.P.mul_str ?_ (fun a b=>?_) (fun a b=>?_) ?_
 ·have z1:¬ n < -(2 ^ 63:Int):=by omega
  have z2:¬ n≥2 ^ 63:=by omega
  rw [decide_eq_false z1,decide_eq_false z2];rfl
 ·rw [hl]
  have:(1:Int)<=(2 ^ 63 - 1) / n:=by
   rw [Int.le_ediv_iff_mul_le (by omega)];omega
  omega
 ·rw [hl]
  have e:(2:Nat) ^ 24=16777216:=by decide
  unfold Builtin.Str.tooLong UU;exact decide_eq_false (by omega)
 ·by_cases a:n<1
  ·rw [if_pos a]
   refine⟨by decide,(I.tok _).ep ?_⟩;have e:n.toNat=0:=by omega
   rw [e];exact .str [] _ (by decide)
  ·rw [if_neg a]
   by_cases b:(n == 1 || (⟨[c].toArray⟩:Str).length == 0)=true
   ·rw [if_pos b]
    have e1:n=1:=by rw [hl] at b;simpa using b
    subst e1;exact I.ep (.str [c] _ (by show 1<=UU;decide))
   ·rw [if_neg b]
    have e:(⟨(U3 n.toNat (⟨[c].toArray⟩:Str).cps).foldl (· ++ ·) #[]⟩:Str)=⟨(U3 n.toNat c).toArray⟩:=by
     show(⟨(U3 n.toNat (#[c]:Array Nat)).foldl (fun x1 x2=>x1++x2) #[]⟩:Str)=_;rw [oy];simp
    rw [e];have z:(U3 n.toNat c).length<=UU:=by rw [VV];simp;omega
    exact⟨by show(U3 n.toNat c).toArray.size<=_;simpa using z,(I.tok _).ep (.str _ _ z)⟩
theorem Fh {fz:Bool} {op:Operator}:xE X (binaryOp op) (bf fz op):=fun {pins φ g L s x y w L' u v} I rx ry h=>by
 obtain⟨p,vx⟩:=I.view rx;obtain⟨q,vy⟩:=I.view ry;rcases Fe h with⟨i,j,e,e',h⟩|⟨a,b,e,e',rfl,hc,rfl,rfl⟩|⟨c,n,e,e',rfl,hc,rfl,rfl⟩|⟨_,_,e,e',rfl,hm⟩ <;> rw [e] at vx <;> rw [e'] at vy
 ·obtain⟨_,rfl⟩:=vx.iI;obtain⟨_,rfl⟩:=vy.iI;exact Ff I h
 ·obtain⟨_,rfl⟩:=vx.sI;obtain⟨_,rfl⟩:=vy.sI
  have e:(⟨a.toArray⟩:Str)++(⟨b.toArray⟩:Str)=⟨(a++b).toArray⟩:=by
   show(⟨a.toArray++b.toArray⟩:Str)=_;simp
  refine add_str (fun t' tk=>(I.tok _).ep ?_) (by show a.toArray.size+b.toArray.size<=_;simpa using (show a.length+b.length<=UU from hc));rw [e];exact .str _ _ (by simpa using (show a.length+b.length<=UU from hc))
 ·obtain⟨_,rfl⟩:=vx.sI;obtain⟨_,rfl⟩:=vy.iI;exact Fg I hc
 ·obtain⟨a,i1,n1,rfl,e1,r1,z1⟩:=I.lst vx
  obtain⟨b,i2,n2,rfl,e2,r2,z2⟩:=I.lst vy;have hz:=pj hm
  have l1:=UL r1;have l2:=UL r2
  refine PySem.P.add_list e1 e2 ?_ (by simp at hz l1 l2;omega);have ea:i1++i2=(i1.toList++i2.toList).toArray:=by simp
  rw [ea];exact kh (t':=s.toks) I (r1.app r2) hm (fun b u e=>Uj _ e) (Us _ rfl)
theorem yc {op:Operator}:xE X (inplaceOp op) (ag op):=fun I rx ry h=>by
 unfold ag at h;split at h
 ·obtain⟨_,rfl⟩:=rx.iI;obtain⟨_,rfl⟩:=ry.iI;cases h;exact iadd_int ((I.tok _).ep (.int _ _))
 ·obtain⟨_,rfl⟩:=rx.iI;obtain⟨_,rfl⟩:=ry.iI;cases h;exact isub_int ((I.tok _).ep (.int _ _))
 ·cases h
theorem Fi {x y:T} {k:Bool} {L':aa} (h:Eo x y L=.ok k L'):dat 8 (vw L x)=true/\dat 8 (vw L y)=true/\k=eqT (vw L x) (vw L y)/\L'=L:=by
 obtain⟨⟨a,b⟩,h⟩:=aG h;cases h;exact⟨a,b,rfl,rfl⟩
theorem pA {A:Vj} {x:T} {v:Uq} (I:Inv X pins φ g L s) (hu:A.units+8<cLine) (hx:dat 8 x=true) (rx:RT g none x v) (hy:ys.all (dat 8)=true) (r:cP g ys us):∃e:Uq->Bool,(∀w∈us,WB A s w v (e w))/\(us.any e=ys.any fun y=>eqT y x)/\∀(i:Nat) y w,ys[i]?=some y->us[i]?=some w->e w=eqT y x:=by
 classical
 have uq:∀(i j:Nat) y z w,ys[i]?=some y->us[i]?=some w->ys[j]?=some z->us[j]?=some w->y=z:=fun i j y z w h1 h2 h3 h4 =>
  I.uniq 8 (Uo.mp hy y (U7 h1)) (Uo.mp hy z (U7 h3)) (wo r i y w h1 h2) (wo r j z w h3 h4)
 have hl:=UL r
 let e:Uq->Bool:=fun w=>decide (∃(i:Nat) (y:T),ys[i]?=some y/\us[i]?=some w/\eqT y x=true)
 have ev:∀(i:Nat) y w,ys[i]?=some y->us[i]?=some w->e w=eqT y x:=fun i y w h1 h2=>by
  cases q:eqT y x with
  | true=>exact decide_eq_true ⟨i,y,h1,h2,q⟩
  | false =>
   refine decide_eq_false ?_;rintro⟨j,z,h3,h4,h5⟩;rw [<- uq i j y z w h1 h2 h3 h4,q] at h5;cases h5
 refine⟨e,fun w hw=>?_,?_,ev⟩
 ·obtain⟨i,hi,rfl⟩:=Wb hw
  have e1:=Ge9 (l:=ys) (i:=i) (by omega);have e2:=Ge9 (l:=us) (i:=i) hi
  rw [ev i _ _ e1 e2];exact(I.rc 8 (Uo.mp hy _ (UJ (by omega))) hx hu (wo r i _ _ e1 e2) rx).2
 ·rw [V8,V5,V5]
  constructor
  ·rintro⟨w,hw,h⟩
   obtain⟨i,hi,rfl⟩:=Wb hw;exact⟨ys[i]'(by omega),UJ _,by rw [<- ev i _ _ (Ge9 (by omega)) (Ge9 hi)];exact h⟩
  ·rintro⟨y,hy,h⟩
   obtain⟨i,hi,rfl⟩:=Wb hy;exact⟨us[i]'(by omega),UJ _,by rw [ev i _ _ (Ge9 hi) (Ge9 (by omega))];exact h⟩
theorem uX {ch:Nat} {b:Cs}:(!(Builtin.Str.occurrences ⟨b.toArray⟩ ⟨[ch].toArray⟩ 0 (⟨b.toArray⟩:Str).length 1).isEmpty)=decide (ch∈b):=by
 have:=StrLaws.found_one ⟨b.toArray⟩ ch;simpa using this
theorem yd {x:T} {v:Uq} (r:RT g none x v):(v == VJ)=Dt x:=by cases r <;> rfl
end
section
variable {prog:VB} {w:Wy} {A:Vj} {E:Uq->Uu->Prop} {s:Uu}
theorem BH (n d:Nat) (hd:d<=n) (o:Option Int):clip n d o<=n:=by
 cases o with
 | none=>exact hd
 | some v =>
  show(if v<0 then (v+(n:Int)).toNat else min v.toNat n)<=n;by_cases hv:v<0
  ·rw [if_pos hv];omega
  ·rw [if_neg hv];exact Yh _ _
theorem uY (v:Int) (n d:Nat):(if v<0 then max (v+(n:Int)) 0 else min v (n:Int))=((clip n d (some v):Nat):Int):=by
 show(if v<0 then max (v+(n:Int)) 0 else min v (n:Int))=(((if v<0 then (v+(n:Int)).toNat else min v.toNat n):Nat):Int);by_cases hv:v<0
 ·simp only [if_pos hv];omega
 ·simp only [if_neg hv];omega
theorem tD (lo hi:Option Int) (n:Nat):XA lo hi 1 (n:Int)=(((clip n 0 lo:Nat):Int),((clip n n hi:Nat):Int)):=by
 have h1:¬ ((1:Int)<0):=by omega
 unfold XA;simp only [h1,if_false];refine Prod.ext ?_ ?_
 ·cases lo with
  | none=>rfl
  | some v=>exact uY v n 0
 ·cases hi with
  | none=>rfl
  | some v=>exact uY v n n
theorem tE (i j:Nat):WJ (i:Int) (j:Int) 1=j - i:=by
 unfold WJ;have h1:(1:Int) > 0:=by omega
 simp only [h1,if_true,Int.ediv_one];split <;> omega
theorem mE {v:Uq} {o:Option Int} {Q:Option Int->Uu->Prop} (p:IsPart v o) (h:Q o s):UK (model prog w) A (Builtin.Slice.slicePartIndex v) Q E s:=by
 cases p with
 | none=>exact slicePart_none h
 | int i t=>exact slicePart_int h
theorem gj {sl:U2} {vl vu:Uq} {lo hi:Option Int} {n:Nat} {Q:Int × Int × Nat->Uu->Prop} (hs:s.heap.IsSliceOf sl vl vu .none) (pl:IsPart vl lo) (pu:IsPart vu hi)
  (h:Q (((clip n 0 lo:Nat):Int),1,clip n n hi - clip n 0 lo) s):UK (model prog w) A (YB (.ref sl) (pure (n:Int))) Q E s:=by
 obtain⟨os,By,LO,IX⟩:=id hs;unfold YB Builtin.Slice.sliceFields;refine Ui (Ui (wpAny_field By IX (x:=vl) rfl (Ui (wpAny_field By IX (x:=vu) rfl (Ui (wpAny_field By IX (x:=.none) rfl (Uk ?_)))))));refine Ui (slicePart_none ?_);show UK _ _ (if ((1:Int) == 0)=true then _ else _) _ _ s
 rw [if_neg (by decide)];refine Ui (mE pl (Ui (mE pu (Ui (Uk ?_)))));show UK _ _ (match XA lo hi 1 (n:Int) with|(lo,hi)=>pure (lo,(1:Int),WJ lo hi 1)) _ _ s
 rw [tD lo hi n];show UK _ _ (pure (((clip n 0 lo:Nat):Int),(1:Int),WJ ((clip n 0 lo:Nat):Int) ((clip n n hi:Nat):Int) 1)) _ _ s
 rw [tE];exact Uk h
theorem ye (xs:Array Uq) (i k:Nat):((Vp k).filterMap fun(m:Nat)=>xs[((i:Int)+(m:Int) * 1).toNat]?).toArray=((xs.toList.drop i).take k).toArray:=by
 have e:(fun(m:Nat)=>xs[((i:Int)+(m:Int) * 1).toNat]?)=fun m=>xs[i+m]?:=by
  funext m;have:((i:Int)+(m:Int) * 1).toNat=i+m:=by omega
  rw [this]
 rw [e];have:=pick_run xs i k
 rw [List.filterMap_map] at this;have e2:((fun x=>xs[x]?) ∘ fun x=>i+x)=fun m=>xs[i+m]?:=rfl
 rw [e2] at this;rw [this]
theorem jH {t sl:U2} {items:Array Uq} {vl vu:Uq} {lo hi:Option Int} {Q:Uq->Uu->Prop} (ht:IsTup s.heap t items) (hs:s.heap.IsSliceOf sl vl vu .none) (pl:IsPart vl lo) (pu:IsPart vu hi)
  (hw:¬ (clip items.size 0 lo=0/\clip items.size items.size hi=items.size))
  (h:Q (.ref s.heap.objs.size) { s with heap:=s.heap.push { cls:=.type "tuple",data:=.seq ((items.toList.drop (clip items.size 0 lo)).take (clip items.size items.size hi - clip items.size 0 lo)).toArray } })
  (hsz:items.size<=UU):UK (model prog w) A (getItem (.ref t) (.ref sl)) Q E s:=by
 have uZ:sizeOk (.seq ((items.toList.drop (clip items.size 0 lo)).take (clip items.size items.size hi - clip items.size 0 lo)).toArray):=by
  show((items.toList.drop (clip items.size 0 lo)).take (clip items.size items.size hi - clip items.size 0 lo)).toArray.size<=UU;rw [VO,Vc,U9,VK];omega
 have hj:clip items.size items.size hi<=items.size:=BH _ _ (UH _) hi;obtain⟨os,By,LO,IX⟩:=id hs;have Ba:s.TypeIs (.ref sl) "slice":=⟨os,By,LO⟩
 unfold getItem
 try with_reducible refine wpAny_holding ?_
 first|refine Ui (Uk ?_)|skip
 refine Ui (wpAny_sequenceKey ht.typeIs (by decide) ?_);refine Ui (wpAny_callSpecial?_slot (name:=VX "__getitem__") ht.typeIs VQ
  (wpAny_call_entry VQ ht.typeIs entry_tuple_getitem ?_ (args_tuple_getitem _ _)))
 show UK _ _ (Xs (.ref t) >>= _) _ _ s;refine Ui (tupleItemsOf_ ht ?_);refine Ui (wpAny_typeOf Ba ?_);rw [if_pos (by decide)];refine Ui (gj hs pl pu ?_);have lb:¬ ((((clip items.size 0 lo:Nat):Int) == 0 && (1:Int) == 1 && (clip items.size items.size hi - clip items.size 0 lo) == items.size)=true):=by
  intro q;rw [Uw,Uw] at q;have q1:((clip items.size 0 lo:Nat):Int)=0:=eq_of_beq q.1.1
  have q2:clip items.size items.size hi - clip items.size 0 lo=items.size:=eq_of_beq q.2;exact hw ⟨by omega,by omega⟩
 show UK _ _ (if (((clip items.size 0 lo:Nat):Int) == 0 && (1:Int) == 1 && (clip items.size items.size hi - clip items.size 0 lo) == items.size)=true then _ else _) _ _ s;rw [if_neg lb,ye]
 first
  | exact Ui (m:=WM _) (wpAny_newObj_type (Uk ⟨_,rfl,Uk h⟩) uZ)
  | exact Ui (m:=WM _) (wpAny_newObj_type (Ui (Uk (Uk ⟨_,rfl,Uk h⟩))) uZ)
  | exact Ui (Ui (m:=WM _) (wpAny_newObj_type (Uk (Uk ⟨_,rfl,Uk h⟩)) uZ))
  | exact Ui (Ui (m:=WM _) (wpAny_newObj_type (Uk ⟨_,rfl,Uk h⟩) uZ))
theorem jI {t sl:U2} {items:Array Uq} {vl vu:Uq} {lo hi:Option Int} {Q:Uq->Uu->Prop} (ht:IsTup s.heap t items) (hs:s.heap.IsSliceOf sl vl vu .none) (pl:IsPart vl lo) (pu:IsPart vu hi)
  (hw:clip items.size 0 lo=0/\clip items.size items.size hi=items.size) (h:Q (.ref t) s):UK (model prog w) A (getItem (.ref t) (.ref sl)) Q E s:=by
 obtain⟨os,By,LO,IX⟩:=id hs;have Ba:s.TypeIs (.ref sl) "slice":=⟨os,By,LO⟩
 unfold getItem
 try with_reducible refine wpAny_holding ?_
 first|refine Ui (Uk ?_)|skip
 refine Ui (wpAny_sequenceKey ht.typeIs (by decide) ?_);refine Ui (wpAny_callSpecial?_slot (name:=VX "__getitem__") ht.typeIs VQ
  (wpAny_call_entry VQ ht.typeIs entry_tuple_getitem ?_ (args_tuple_getitem _ _)))
 show UK _ _ (Xs (.ref t) >>= _) _ _ s;refine Ui (tupleItemsOf_ ht ?_);refine Ui (wpAny_typeOf Ba ?_);rw [if_pos (by decide)];refine Ui (gj hs pl pu ?_);have ME:(((clip items.size 0 lo:Nat):Int) == 0 && (1:Int) == 1 && (clip items.size items.size hi - clip items.size 0 lo) == items.size)=true:=by
  rw [hw.1,hw.2];simp
 show UK _ _ (if (((clip items.size 0 lo:Nat):Int) == 0 && (1:Int) == 1 && (clip items.size items.size hi - clip items.size 0 lo) == items.size)=true then _ else _) _ _ s;rw [if_pos ME];unfold Builtin.Tuple.tupleIsExact;refine Ui (Ui (wpAny_typeOf ht.typeIs (Uk ?_)));rw [if_pos (by decide)];refine Ui (wpAny_rule ?_)
 first
  | exact Uk ⟨_,rfl,Uk h⟩
  | exact Ui (Uk (Uk ⟨_,rfl,Uk h⟩))
end
theorem pB (lo hi:Option Int) (n:Nat):(sliceBounds lo hi none n).1=((clip n 0 lo:Nat):Int)/\(sliceBounds lo hi none n).2.1=((clip n n hi:Nat):Int)/\(sliceBounds lo hi none n).2.2=1:=by
 refine⟨?_,?_,rfl⟩
 ·cases lo with
  | none=>simp [sliceBounds,clip]
  | some i =>
   simp only [sliceBounds,clip,Zx,show(1:Int) > 0 by decide,if_true];by_cases h:i<0
   ·simp only [h,if_true] <;> omega
   ·simp only [h,if_false] <;> omega
 ·cases hi with
  | none=>simp [sliceBounds,clip]
  | some i =>
   simp only [sliceBounds,clip,Zx,show(1:Int) > 0 by decide,if_true];by_cases h:i<0
   ·simp only [h,if_true] <;> omega
   ·simp only [h,if_false] <;> omega
theorem nS (its:List Uq) (lo hi:Option Int):slicePick its.toArray lo hi none=((its.drop (clip its.length 0 lo)).take (clip its.length its.length hi - clip its.length 0 lo)).toArray:=by
 obtain⟨h1,h2,h3⟩:=pB lo hi its.toArray.size;unfold slicePick;rw [h1,h2,h3];simp only [sliceRange_one,pick_run,VO] <;> rfl
section
variable {X:Cx} {pins:bg} {φ:Fr} {g:G} {L:aa} {s:Uu} {xs ys:List T} {us vs:List Uq} {e a b:Expr} {m ma mb:SE} {pos p2:Pos}
theorem mF {n:Nat} {i:Int} {j:Nat} (h:place n i=some j):seqIndex? i n=some j/\j<n/\-(n:Int)<=i/\i<n/\((0<=i/\i.toNat=j)\/(i<0/\(i+n).toNat=j)):=by
 unfold place at h;by_cases h0:0<=i
 ·rw [if_pos h0] at h
  by_cases h1:i<n
  ·rw [if_pos h1] at h
   cases h;exact⟨PySem.StrLaws.seqIndex_nonneg h0 h1,by omega,by omega,h1,.inl ⟨h0,rfl⟩⟩
  ·rw [if_neg h1] at h;cases h
 ·rw [if_neg h0] at h
  by_cases h1:-(n:Int)<=i
  ·rw [if_pos h1] at h
   cases h;exact⟨seqIndex_neg (by omega) h1,by omega,h1,by omega,.inr ⟨by omega,rfl⟩⟩
  ·rw [if_neg h1] at h;cases h
noncomputable def wB:Expr->Bool
 | .Slice ..=>false
 | _=>true
theorem yf (h:wB b=true):∀o i,subscripted b false o i=operate [o,i] (getItem o i):=fun o i=>by
 cases b <;> first|rfl|cases h
theorem tF:(UU:Nat)<2 ^ 63:=by rw [VV];decide
theorem iQ {o:Option T} {w:T} {L':aa} (h:lift o L=.ok w L'):o=some w/\L'=L:=by
 cases o with
 | none=>cases h
 | some t=>cases h;exact⟨rfl,rfl⟩
noncomputable def PO (X:Cx) (e:Option Expr) (m:Option SE):Prop:=∀{pins:bg} {φ:Fr} {g:G} {L:aa} {s:Uu} {o:Option Int} {L':aa},Inv X pins φ g L s->Er m φ L=.ok o L'->UK (model X.prog X.w) X.A (evalPart e X.env) (fun u s'=>∃g',Le g g'/\Inv X pins φ g' L' s'/\IsPart u o) F0 s
theorem BI:PO X none none:=fun I h=>by cases h;rw [evalPart_none];exact Uk ⟨_,.refl _,I,.none⟩
theorem BJ (h:PE X e m):PO X (some e) (some m):=fun I q=>by
 obtain⟨t,L1,e1,q⟩:=R.of q;cases t <;> first|cases q|skip
 rw [evalPart_some];exact thn (h I e1) fun u s1 ⟨g1,l1,I1,r1⟩=>by obtain⟨_,rfl⟩:=r1.iI;exact⟨g1,l1,I1,.int _ _⟩
theorem cP.drop (h:cP g xs us):∀n,cP g (xs.drop n) (us.drop n):=by
 induction h with
 | nil=>intro n;simp;exact .nil
 | cons a b ih=>intro n;cases n with
  | zero=>exact .cons a b
  | succ n=>simpa using ih n
theorem cP.take (h:cP g xs us):∀n,cP g (xs.take n) (us.take n):=by
 induction h with
 | nil=>intro n;simp;exact .nil
 | cons a b ih=>intro n;cases n with
  | zero=>exact .nil
  | succ n=>simp;exact .cons a (ih n)
theorem BK {α:Type} (xs:List α) (lo hi:Option Int):(cut xs lo hi).length<=xs.length:=by
 unfold cut;rw [Vc,U9];omega
theorem part_of {v:Uq} {o:Option Int} (p:IsPart v o):∃q:Option (Int × Tok),v=partValue q/\q.map (·.1)=o:=by
 cases p with
 | none=>exact⟨none,rfl,rfl⟩
 | int i t=>exact⟨some (i,t),rfl,rfl⟩
theorem Fj {fz:Bool} {x w:T} {u vl vu:Uq} {lo hi:Option Int} {sl:U2} {L':aa} (I:Inv X pins φ g L s) (rx:RT g none x u) (hs:s.heap.IsSliceOf sl vl vu .none) (pl:IsPart vl lo) (pu:IsPart vu hi) (h:jf fz x lo hi L=.ok w L') :
  ∃T id,typeLookup (.type T) "__getitem__"=pure (some (.builtin id))/\s.TypeIs u T/\UK (model X.prog X.w) X.A (getItem u (.ref sl)) (EP X pins φ g w L') F0 s:=by
 obtain⟨p,vx⟩:=I.view rx;unfold jf at h;generalize vw L x=x' at h vx;cases x' with
 | str z =>
  match lo,hi,pl,pu,h with
  | some i,some j,pl,pu,h =>
   obtain⟨⟨h0,h1,h2⟩,h⟩:=aG h;cases h;cases vx with
   | str _ t hz =>
    obtain⟨ql,rfl,el⟩:=part_of pl;obtain⟨qu,rfl,eu⟩:=part_of pu;refine⟨"str",_,F.slot_str_getitem.lookup,typeIs_str _ _ _,wpAny_getItem_str_slice (l:=ql) (u:=qu) (st:=none) hs rfl ?_⟩;have e:sliceMade ⟨z.toArray⟩ t ql qu none=if ((1:Int) == 1 && (Yv (some i) (some j) 1 (⟨z.toArray⟩:Str).length).length == (⟨z.toArray⟩:Str).length)=true then .val (.str ⟨z.toArray⟩ t) else .str ⟨((Yv (some i) (some j) 1 (⟨z.toArray⟩:Str).length).filterMap ((⟨z.toArray⟩:Str).cps[·]?)).toArray⟩:=by
     unfold sliceMade slicePicked;rw [el,eu];rfl
    rw [e];have hlen:(⟨z.toArray⟩:Str).length=z.length:=by show z.toArray.size=_;simp
    have es:aar ⟨z.toArray⟩ (some i) (some j)=⟨((z.drop i.toNat).take (j - i).toNat).toArray⟩:=by
     have e:=eq_of_beq (slice_closesL (x:=⟨z.toArray⟩) h0 h1 (by rw [hlen];exact h2));have e2:(aar ⟨z.toArray⟩ (some i) (some j)).cps.toList=(z.drop i.toNat).take (j - i).toNat:=by rw [e]
     have e3:∀z:Str,z=⟨z.cps.toList.toArray⟩:=fun z=>by cases z;simp
     rw [e3 (aar ⟨z.toArray⟩ (some i) (some j)),e2]
    have LP:((z.drop i.toNat).take (j - i).toNat).length<=UU:=by rw [Vc,U9];omega
    exact post_val_or_str ⟨UO (Txt.slice_le _ _ _) (by rw [hlen];exact hz),fun t' k=>(I.tok _).ep (by show RT g none _ (Yc (aar ⟨z.toArray⟩ (some i) (some j)) t');rw [es];exact .str _ _ LP)⟩
 | tup xs =>
  cases h;obtain⟨a,its,rfl,ht,r,hz⟩:=I.tupP vx;have hlen:its.size=xs.length:=by have:=UL r;simp at this;omega
  refine⟨"tuple",_,VQ.lookup,ht.typeIs,?_⟩;by_cases hw:clip its.size 0 lo=0/\clip its.size its.size hi=its.size
  ·refine jI ht hs pl pu hw (I.ep ?_)
   have e:cut xs lo hi=xs:=by
    unfold cut;rw [hlen] at hw;rw [hw.1,hw.2];simp
   rw [e];exact vx.tI.1
  ·refine jH ht hs pl pu hw ?_ (by rw [hlen];exact hz)
   rw [hlen];exact x8 (w:=.cm) (t':=s.toks) I ((r.drop _).take _) (UO (BK xs lo hi) hz) (fun b u e=>Uj _ e) (UH _) (Us _ rfl)
 | lst xs =>
  obtain⟨a,its,n,rfl,e,r,hz⟩:=I.lst vx;have hlen:its.size=xs.length:=by have:=UL r;simp at this;omega
  refine⟨"list",_,slot_list_getitem.lookup,(af e).typeIs,?_⟩;refine wpAny_getItem_list_slice (af e) hs pl pu .none (by simp) ?_ (by omega);rw [show its=its.toList.toArray by simp,nS,VK,hlen];exact kh (t':=s.toks) I ((r.drop _).take _) h (fun b u e=>Uj _ e) (Us _ rfl)
 | _=>cases h
theorem Fl {fz:Bool} {lo hi:Option Expr} {ml mh:Option SE} (he:PE X e m) (hl:PO X lo ml) (hh:PO X hi mh):PE X (.Subscript e (.Slice lo hi none p2) pos) (sl fz m ml mh):=fun I h=>by
 obtain⟨x,L1,e1,h⟩:=R.of h;obtain⟨l,L2,e2,h⟩:=R.of h;obtain⟨r,L3,e3,h⟩:=R.of h;refine Subscript_ (thn (he I e1) fun v s1 ⟨g1,l1,I1,r1⟩=>wpAny_Slice (thn (hl I1 e2) fun vl s2 ⟨g2,l2,I2,pl⟩=>thn (hh I2 e3) fun vu s3 ⟨g3,l3,I3,pu⟩=>?_));rw [evalPart_none];refine Uk ?_;have I4:=I3.kept (h':=s3.heap.push { cls:=.type "slice",data:=.fields #[vl,vu,.none] }) (t':=s3.toks) fun b ob q=>Uj _ q
 obtain⟨T,id,hT,ht,hg⟩:=Fj I4 (r1.le (l2.trans l3)) (Heap.IsSliceOf.new ..) pl pu h;exact tail_any (ops:=[.ref s3.heap.objs.size,v]) ht hT (thn hg fun _ _ z=>z.le ((l1.trans l2).trans l3)) (by with_unfolding_all rfl)
end
section
variable {X:Cx} {pins:bg} {φ:Fr} {g:G} {L L':aa} {s:Uu} {xs ys:List T} {us vs:List Uq} {e o:Expr} {es:List Expr} {m:SE} {ms:List SE} {pos p apos:Pos} {x:Str} {F:Fn} {t w:T} {u v:Uq}
theorem Fm (hc:∃f,bootBuiltins x=some f/\d8 X f F/\((∃id,f=.builtin id)\/∃T,f=.type T)) (hg:Gl X x) (hm:X.mg x=none) (hn:x≠"__name__") (IU:(x == ("__debug__":Str))=false) (ha:PA X (e::es) (iM ms)) (hs:(e::es).all bo=true):PE X (.Call (.Name x p) (e::es) [] pos) (ae F ms):=fun I h=>by
 obtain⟨ts,L1,e1,h⟩:=R.of h;obtain⟨f,hv,hF,hk⟩:=hc;rw [Vf,Uw] at hs;refine wpAny_Call_Name_kw (fX I hg hm hv ?_ hn IU);have A:=thn (E:=F0) (Q':=fun us s1=>UK (model X.prog X.w) X.A (call f us) (EP X _ _ _ _ _) F0 s1) (ha pos I e1) fun us s1 ⟨g1,l1,I1,r1⟩=>thn (hF I1 r1 h) fun _ _ z=>z.le l1
 rcases hk with⟨id,rfl⟩|⟨T,rfl⟩
 ·exact callWith_builtin1 A (aD hs.1) (bU hs.2)
 ·exact callWith_type1 A (aD hs.1) (bU hs.2)
theorem bP (r:cP g [t] us):∃u,us=[u]/\RT g none t u:=by
 cases r with|cons a b=>cases b;exact⟨_,rfl,a⟩
theorem km {t1 t2:T} (r:cP g [t1,t2] us):∃u1 u2,us=[u1,u2]/\RT g none t1 u1/\RT g none t2 u2:=by
 cases r with|cons a b=>obtain⟨u,rfl,c⟩:=bP b;exact⟨_,_,rfl,a,c⟩
theorem str_len {z:Cs}:(⟨z.toArray⟩:Str).length=z.length:=by show z.toArray.size=_;simp
theorem yg:d8 X (.builtin "len") bM:=fun {_ _ _ _ _ xs _ _ _} I r h=>by
 have hn:=tF;unfold bM at h;split at h
 ·obtain⟨u,rfl,ru⟩:=bP r
  obtain⟨p,v⟩:=I.view ru;split at h
  ·rename_i ev
   cases h;rw [ev] at v;obtain⟨t,rfl,hz⟩:=v.jh;refine len_str (by rw [str_len];omega) ?_;rw [str_len];exact(I.tok _).ep (.int _ _)
  ·rename_i ev
   cases h;rw [ev] at v;obtain⟨a,its,rfl,e,rr,hz⟩:=I.tupP v;have hl:=UL rr
   exact len_tuple e (by simp at hl;omega) (by rw [show its.size=_ from by simpa using hl.symm];exact(I.tok _).ep (.int _ _))
  ·rename_i ev
   cases h;rw [ev] at v;obtain⟨a,its,n,rfl,e,rr,hz⟩:=I.lst v;have hl:=UL rr
   exact Calls.call_len_list (af e) (by simp at hl;omega) (by rw [show its.size=_ from by simpa using hl.symm];exact(I.tok _).ep (.int _ _))
  ·cases h
 ·cases h
theorem Inv.seq {q:Option (U2 × U2)} (I:Inv X pins φ g L s) (r:RT g q t u) (h:t=.lst xs\/t=.tup xs):∃a its o n T,u=.ref a/\s.heap.get? a=some o/\o.cls=.type T/\o.data=.seq its n/\(T="list"\/T="tuple")/\cP g xs its.toList/\its.size=xs.length/\xs.length<=UU:=by
 rcases h with rfl|rfl
 ·obtain⟨a,its,n,rfl,e,rr,hz⟩:=I.lst r
  exact⟨a,its,_,n,_,rfl,e,rfl,rfl,.inl rfl,rr,by simpa using (UL rr).symm,hz⟩
 ·obtain⟨a,its,rfl,⟨o,ho,hc,n,hd⟩,rr,hz⟩:=I.tupP r
  exact⟨a,its,o,n,_,rfl,ho,hc,hd,.inr rfl,rr,by simpa using (UL rr).symm,hz⟩
theorem u0 {fz:Bool} (I:Inv X pins φ g L s) (ru:RT g none t u) (ht:vw L t=.lst xs\/vw L t=.tup xs) (h:fF fz xs L=.ok w L'):UK (model X.prog X.w) X.A (call (.type "list") [u]) (EP X pins φ g w L') F0 s:=by
 obtain⟨p,v⟩:=I.view ru;obtain⟨a,its,o,n,T,rfl,ho,hc,hd,hT,rr,hl,hz⟩:=I.seq v ht;exact call_list_seq a hT ho hc hd (fun h' c' kp e=>kh (t':=s.toks) (n:=c') I rr h kp (by simpa using e)) (by omega)
theorem yh:d8 X (.type "tuple") iY:=fun {_ _ _ _ s _ _ _ _} I r h=>by
 unfold iY at h;split at h
 ·obtain⟨u,rfl,ru⟩:=bP r
  obtain⟨p,v⟩:=I.view ru;split at h
  ·rename_i ev
   rw [ev] at v;cases h;obtain⟨a,its,rfl,e,rr,hz⟩:=I.tupP v;exact call_tuple_same e (I.ep v.tI.1)
  ·rename_i ev
   rw [ev] at v;cases h;obtain⟨a,its,n,rfl,e,rr,hz⟩:=I.lst v;have hl:=UL rr
   refine call_tuple_list (af e) (fun h' kp=>?_) (by simp at hl;omega);have J:=I.kept (t':=s.toks) kp
   exact x8 (w:=.cm) (t':=s.toks) (n:=0) J rr hz (fun b o e=>Uj _ e) (UH _) (by simpa using Us h' (o:={ cls:=.type "tuple",data:=.seq its }) rfl)
  ·cases h
 ·cases h
theorem u3 {α:Type} {f:T->Option α}:∀{ys:List T} {bs:List α},ys.mapM f=some bs->ys.length=bs.length/\∀(i:Nat) y,ys[i]?=some y->∃b,bs[i]?=some b/\f y=some b
 | [],bs,h=>by simp at h;subst h;exact⟨rfl,fun i y e=>by simp at e⟩
 | y::ys,bs,h=>by
  rw [Wr] at h;cases e1:f y with
  | none=>rw [e1] at h;cases h
  | some b =>
   rw [e1] at h;cases e2:ys.mapM f with
   | none=>rw [e2] at h;cases h
   | some r =>
    rw [e2] at h;have h:some (b::r)=some bs:=h
    cases h;obtain⟨h1,h2⟩:=u3 e2;refine⟨by simp [h1],fun i z e=>?_⟩;cases i with
    | zero=>cases e;exact⟨b,rfl,e1⟩
    | succ i=>exact h2 i z (by simpa using e)
theorem yi {α:Type} {f:T->Option α} {k:List α->T} (I:Inv X pins φ g L s) (r:cP g xs us) (h:Es f k xs L=.ok w L'):∃a its n bs,us=[.ref a]/\L'=L/\w=k bs/\s.heap.get? a=some { cls:=.type "list",data:=.seq its n }/\its.size=bs.length/\a<s.heap.objs.size /\
  ∀(i:Nat) v,its[i]?=some v->∃b y,bs[i]?=some b/\f y=some b/\RT g none y v:=by
 unfold Es at h;split at h
 ·obtain⟨u,rfl,ru⟩:=bP r
  obtain⟨p,v⟩:=I.view ru;split at h
  ·rename_i ev
   rw [ev] at v;obtain⟨q,rfl⟩:=iQ h;obtain⟨bs,q2,rfl⟩:=UA.mp q;obtain⟨h1,h2⟩:=u3 q2;obtain⟨a,its,n,rfl,e,rr,hz⟩:=I.lst v;have hl:=UL rr
   refine⟨a,its,n,bs,rfl,rfl,rfl,e,by simp at hl;omega,UP e,fun i v hv=>?_⟩;have hi:=(Xt.mp hv).1
   have e1:=Ge9 (l:=_) (i:=i) (show i<_ from by rw [hl];simpa using hi);obtain⟨b,b1,b2⟩:=h2 i _ e1;exact⟨b,_,b1,b2,wo rr i _ v e1 (by simpa using hv)⟩
  ·cases h
 ·cases h
theorem all_range (bs:List Bool):((Vp bs.length).all fun i=>(bs[i]?).getD true)=bs.all id:=by
 rw [V8,Uo,Uo];constructor
 ·intro h b hb
  obtain⟨i,hi,rfl⟩:=Wb hb;have z:=h i (Vn.mpr hi)
  simpa [hi] using z
 ·intro h i hi
  have hi':=Vn.mp hi;have z:=h _ (UJ hi')
  simpa [hi'] using z
theorem any_range (bs:List Bool):((Vp bs.length).any fun i=>(bs[i]?).getD true)=bs.any id:=by
 rw [V8,V5,V5];constructor
 ·rintro⟨i,hi,h⟩
  have hi':=Vn.mp hi;exact⟨bs[i],UJ hi',by simpa [hi'] using h⟩
 ·rintro⟨b,hb,h⟩
  obtain⟨i,hi,rfl⟩:=Wb hb;exact⟨i,Vn.mpr hi,by simpa [hi] using h⟩
theorem Inv.over {h':Heap} {tk:Nat} {o:Obj} (I:Inv X pins φ g L s) (hk:∀b ob,b∉[s.heap.objs.size]->(s.heap.push o).get? b=some ob->h'.get? b=some ob):Inv X pins φ g L { s with heap:=h',toks:=tk } :=
 I.kept fun b ob e=>hk b ob (fun hm=>by rw [UR.mp hm] at e;exact V0 _ (UP e)) (Uj _ e)
theorem yj {y:T} {b:Bool} {v:Uq} (h:HT y=some b) (r:RT g none y v):v=.bool b:=by
 cases r <;> cases h;rfl
theorem MF {y:T} {b:Int} {v:Uq} (h:QF y=some b) (r:RT g none y v):∃t,v=.int b t:=by
 cases r <;> cases h;exact⟨_,rfl⟩
theorem Fo {y:T} {b:Cs} {v:Uq} (h:HU y=some b) (r:RT g none y v):∃t,v=.str ⟨b.toArray⟩ t/\b.length<=UU:=by
 cases y <;> cases h;exact r.jh
theorem yk:d8 X (.builtin "all") qM:=fun {_ _ _ _ s _ _ _ _} I r h=>by
 obtain⟨a,its,n,bs,rfl,rfl,rfl,e,hl,bN,hi⟩:=yi I r h;refine call_all_walk (wpAny_pyIter_list (af e) ?_);refine⟨s.heap.objs.size,[s.heap.objs.size,a],[s.heap.objs.size],its.size,_,_,fun i=>(bs[i]?).getD true,rfl,Walks.list (A:=X.A.in1) I.ok.hd _ a (U0 bN) its,
  ⟨⟨_,Us _ rfl,rfl,rfl⟩,(af e).push _⟩,fun i v s' Q' E' hP hQ=>?_,fun h' tk hk=>?_⟩
 ·obtain⟨b,y,b1,b2,b3⟩:=hi i v hP
  rw [yj b2 b3];simp only [b1,WA] at hQ;exact wpAny_truthy_bool hQ
 ·rw [hl,all_range]
  exact(I.over hk).ep (.bl _)
theorem yl:d8 X (.builtin "any") wj:=fun {_ _ _ _ s _ _ _ _} I r h=>by
 obtain⟨a,its,n,bs,rfl,rfl,rfl,e,hl,bN,hi⟩:=yi I r h;refine call_any_walk (wpAny_pyIter_list (af e) ?_);refine⟨s.heap.objs.size,[s.heap.objs.size,a],[s.heap.objs.size],its.size,_,_,fun i=>(bs[i]?).getD true,rfl,Walks.list (A:=X.A.in1) I.ok.hd _ a (U0 bN) its,
  ⟨⟨_,Us _ rfl,rfl,rfl⟩,(af e).push _⟩,fun i v s' Q' E' hP hQ=>?_,fun h' tk hk=>?_⟩
 ·obtain⟨b,y,b1,b2,b3⟩:=hi i v hP
  rw [yj b2 b3];simp only [b1,WA] at hQ;exact wpAny_truthy_bool hQ
 ·rw [hl,any_range]
  exact(I.over hk).ep (.bl _)
theorem BL (l:List Int):∀j,preSum (fun i=>l.getD i 0) j=(l.take j).sum
 | 0=>by simp [preSum]
 | j+1=>by
  rw [preSum,BL l j];by_cases h:j<l.length
  ·rw [Z4,List.sum_append,Gd9,Ge9 h];simp
  ·rw [Vm (by omega),Vm (by omega),Gd9,Wf (by omega)];simp
theorem ym:d8 X (.type "str") sW:=fun I r h=>by
 unfold sW at h;split at h
 ·obtain⟨⟨h1,h2⟩,h⟩:=aG h
  cases h;obtain⟨u,rfl,ru⟩:=bP r;obtain⟨_,rfl⟩:=ru.iI;exact PySem.P.str_of_int h1 ((I.tok _).ep (.str _ _ h2))
 ·cases h
theorem yn:d8 X (.type "int") wm:=fun I r h=>by
 unfold wm at h;split at h
 ·obtain⟨u,rfl,ru⟩:=bP r
  obtain⟨t,rfl,hz⟩:=ru.jh;split at h
  ·obtain⟨h1,h⟩:=aG h
   cases h;exact PySem.W.KIN.call_text (by assumption) (by rw [str_len];exact h1) ((I.tok _).ep (.int _ _))
  ·cases h
 ·cases h
theorem Pj {xs:List T} {w:T} {L':aa} (h:QG xs L=.ok w L'):∃x n,xs=[x,.cl (.type n)]/\LL L n x=.ok w L':=by
 match xs,h with
 | [x,y],h =>
  have h:(match Mn y with|some n=>LL L n x|none=>.bad)=.ok w L':=h;cases e:Mn y with
  | none=>rw [e] at h;cases h
  | some n =>
   rw [e] at h;refine⟨x,n,?_,h⟩;cases y with
   | cl c=>cases c with
    | type m=>cases e;rfl
    | _=>cases e
   | _=>cases e
theorem MG {n:String} {x w:T} {L':aa} (h:LL L n x=.ok w L'):L'=L/\((n="bool"/\∃b,x=.bl b/\w=.bl true)\/(n="bool"/\∃i,x=.int i/\w=.bl false)\/(n="int"/\∃b,x=.bl b/\w=.bl true)\/(n="int"/\∃i,x=.int i/\w=.bl true)):=by
 have key:∀{b k:Bool},(if n="bool" then R.ok (T.bl b) L else if n="int" then .ok (.bl k) L else .bad)=.ok w L'->L'=L/\((n="bool"/\w=.bl b)\/(n="int"/\w=.bl k)):=fun h=>by
  split at h
  ·cases h;exact⟨rfl,.inl ⟨‹_›,rfl⟩⟩
  ·split at h
   ·cases h;exact⟨rfl,.inr ⟨‹_›,rfl⟩⟩
   ·cases h
 cases x with
 | bl b =>
  obtain⟨e,⟨a,c⟩|⟨a,c⟩⟩:=key h
  ·exact⟨e,.inl ⟨a,b,rfl,c⟩⟩
  ·exact⟨e,.inr (.inr (.inl ⟨a,b,rfl,c⟩))⟩
 | int i =>
  obtain⟨e,⟨a,c⟩|⟨a,c⟩⟩:=key h
  ·exact⟨e,.inr (.inl ⟨a,i,rfl,c⟩)⟩
  ·exact⟨e,.inr (.inr (.inr ⟨a,i,rfl,c⟩))⟩
 | _=>cases h
noncomputable def yo (X:Cx) (id:String) (m:T->Fn):Prop:=∀{pins:bg} {φ:Fr} {g:G} {L:aa} {s:Uu} {x:T} {xs:List T} {w:T} {L':aa} {v:Uq} {us:List Uq},Inv X pins φ g L s->RT g none x v->cP g xs us->m x xs L=.ok w L'->UK (model X.prog X.w) X.A (call (.builtin id) (v::us)) (EP X pins φ g w L') F0 s
noncomputable def Ty.nm:Ty->String
 | .s=>"str"|.l=>"list"|.t=>"tuple"|.d=>"dict"
theorem Fp {n:Ty} (I:Inv X pins φ g L s) (r:RT g none t u) (h:Du L t=some n):s.TypeIs u n.nm/\(∀a,u=.ref a->∃o,s.heap.get? a=some o/\o.dict=none):=by
 obtain⟨p,v⟩:=I.view r;unfold Du at h;split at h <;> first|cases h|skip
 all_goals (rename_i ev;rw [ev] at v)
 ·obtain⟨t,rfl,_⟩:=v.jh
  exact⟨typeIs_str _ _ _,fun a e=>by cases e⟩
 ·obtain⟨a,its,n,rfl,e,_⟩:=I.lst v
  exact⟨⟨_,e,rfl⟩,fun b q=>by cases q;exact⟨_,e,rfl⟩⟩
 ·obtain⟨_,_,_,_,_,rfl,hk,hc,_⟩:=v.tI
  exact⟨⟨_,I.kn hk,hc.1⟩,fun b q=>by cases q;exact⟨_,I.kn hk,hc.2⟩⟩
 ·cases v with
  | aS _ hk hx=>exact⟨⟨_,I.kn hk,hx.1⟩,fun b q=>by cases q;exact⟨_,I.kn hk,hx.2.1⟩⟩
noncomputable def Fq (X:Cx) (x:Str) (y:Ty) (F:T->Fn):Prop:=∃id,PlainAttrs y.nm/\Slot y.nm x id/\typeOf (.builtin id)=pure (.type "method_descriptor")/\yo X id F
theorem BM {f:Ty->Option (T->Fn)} (hM:∀T F,f T=some F->Fq X x T F) (ho:PE X o m) (ha:PA X es (iM ms)) (h0:es=[]->ms=[]) (hs:es.all bo=true) (hl:es.length<30) (hb:okBase o=true) (mD:(apos.endLine == pos.line)=true) :
  PE X (.Call (.Attribute o x apos) es [] pos) (aU f m ms):=fun I h=>by
 obtain⟨t,L1,e1,h⟩:=R.of h;cases ef:(Du L1 t).bind f with
 | none=>simp only [ef] at h;cases h
 | some F =>
  simp only [ef] at h;obtain⟨T,hT,hF⟩:=Wl.mp ef;obtain⟨ts,L2,e2,h⟩:=R.of h;obtain⟨id,pa,slot,H3,hm⟩:=hM T F hF;refine wpAny_Call_method_late (base_ok hb) (tB hs hl) mD rfl (thn (ho I e1) fun v s1 ⟨g1,l1,I1,r1⟩=>?_);obtain⟨h1,h2⟩:=Fp I1 r1 hT;refine⟨T.nm,id,pa,slot,H3,h1,h2,?_⟩;refine ZG (bU hs) ?_;cases es with
  | nil =>
   rw [h0 rfl] at e2;cases e2;exact Z7 (thn (hm I1 r1 .nil h) fun _ _ z=>z.le l1)
  | cons e es =>
   rw [Vf,Uw] at hs;have A:=ha pos I1 e2
   rw [aD hs.1] at A ⊢;exact Calls.evalArgs_plain (thn A fun us s2 ⟨g2,l2,I2,r2⟩=>thn (hm I2 (r1.le l2) r2 h) fun _ _ z=>z.le (l1.trans l2))
theorem Inv.qU {n:Nat} {its:Array Uq} {cnt:Nat} {a:U2} {f:Array Uq->Array Uq} {t':Nat} (I:Inv X pins φ g L s) (hc:at_ L n=some (.lst xs)) (ru:RT g none (.ref n) (.ref a)) (e:s.heap.get? a=some { cls:=.type "list",data:=.seq its cnt }) (r:cP g ys (f its).toList) (hz:ys.length<=UU) :
  EP X pins φ g .cm (put L n (.lst ys)) .none { s with heap:=s.heap.update a (VP f),toks:=t' }:=by
 obtain⟨p,hp,rc⟩:=I.rel.cells n _ hc;cases ru with
 | ref hq =>
  rw [hp] at hq;cases hq;generalize u4:(some p:Option (U2 × U2))=pp at rc;generalize MH:Wj p.1=pa at rc;cases rc with
  | lst ht hk TR hl hi =>
   cases MH;subst u4;have q:=aan e f
   obtain⟨n',hn'⟩:∃n',(s.heap.update p.1 (VP f)).get? p.1=some { cls:=.type "list",data:=.seq (f its) n' }:=⟨_,q⟩;have hH:∃o,g.H p.1=some (false,o):=by
    rcases hk with hk|⟨z,_⟩
    ·exact⟨_,hk⟩
    ·cases z
   obtain⟨o,hH⟩:=hH;have l:=Le.set (o:={ cls:=.type "list",data:=.seq (f its) n' }) hH
   refine⟨_,l,I.set (t':=t') hp (.inl rfl) hH (fun b v hb hv=>(U6 s.heap (VP f) (VU hb)).trans hv) hn' ?_,.cm⟩;have:=r.lst (o:=default) (g1:=g.set p.1 { cls:=.type "list",data:=.seq (f its) n' }) (n:=n') l ht (.inl (by rw [show(f its).toList.toArray=f its by simp];exact aw)) hz
   exact this
theorem Inv.u5 {n:Nat} (I:Inv X pins φ g L s) (rx:RT g none (.ref n) v) (ea:at_ L n=some (.lst ys)):∃a its cnt,v=.ref a/\s.heap.get? a=some { cls:=.type "list",data:=.seq its cnt }/\cP g ys its.toList/\its.size=ys.length/\ys.length<=UU:=by
 obtain⟨p,v⟩:=I.view rx;rw [show vw L (.ref n)=.lst ys by show(at_ L n).getD T.cm=_;rw [ea];rfl] at v;obtain⟨a,its,cnt,rfl,e,rr,hz⟩:=I.lst v;exact⟨a,its,cnt,rfl,e,rr,by simpa using (UL rr).symm,hz⟩
theorem Fs:yo X "list.append" Bm:=fun I rx rv h=>by
 unfold Bm at h;split at h
 ·split at h
  ·rename_i n t _ ys ea
   obtain⟨hz,h⟩:=aG h;cases h;obtain⟨u,rfl,ru⟩:=bP rv;obtain⟨a,its,cnt,rfl,e,rr,hl,_⟩:=I.u5 rx ea;have bN:ys.length<UU:=hz
   refine call_meets Yk ⟨_,e,rfl⟩ F.entry_list_append (F.args_list_append_2 _ _) (PySem.list_append a its cnt u (by omega)) ⟨e,?_⟩;exact I.qU ea rx e (by simpa using rr.app (.cons ru .nil)) (by simp;omega)
  ·cases h
 ·cases h
theorem mG (l:U2) (xs:Array Uq) (n:Nat) (b:U2) (ys:Array Uq) (k:Nat) (dd:Option U2) (sl:Array (Option Uq)) (pC:¬(!xs.isEmpty && WN (xs.size+ys.size))=true) (h1:xs.size<=UU) (h2:xs.size+ys.size<=UU+1) :
  Meets (Builtin.«list.extend» ⟨[.ref l,.ref b],[]⟩)
   (fun _ R st=>st.heap.get? l=some { cls:=.type "list",dict:=none,data:=.seq xs n,slots:=#[] }/\st.heap.get? b=some { cls:=.type "tuple",dict:=dd,data:=.seq ys k,slots:=sl } /\
    R (.ok (.ret VJ)) { st with heap:=st.heap.update l (VP fun x=>x++ys),toks:=st.toks }) :=
 .of_wp fun prog w A R st h=>by
  obtain⟨hp,gs,dr,tk,os⟩:=st;obtain⟨gl,gb,hR⟩:=h;have i1:=AutoSeq1.idx_int
  have i2:=Y2;have i3:=AutoSeq1.sub_list_list
  have i4:=AutoSeq1.sub_tuple_list;have i5:=AutoSeq1.sub_list_tuple
  have both:(xs++ys).size<=UU+1:=by rw [Array.size_append];exact h2
  wp_walk using (wpAny_updateSeq gl rfl (hz:=h1) (_hz':=both)),Y3 gl,Y3 gb
  exact⟨_,rfl,hR⟩
theorem Ft:yo X "list.extend" xA:=fun I rx rv h=>by
 have long:∀{n:Nat} (b:Bool),n<=UU->¬ (b && WN n)=true:=fun b h=>by
  rw [show WN _=false by unfold WN;exact decide_eq_false (by omega),X9];exact WE
 unfold xA at h;split at h
 ·split at h
  ·rename_i n t _ _ ys zs ea ev
   obtain⟨hz,h⟩:=aG h;have hz:ys.length+zs.length<=UU:=hz
   cases h;obtain⟨u,rfl,ru⟩:=bP rv;obtain⟨p,v⟩:=I.view ru;rw [ev] at v;obtain⟨a,its,cnt,rfl,e,rr,hl,_⟩:=I.u5 rx ea;obtain⟨b,pD,MI,rfl,e2,BN,LP⟩:=I.lst v;have j8:pD.size=zs.length:=by simpa using (UL BN).symm
   refine call_meets Yl ⟨_,e,rfl⟩ F.entry_list_extend (F.args_list_extend_2 _ _) (AutoSeq1.list_extend_list_list_0 a its cnt b pD MI (long _ (by omega)) (by omega) (by omega)) ⟨e,e2,?_⟩;exact I.qU ea rx e (by simpa using rr.app BN) (by simp;omega)
  ·rename_i n t _ _ ys zs ea ev
   obtain⟨hz,h⟩:=aG h;have hz:ys.length+zs.length<=UU:=hz
   cases h;obtain⟨u,rfl,ru⟩:=bP rv;obtain⟨p,v⟩:=I.view ru;rw [ev] at v;obtain⟨a,its,cnt,rfl,e,rr,hl,_⟩:=I.u5 rx ea;obtain⟨b,pD,rfl,⟨⟨oc,od,dt,sl⟩,e2,hc,n2,hd⟩,BN,LP⟩:=I.tupP v;simp only at hc hd;subst hc hd;have j8:pD.size=zs.length:=by simpa using (UL BN).symm
   refine call_meets Yl ⟨_,e,rfl⟩ F.entry_list_extend (F.args_list_extend_2 _ _) (mG a its cnt b pD n2 od sl (long _ (by omega)) (by omega) (by omega)) ⟨e,e2,?_⟩;exact I.qU ea rx e (by simpa using rr.app BN) (by simp;omega)
  ·cases h
 ·cases h
theorem count_eq {α β:Type} {l:List α} {k:List β} {f:α->Bool} {g:β->Bool} (hl:l.length=k.length) (h:∀(i:Nat) a b,l[i]?=some a->k[i]?=some b->f a=g b):l.countP f=k.countP g:=by
 induction l generalizing k with
 | nil=>cases k with
  | nil=>rfl
  | cons _ _=>cases hl
 | cons a l ih=>cases k with
  | nil=>cases hl
  | cons b k =>
   rw [List.countP_cons,List.countP_cons,ih (by simpa using hl) (fun i x y e1 e2=>h (i+1) x y (by simpa using e1) (by simpa using e2)),h 0 a b rfl rfl]
theorem kq {M:Model} {A:Vj} {E:Uq->Uu->Prop} {s:Uu} {β:Type} {n:Nat} (f:Nat->β->Sem (ForInStep β)) (I:Nat->β->Uu->Prop) (Q:β->Uu->Prop) {b:β}
  (turn:∀i b s',i<n->I i b s'->UK M A (f i b) (fun r BO=>match r with|.done b'=>Q b' BO|.yield b'=>I (i+1) b' BO) E s')
  (fin:∀b s',I n b s'->Q b s') (h:I 0 b s):UK M A (forIn [0:n] b f) Q E s:=by
 rw [Std.Legacy.Range.forIn_eq_forIn_range'];have hsz:([0:n]:aap).size=n:=by simp [Std.Legacy.Range.size]
 show UK M A (forIn (List.range' 0 ([0:n]:aap).size 1) b f) Q E s;rw [hsz];refine wpAny_forIn_list f (fun rest b s'=>∃i,i<=n/\rest=List.range' i (n - i) 1/\I i b s') Q ?_ ?_ _ _ ⟨0,U4 _,by simp,h⟩
 ·rintro x rest b s' ⟨i,hi,er,hI⟩
  have bN:i<n:=by
   cases e:n - i with
   | zero=>rw [e] at er;cases er
   | succ m=>omega
  have e2:n - i=(n - (i+1))+1:=by omega
  rw [e2,List.range'_succ] at er;injection er with e3 e4;subst e3;refine wpAny_mono (turn x b s' bN hI) (fun r BO q=>?_) fun _ _ q=>q
  cases r with
  | done b'=>exact q
  | yield b'=>exact⟨x+1,bN,e4,q⟩
 ·rintro b s' ⟨i,hi,er,hI⟩
  have:i=n:=by
   cases e:n - i with
   | zero=>omega
   | succ m=>rw [e,List.range'_succ] at er;cases er
  subst this;exact fin b s' hI
open SeqAt in
theorem nU (l:U2) (items:Array Uq) (n:Nat) (dd:Option U2) (sl:Array (Option Uq)) (x:Uq) (e:Uq->Bool) (j:Nat) (hj:j<items.size) (hit:e items[j]=true) (lb:∀m (hm:m<items.size),m<j->e items[m]=false) :
  Meets (Builtin.«tuple.index» ⟨[.ref l,x],[]⟩)
   (fun A R s=>s.heap.get? l=some { cls:=.type "tuple",dict:=dd,data:=.seq items n,slots:=sl }/\(∀y,y∈items->EqAt A.in1 s y x (e y))/\R (.ok (.ret (.int (j:Nat) s.toks))) { s with toks:=s.toks+1 }) :=
 .of_wp fun prog w A R s h=>by
  obtain⟨hp,g,d,tk,os⟩:=s;obtain⟨hl,he,h⟩:=h
  wp_walk using wpAny_loadPart' hl,kq _ (fun i b s'=>b.1=none/\s'=⟨hp,g,d,tk,os⟩/\i<=j) _
  case turn =>
   rintro i b s' hi ⟨hb,rfl,tG⟩;have hi':i<items.size:=by omega
   rw [Ux hi'];refine Ui (he items[i] (Y4 hi') prog w _ _ ?_);by_cases hy:i=j
   ·subst hy
    rw [hit]
    wp_walk
    exact⟨_,rfl,h⟩
   ·rw [lb i hi' (by omega)]
    wp_walk
    exact⟨rfl,rfl,by omega⟩
  case fin =>
   rintro⟨b1,b2⟩ s' ⟨hb,rfl,tG⟩;omega
  case h =>
   exact⟨rfl,rfl,U4 _⟩
theorem yp {A:Vj} {its:Array Uq} (hu:A.units+8<cLine) (I:Inv X pins φ g L s) (h1:dat 8 t=true) (h2:xs.all (dat 8)=true) (ru:RT g none t u) (rr:cP g xs its.toList):∃e:Uq->Bool,(∀w∈its,WB A s w u (e w))/\its.toList.countP e=xs.countP fun y=>eqT y t:=by
 obtain⟨e,he,_,hi⟩:=pA I hu h1 ru h2 rr;exact⟨e,fun w hw=>he w (by simpa using hw),(count_eq (UL rr) fun i a b e1 e2=>(hi i a b e1 e2).symm).symm⟩
theorem BP (hu:X.A.units+20<cLine):yo X "list.count" uM:=fun I rx rv h=>by
 have ip:X.A.in1.units+8<cLine:=by show X.A.units+1+8<cLine;omega
 obtain⟨p,v⟩:=I.view rx;unfold uM at h;split at h
 ·rename_i ev
  obtain⟨⟨h1,h2⟩,h⟩:=aG h;cases h;obtain⟨u,rfl,ru⟩:=bP rv;rw [ev] at v;obtain⟨a,its,n,rfl,e,rr,_⟩:=I.lst v;obtain⟨f,f1,f2⟩:=yp ip I h1 h2 ru rr;exact call_meets Zm (af e).typeIs PySem.F.entry_list_count (PySem.F.args_list_count_2 _ _) (SeqAt.list_countAt a its n none #[] u f) ⟨e,f1,by rw [f2];exact(I.tok _).ep (.int _ _)⟩
 ·cases h
theorem BQ (hu:X.A.units+20<cLine):yo X "tuple.count" uN:=fun I rx rv h=>by
 have ip:X.A.in1.units+8<cLine:=by show X.A.units+1+8<cLine;omega
 obtain⟨p,v⟩:=I.view rx;unfold uN at h;split at h
 ·rename_i ev
  obtain⟨⟨h1,h2⟩,h⟩:=aG h;cases h;obtain⟨u,rfl,ru⟩:=bP rv;rw [ev] at v;obtain⟨a,its,rfl,⟨⟨oc,od,dt,sl⟩,e2,hc,n2,hd⟩,rr,_⟩:=I.tupP v;simp only at hc hd;subst hc hd;obtain⟨f,f1,f2⟩:=yp ip I h1 h2 ru rr;exact call_meets Y5 ⟨_,e2,rfl⟩ PySem.F.entry_tuple_count (PySem.F.args_tuple_count_2 _ _) (SeqAt.tuple_countAt a its n2 od sl u f) ⟨e2,f1,by rw [f2];exact(I.tok _).ep (.int _ _)⟩
 ·cases h
theorem Fu (hu:X.A.units+20<cLine):yo X "tuple.index" Bn:=fun I rx rv h=>by
 have ip:X.A.in1.units+8<cLine:=by show X.A.units+1+8<cLine;omega
 obtain⟨p,v⟩:=I.view rx;unfold Bn at h;split at h
 ·rename_i xs t
  obtain⟨⟨h1,h2⟩,h⟩:=aG h;obtain⟨u,rfl,ru⟩:=bP rv;split at h
  ·rename_i j hj
   cases h;obtain⟨a,its,rfl,⟨⟨oc,od,dt,sl⟩,e2,hc,n2,hd⟩,rr,_⟩:=I.tupP v;simp only at hc hd;subst hc hd;obtain⟨f,f1,_,f3⟩:=pA I ip h1 ru h2 rr;have hl:its.size=xs.length:=by simpa using (UL rr).symm
   obtain⟨j1,j2,j3⟩:=VH.mp hj;have at_:∀m (hm:m<its.size),f its[m]=eqT (xs[m]'(by omega)) t:=fun m hm=>f3 m _ _ (Ge9 (by omega)) (by simp [hm])
   refine call_meets Y6 ⟨_,e2,rfl⟩ PySem.F.entry_tuple_index (PySem.F.args_tuple_index_2 _ _) (nU a its n2 od sl u f j (by omega) (by rw [at_];exact j2) (fun m hm Rc=>?_)) ⟨e2,fun w hw=>f1 w (by simpa using hw),(I.tok _).ep (.int _ _)⟩;rw [at_];simpa using j3 m Rc
  ·cases h
 ·cases h
theorem yq {prog:VB} {w:Wy} {A:Vj} {P:Nat->Uq->Prop} (f:Nat->Cs) (hf:∀i v,P i v->∃t,v=.str ⟨(f i).toArray⟩ t):CmpOf prog w A .Lt P (fun i j=>decide (f i<f j)):=fun i j vi vj s Q E hi hj h=>by
 obtain⟨t,rfl⟩:=hf i vi hi;obtain⟨u,rfl⟩:=hf j vj hj;have h:Q (.bool (decide ((⟨(f i).toArray⟩:Str).cps.toList<(⟨(f j).toArray⟩:Str).cps.toList))) s:=h
 exact(Z8 h:UK (model prog w) A (compareOp .Lt _ _) Q E s)
theorem yr:d8 X (.builtin "min") xy:=fun {_ _ g _ s _ _ _ _} I r h=>by
 unfold xy at h;split at h
 ·cases h
  rename_i i j;obtain⟨u,v,rfl,r1,r2⟩:=km r;cases r1;cases r2;refine min_two_ints I.ok.hd fun h' tk k=>(I.kept k).ep ?_
  by_cases hj:j<i
  ·rw [if_pos hj,if_pos hj];exact .int _ _
  ·rw [if_neg hj,if_neg hj];exact .int _ _
 ·cases h
  rename_i a b;obtain⟨u,v,rfl,r1,r2⟩:=km r;obtain⟨t,rfl,ha⟩:=r1.jh;obtain⟨t',rfl,hb⟩:=r2.jh;have hT:(s.heap.push { cls:=.type "tuple",data:=.seq #[.str ⟨a.toArray⟩ t,.str ⟨b.toArray⟩ t'] }).IsTuple s.heap.objs.size #[.str ⟨a.toArray⟩ t,.str ⟨b.toArray⟩ t']:=⟨_,Us _ rfl,rfl,0,rfl⟩
  refine call_min_two (wpAny_pyIter_tuple hT ?_);have hsz:(s.heap.push { cls:=.type "tuple",data:=.seq #[.str ⟨a.toArray⟩ t,.str ⟨b.toArray⟩ t'] }).objs.size=s.heap.objs.size+1:=VC ..
  refine⟨_,[_,s.heap.objs.size],[_],_,_,_,fun i j=>decide ([a,b].getD i [] < [a,b].getD j []),rfl,Walks.tuple (A:=X.A.in1) I.ok.hd _ s.heap.objs.size (by rw [hsz];exact U0 (V9 _)) #[.str ⟨a.toArray⟩ t,.str ⟨b.toArray⟩ t'],
   ⟨⟨_,Us _ rfl,rfl,rfl⟩,hT.push _⟩,fun b hb=>?_,(by show 0<2;decide),yq (fun i=>[a,b].getD i []) (fun i v hP=>?_),fun v h' tk hP hk=>?_⟩
  ·show _<((s.heap.push _).push _).objs.size
   rw [VC,hsz];rcases UG.mp hb with rfl|hb
   ·rw [hsz];exact V9 _
   ·rcases UG.mp hb with rfl|hb
    ·exact VD (V9 _)
    ·cases hb
  ·have hP:#[Yc ⟨a.toArray⟩ t,Yc ⟨b.toArray⟩ t'][i]?=some v:=hP
   match i,hP with
   | 0,hP=>exact⟨t,by simpa using hP.symm⟩
   | 1,hP=>exact⟨t',by simpa using hP.symm⟩
   | i+2,hP=>simp at hP
  ·have hold:∀c o,s.heap.get? c=some o->h'.get? c=some o:=fun c o e=>by
    refine hk c o (fun hm=>?_) (Uj _ (Uj _ e));rcases UG.mp hm with e1|hm
    ·have:=UP e;rw [e1,hsz] at this;exact V0 _ (Nat.lt_of_succ_lt this)
    ·cases hm
   have hP:#[Yc ⟨a.toArray⟩ t,Yc ⟨b.toArray⟩ t'][argBest (fun i j=>decide ([a,b].getD i [] < [a,b].getD j [])) 1]?=some v:=hP;refine(I.kept (t':=tk) hold).ep ?_;by_cases hb':b<a
   ·rw [if_pos hb']
    have e:argBest (fun i j=>decide ([a,b].getD i [] < [a,b].getD j [])) 1=1:=by
     show(if decide (b<a)=true then 1 else 0)=1;rw [decide_eq_true hb'];rfl
    rw [e] at hP;have:Yc ⟨b.toArray⟩ t'=v:=by simpa using hP
    rw [<- this];exact .str _ _ hb
   ·rw [if_neg hb']
    have e:argBest (fun i j=>decide ([a,b].getD i [] < [a,b].getD j [])) 1=0:=by
     show(if decide (b<a)=true then 1 else 0)=0;rw [decide_eq_false hb'];rfl
    rw [e] at hP;have:Yc ⟨a.toArray⟩ t=v:=by simpa using hP
    rw [<- this];exact .str _ _ ha
 ·cases h
theorem RT.IY {z:Str} {t:Tok} (h:z.cps.toList.length<=lim):RT g none (.str z.cps.toList) (.str z t):=by
 have:=RT.str (g:=g) z.cps.toList t h;simpa using this
theorem yt:yo X "str.strip" mw:=fun I rx rv h=>by
 unfold mw at h;split at h
 ·obtain⟨hz,h⟩:=aG h
  cases h;obtain⟨u,rfl,ru⟩:=bP rv;obtain⟨t,rfl,h1⟩:=rx.jh;obtain⟨t',rfl,h2⟩:=ru.jh;exact SC.stripChars (fun t2 k=>(I.tok _).ep (.IY hz)) (by rw [str_len];exact h1)
 ·cases h
open Builtin Builtin.Str in
theorem yu {prog:VB} {w:Wy} {A:Vj} {E:Uq->Uu->Prop} {s:Uu} {x y:Str} {t u:Tok} {Q:Uq->Uu->Prop} (hy:(y.length == 0)=false) (hsz:x.length<=UU) (hsz2:(Xy x y).length<=UU)
  (h:∀l k,l.map (·.1)=Xy x y->Q (.ref s.heap.objs.size) { s with heap:=s.heap.push { cls:=.type "list",data:=.seq (strValues l).toArray },toks:=k }) :
  UK (model prog w) A (call (.builtin "str.split") [.str x t,.str y u]) Q E s:=by
 unfold Xy at hsz2 h;cases h1:(decide (x.length<y.length) || decide (strKind x<strKind y))
 ·rw [if_neg (ne_true_of_eq_false h1)] at hsz2 h
  cases hf:(occurrences x y 0 x.length (x.length+1)).isEmpty
  ·rw [if_neg (ne_true_of_eq_false hf)] at hsz2 h
   refine call_meets W7 (typeIs_str _ _ _) XS (XO _ _) (meets_str_split_sep x y t u h1 hy hf hsz hsz2) ?_;show wants Q E _ { s with toks:=_,heap:=s.heap.push { cls:=.type "list",data:=.seq (strsFrom s.toks (partsBetween x (occurrences x y 0 x.length (x.length+1)) y.length)).toArray } }
   rw [strsFrom_eq];exact h (numbered s.toks _) _ (numbered_texts _ _)
  ·rw [if_pos hf] at h
   exact call_meets W7 (typeIs_str _ _ _) XS (XO _ _) (meets_str_split_not_found x y t u h1 hy hf) (h [(x,t)] s.toks rfl)
 ·rw [if_pos h1] at h
  exact call_meets W7 (typeIs_str _ _ _) XS (XO _ _) (meets_str_split_cannot_occur x y t u h1) (h [(x,t)] s.toks rfl)
theorem qW:∀{l:List (Str × Tok)} {zs:List Str},l.map (·.1)=zs->(zs.all fun s=>decide (s.cps.toList.length<=lim))=true->cP g (zs.map fun s=>.str s.cps.toList) (strValues l)
 | [],_,e,_=>by subst e;exact .nil
 | (z,t)::r,_,e,h=>by
  subst e;rw [Uy,Vf,Uw] at h;exact .cons (.IY (of_decide_eq_true h.1)) (qW rfl h.2)
theorem yw {fz:Bool}:yo X "str.split" (mr fz):=fun {_ _ _ _ s _ _ _ _ _ _} I rx rv h=>by
 unfold mr at h;split at h
 ·rename_i z y
  obtain⟨⟨h1,h2⟩,h⟩:=aG h;obtain⟨u,rfl,ru⟩:=bP rv;obtain⟨t,rfl,h3⟩:=rx.jh;obtain⟨t',rfl,_⟩:=ru.jh;have hz:=pj h
  refine yu (by rw [str_len];cases y with|nil=>exact absurd rfl h1|cons a b=>rfl) (by rw [str_len];exact h3) (by rw [Lm9] at hz;exact hz) fun l k e=>?_
  exact kh (t':=k) I (qW e h2) h (fun b u e=>Uj _ e) (Us _ rfl)
 ·cases h
theorem IZ (sep:Cs) (zs:List Cs):Txt.join (toS sep) (zs.map toS)=toS (jn sep zs)/\(jn sep zs).length<=(zs.map (·.length)).sum+zs.length * sep.length:=by
 have e:Txt.join (toS sep) (zs.map toS)=Str.join (toS sep) (zs.map toS):=eq_of_beq (PyProof.Rows.join_plain_closes _ _);rw [e];clear e;induction zs with
 | nil=>exact⟨rfl,by simp [jn]⟩
 | cons x r ih =>
  cases r with
  | nil=>exact⟨rfl,by simp [jn]⟩
  | cons y r =>
   obtain⟨h1,h2⟩:=ih;constructor
   ·show toS x++toS sep++Str.join (toS sep) ((y::r).map toS)=_
    rw [h1];show(⟨x.toArray++sep.toArray++(jn sep (y::r)).toArray⟩:Str)=⟨(x++sep++jn sep (y::r)).toArray⟩
    simp
   ·show(x++sep++jn sep (y::r)).length<=_
    rw [Ul,Ul,Uy,List.sum_cons,Ut,Nat.add_mul];omega
theorem pE:∀{ys:List T} {zs:List Cs} {us:List Uq},ys.mapM HU=some zs->cP g ys us->StrsAre us (zs.map toS)
 | [],zs,us,h,r=>by simp at h;subst h;cases r;exact .nil
 | y::ys,zs,us,h,r=>by
  rw [Wr] at h;cases e1:HU y with
  | none=>rw [e1] at h;cases h
  | some b =>
   rw [e1] at h;cases e2:ys.mapM HU with
   | none=>rw [e2] at h;cases h
   | some q =>
    rw [e2] at h;have h:some (b::q)=some zs:=h
    cases h;cases r with
    | cons a1 a2 =>
     obtain⟨t,rfl,_⟩:=Fo e1 a1;exact .cons _ t (pE e2 a2)
theorem BR:yo X "str.join" kZ:=fun {_ _ g L s _ _ w1 L1 _ _} I rx rv h=>by
 unfold kZ at h;split at h
 ·rename_i sep t
  obtain⟨u,rfl,ru⟩:=bP rv;obtain⟨tk,rfl,_⟩:=rx.jh;obtain⟨p,v⟩:=I.view ru;split at h
  ·rename_i zs ez
   obtain⟨ys,y1,y2⟩:=Wl.mp ez;unfold items at y1;have fin:cx ((zs.map (·.length)).sum+zs.length * sep.length<=16777216) (R.ok (T.str (jn sep zs)) L)=.ok w1 L1->(vw L t=.lst ys\/vw L t=.tup ys)->UK (model X.prog X.w) X.A (call (.builtin "str.join") [.str ⟨sep.toArray⟩ tk,u]) (EP X _ _ g w1 L1) F0 s:=fun h hv=>by
    obtain⟨hz,h⟩:=aG h;cases h;obtain⟨e1,e2⟩:=IZ sep zs;have hz':((zs.map toS).map (·.length)).sum+(zs.map toS).length * (toS sep).length<=16777216:=by
     have:(fun z:Cs=>(toS z).length)=fun z=>z.length:=funext fun z=>str_len
     simp only [UT,Lm9,VR,this];rw [show(toS sep).length=sep.length from str_len];exact hz
    have rj:∀t',RT g none (.str (jn sep zs)) (.str (Txt.join (toS sep) (zs.map toS)) t'):=fun t'=>by
     rw [e1];exact .str _ _ (UO e2 hz)
    rcases hv with hv|hv
    ·rw [hv] at v
     obtain⟨a,its,n,rfl,e,rr,_⟩:=I.lst v;exact join_list (items:=its) (af e) (pE y2 rr) hz' fun t' k=>(I.tok _).ep (rj t')
    ·rw [hv] at v
     obtain⟨a,its,rfl,e,rr,_⟩:=I.tupP v;exact join_tuple (items:=its) e (pE y2 rr) hz' fun t' k=>(I.tok _).ep (rj t')
   cases ev:vw L t with
   | str z=>simp only [ev] at h;cases h
   | lst Rd=>simp only [ev] at h y1;cases y1;exact fin h (.inl ev)
   | tup Rd=>simp only [ev] at h y1;cases y1;exact fin h (.inr ev)
   | _=>simp only [ev] at y1;cases y1
  ·cases h
 ·cases h
end
noncomputable instance Rf:DecidableEq T:=fun a b=>Vz _
mutual
noncomputable def dr:T->Nat
 | .tup xs=>xh xs+1
 | _=>1
noncomputable def xh:List T->Nat
 | []=>0
 | x::xs=>dr x+xh xs
end
inductive de (h:Heap):T->Uq->Prop
 | int (i t):de h (.int i) (.int i t)
 | str (s t):de h (.str s) (.str ⟨s.toArray⟩ t)
 | tup {a o its n xs} (ho:h.get? a=some o) (hc:o.cls=.type "tuple") (hd:o.data=.seq its n) (hl:xs.length=its.size) (hi:∀(i:Nat) x v,xs[i]?=some x->its[i]?=some v->de h x v):de h (.tup xs) (.ref a)
section
variable {X:Cx} {pins:bg} {φ:Fr} {g:G} {L L':aa} {s:Uu} {h h':Heap} {xs ys:List T} {t t2:T} {u v:Uq} {n:Nat} {a d:U2} {P:VB} {w:Wy} {A:Vj} {E:Uq->Uu->Prop}
theorem Fv {t:T} (h:kd 0 t=true):False:=by cases t <;> cases h
theorem hO (hk:xs.all (kd n)=true) {i:Nat} {x:T} (e:xs[i]?=some x):kd n x=true:=Uo.mp hk x (U7 e)
theorem Inv.Fw (I:Inv X pins φ g L s):∀(n:Nat) {t:T} {u:Uq},kd n t=true->RT g none t u->de s.heap t u
 | 0,t,_,h,_=>(Fv h).elim
 | n+1,t,u,h,r=>by
  cases r with
  | int i t=>exact .int i t
  | str z t hz=>exact .str z t
  | tup hk hc hd hz hl hi=>exact .tup (I.kn hk) hc.1 hd hl fun i x v e1 e2=>I.Fw n (hO h e1) (hi i x v e1 e2)
  | _=>cases h
theorem de.same (k1:de h t u):∀{t2:T},de h t2 u->t=t2:=by
 induction k1 with
 | int i t=>intro t2 k;cases k;rfl
 | str z t =>
  intro t2 k;generalize hv:Yc ⟨z.toArray⟩ t=v at k;cases k <;> cases hv;rfl
 | tup ho hc hd hl hi ih =>
  rename_i a o its nn xs;intro t2 k;cases k with
  | tup ho' hc' hd' hl' hi' =>
   rw [ho] at ho';cases ho';rw [hd] at hd';cases hd';congr 1;refine V4 (by omega) fun i h1 h2=>?_
   have e:=Ux (xs:=its) (i:=i) (by omega);exact ih i _ _ (Ge9 h1) e (hi' i _ _ (Ge9 h2) e)
theorem de.keeps {o:Obj} {es:Array DictEntry} {ep:Nat} (k:de h t u) (ho:h.get? d=some o) (hd:o.data=.dict es ep) (hs:V6 d h h'):de h' t u:=by
 induction k with
 | int i t=>exact .int i t
 | str z t=>exact .str z t
 | tup ho' hc hd' hl hi ih =>
  refine .tup ((hs.2 _ fun e=>?_).trans ho') hc hd' hl ih;rw [e,ho] at ho';cases ho';rw [hd] at hd';cases hd'
theorem u6:∀xs:List T,Ba w xs=xs.map (hT w)
 | []=>by rw [Ba];rfl
 | x::xs=>by rw [Ba,u6 xs];rfl
theorem qX:∀(xs:List T) (i:Nat) (x:T),xs[i]?=some x->xh (xs.take (i+1))=xh (xs.take i)+dr x
 | x::xs,0,y,h=>by cases h;simp [xh]
 | x::xs,i+1,y,h=>by
  rw [Z9,Z9,xh,xh,qX xs i y (by simpa using h)];omega
theorem de.hash:∀(n:Nat) {A:Vj} {s:Uu} {t:T} {u:Uq} {Q:Int->Uu->Prop},kd n t=true->A.units+n<cLine->de s.heap t u->Q (hT w t) { s with toks:=s.toks+dr t }->UK (model P w) A (pyHash u) Q E s
 | 0,_,_,t,_,_,hk,_,_,_=>(Fv hk).elim
 | n+1,A,s,t,u,Q,hk,hu,k,h=>by
  cases k with
  | int i t=>rw [hT,dr] at h;exact wpAny_pyHash_int h;all_goals (intro _ z;cases z)
  | str z t=>rw [hT,dr] at h;exact wpAny_pyHash_str h;all_goals (intro _ z;cases z)
  | tup ho hc hd hl hi =>
   rename_i a o its nn xs;have hT':s.TypeIs (.ref a) "tuple":=⟨o,ho,hc⟩
   unfold pyHash
   first|unfold pyHashByItsType|skip
   first|refine Ui (wpAny_cRoomFor_or (.inr (by omega)) ?_)|skip
   refine Ui (wpAny_specialOf hT' W8.lookup ?_);show UK _ _ (if (some (Yp "tuple.__hash__") == some VJ)=true then _ else _) Q E s
   rw [if_neg (by rw [beq_builtin_none];exact WE)];refine Ui (wpAny_specialOf hT' W8.lookup ?_);show UK _ _ (callSpecialIfBoundUnlessNone? (.ref a) "__hash__" _ >>= _) Q E s
   refine Ui (wpAny_callSpecialIfBoundUnlessNone?_slot hT' W8 (wpAny_call_entry W8 hT' F.entry_tuple_hash ?_ (F.args_tuple_hash_1 _)));show UK _ _ (Xs (.ref a) >>= _) _ _ s
   refine Ui (wpAny_tupleItemsOf ho hd ?_);refine Ui ?_;rw [<- XT];refine wpAny_forIn_list _ (fun rest (b:Array Int) s'=>∃i,i<=xs.length/\rest=its.toList.drop i/\b.toList=(xs.take i).map (hT w)/\s'={ s with toks:=s.toks+xh (xs.take i) }) _ ?_ ?_ _ _ ⟨0,U4 _,rfl,by simp,by simp [xh]⟩
   ·rintro v rest b s' ⟨i,xi,hr,hb,rfl⟩
    have bN:i<its.size:=by
     rcases ZT i its.size with z|z
     ·exact z
     ·rw [W9 (by simpa using z)] at hr;cases hr
    rw [VZ (by simpa using bN)] at hr;injection hr with e1 e2;have ex:=Ge9 (l:=xs) (i:=i) (by omega)
    have kv:de s.heap xs[i] v:=hi i _ v ex (by rw [e1];simp [bN]);refine Ui (de.hash n (s:={ s with toks:=s.toks+xh (xs.take i) }) (hO hk ex) (by show A.units+1+n<cLine;omega) kv ?_);have fin:∃j,j<=xs.length/\rest=its.toList.drop j/\(b.push (hT w xs[i])).toList=(xs.take j).map (hT w)/\({ s with toks:=s.toks+xh (xs.take i)+dr xs[i] }:Uu)={ s with toks:=s.toks+xh (xs.take j) } :=
     ⟨i+1,by omega,e2,by rw [Z4,ex,UD,Y7,hb];rfl,by rw [qX xs i _ ex,Xn]⟩
    first
     | exact Uk fin
     | exact Ui (Uk (Uk fin))
   ·rintro b s' ⟨i,xi,hr,hb,rfl⟩
    have sO:its.size<=i:=by
     have:=congrArg Ww hr;rw [U9,VK] at this;simp at this;omega
    rw [Vm (by omega)] at hb;show UK _ _ (retInt (Xz b.toList)) _ _ _
    rw [hb,Vm (show xs.length<=i by omega)];refine wpAny_ret_mkInt ?_;rw [hT,u6,dr] at h;generalize Xz (xs.map (hT w))=g at h;show UK _ _ (if (decide (-(2:Int) ^ 63<=g) && decide (g<2 ^ 63))=true then _ else _) Q E _
    unfold reduceHash at h;by_cases hr:(decide (-(2:Int) ^ 63<=g) && decide (g<2 ^ 63))=true
    ·rw [if_pos hr]
     rw [if_pos hr] at h;exact Uk (by simpa [Xn] using h)
    ·rw [if_neg hr]
     rw [if_neg hr] at h;exact Ui (wpAny_rule (Uk (by simpa [Xn] using h)))
theorem de.quiet:∀(n m:Nat) {s:Uu} {t:T} {u:Uq},kd n t=true->n<=m->de s.heap t u->UK (model P w) A (eqIsQuiet m u) (fun b s'=>b=true/\s'=s) E s
 | 0,_,_,t,_,hk,_,_=>(Fv hk).elim
 | n+1,m,s,t,u,hk,hm,k=>by
  cases k with
  | int i t=>cases m with
   | zero=>omega
   | succ m=>exact Uk ⟨rfl,rfl⟩
  | str z t=>cases m with
   | zero=>omega
   | succ m=>exact Uk ⟨rfl,rfl⟩
  | tup ho hc hd hl hi =>
   rename_i a o its nn xs;have hT':s.TypeIs (.ref a) "tuple":=⟨o,ho,hc⟩
   obtain⟨m,rfl⟩:∃k,m=k+1:=⟨m - 1,by omega⟩;unfold eqIsQuiet;refine Ui (wpAny_specialOf hT' F.slot_tuple_eq.lookup ?_);show UK _ _ (isInstance (.ref a) (.type "tuple") >>= _) _ _ s
   refine Ui (wpAny_isInstance hT' isSubtype_tuple_tuple ?_);simp only [Wm,UC,if_false];refine Ui (wpAny_seqItems ho hd ?_);refine Ui ?_;show UK _ _ (forIn its _ _) _ _ s
   rw [<- XT];refine wpAny_forIn_list _ (fun rest r s'=>r.1=none/\s'=s/\∀v∈rest,v∈its) _ ?_ ?_ _ _ ⟨rfl,rfl,fun v hv=>by simpa using hv⟩
   ·rintro v rest r s' ⟨hr,rfl,hall⟩
    obtain⟨i,xi,rfl⟩:=Wk (hall v Um);have ex:=Ge9 (l:=xs) (i:=i) (by omega)
    refine Ui (wpAny_mono (de.quiet n m (hO hk ex) (by omega) (hi i _ _ ex (Ux xi))) (fun b BO hb=>?_) fun _ _ e=>e);obtain⟨rfl,rfl⟩:=hb;simp only [Wm,UC,if_false];exact Uk ⟨rfl,rfl,fun u ip=>hall u (Up _ ip)⟩
   ·rintro⟨r1,r2⟩ s' ⟨hr,rfl,_⟩
    simp only at hr;subst hr;exact Uk ⟨rfl,rfl⟩
theorem u7:∀xs ys:List T,nL (fun a b=>decide (a=b)) xs ys=decide (xs=ys)
 | [],[]=>by simp [nL]
 | [],_::_=>by simp [nL]
 | _::_,[]=>by simp [nL]
 | x::xs,y::ys=>by rw [nL,u7 xs ys];simp [Bool.decide_and]
open SeqAt in
theorem de.eq:∀(n:Nat) {A:Vj} {a b:T} {u v:Uq},kd n a=true->kd n b=true->A.units+n<cLine->de s.heap a u->de s.heap b v->EqAt A s u v (decide (a=b))
 | 0,_,a,_,_,_,h,_,_,_,_=>(Fv h).elim
 | n+1,A,a,b,u,v,ha,hb,hu,ka,kb=>by
  have ip:A.units<cLine:=by omega
  have sm:u=v->decide (a=b)=true:=fun e=>decide_eq_true (ka.same (by rw [e];exact kb))
  cases ka with
  | int i t =>
   cases kb with
   | int j t2=>rw [show decide (T.int i=T.int j)=(i == j) by rw [V8];simp];exact .int_int _ _ _ _
   | str=>rw [decide_eq_false (by intro e;cases e)];exact .int_str _ _ _ _
   | tup ho hc hd hl hi=>rw [decide_eq_false (by intro e;cases e)];exact .int_tuple _ _ ⟨_,ho,hc,_,hd⟩ ip
  | str z t =>
   cases kb with
   | int=>rw [decide_eq_false (by intro e;cases e)];exact .str_int _ _ _ _
   | str z2 t2=>rw [show decide (T.str z=T.str z2)=(z == z2) by rw [V8];simp,<- str_beq];exact .str_str _ _ _ _
   | tup ho hc hd hl hi=>rw [decide_eq_false (by intro e;cases e)];exact .str_tuple _ _ ⟨_,ho,hc,_,hd⟩ ip
  | tup ho hc hd hl hi =>
   have T1:s.heap.IsTuple _ _:=⟨_,ho,hc,_,hd⟩;cases kb with
   | int=>rw [decide_eq_false (by intro e;cases e)];exact .tuple_int _ _ T1 ip
   | str=>rw [decide_eq_false (by intro e;cases e)];exact .tuple_str _ _ T1 ip
   | tup ho' hc' hd' hl' hi' =>
    rename_i a1 o1 i1 n1 x1 a2 o2 i2 n2 x2;have:=RcAt.tuples (e:=fun j=>decide (x1.getD j .cm=x2.getD j .cm)) T1 ⟨_,ho',hc',_,hd'⟩ ip fun j j1 j2 =>
     de.eq n (hO ha (getD_at (by omega))) (hO hb (getD_at (by omega))) (by show A.units+1+n<cLine;omega) (hi j _ _ (getD_at (by omega)) (Ux j1)) (hi' j _ _ (getD_at (by omega)) (Ux j2))
    rw [<- hl,<- hl',iP (f:=fun a b=>decide (a=b)),u7] at this;rw [show decide (T.tup x1=T.tup x2)=decide (x1=x2) by rw [V8];simp];exact(both this fun e=>by have:=sm (by rw [e]);simpa using this).2
noncomputable def Dy (P:VB) (w:Wy):HeapKind P w T where
 is:=fun h k a=>de h k (.ref a)/\kd 7 k=true
 hash:=hT w
 draws:=dr
 room:=fun A=>A.units+8<cLine
 inj:=fun a b=>a.1.same b.1
 keeps:=fun k ho hd hs=>⟨k.1.keeps ho hd hs,k.2⟩
 pyHash:=fun hu k h=>de.hash 7 k.2 (by omega) k.1 h
 eqBool:=fun hu a b h=>de.eq 7 a.2 b.2 (by omega) a.1 b.1 _ _ _ _ h
 quiet:=fun k h=>wpAny_mono (de.quiet 7 8 k.2 (by omega) k.1) (fun b s' hb=>by obtain⟨rfl,rfl⟩:=hb;exact h) fun _ _ e=>e
end
end M
namespace M
open PySem PySem.Spec PyProof.Rows
noncomputable def yx:T->Uq->Bool
 | .int i,.int j _=>i == j
 | .str z,.str x _=>x == ⟨z.toArray⟩
 | _,_=>false
theorem fZ {k:T} {v:Uq} (h:yx k v=true):(∃i t,k=.int i/\v=.int i t)\/∃z t,k=.str z/\v=.str ⟨z.toArray⟩ t:=by
 unfold yx at h;split at h
 ·exact .inl ⟨_,_,rfl,by rw [eq_of_beq h]⟩
 ·exact .inr ⟨_,_,rfl,by rw [eq_of_beq h]⟩
 ·cases h
theorem toA {z z':Cs} (e:(⟨z.toArray⟩:Str)=⟨z'.toArray⟩):z=z':=by simpa using congrArg (fun x:Str=>x.cps.toList) e
noncomputable def hV (P:VB) (w:Wy):KeyKind P w T where
 is:=yx
 hash:=hT w
 inj:=fun v a b ha hb=>by
  rcases fZ ha with⟨i,t,rfl,rfl⟩|⟨z,t,rfl,rfl⟩
  ·rcases fZ hb with⟨j,t',rfl,e⟩|⟨z',t',rfl,e⟩
   ·injection e with e1 _;rw [e1]
   ·cases e
  ·rcases fZ hb with⟨j,t',rfl,e⟩|⟨z',t',rfl,e⟩
   ·cases e
   ·injection e with e1 _;rw [toA e1]
 byValue:=fun k v h=>by rcases fZ h with⟨i,t,rfl,rfl⟩|⟨z,t,rfl,rfl⟩ <;> rfl
 pyHash:=fun h q=>by
  rcases fZ h with⟨i,t,rfl,rfl⟩|⟨z,t,rfl,rfl⟩
  ·rw [hT] at q;exact wpAny_pyHash_int q
  ·rw [hT] at q;exact wpAny_pyHash_str q
 eqBool:=fun {A E s a b u v Q} ha hb q=>by
  rcases fZ ha with⟨i,t,rfl,rfl⟩|⟨z,t,rfl,rfl⟩
  ·rcases fZ hb with⟨j,t',rfl,rfl⟩|⟨z',t',rfl,rfl⟩
   ·rw [show decide (T.int i=T.int j)=(i == j) by rw [V8];simp] at q;exact wpAny_eqBool_int q
   ·rw [decide_eq_false (by intro e;cases e)] at q;exact SeqAt.EqAt.int_str _ _ _ _ _ _ _ _ q
  ·rcases fZ hb with⟨j,t',rfl,rfl⟩|⟨z',t',rfl,rfl⟩
   ·rw [decide_eq_false (by intro e;cases e)] at q;exact SeqAt.EqAt.str_int _ _ _ _ _ _ _ _ q
   ·rw [show decide (T.str z=T.str z')=(z == z') by rw [V8];simp,<- str_beq] at q;exact SeqAt.EqAt.str_str _ _ _ _ _ _ _ _ q
 «strs»:=fun k x t v h=>by
  rcases fZ h with⟨i,t',rfl,e⟩|⟨z,t',rfl,e⟩
  ·cases e
  ·injection e with e1 _
   subst e1;cases v <;> rfl
noncomputable def pl (ks:List (T × T)) (y:T):Option Nat:=ks.findIdx? fun p=>decide (p.1=y)
section
variable {X:Cx} {pins:bg} {φ:Fr} {g:G} {L L':aa} {s:Uu} {ks:List (T × T)} {t y x:T} {u v:Uq} {n:Nat} {a d:U2} {A:Vj} {q:Option (U2 × U2)} {E:Uq->Uu->Prop}
theorem lR (h:j9 t=true) (r:RT g none t u):yx t u=true:=by
 cases r <;> first|cases h|skip
 ·exact beq_self_eq_true _
 ·exact beq_self_eq_true _
theorem u9 (I:Inv X pins φ g L s) (h:En t=true) (r:RT g none t u):∃a,u=.ref a/\de s.heap t u/\kd 7 t=true:=by
 cases t <;> first|cases h|skip
 have k:kd 7 (.tup _)=true:=h;have z:=I.Fw 7 k r
 cases z with
 | tup ho hc hd hl hi=>exact⟨_,rfl,.tup ho hc hd hl hi,k⟩
structure bO (X:Cx) (g:G) (s:Uu) (ks:List (T × T)) (a:U2) (o:Obj) (es:Array DictEntry) (ep:Nat):Prop where
 ho:s.heap.get? a=some o
 hx:o.ExactDict
 hd:o.data=.dict es ep
 hz:ks.length<=UU
 hl:ks.length=es.size
 hn:(ks.map (·.1)).Nodup
 hm:gI (ks.map (·.1))=true
 hs:(a == sysModules)=false
 hh:∀(i:Nat) x e,ks[i]?=some x->es[i]?=some e->e.hash=hT X.w x.1
 h1:∀(i:Nat) x e,ks[i]?=some x->es[i]?=some e->RT g none x.1 e.key
 h2:∀(i:Nat) x e,ks[i]?=some x->es[i]?=some e->RT g none x.2 e.val
theorem Inv.aS (I:Inv X pins φ g L s) (r:RT g q (.aS ks) u):∃a o es ep,u=.ref a/\sX q a a/\g.kn q.isNone a o/\bO X g s ks a o es ep:=by
 cases r with
 | aS ht hk hx hd hz hl hn hs hh h1 h2=>exact⟨_,_,_,_,rfl,ht,hk,I.kn hk,hx,hd,hz,hl,hn.1,hn.2,hs,by rw [<- I.gw];exact hh,h1,h2⟩
theorem bO.at (D:bO X g s ks a o es ep) {i:Nat} {p:T × T} (h:ks[i]?=some p):∃e,es[i]?=some e:=by
 have:=(UI.mp h).1;exact⟨_,Ux (by rw [<- D.hl];exact this)⟩
theorem bO.find (D:bO X g s ks a o es ep) (I:Inv X pins φ g L s) (hu:A.units+8<cLine) (hf:dZ ks y) (ry:RT g none y v) :
  ∃n,(∀(Q:Int->Uu->Prop) (E:Uq->Uu->Prop),Q (hT X.w y) { s with toks:=s.toks+n }->UK (model X.prog X.w) A (pyHash v) Q E s) /\
   ∀(tk:Nat) (Q:Option Nat->Uu->Prop) (E:Uq->Uu->Prop),Q (pl ks y) { s with toks:=tk }->UK (model X.prog X.w) A (dictFind a v (hT X.w y)) Q E { s with toks:=tk }:=by
 unfold dZ gI at hf;rw [Xg] at hf;rcases hf with hf|hf
 ·rw [Vf,Uw] at hf
  have hv:=lR hf.1 ry;have sc:∀(i:Nat) p e,ks[i]?=some p->es[i]?=some e->yx p.1 e.key=true:=fun i p e e1 e2 =>
   lR (Uo.mp hf.2 _ (UE (U7 e1))) (D.h1 i p e e1 e2)
  refine⟨1,fun Q E hq=>(hV X.prog X.w).pyHash hv hq,fun tk Q E hq=>?_⟩;refine wpAny_dictFind_of (knd:=hV X.prog X.w) (s:={ s with toks:=tk }) hv D.ho D.hd (fun e he=>?_) ?_
  ·obtain⟨i,hi,rfl⟩:=Wk he
   have e1:=Ge9 (l:=ks) (i:=i) (by rw [D.hl];exact hi);exact⟨_,sc i _ _ e1 (Ux hi),D.hh i _ _ e1 (Ux hi)⟩
  ·have e:(es.findIdx? fun e=>(hV X.prog X.w).is y e.key)=pl ks y:=by
    obtain⟨es⟩:=es;rw [List.findIdx?_toArray];unfold pl;have go:∀(l:List DictEntry) (ks:List (T × T)),ks.length=l.length->(∀(i:Nat) p e,ks[i]?=some p->l[i]?=some e->yx p.1 e.key=true)->(l.findIdx? fun e=>(hV X.prog X.w).is y e.key)=ks.findIdx? fun p=>decide (p.1=y):=fun l=>by
     induction l with
     | nil=>intro ks hl _;cases ks with
      | nil=>rfl
      | cons _ _=>cases hl
     | cons e l ih=>intro ks hl h;cases ks with
      | nil=>cases hl
      | cons p ks =>
       rw [YI,YI,ih ks (by simpa using hl) (fun i p e e1 e2=>h (i+1) p e (by simpa using e1) (by simpa using e2)),KeyKind.is_eq_decide (knd:=hV X.prog X.w) (h 0 p e rfl rfl) y];rw [show decide (y=p.1)=decide (p.1=y) by rw [V8];simp [eq_comm]]
    exact go es ks (by simpa using D.hl) fun i p e e1 e2=>sc i p e e1 (by simpa using e2)
   rw [e];exact hq
 ·rw [Vf,Uw] at hf
  obtain⟨b,rfl,kb,db⟩:=u9 I hf.1 ry;refine⟨dr y,fun Q E hq=>(Dy X.prog X.w).pyHash hu ⟨kb,db⟩ hq,fun tk Q E hq=>?_⟩;have ex:∃xs:List (T × U2 × Uq),xs.length=ks.length/\∀(i:Nat) p e,ks[i]?=some p->es[i]?=some e->∃c,xs[i]?=some (p.1,c,e.val)/\e.key=.ref c/\de s.heap p.1 (.ref c)/\kd 7 p.1=true:=by
   refine⟨(ks.zip es.toList).map fun z=>(z.1.1,(match z.2.key with|.ref c=>c|_=>0),z.2.val),by simp [D.hl],fun i p e e1 e2=>?_⟩;obtain⟨c,ec,kc,dc⟩:=u9 I (Uo.mp hf.2 _ (UE (U7 e1))) (D.h1 i p e e1 e2);refine⟨c,?_,ec,by rw [<- ec];exact kc,dc⟩;have ez:(ks.zip es.toList)[i]?=some (p,e):=List.getElem?_zip_eq_some.mpr ⟨e1,by simpa using e2⟩
   rw [UM,ez];show some (p.1,(match e.key with|.ref c=>c|_=>0),e.val)=_
   rw [ec]
  obtain⟨xs,Pk,Pm⟩:=ex;have LQ:∀(i:Nat) z,xs[i]?=some z->∃p e,ks[i]?=some p/\es[i]?=some e/\z=(p.1,z.2.1,e.val)/\e.key=.ref z.2.1/\de s.heap p.1 (.ref z.2.1)/\kd 7 p.1=true:=fun i z hz=>by
   have hi:=(UI.mp hz).1;have e1:=Ge9 (l:=ks) (i:=i) (by omega)
   obtain⟨e,e2⟩:=D.at e1;obtain⟨c,c1,c2,c3,c4⟩:=Pm i _ e e1 e2;rw [hz] at c1;cases c1;exact⟨_,e,e1,e2,rfl,c2,c3,c4⟩
  have keys:xs.map (·.1)=ks.map (·.1):=V4 (by simp [Pk]) fun i h1 h2=>by
   rw [WC,WC];have hi:i<xs.length:=by simpa using h1
   obtain⟨p,e,e1,_,e3,_⟩:=LQ i _ (Ge9 hi);have:=(UI.mp e1).2
   rw [e3,<- this]
  have Rg:∀(j:Nat) (p:U2 × Uq),xs[j]?=some (y,p)->pl ks y=some j:=fun j p hj=>by
   obtain⟨p',e,e1,_,e3,_⟩:=LQ j _ hj;have ey:p'.1=y:=by injection e3 with e4;exact e4.symm
   obtain⟨Rh,Rj⟩:=UI.mp e1;refine VH.mpr ⟨Rh,by rw [Rj];exact decide_eq_true ey,fun i hi=>?_⟩;have ne:¬ ks[i].1=y:=fun z=>by
    have h1:(ks.map (·.1))[i]?=some y:=by rw [UM,Ge9 (by omega)];exact congrArg some z
    have h2:(ks.map (·.1))[j]?=some y:=by rw [UM,e1];exact congrArg some ey
    have:=(List.getElem?_inj (by simp;omega) D.hn).mp (h1.trans h2.symm);omega
   simpa using ne
  refine wpAny_dictFind_heap (knd:=Dy X.prog X.w) (xs:=xs) (s:={ s with toks:=tk }) hu ⟨kb,db⟩ D.ho D.hd ?_ (fun z hz=>?_) (by rw [keys];exact D.hn) (fun lb=>?_) fun j p hj=>?_
  ·refine V4 (by simp [Pk,D.hl]) fun i h1 h2=>?_
   have hi:i<xs.length:=by simpa using h2
   obtain⟨p,e,e1,e2,e3,e4,_⟩:=LQ i _ (Ge9 hi);rw [WC];have I0:es.toList[i]=e:=by
    have:=(Xt.mp e2).2;simpa using this
   rw [I0];have I8:=D.hh i p e e1 e2
   rw [e3];show e=⟨hT X.w p.1,.ref xs[i].2.1,e.val⟩
   rw [<- e4,<- I8]
  ·obtain⟨i,hi,rfl⟩:=Wb hz
   obtain⟨p,e,_,_,e3,_,e5,e6⟩:=LQ i _ (Ge9 hi);rw [e3];exact⟨e5,e6⟩
  ·have:pl ks y=none:=by
    refine YT.mpr fun p hp=>?_
    obtain⟨i,hi,rfl⟩:=Wb hp;obtain⟨e,e2⟩:=D.at (Ge9 hi);obtain⟨c,c1,_⟩:=Pm i _ e (Ge9 hi) e2;refine decide_eq_false fun z=>lb i (c,e.val) ?_
    rw [c1,z]
   rw [this] at hq;exact hq
  ·rw [Rg j p hj] at hq;exact hq
end
section
variable {X:Cx} {pins:bg} {φ:Fr} {g:G} {L L':aa} {s:Uu} {ks:List (T × T)} {t y x w:T} {u v:Uq} {n:Nat} {a d:U2} {A:Vj} {q:Option (U2 × U2)} {E:Uq->Uu->Prop} {o:Obj} {es:Array DictEntry} {ep:Nat}
theorem pF {i:Nat} (h:pl ks y=some i):∃p,ks[i]?=some p/\p.1=y/\dK ks y=some p.2:=by
 obtain⟨h1,h2,h3⟩:=VH.mp h;refine⟨ks[i],Ge9 h1,of_decide_eq_true h2,?_⟩;have:(ks.find? fun p=>decide (p.1=y))=some ks[i]:=by
  rw [List.find?_eq_some_iff_getElem];exact⟨h2,i,h1,rfl,fun j hj=>by simpa using h3 j hj⟩
 unfold dK;rw [show(ks.find? fun p=>@decide (p.1=y) (Vz _))=some ks[i] from this];rfl
theorem pG (h:pl ks y=none):dK ks y=none/\∀p∈ks,p.1≠y:=by
 have h':=YT.mp h;have h2:∀p∈ks,p.1≠y:=fun p hp=>of_decide_eq_false (h' p hp)
 refine⟨?_,h2⟩;have:(ks.find? fun p=>decide (p.1=y))=none:=VY.mpr fun p hp=>by simpa using h2 p hp
 unfold dK;rw [show(ks.find? fun p=>@decide (p.1=y) (Vz _))=none from this];rfl
noncomputable def I9 (g:G) (o:Option Uq) (x:Option T):Prop:=(o=none/\x=none)\/∃u t,o=some u/\x=some t/\RT g none t u
theorem bO.val (D:bO X g s ks a o es ep):I9 g ((pl ks y).bind fun i=>es[i]?.map (·.val)) (dK ks y):=by
 cases e:pl ks y with
 | none=>exact .inl ⟨rfl,(pG e).1⟩
 | some i =>
  obtain⟨p,p1,p2,p3⟩:=pF e;obtain⟨d,d1⟩:=D.at p1;exact .inr ⟨d.val,p.2,by rw [WD,d1];rfl,p3,D.h2 i p d p1 d1⟩
theorem bO.get (D:bO X g s ks a o es ep) (I:Inv X pins φ g L s) (hu:A.units+8<cLine) (hf:dZ ks y) (ry:RT g none y v) {Q:Option Uq->Uu->Prop} (h:∀tk u,I9 g u (dK ks y)->Q u { s with toks:=tk }):UK (model X.prog X.w) A (dictGet a v) Q E s:=by
 obtain⟨n,h1,h2⟩:=D.find I hu hf ry;unfold dictGet
 try with_reducible refine wpAny_holding ?_
 refine Ui (h1 _ _ (Ui (h2 _ _ _ ?_)));have z:=D.val (y:=y)
 cases e:pl ks y with
 | none=>rw [e] at z;exact Uk (h _ _ z)
 | some i=>rw [e] at z;exact Ui (wpAny_dictEntries (s:={ s with toks:=s.toks+n }) D.ho D.hd (Uk (h _ _ z)))
theorem bO.typeIs (D:bO X g s ks a o es ep):s.TypeIs (.ref a) "dict":=⟨o,D.ho,D.hx.1⟩
theorem bO.in (D:bO X g s ks a o es ep) (I:Inv X pins φ g L s) (hu:X.A.units+20<cLine) (hf:dZ ks y) (ry:RT g none y v):(∀Q:Uq->Uu->Prop,(∀tk,Q (.bool (dK ks y).isSome) { s with toks:=tk })->UK (model X.prog X.w) X.A (compareOp .In v (.ref a)) Q F0 s) /\
  ∀Q:Uq->Uu->Prop,(∀tk,Q (.bool (!(dK ks y).isSome)) { s with toks:=tk })->UK (model X.prog X.w) X.A (compareOp .NotIn v (.ref a)) Q F0 s:=by
 have ip:X.A.in1.units+8<cLine:=by show X.A.units+1+8<cLine;omega
 have go:∀Q:Bool->Uu->Prop,(∀tk,Q (dK ks y).isSome { s with toks:=tk })->UK (model X.prog X.w) X.A (contains (.ref a) v) Q F0 s:=fun Q h=>by
  unfold contains
  try with_reducible refine wpAny_holding ?_
  refine Ui (wpAny_specialOf D.typeIs slot_dict_contains.lookup ?_);show UK _ _ (if (some (Yp "dict.__contains__") == some VJ)=true then _ else _) _ _ s
  rw [if_neg (by rw [beq_builtin_none];exact WE)];refine Ui (wpAny_callSpecialUnlessNone?_slot (name:=VX "__contains__") D.typeIs slot_dict_contains
   (wpAny_call_entry slot_dict_contains D.typeIs entry_dict_contains ?_ (args_dict_contains _ _)))
  show UK _ _ (dictGet a v >>= _) _ _ s;refine Ui (D.get I ip hf ry fun tk u hu=>?_);rcases hu with⟨rfl,e⟩|⟨u,t,rfl,e,_⟩
  ·show UK _ _ (Builtin.Dict.pendingKey? a v >>= _) _ _ _
   refine Ui (wpAny_pendingKey_other D.hs (Uk ⟨_,rfl,wpAny_truthy_bool ?_⟩));have:=h tk;rw [e] at this;exact this
  ·show UK _ _ (PySem.ret (.bool true)) _ _ _
   refine Uk ⟨_,rfl,wpAny_truthy_bool ?_⟩;have:=h tk;rw [e] at this;exact this
 exact⟨fun Q h=>Ui (go _ fun tk=>Uk (h tk)),fun Q h=>Ui (go _ fun tk=>Uk (h tk))⟩
theorem bO.item (D:bO X g s ks a o es ep) (I:Inv X pins φ g L s) (hu:X.A.units+20<cLine) (hf:dZ ks y) (ry:RT g none y v) (hx:dK ks y=some x) {Q:Uq->Uu->Prop} (h:∀tk u,RT g none x u->Q u { s with toks:=tk }):UK (model X.prog X.w) X.A (getItem (.ref a) v) Q F0 s:=by
 have ip:X.A.in1.units+8<cLine:=by show X.A.units+1+8<cLine;omega
 unfold getItem
 try with_reducible refine wpAny_holding ?_
 refine Ui (wpAny_sequenceKey D.typeIs (by decide) ?_);refine Ui (wpAny_callSpecial?_slot (name:=VX "__getitem__") D.typeIs slot_dict_getitem
  (wpAny_call_entry slot_dict_getitem D.typeIs entry_dict_getitem ?_ (args_dict_getitem _ _)))
 show UK _ _ (dictGet a v >>= _) _ _ s;refine Ui (D.get I ip hf ry fun tk u hu=>?_);rcases hu with⟨rfl,e⟩|⟨u,t,rfl,e,r⟩
 ·rw [hx] at e;cases e
 ·rw [hx] at e;cases e
  exact Uk ⟨u,rfl,Uk (h tk u r)⟩
theorem yy {ks:List T} (h:gI (y::ks)=true):gI ks=true/\gI (ks++[y])=true:=by
 unfold gI at h ⊢;simp only [Vf,Xg,Uw,List.all_append,YJ,and_true] at h ⊢;rcases h with h|h
 ·exact⟨.inl h.2,.inl ⟨h.2,h.1⟩⟩
 ·exact⟨.inr h.2,.inr ⟨h.2,h.1⟩⟩
theorem fu (h:∀p∈ks,p.1≠y):dput ks y t=ks++[(y,t)]:=by
 unfold dput;rw [if_neg];intro z;obtain⟨p,hp,e⟩:=V5.mp z;exact h p hp (of_decide_eq_true e)
theorem yz {i:Nat} (hn:(ks.map (·.1)).Nodup) (h:pl ks y=some i):dput ks y t=ks.set i (y,t):=by
 obtain⟨h1,h2,h3⟩:=VH.mp h;unfold dput;rw [if_pos (V5.mpr ⟨_,UJ h1,by rw [decide_eq_true (of_decide_eq_true h2)]⟩)];refine V4 (by simp) fun j j1 j2=>?_
 rw [WC,List.getElem_set];have hj:j<ks.length:=by simpa using j1
 by_cases e:i=j
 ·subst e
  rw [if_pos rfl,if_pos (of_decide_eq_true h2),of_decide_eq_true h2]
 ·rw [if_neg e,if_neg]
  intro z;have hi':(ks.map (·.1))[i]?=some y:=by rw [UM,Ge9 h1];exact congrArg some (of_decide_eq_true h2)
  have hj':(ks.map (·.1))[j]?=some y:=by rw [UM,Ge9 hj];exact congrArg some z
  exact e ((List.getElem?_inj (by simpa using h1) hn).mp (hi'.trans hj'.symm))
theorem Inv.Ja {p:U2 × U2} {o':Obj} {fW:Array DictEntry} {HY:Nat} {tH:List (T × T)} {h':Heap} {tk:Nat} (I:Inv X pins φ g L s) (hp:at_ g.α n=some p) (hk:g.H p.1=some (false,o)) (u4:p.2=p.1) (D:bO X g s ks p.1 o es ep) (keep:∀b v,b≠p.1->s.heap.get? b=some v->h'.get? b=some v) (new:h'.get? p.1=some o') (hx:o'.ExactDict) (hd:o'.data=.dict fW HY)
  (hz:tH.length<=UU) (hl:tH.length=fW.size) (hn:(tH.map (·.1)).Nodup) (hm:gI (tH.map (·.1))=true) (hh:∀(i:Nat) x e,tH[i]?=some x->fW[i]?=some e->e.hash=hT X.w x.1/\RT g none x.1 e.key/\RT g none x.2 e.val) :
  ∃g',Le g g'/\Inv X pins φ g' (put L n (.aS tH)) { s with heap:=h',toks:=tk }/\∀b,b≠p.1->g'.H b=g.H b:=by
 have l:=Le.set (o:=o') hk;refine⟨_,l,I.set (t':=tk) hp (.inl rfl) hk keep new ?_,fun b hb=>aE hb⟩;have ht:sX (some p) p.1 p.1:=.inr (congrArg some (Prod.ext rfl u4))
 exact .aS ht (.inl aw) hx hd hz hl ⟨hn,hm⟩ D.hs (fun i x e e1 e2=>by show e.hash=hT g.w x.1;rw [I.gw];exact(hh i x e e1 e2).1) (fun i x e e1 e2=>(hh i x e e1 e2).2.1.le l) fun i x e e1 e2=>(hh i x e e1 e2).2.2.le l
theorem Inv.va (I:Inv X pins φ g L s) (ru:RT g none (.ref n) u) (hc:at_ L n=some (.aS ks)):∃p o es ep,u=.ref p.1/\at_ g.α n=some p/\p.2=p.1/\g.H p.1=some (false,o)/\bO X g s ks p.1 o es ep:=by
 obtain⟨p,hp,rc⟩:=I.rel.cells n _ hc;cases ru with
 | ref hq =>
  rw [hp] at hq;cases hq;obtain⟨a,o,es,ep,e,ht,hk,D⟩:=I.aS rc;have ea:p.1=a:=by injection e
  subst ea;refine⟨p,o,es,ep,rfl,hp,?_,?_,D⟩
  ·rcases ht with z|z
   ·cases z
   ·exact congrArg Prod.snd (V7 z)
  ·rcases hk with hk|⟨z,_⟩
   ·exact hk
   ·cases z
theorem bO.new {p:U2 × U2} {tk:Nat} (D:bO X g s ks p.1 o es ep) (I:Inv X pins φ g L s) (hp:at_ g.α n=some p) (u4:p.2=p.1) (hk:g.H p.1=some (false,o)) (hf:dZ ks y) (hz:ks.length<UU) (lb:pl ks y=none) (ry:RT g none y v) (rt:RT g none t u) :
  ∃g',Le g g'/\Inv X pins φ g' (put L n (.aS (dput ks y t))) { s with heap:=s.heap.update p.1 (Obj.mapDictKeys (·.push ⟨hT X.w y,v,u⟩)),toks:=tk }/\∀b,b≠p.1->g'.H b=g.H b:=by
 have hne:=(pG lb).2;rw [fu hne];refine I.Ja hp hk u4 D (fun b v hb hv=>(U6 s.heap _ (VU hb)).trans hv) (VL _ D.ho (Obj.isFreed_of_dict (ZY D.hd _))) (D.hx.mapDictKeys _) (ZY D.hd _) (by simp;omega) (by simp [D.hl]) ?_ ?_ fun i x e e1 e2=>?_
 ·rw [UD,VS]
  refine⟨D.hn,by simp,fun x hx y' hy=>?_⟩;obtain⟨q,hq,rfl⟩:=Ur.mp hx;have:y'=y:=by simpa using hy
  rw [this];exact hne q hq
 ·rw [UD];exact(yy hf).2
 ·rw [List.getElem?_append] at e1
  rw [XI] at e2;split at e1
  ·rename_i hi
   rw [if_neg (by rw [<- D.hl];exact U0 hi)] at e2;exact⟨D.hh i x e e1 e2,D.h1 i x e e1 e2,D.h2 i x e e1 e2⟩
  ·rename_i hi
   have Dz:i=es.size:=by
    have:=(UI.mp e1).1;simp at this;have:=D.hl
    omega
   rw [if_pos Dz] at e2;cases e2;have e1':i - ks.length=0:=by have:=D.hl;omega
   rw [e1'] at e1;cases e1;exact⟨rfl,ry,rt⟩
theorem bO.old {p:U2 × U2} {tk i:Nat} (D:bO X g s ks p.1 o es ep) (I:Inv X pins φ g L s) (hp:at_ g.α n=some p) (u4:p.2=p.1) (hk:g.H p.1=some (false,o)) (hi:pl ks y=some i) (rt:RT g none t u) :
  ∃g',Le g g'/\Inv X pins φ g' (put L n (.aS (dput ks y t))) { s with heap:=s.heap.update p.1 (Obj.mapDict (·.modify i fun e=>{ e with val:=u })),toks:=tk }/\∀b,b≠p.1->g'.H b=g.H b:=by
 rw [yz D.hn hi];obtain⟨q,q1,q2,_⟩:=pF hi;have keys:(ks.set i (y,t)).map (·.1)=ks.map (·.1):=by
  refine V4 (by simp) fun j h1 h2=>?_
  rw [WC,WC,List.getElem_set];by_cases e:i=j
  ·subst e
   rw [if_pos rfl,(UI.mp q1).2,q2]
  ·rw [if_neg e]
 refine I.Ja hp hk u4 D (fun b v hb hv=>(U6 s.heap _ (VU hb)).trans hv) (VL _ D.ho (Obj.isFreed_of_dict (Obj.data_mapDict D.hd _))) (D.hx.mapDict _) (Obj.data_mapDict D.hd _) (by simpa using D.hz) (by simp [D.hl]) (by rw [keys];exact D.hn) (by rw [keys];exact D.hm) fun j x e e1 e2=>?_
 rw [Array.getElem?_modify] at e2;rw [List.getElem?_set] at e1;by_cases ej:i=j
 ·subst ej
  rw [if_pos rfl] at e1 e2;obtain⟨e0,f1,f2⟩:=UA.mp e2;have bN:=(UI.mp q1).1
  rw [if_pos bN] at e1;cases e1;subst f2;exact⟨by rw [<- q2];exact D.hh i q e0 q1 f1,by rw [<- q2];exact D.h1 i q e0 q1 f1,rt⟩
 ·rw [if_neg ej] at e1 e2
  exact⟨D.hh j x e e1 e2,D.h1 j x e e1 e2,D.h2 j x e e1 e2⟩
theorem vb {A:Vj} (I:Inv X pins φ g L s) (hu:A.units+8<cLine) (hc:at_ L n=some (.aS ks)) (rd:RT g none (.ref n) (.ref a)) (ry:RT g none y v) {tv:Uq} (rt:RT g none t tv) (hz:ks.length<UU) (hf:dZ ks y) :
  UK (model X.prog X.w) A (dictSet a v tv) (fun _ s'=>(∃g',Le g g'/\Inv X pins φ g' (put L n (.aS (dput ks y t))) s'/\∀b,b≠a->g'.H b=g.H b)/\∀b,b≠a->s'.heap.get? b=s.heap.get? b) E s:=by
 obtain⟨p,o,es,ep,ea,hp,u4,hk,D⟩:=I.va rd hc;cases ea;obtain⟨m,h1,h2⟩:=D.find I hu hf ry;unfold dictSet
 try with_reducible refine wpAny_holding ?_
 refine Ui (h1 _ _ ?_);unfold dictSetHashed
 try with_reducible refine wpAny_holding ?_
 refine Ui (h2 _ _ _ ?_);cases e:pl ks y with
 | none =>
  exact Ui (wpAny_rule (wpAny_updateDictKeys (hz:=by have:=D.hl;omega) (s:={ s with toks:=s.toks+m }) D.ho D.hd ⟨D.new I hp u4 hk hf hz e ry rt,fun b hb=>U6 s.heap _ (VU hb)⟩))
 | some i =>
  exact Ui (wpAny_rule (Ui (wpAny_updateDict (s:={ s with toks:=s.toks+m }) D.ho D.hd (wpAny_point ⟨D.old I hp u4 hk e rt,fun b hb=>U6 s.heap _ (VU hb)⟩))))
theorem BU (I:Inv X pins φ g L s) (hu:X.A.units+20<cLine) (hc:at_ L n=some (.aS ks)) (rd:RT g none (.ref n) u) (ry:RT g none y v) {tv:Uq} (rt:RT g none t tv) (hz:ks.length<UU) (hf:dZ ks y) :
  UK (model X.prog X.w) X.A (setItem u v tv) (fun _ s'=>∃g',Le g g'/\Inv X pins φ g' (put L n (.aS (dput ks y t))) s') F0 s:=by
 have ip:X.A.in1.units+8<cLine:=by show X.A.units+1+8<cLine;omega
 obtain⟨p,o,es,ep,rfl,hp,u4,hk,D⟩:=I.va rd hc;unfold setItem
 try with_reducible refine wpAny_holding ?_
 refine Ui (wpAny_sequenceKey D.typeIs (by decide) ?_);refine Ui (wpAny_callSpecial?_slot (name:=VX "__setitem__") D.typeIs slot_dict_setitem
  (wpAny_call_entry slot_dict_setitem D.typeIs entry_dict_setitem ?_ (args_dict_setitem _ _ _)))
 show UK _ _ (Builtin.Dict.notOrdered "__setitem__" ⟨[.ref p.1,v,tv],[]⟩ >>= _) _ _ s;refine Ui (wpAny_notOrdered_dict D.typeIs ?_);show UK _ _ (dictSet p.1 v tv >>= _) _ _ s
 refine Ui (wpAny_mono (vb I ip hc rd ry rt hz hf) (fun _ s' ⟨⟨g',l,J,_⟩,_⟩=>Uk ⟨.none,rfl,Uk ⟨g',l,J⟩⟩) fun _ _ e=>e)
end
section
variable {X:Cx} {pins:bg} {φ:Fr} {g:G} {L:aa} {s:Uu} {xs ys:List T} {us vs:List Uq} {e a b:Expr} {m ma mb:SE} {pos p2:Pos}
theorem Fx {α:Type} {y:T} {f:Int->R α} {w:α} {L':aa} (h:(match y with|.int i=>f i|_=>.bad)=.ok w L'):∃i,y=.int i/\f i=.ok w L':=by
 cases y with
 | int i=>exact⟨i,rfl,h⟩
 | _=>cases h
theorem Jb {α:Type} {y:T} {f:R α} {w:α} {L':aa} (h:(match y with|.cm=>f|_=>.bad)=.ok w L'):y=.cm/\f=.ok w L':=by
 cases y with
 | cm=>exact⟨rfl,h⟩
 | _=>cases h
theorem Rk {α:Type} {y:T} {f:Nat->R α} {w:α} {L':aa} (h:(match y with|.str [ch]=>f ch|_=>.bad)=.ok w L'):∃ch,y=.str [ch]/\f ch=.ok w L':=by
 split at h
 ·exact⟨_,rfl,h⟩
 ·cases h
theorem DA (hu:X.A.units+20<cLine) {x y:T} {u v:Uq} {k:Bool} {L':aa} (I:Inv X pins φ g L s) (rx:RT g none x u) (ry:RT g none y v) (h:nO x y L=.ok k L') :
  L'=L/\(∀Q:Uq->Uu->Prop,(∀tk,Q (.bool k) { s with toks:=tk })->UK (model X.prog X.w) X.A (compareOp .In u v) Q F0 s)/\∀Q:Uq->Uu->Prop,(∀tk,Q (.bool (!k)) { s with toks:=tk })->UK (model X.prog X.w) X.A (compareOp .NotIn u v) Q F0 s:=by
 obtain⟨p,vy⟩:=I.view ry;unfold nO at h;generalize vw L y=y' at h vy;have ip:X.A.in1.units+8<cLine:=by show X.A.units+1+8<cLine;omega
 cases y' with
 | str b =>
  obtain⟨ch,rfl,h⟩:=Rk h;cases h;obtain⟨_,rfl⟩:=rx.sI;obtain⟨_,rfl⟩:=vy.sI;exact⟨rfl,fun Q q=>in_str (by rw [uX];exact q s.toks),fun Q q=>notIn_str (by rw [uX];exact q s.toks)⟩
 | lst ys =>
  obtain⟨⟨h1,h2⟩,h⟩:=aG h;cases h;obtain⟨a,its,n,rfl,e,r,_⟩:=I.lst vy;obtain⟨f,f1,f2,_⟩:=pA I ip h1 rx h2 r;rw [<- f2,<- show its.any f=its.toList.any f by simp];exact⟨rfl,fun Q q=>SeqAt.in_listAt f (af e) (fun w hw=>f1 w (by simpa using hw)) (q s.toks),fun Q q=>SeqAt.notIn_listAt f (af e) (fun w hw=>f1 w (by simpa using hw)) (q s.toks)⟩
 | tup ys =>
  obtain⟨⟨h1,h2⟩,h⟩:=aG h;cases h;obtain⟨a,its,rfl,e,r,_⟩:=I.tupP vy;obtain⟨f,f1,f2,_⟩:=pA I ip h1 rx h2 r;rw [<- f2,<- show its.any f=its.toList.any f by simp];exact⟨rfl,fun Q q=>SeqAt.in_tupleAt f e (fun w hw=>f1 w (by simpa using hw)) (q s.toks),fun Q q=>SeqAt.notIn_tupleAt f e (fun w hw=>f1 w (by simpa using hw)) (q s.toks)⟩
 | aS ks =>
  obtain⟨h1,h⟩:=aG h;cases h;obtain⟨a,o,es,ep,rfl,_,_,D⟩:=I.aS vy;obtain⟨d1,d2⟩:=D.in I hu h1 rx;exact⟨rfl,fun Q q=>d1 Q q,fun Q q=>d2 Q q⟩
 | _=>cases h
theorem pH {op:CmpOp} (hu:X.A.units+20<cLine):xE X (compareOp op) (cmp op):=fun {pins φ g L s x y w L' u v} I rx ry h=>by
 obtain⟨k,h',rfl⟩:=pf h;clear h;have fin:∀k,EP X pins φ g (.bl k) L (.bool k) s:=fun k=>I.ep (.bl k)
 cases op with
 | Eq =>
  obtain⟨h1,h2,rfl,rfl⟩:=Fi h';obtain⟨p,vx⟩:=I.view rx;obtain⟨q,vy⟩:=I.view ry;exact(I.rc 8 h1 h2 (by omega) vx vy).1 _ _ _ _ (fin _)
 | NotEq =>
  have h:LF x y L=.ok k L':=h';unfold LF at h;split at h
  ·obtain⟨_,rfl⟩:=rx.iI;obtain⟨_,rfl⟩:=ry.iI;cases h;exact ne_int (fin _)
  ·obtain⟨_,rfl⟩:=rx.sI;obtain⟨_,rfl⟩:=ry.sI;cases h;refine ne_str ?_;simp only [bne,str_beq];exact fin _
  ·cases h
 | Lt =>
  have h:LG x y L=.ok k L':=h';unfold LG at h;split at h
  ·obtain⟨_,rfl⟩:=rx.iI;obtain⟨_,rfl⟩:=ry.iI;cases h;exact lt_int (fin _)
  ·obtain⟨_,rfl⟩:=rx.sI;obtain⟨_,rfl⟩:=ry.sI;cases h;exact lt_str (fin _)
  ·cases h
 | Gt =>
  have h:LH x y L=.ok k L':=h';unfold LH at h;split at h
  ·obtain⟨_,rfl⟩:=rx.iI;obtain⟨_,rfl⟩:=ry.iI;cases h;exact gt_int (fin _)
  ·cases h
 | LtE =>
  have h:Ep x y L=.ok k L':=h';unfold Ep at h;split at h
  ·obtain⟨_,rfl⟩:=rx.iI;obtain⟨_,rfl⟩:=ry.iI;cases h;exact le_int (fin _)
  ·cases h
 | GtE =>
  have h:Ep y x L=.ok k L':=h';unfold Ep at h;split at h
  ·obtain⟨_,rfl⟩:=rx.iI;obtain⟨_,rfl⟩:=ry.iI;cases h;exact ge_int (fin _)
  ·cases h
 | Is =>
  obtain⟨rfl,h'⟩:=Jb h';obtain rfl:=ry.nI;cases h';exact is_none_gen (by rw [yd rx];exact fin _)
 | IsNot =>
  obtain⟨rfl,h'⟩:=Jb h';obtain rfl:=ry.nI;cases h';exact isnot_none_gen (by rw [yd rx];exact fin _)
 | In =>
  obtain⟨rfl,a,_⟩:=DA hu I rx ry h';exact a _ fun tk=>(I.tok tk).ep (.bl _)
 | NotIn =>
  obtain⟨k,h2,rfl⟩:=pf h';obtain⟨rfl,_,a⟩:=DA hu I rx ry h2;exact a _ fun tk=>(I.tok tk).ep (.bl _)
theorem Jc (hu:X.A.units+20<cLine) (hb:wB b=true):xE X (fun o i=>subscriptTail a b o i) ix:=fun {pins φ g L s x y w L' u v} I rx ry h=>by
 obtain⟨p,vx⟩:=I.view rx;have hn:=tF
 unfold ix at h;generalize vw L x=x' at h vx;have hs:=fun o i=>yf hb o i
 cases x' with
 | str z =>
  obtain⟨i,rfl,h⟩:=Fx h;obtain⟨q1,rfl⟩:=iQ h;obtain⟨ch,q2,rfl⟩:=UA.mp q1;obtain⟨j,hj,hc⟩:=Wl.mp q2;obtain⟨h1,h2,h3,h4,_⟩:=mF hj;obtain⟨_,rfl⟩:=ry.iI;obtain⟨t,rfl,hz⟩:=vx.jh
  ·have hl:(⟨z.toArray⟩:Str).length=z.length:=by show z.toArray.size=_;simp
   exact tail_any (typeIs_str s _ t) slot_str_getitem.lookup (getItem_str (c:=ch) (by
    have e1:decide (i < -(2 ^ 63:Int))=false:=decide_eq_false (by omega);have e2:decide (i≥2 ^ 63)=false:=decide_eq_false (by omega)
    rw [e1,e2,Bool.or_false]) (by rw [hl,h1];simpa using hc) ((I.tok _).ep (.str [ch] _ (by show 1<=UU;decide)))) (hs _ _)
 | tup xs =>
  obtain⟨i,rfl,h⟩:=Fx h;obtain⟨q1,rfl⟩:=iQ h;obtain⟨j,hj,hc⟩:=Wl.mp q1;obtain⟨h1,h2,h3,h4,_⟩:=mF hj;obtain⟨_,rfl⟩:=ry.iI;obtain⟨a,its,rfl,e,r,hz⟩:=I.tupP vx;obtain⟨u,hu,ru⟩:=sY r hc;have hl:xs.length=its.size:=by have:=UL r;simp at this;omega
  exact subscriptTail_builtinR (x:=u) e.typeIs slot_tuple_getitem.lookup
   (getItem_tuple (j:=j) (Q:=fun r s'=>r=u/\EP X pins φ g w L' r s') e (by omega) (by omega) (by rw [<- hl];exact h1) (by simpa using hu) ⟨rfl,I.ep ru⟩) (hs _ _)
 | lst xs =>
  obtain⟨i,rfl,h⟩:=Fx h;obtain⟨q1,rfl⟩:=iQ h;obtain⟨j,hj,hc⟩:=Wl.mp q1;obtain⟨h1,h2,h3,h4,h5⟩:=mF hj;obtain⟨_,rfl⟩:=ry.iI;obtain⟨a,its,n,rfl,e,r,hz⟩:=I.lst vx;obtain⟨u,hu,ru⟩:=sY r hc;have hl:xs.length=its.size:=by have:=UL r;simp at this;omega
  rcases h5 with⟨h0,hj⟩|⟨h0,hj⟩
  ·exact item_listR (af e) h0 (by omega) (by rw [hj];simpa using hu) (I.ep ru) (hs _ _)
  ·exact subscriptTail_builtinR (x:=u) (af e).typeIs slot_list_getitem.lookup
    (wpAny_getItem_list_neg (Q:=fun r s'=>r=u/\EP X pins φ g w L' r s') (af e) (by omega) (by omega) (by omega) (by rw [<- hl,hj];simpa using hu) ⟨rfl,I.ep ru⟩) (hs _ _)
 | aS ks =>
  obtain⟨h1,q1⟩:=aG h;obtain⟨q2,rfl⟩:=iQ q1;obtain⟨d,o,es,ep,rfl,_,_,D⟩:=I.aS vx;exact tail_any D.typeIs slot_dict_getitem.lookup (D.item I hu h1 ry q2 fun tk u r=>(I.tok tk).ep r) (hs _ _)
 | _=>cases h
theorem bO.j9 {a:U2} {o:Obj} {es:Array DictEntry} {ep:Nat} {ks:List (T × T)} (D:bO X g s ks a o es ep) (h:(ks.map (·.1)).all j9=true):∃kvs,s.heap.DictAt (hV X.prog X.w) a kvs ep/\kvs.length=ks.length/\kvs.map (·.1)=ks.map (·.1):=by
 have sc:∀(i:Nat) p e,ks[i]?=some p->es[i]?=some e->yx p.1 e.key=true:=fun i p e e1 e2 =>
  lR (Uo.mp h _ (UE (U7 e1))) (D.h1 i p e e1 e2)
 have go:∀(l:List DictEntry) (ks:List (T × T)),ks.length=l.length->(∀(i:Nat) p e,ks[i]?=some p->l[i]?=some e->yx p.1 e.key=true)->∃kvs,Pairs (hV X.prog X.w) l kvs/\kvs.length=ks.length/\kvs.map (·.1)=ks.map (·.1):=fun l=>by
  induction l with
  | nil=>intro ks hl _;cases ks with
   | nil=>exact⟨[],.nil,rfl,rfl⟩
   | cons _ _=>cases hl
  | cons e l ih=>intro ks hl h;cases ks with
   | nil=>cases hl
   | cons p ks =>
    obtain⟨kvs,k1,k2,k3⟩:=ih ks (by simpa using hl) fun i p e e1 e2=>h (i+1) p e (by simpa using e1) (by simpa using e2)
    exact⟨(p.1,e.val)::kvs,.cons (h 0 p e rfl rfl) rfl k1,by simp [k2],by simp [k3]⟩
 obtain⟨kvs,k1,k2,k3⟩:=go es.toList ks (by simpa using D.hl) fun i p e e1 e2=>sc i p e e1 (by simpa using e2)
 refine⟨kvs,⟨o,es,D.ho,D.hx,D.hd,fun e he=>?_,k1,by rw [k3];exact D.hn⟩,k2,k3⟩;obtain⟨i,hi,rfl⟩:=Wk he;have e1:=Ge9 (l:=ks) (i:=i) (by rw [D.hl];exact hi)
 exact⟨_,sc i _ _ e1 (Ux hi),D.hh i _ _ e1 (Ux hi)⟩
theorem yA {t:T} {u v:Uq} (h:yx t v=true) (r:RT g none t u):RT g none t v:=by
 rcases fZ h with⟨i,k,rfl,rfl⟩|⟨z,k,rfl,rfl⟩
 ·exact .int _ _
 ·obtain⟨_,_,hz⟩:=r.jh;exact .str _ _ hz
theorem Fy (hu:X.A.units+20<cLine):yo X "dict.get" iZ:=fun {_ _ g _ s _ _ _ _ _ _} I rx rv h=>by
 have ip:X.A.in1.units+8<cLine:=by show X.A.units+1+8<cLine;omega
 unfold iZ at h;split at h
 ·rename_i ks y t ev
  obtain⟨h1,h⟩:=aG h;cases h;obtain⟨p,v⟩:=I.view rx;rw [ev] at v;obtain⟨a,o,es,ep,rfl,_,_,D⟩:=I.aS v;obtain⟨u1,u2,rfl,r1,r2⟩:=km rv;have M:MeetsIn X.prog X.w (Builtin.«dict.get» ⟨[.ref a,u1,u2],[]⟩) (fun A R s'=>A=X.A/\s'=s/\∀tk u,RT g none ((dK ks y).getD t) u->R (.ok (.ret u)) { s with toks:=tk }) :=
   .of_wp fun A R s' ⟨eA,fW,h⟩=>by
    subst eA fW;show UK _ _ (dictGet a u1 >>= _) _ _ _
    refine Ui (D.get I ip h1 r1 fun tk u hu=>?_);rcases hu with⟨rfl,e⟩|⟨u,z,rfl,e,r⟩
    ·rw [e] at h
     show UK _ _ (Builtin.Dict.missed a u1 >>= _) _ _ _;exact Ui (wpAny_missed_other D.hs (Uk ⟨u2,rfl,h tk u2 r2⟩))
    ·rw [e] at h
     exact Uk ⟨u,rfl,h tk u r⟩
  exact call_meetsIn ZU D.typeIs PySem.F.entry_dict_get (PySem.F.args_dict_get_3 _ _ _) M ⟨rfl,rfl,fun tk u r=>(I.tok tk).ep r⟩
 ·cases h
theorem Fz (hu:X.A.units+20<cLine):yo X "dict.setdefault" xB:=fun {pins φ g L s _ _ _ _ _ _} I rx rv h=>by
 have ip:X.A.in1.units+8<cLine:=by show X.A.units+1+8<cLine;omega
 unfold xB at h;split at h
 ·split at h
  ·rename_i n y t _ ks ea
   obtain⟨⟨hz,h1⟩,h⟩:=aG h;obtain⟨p,o,es,ep,rfl,hp,u4,hk,D⟩:=I.va rx ea;obtain⟨u1,u2,rfl,r1,r2⟩:=km rv;obtain⟨m,f1,f2⟩:=D.find I ip h1 r1;have hz:ks.length<UU:=hz
   have M:MeetsIn X.prog X.w (Builtin.«dict.setdefault» ⟨[.ref p.1,u1,u2],[]⟩) (fun A R s'=>A=X.A/\s'=s/\(∀tk u x,dK ks y=some x->RT g none x u->R (.ok (.ret u)) { s with toks:=tk })/\(dK ks y=none->∀s',(∃g',Le g g'/\Inv X pins φ g' (put L n (.aS (dput ks y t))) s')->R (.ok (.ret u2)) s')) :=
    .of_wp fun A R s' ⟨eA,fW,h1',h2'⟩=>by
     subst eA fW;unfold Builtin.«dict.setdefault»;refine Ui ?_;unfold Builtin.Dict.keyAndDefault;refine Ui (wpAny_notOrdered_dict D.typeIs ?_);show UK _ _ (pure (p.1,u1,some u2)) _ _ _
     refine Uk ?_;show UK _ _ (if (p.1 == sysModules)=true then _ else (dictSetDefault p.1 u1 u2 >>= _)) _ _ _
     rw [if_neg (by rw [D.hs];exact WE)];refine Ui ?_;unfold dictSetDefault
     try with_reducible refine wpAny_holding ?_
     refine Ui (f1 _ _ (Ui (f2 _ _ _ ?_)));cases e:pl ks y with
     | none =>
      exact Ui (wpAny_rule (Ui (wpAny_updateDictKeys (hz:=by have:=D.hl;omega) (s:={ s' with toks:=s'.toks+m }) D.ho D.hd (Uk (Uk ⟨u2,rfl,h2' (pG e).1 _ (let ⟨g',l,J,_⟩:=D.new I hp u4 hk h1 hz e r1 r2;⟨g',l,J⟩)⟩)))))
     | some i =>
      obtain⟨q,q1,q2,q3⟩:=pF e;obtain⟨d,d1⟩:=D.at q1;refine Ui (wpAny_dictEntries (s:={ s' with toks:=s'.toks+m }) D.ho D.hd ?_);rw [d1];exact Ui (wpAny_rule (Uk (Uk ⟨d.val,rfl,h1' _ _ _ q3 (D.h2 i q d q1 d1)⟩)))
   refine call_meetsIn Yq D.typeIs PySem.F.entry_dict_setdefault (PySem.F.args_dict_setdefault_3 _ _ _) M ⟨rfl,rfl,fun tk u x e r=>?_,fun e s' ⟨g',l,J⟩=>?_⟩
   ·simp only [e] at h
    cases h;exact(I.tok tk).ep r
   ·simp only [e] at h
    cases h;exact⟨g',l,J,r2.le l⟩
  ·cases h
 ·cases h
theorem wC {fz:Bool}:d8 X (.type "list") (fo fz):=fun {_ _ g _ s _ _ _ _} I r h=>by
 unfold fo at h;split at h
 ·obtain⟨u,rfl,ru⟩:=bP r
  split at h
  ·exact u0 I ru (.inr (by assumption)) h
  ·exact u0 I ru (.inl (by assumption)) h
  ·rename_i ks ev
   obtain⟨h1,h⟩:=aG h;obtain⟨p,v⟩:=I.view ru;rw [ev] at v;obtain⟨a,o,es,ep,rfl,_,_,D⟩:=I.aS v;obtain⟨kvs,dk,hl,hk⟩:=D.j9 h1;refine PySem.W.kdl_call (PySem.W.kdl_dict (knd:=hV X.prog X.w) (kvs:=kvs) (ep:=ep) D.hs) I.ok.hd dk (by have:=D.hz;omega) fun h' tk acc c' kp hg mH=>?_
   refine kh (t':=tk) (n:=c') (us:=acc.toList) I (dM ?_ fun i x v e1 e2=>?_) h kp (by simpa using hg)
   ·have:acc.size=kvs.length:=mH.1
    rw [Lm9,<- hl];simpa using this.symm
   ·obtain⟨k,z,f1,f2⟩:=mH.2 i v (by rw [<- Yd];exact e2)
    have ek:(kvs.map (·.1))[i]?=some k:=by rw [UM,f1];rfl
    rw [hk,e1] at ek;cases ek;rw [UM] at e1;obtain⟨q,q1,q2⟩:=UA.mp e1;obtain⟨e,e3⟩:=D.at q1;refine yA f2 (u:=e.key) ?_;rw [<- q2];exact D.h1 i q e q1 e3
  ·cases h
 ·cases h
theorem BV {i:Expr} (h:wB i=true):∀ov iv new,augStore i ov iv new=(do holding [new,ov,iv] (setItem ov iv new);release [new,ov,iv] [];pure .next):=fun _ _ _=>by
 cases i <;> first|rfl|cases h
theorem set_list {Md:VB} {w:Wy} {A:Vj} {E:Uq->Uu->Prop} {l:U2} {items:Array Uq} {n:Nat} {k:Int} {t:Tok} {v:Uq} {Q:Unit->Uu->Prop} (ho:s.heap.get? l=some { cls:=.type "list",data:=.seq items n }) (h0:0<=k) (hfit:k<2 ^ 63) (hn:k<items.size)
  (hQ:Q () { s with heap:=s.heap.update l (VP (·.setIfInBounds k.toNat v)) }):UK (model Md w) A (setItem (.ref l) (.int k t) v) Q E s:=by
 have hl:=af ho;unfold setItem
 try with_reducible refine wpAny_holding ?_
 first|refine Ui (Uk ?_)|skip
 refine Ui (wpAny_sequenceKey hl.typeIs (by decide) ?_);refine Ui (wpAny_callSpecial?_slot (name:=VX "__setitem__") hl.typeIs slot_list_setitem
  (wpAny_call_entry slot_list_setitem hl.typeIs entry_list_setitem ?_ (args_list_setitem _ _ _)))
 show UK _ _ (Builtin.List.listSubscript? (.int k t) >>= _) _ _ s;refine Ui (wpAny_listSubscript_int (fitsIndex_of h0 hfit) ?_);clear hfit;obtain⟨j,rfl⟩:=Int.eq_ofNat_of_zero_le h0;have hj:j<items.size:=by omega
 have hx':items[j]?=some items[j]:=Ux hj;show UK _ _ ((seqItemAt l j >>= fun r=>pure (r.map (j,·))) >>= _) _ _ s
 refine Ui (Ui (wpAny_seqItemAt ho rfl (Uk ?_)));rw [hx'];show UK _ _ (setSeqItemAt l j v >>= _) _ _ s
 refine Ui (wpAny_setSeqItemAt ho rfl ?_)
 first
  | exact Ui (Uk (Uk ⟨.none,rfl,Uk hQ⟩))
  | exact Uk ⟨.none,rfl,Uk hQ⟩
theorem cP.set {i:Nat} {t:T} {u:Uq} (h:cP g xs us) (r:RT g none t u):∀i,cP g (xs.set i t) (us.set i u):=by
 induction h with
 | nil=>intro i;simp;exact .nil
 | cons a b ih=>intro i;cases i with
  | zero=>exact .cons r b
  | succ i=>exact .cons a (ih i)
theorem pJ (hu:X.A.units+20<cLine) {x y t:T} {xv yv tv:Uq} {L':aa} (I:Inv X pins φ g L s) (rx:RT g none x xv) (ry:RT g none y yv) (rt:RT g none t tv) (h:jw x y t L=some L'):UK (model X.prog X.w) X.A (setItem xv yv tv) (fun _ s'=>SP X pins g (.nx φ L') .next s') F0 s:=by
 unfold jw at h;split at h
 ·split at h
  ·split at h
   ·rename_i hc
    cases h;exact thn (BU I hu (by assumption) rx ry rt hc.1 hc.2) fun _ s' z=>z
   ·cases h
  ·rename_i ea
   split at h
   ·split at h
    ·rename_i hc
     cases h;obtain⟨_,rfl⟩:=ry.iI;obtain⟨a,its,cnt,rfl,e,rr,hl,hz⟩:=I.u5 rx ea;have hn:=tF
     refine set_list e hc.1 (by omega) (by omega) ?_;obtain⟨g',l,J,_⟩:=I.qU (t':=s.toks) (f:=(·.setIfInBounds _ tv)) ea rx e (by simpa using rr.set rt (i:=0) _) (by simpa using hz);exact⟨g',l,J⟩
    ·cases h
   ·cases h
  ·cases h
 ·cases h
theorem BW {o i:Expr} {mo mi:SE} (hu:X.A.units+20<cLine) (ho:PE X o mo) (hi:PE X i mi) (he:PE X e m) (hs:i9 e=true):PS X (.Assign [.Subscript o i p2] e pos) (qL mo mi m):=fun {pins φ g L s} I h=>by
 obtain⟨t,L1,e1,q1,h⟩:=ij h;rw [show qL mo mi m φ L=_ from q1];obtain⟨x,L2,e2,q2,h⟩:=ij h;rw [q2];obtain⟨y,L3,e3,q3,h⟩:=ij h;rw [q3];cases ep:jw x y t L3 with
 | none=>simp only [ep] at h;exact absurd rfl h
 | some L4 =>
  simp only [ep];exact wpAny_Assign_Subscript (thn (he I e1) fun tv s1 ⟨g1,l1,I1,r1⟩=>thn (ho I1 e2) fun xv s2 ⟨g2,l2,I2,r2⟩=>thn (hi I2 e3) fun yv s3 ⟨g3,l3,I3,r3⟩ =>
   thn (pJ hu I3 (r2.le l3) r3 (r1.le (l2.trans l3)) ep) fun _ s4 z=>z.le ((l1.trans l2).trans l3)) (jz hs)
theorem BX {o i:Expr} {mo mi:SE} {op:Operator} (hu:X.A.units+20<cLine) (ho:PE X o mo) (hi:PE X i mi) (he:PE X e m) (hx:wB i=true):PS X (.AugAssign (.Subscript o i p2) op e pos) (xx op mo mi m):=fun {pins φ g L s} I h=>by
 obtain⟨x,L1,e1,q1,h⟩:=ij h;rw [show xx op mo mi m φ L=_ from q1];obtain⟨y,L2,e2,q2,h⟩:=ij h;rw [q2];obtain⟨z,L3,e3,q3,h⟩:=ij h;rw [q3];obtain⟨t,L4,e4,q4,h⟩:=ij h;rw [q4];obtain⟨r,L5,e5,q5,h⟩:=ij h;rw [q5];cases ep:jw x y r L5 with
 | none=>simp only [ep] at h;exact absurd rfl h
 | some L6 =>
  simp only [ep];refine wpAny_AugAssign_Subscript_any (thn (ho I e1) fun xv s1 ⟨g1,l1,I1,r1⟩=>thn (hi I1 e2) fun yv s2 ⟨g2,l2,I2,r2⟩=>?_) (BV hx);have hg:UK (model X.prog X.w) X.A (getItem xv yv) (EP X pins φ g2 z L3) F0 s2:=by
   unfold Iy at e3;obtain⟨p,v⟩:=I2.view (r1.le l2);split at e3
   ·rename_i ev
    rw [ev] at v;obtain⟨h1,k1⟩:=aG e3;obtain⟨k2,k3⟩:=iQ k1;subst k3;obtain⟨d,o,es,ep,rfl,_,_,D⟩:=I2.aS v;exact D.item I2 hu h1 r2 k2 fun tk u r=>(I2.tok tk).ep r
   ·cases e3
  exact thn hg fun zv s3 ⟨g3,l3,I3,r3⟩=>thn (he I3 e4) fun tv s4 ⟨g4,l4,I4,r4⟩=>thn (yc I4 (r3.le l4) r4 e5) fun rv s5 ⟨g5,l5,I5,r5⟩ =>
   thn (pJ hu I5 ((r1.le l2).le ((l3.trans l4).trans l5)) (r2.le ((l3.trans l4).trans l5)) r5 ep) fun _ s6 w=>w.le ((((l1.trans l2).trans l3).trans l4).trans l5)
theorem FC {fz:Bool} {ks:List (T × T)} {o:Obj} {es:Array DictEntry} {ep tk:Nat} {h':Heap} {w:T} {L2:aa} (I:Inv X pins φ g L s) (h:mk fz (.aS ks) L=.ok w L2) (k:∀b u,s.heap.get? b=some u->h'.get? b=some u) (new:h'.get? s.heap.objs.size=some o) (hx:o.ExactDict) (hd:o.data=.dict es ep)
  (hz:ks.length<=UU) (hl:ks.length=es.size) (hn:(ks.map (·.1)).Nodup) (hm:gI (ks.map (·.1))=true) (hh:∀(i:Nat) x e,ks[i]?=some x->es[i]?=some e->e.hash=hT X.w x.1/\RT g none x.1 e.key/\RT g none x.2 e.val) :
  EP X pins φ g w L2 (.ref s.heap.objs.size) { s with heap:=h',toks:=tk }:=by
 have big:(s.heap.objs.size == sysModules)=false:=by
  have h1:sysModules<s.heap.objs.size:=Ws (by decide) (I.mod.glob.keeps I.bk).lt;simpa using Vw h1
 have rt:∀(g1:G) (q:Option (U2 × U2)),Le g g1->sX q s.heap.objs.size s.heap.objs.size->g1.kn q.isNone s.heap.objs.size o->RT g1 q (.aS ks) (.ref s.heap.objs.size):=fun g1 q l ht hk =>
  .aS ht hk hx hd hz hl ⟨hn,hm⟩ big (fun i x e e1 e2=>by rw [l.w,I.gw];exact(hh i x e e1 e2).1) (fun i x e e1 e2=>(hh i x e e1 e2).2.1.le l) fun i x e e1 e2=>(hh i x e e1 e2).2.2.le l
 unfold mk at h;split at h
 ·cases h
  exact⟨_,Le.lay I.fresh,I.laid k (UH _) new,rt _ none (Le.lay I.fresh) (.inl rfl) (.inl aw)⟩
 ·cases h
  refine⟨_,Le.new I.fresh,I.new k (UH _) new (rt _ _ (Le.new I.fresh) (.inr rfl) (.inl aw)),?_⟩;have:=I.rel.len
  exact .ref (p:=(s.heap.objs.size,s.heap.objs.size)) (by show at_ ((_,_)::g.α) _=_;rw [<- this];exact fq)
theorem BY {fz:Bool}:PE X (.Dict [] [] pos) (wi fz):=fun {_ _ _ _ s _ _} I h =>
 wpAny_Dict_empty (FC (tk:=s.toks) I h (fun b u e=>Uj _ e) (Us _ rfl) ⟨rfl,rfl,rfl⟩ rfl (U4 _) rfl W5 rfl fun i x e e1 _=>by simp at e1)
end
theorem FD {prog:VB} {w:Wy} {A:Vj} {E:Uq->Uu->Prop} {s:Uu} {a:U2} {o:Obj} {xs:Array Uq} {k:Nat} {Q:Option Uq->Uu->Prop}
  (hx:s.heap.get? a=some o) (hc:o.cls=.type "list") (Jd:o.data=.seq xs k) (hd:o.dict=none) (hA:A.handled=none)
  (h:∀h' tk e,aag s.heap h' e "AttributeError"->Q none { s with heap:=h',toks:=tk }) :
  UK (model prog w) A (getAttr? (.ref a) "keys") Q E s:=by
 obtain⟨c,aS,dat,sl⟩:=o;simp only at hc Jd hd;subst hc Jd hd;obtain⟨hp,g,d,tk,os⟩:=s;have hT:∀tk',(⟨hp,g,d,tk',os⟩:Uu).TypeIs (.ref a) "list":=fun _=>⟨_,hx,rfl⟩
 have f1:=sub_AttributeError;have f3:=WU.lookup
 have f4:=WU.bind (.ref a);have f5:=am_list_getattr_none
 have hmiss:typeLookup (.type "list") "keys"=pure none:=by rw [typeLookup_type,builtinLookup_eq_fast];kernel_rfl
 unfold getAttr? getAttrBy? getAttrBy
 repeat (any_goals (first|assumption|exact hT _|((with_reducible show UK _ _ (call (Yp "list.__getattribute__") _ _) _ _ _);refine call_meets WU (hT _) am_entry_list_getattribute (PySem.F.args_list_getattribute_2 _ _) (meets_getattribute_miss_list a xs k sl "keys" _ hmiss (by decide +kernel) (by decide)) ⟨hx,hA,fun h' tk' e hx'=>?_⟩)|wp_step))
 obtain⟨t',u',he⟩:=hx'.there;show UK _ _ (getattributeRaised _ _ _ _ _ _ _) _ _ _
 unfold getattributeRaised
 repeat (any_goals (first|assumption|wp_step))
 exact h _ _ _ hx'.of
theorem noKeysT {prog:VB} {w:Wy} {A:Vj} {E:Uq->Uu->Prop} {s:Uu} {a:U2} {xs:Array Uq} {k:Nat} {sl:Array (Option Uq)} {Q:Option Uq->Uu->Prop}
  (hx:s.heap.get? a=some ⟨.type "tuple",none,.seq xs k,sl⟩) (hA:A.handled=none)
  (h:∀h' tk e,aag s.heap h' e "AttributeError"->Q none { s with heap:=h',toks:=tk }) :
  UK (model prog w) A (getAttr? (.ref a) "keys") Q E s:=by
 obtain⟨hp,g,d,tk,os⟩:=s;have hT:∀tk',(⟨hp,g,d,tk',os⟩:Uu).TypeIs (.ref a) "tuple":=fun _=>⟨_,hx,rfl⟩
 have f1:=sub_AttributeError;have f3:=WQ.lookup
 have f4:=WQ.bind (.ref a);have f5:=am_tuple_getattr_none
 have hmiss:typeLookup (.type "tuple") "keys"=pure none:=by rw [typeLookup_type,builtinLookup_eq_fast];kernel_rfl
 unfold getAttr? getAttrBy? getAttrBy
 repeat (any_goals (first|assumption|exact hT _|((with_reducible show UK _ _ (call (Yp "tuple.__getattribute__") _ _) _ _ _);refine call_meets WQ (hT _) am_entry_tuple_getattribute (PySem.F.args_tuple_getattribute_2 _ _) (meets_getattribute_miss_tuple a xs k sl "keys" _ hmiss (by decide +kernel) (by decide)) ⟨hx,hA,fun h' tk' e hx'=>?_⟩)|wp_step))
 obtain⟨t',u',he⟩:=hx'.there;show UK _ _ (getattributeRaised _ _ _ _ _ _ _) _ _ _
 unfold getattributeRaised
 repeat (any_goals (first|assumption|wp_step))
 exact h _ _ _ hx'.of
theorem entry_dul:entryFor table "dict.update.loop"=some Builtin.«dict.update.loop»:=entryFor_of_tree (by kernel_rfl)
theorem plain_dul:plainId "dict.update.loop"=true:=by decide +kernel
theorem prsOf_at:∀{ys:List T} {ps:List (T × T)},prsOf ys=some ps->ys.length=ps.length/\∀(i:Nat) p,ps[i]?=some p->ys[i]?=some (.tup [p.1,p.2])
 | [],ps,h=>by cases h;exact⟨rfl,fun i p e=>by simp at e⟩
 | y::ys,ps,h=>by
  unfold prsOf at h;split at h
  ·rename_i k x TS h2
   cases h;obtain⟨h3,h4⟩:=prsOf_at h2;refine⟨by simp [h3],fun i p e=>?_⟩;cases i with
   | zero=>cases e;rfl
   | succ i=>exact h4 i p (by simpa using e)
  ·cases h
theorem yB (ks:List (T × T)) (y t:T):(dput ks y t).length<=ks.length+1:=by
 unfold dput;split
 ·simp
 ·simp
theorem wF {ks:List (T × T)} {y t:T} {q:T->Prop} (h:∀p∈ks,q p.1) (hy:q y):∀p∈dput ks y t,q p.1:=by
 unfold dput;split
 ·intro p hp
  obtain⟨p',h1,rfl⟩:=Ur.mp hp;split
  ·exact h p' h1
  ·exact h p' h1
 ·intro p hp
  rcases Uz.mp hp with h1|h1
  ·exact h p h1
  ·have:p=(y,t):=by simpa using h1
   rw [this];exact hy
theorem BZ (ps:List (T × T)):(qE ps).length<=ps.length:=by
 have key:∀(ps acc:List (T × T)),(ps.foldl (fun acc p=>dput acc p.1 p.2) acc).length<=acc.length+ps.length:=by
  intro ps;induction ps with
  | nil=>intro acc;simp
  | cons p r ih =>
   intro acc;have z:=ih (dput acc p.1 p.2)
   have z2:=yB acc p.1 p.2;rw [Yu,Ut];omega
 have:=key ps [];unfold qE;simpa using this
theorem yC {ps:List (T × T)} {q:T->Prop} (h:∀p∈ps,q p.1):∀p∈qE ps,q p.1:=by
 have key:∀(ps acc:List (T × T)),(∀p∈ps,q p.1)->(∀p∈acc,q p.1)->∀p∈ps.foldl (fun acc p=>dput acc p.1 p.2) acc,q p.1:=by
  intro ps;induction ps with
  | nil=>intro acc _ h;exact h
  | cons p r ih =>
   intro acc h1 h2;exact ih _ (fun p hp=>h1 p (Up _ hp)) (wF h2 (h1 p Um))
 exact key ps [] h fun p hp=>by simp at hp
theorem yD {ps:List (T × T)} {i:Nat} {p:T × T} (h:ps[i]?=some p):qE (ps.take (i+1))=dput (qE (ps.take i)) p.1 p.2:=by
 unfold qE;rw [Z4,h,Y8];rfl
theorem yE {ps:List (T × T)} {i:Nat} {p:T × T} (hm:gI (ps.map (·.1))=true) (h:ps[i]?=some p):dZ (qE (ps.take i)) p.1:=by
 unfold dZ;unfold gI at hm ⊢;rw [Xg] at hm ⊢;have part:∀(f:T->Bool),(ps.map (·.1)).all f=true->(p.1::(qE (ps.take i)).map (·.1)).all f=true:=fun f hf=>by
  have hf:=Uo.mp hf;refine Uo.mpr fun x hx=>?_
  rcases UG.mp hx with rfl|hx
  ·exact hf _ (UE (U7 h))
  ·obtain⟨q,hq,rfl⟩:=Ur.mp hx
   exact yC (q:=fun x=>f x=true) (fun q hq=>hf _ (UE (VW hq))) q hq
 rcases hm with hm|hm
 ·exact .inl (part _ hm)
 ·exact .inr (part _ hm)
section
variable {X:Cx} {pins:bg} {φ:Fr} {g g0:G} {L L':aa} {s:Uu} {ys:List T} {us:List Uq} {ps:List (T × T)} {a it l:U2} {ol:Obj} {A:Vj} {R:Result->Uu->Prop}
theorem tJ (hu:A.in1.units+8<cLine) (ch:List U2) (W:Nat->Heap->Prop) (hm:gI (ps.map (·.1))=true) (hlen:ps.length<=100000) (qG:∀c∈ch,c≠a)
  (frame:∀i h h',W i h->(∀c,c≠a->h'.get? c=h.get? c)->W i h')
  (next:∀{E:Uq->Uu->Prop} (i:Nat) (s':Uu) (g':G) (p:T × T) (Q:Option Uq->Uu->Prop),ps[i]?=some p->Le g0 g'->a<s'.heap.objs.size->(∀h1,(∀b o,b∉ch->s'.heap.get? b=some o->h1.get? b=some o)->Inv X pins φ g' (.aS (qE (ps.take i))::L) { s' with heap:=h1 })->W i s'.heap ->
   (∀h1 t o uk uv n,W (i+1) h1->(∀b o,b∉ch->s'.heap.get? b=some o->h1.get? b=some o)->h1.get? t=some o->o.cls=.type "tuple"->o.data=.seq #[uk,uv] n->RT g' none p.1 uk->RT g' none p.2 uv->Q (some (.ref t)) { s' with heap:=h1 })->UK (model X.prog X.w) A.in1 (pyNext (.ref it)) Q E s')
  (last:∀{E:Uq->Uu->Prop} (s':Uu) (Q:Option Uq->Uu->Prop),W ps.length s'.heap->(∀h2,(∀b o,b∉ch->s'.heap.get? b=some o->h2.get? b=some o)->Q none { s' with heap:=h2 })->UK (model X.prog X.w) A.in1 (pyNext (.ref it)) Q E s')
  (fin:∀s' g',Le g0 g'->Inv X pins φ g' (.aS (qE ps)::L) s'->RT g' none (.ref L.length) (.ref a)->R (.ok (.ret .none)) s') :
  ∀(k i:Nat) (s':Uu) (g':G),ps.length - i=k->i<=ps.length->Le g0 g'->Inv X pins φ g' (.aS (qE (ps.take i))::L) s'->RT g' none (.ref L.length) (.ref a)->(∀c∈ch,gh X pins g'.H c)->W i s'.heap ->
   UK (model X.prog X.w) A.in1 (Builtin.«dict.update.loop» ⟨[.ref a,.ref it,rawInt (i:Int),.none],[]⟩) (fun fin s'=>match fin with|.done f=>R (.ok f) s'|.again c'=>c'.quiet=true/\codeAny (model X.prog X.w) A c' R s') (fun e s'=>R (.error e) s') s':=by
 intro k;induction k with
 | zero =>
  intro i s' g' hk hi l0 J rd hf hW;obtain rfl:i=ps.length:=by omega
  unfold Builtin.«dict.update.loop»;dsimp only [rawInt];refine Ui (last s' _ hW fun h2 hx=>?_);dsimp only;show UK _ _ (Builtin.Dict.addKeywords a [] >>= _) _ _ _
  refine Ui (Uk (Uk ?_));rw [Vm (UH _)] at J;exact fin _ g' l0 (J.turned (t':=s'.toks) (ch:=ch) hx hf) rd
 | succ k ih =>
  intro i s' g' hk hi l0 J rd hf hW;have Rn:i<ps.length:=by omega
  have ep:=Ge9 Rn;have MJ:a<s'.heap.objs.size:=by
   obtain⟨p,o,es,ep,ea,hp,u4,B0,D2⟩:=J.va rd (by unfold at_;rw [if_pos rfl]);cases ea;exact UP D2.ho
  unfold Builtin.«dict.update.loop»;dsimp only [rawInt];refine Ui (next i s' g' _ _ ep l0 MJ (fun h1 k=>J.turned (t':=s'.toks) (ch:=ch) k hf) hW fun h1 t ot uk uv n Ro tf LR FE MK rk rv=>?_);dsimp only;have J1:=J.turned (t':=s'.toks) (ch:=ch) tf hf
  have Rp:Yr { s' with heap:=h1 } (.ref t) "tuple":=⟨ot,LR,FE⟩;refine Ui (wpAny_holding (Ui ?_));have ML:∀{E':Uq->Uu->Prop} {Q':List Uq->Uu->Prop},Q' [uk,uv] { s' with heap:=h1 }->UK (model X.prog X.w) A.in1 (ZH (.ref t)) Q' E' { s' with heap:=h1 }:=fun {E' Q'} hq'=>by
   unfold ZH;refine Ui (wpAny_typeOf Rp ?_);rw [if_pos (by decide)];refine Ui (wpAny_seqItems LR MK (Uk ?_));exact hq'
  refine wpAny_tryCatch (ML ?_);dsimp only;have hz:(qE (ps.take i)).length<UU:=by
   have z:=BZ (ps.take i);rw [Vc] at z;rw [VV];omega
  refine wpAny_holding (wpAny_mono (vb (n:=L.length) (E:=fun e s'=>R (.error e) s') J1 hu (by unfold at_;rw [if_pos rfl]) rd rk rv hz (yE hm ep)) (fun _ s2 h2=>?_) fun _ _ e=>e);obtain⟨⟨g2,l2,J2,hH⟩,Rr⟩:=h2;refine Uk ?_;refine⟨plainId_quiet plain_dul _,codeAny_builtin entry_dul ?_⟩;rw [VF plain_dul _];have ei:((i:Int)+1)=((i+1:Nat):Int):=by push_cast;rfl
  rw [ei];have J3:Inv X pins φ g2 (.aS (qE (ps.take (i+1)))::L) s2:=by
   rw [yD ep];have z:put (.aS (qE (ps.take i))::L) L.length (.aS (dput (qE (ps.take i)) ps[i].1 ps[i].2))=.aS (dput (qE (ps.take i)) ps[i].1 ps[i].2)::L:=by unfold put;rw [if_pos rfl]
   rw [<- z];exact J2
  exact ih (i+1) s2 g2 (by omega) (by omega) (l0.trans l2) J3 (rd.le l2) (fun c hc=>⟨by rw [hH c (qG c hc)];exact(hf c hc).1,(hf c hc).2⟩) (frame _ _ _ Ro Rr)
theorem yF {u:Uq} {x y:T} {g':G} {s':Uu} (J:Inv X pins φ g' L s') (ru:RT g' none (.tup [x,y]) u):∃t o uk uv n,u=.ref t/\s'.heap.get? t=some o/\o.cls=.type "tuple"/\o.data=.seq #[uk,uv] n/\RT g' none x uk/\RT g' none y uv:=by
 obtain⟨t,Rt,et,⟨ot,LR,FE,n,MK⟩,rt,_⟩:=J.tup ru;obtain⟨uk,uv,e2,rk,rv⟩:=km rt;have e3:Rt = #[uk,uv]:=by apply Array.ext';simpa using e2
 subst e3;exact⟨t,ot,uk,uv,n,et,LR,FE,MK,rk,rv⟩
theorem yG {i:Nat} {p:T × T} (r0:cP g0 ys us) (hp:prsOf ys=some ps) (ep:ps[i]?=some p):∃u,us[i]?=some u/\RT g0 none (.tup [p.1,p.2]) u:=by
 have ey:=(prsOf_at hp).2 i p ep;have hl:=UL r0
 have hi:=(UI.mp ey).1;have eu:=Ge9 (l:=us) (i:=i) (by omega)
 exact⟨_,eu,wo r0 i _ _ ey eu⟩
theorem yH (r0:cP g0 ys us) (hp:prsOf ys=some ps):us.length<=ps.length:=by
 have h1:=UL r0;have h2:=(prsOf_at hp).1
 omega
theorem vc {t:T} {u:Uq} {w:T} (hu:X.A.units+20<cLine) (I:Inv X pins φ g L s) (ru:RT g none t u) (ht:vw L t=.lst ys\/vw L t=.tup ys) (h:xC ys L=.ok w L'):UK (model X.prog X.w) X.A (call (.type "dict") [u]) (EP X pins φ g w L') F0 s:=by
 have ip:X.A.in1.in1.units+8<cLine:=by show X.A.units+1+1+8<cLine;omega
 unfold xC at h;split at h
 ·rename_i ps B1
  obtain⟨⟨hm,hlen⟩,h⟩:=aG h;cases h;have xR:g.H s.heap.objs.size=none:=I.fresh
  have big:(s.heap.objs.size == sysModules)=false:=by
   have h1:sysModules<s.heap.objs.size:=Ws (by decide) (I.mod.glob.keeps I.bk).lt;simpa using Vw h1
  have J0:=I.new (c:=.aS []) (o:={ cls:=.type "dict",data:=.dict #[] }) (h':=s.heap.push { cls:=.type "dict",data:=.dict #[] }) (t':=s.toks) (fun b u e=>Uj _ e) (UH _) (Us _ rfl)
   (.aS (.inr rfl) (.inl aw) ⟨rfl,rfl,rfl⟩ rfl (U4 _) rfl ⟨W5,rfl⟩ big (fun i x e e1 _=>by simp at e1) (fun i x e e1 _=>by simp at e1) fun i x e e1 _=>by simp at e1)
  have l0:=Le.new (o:={ cls:=.type "dict",data:=.dict #[] }) xR;have rd:RT (g.new s.heap.objs.size { cls:=.type "dict",data:=.dict #[] }) none (.ref L.length) (.ref s.heap.objs.size):=by
   have:=I.rel.len;exact .ref (p:=(s.heap.objs.size,s.heap.objs.size)) (by show at_ ((_,_)::g.α) _=_;rw [<- this];exact fq)
  refine callType_codes (Q₁:=fun obj s₁=>obj=.ref s.heap.objs.size/\s₁={ s with heap:=s.heap.push { cls:=.type "dict",data:=.dict #[] } }) ZI (YC _) Zn (kt_code_dict_new _ ⟨rfl,rfl⟩) ?_;rintro obj s₁ ⟨rfl,rfl⟩;have tL:Yr { s with heap:=s.heap.push { cls:=.type "dict",data:=.dict #[] } } (.ref s.heap.objs.size) "dict":=⟨_,Us _ rfl,rfl⟩
  refine⟨tL,Y9 _ _,?_⟩;unfold Builtin.«dict.__init__»;refine Ui ?_;unfold Za;refine Ui (wpAny_notOrdered_dict tL ?_);show UK _ _ (pure (s.heap.objs.size,[u])) _ _ _
  refine Uk ?_;show UK _ _ (WV "dict.__init__" s.heap.objs.size u [] .none) _ _ _
  unfold WV;obtain⟨q,v⟩:=I.view ru;rcases ht with ht|ht
  ·rw [ht] at v
   obtain⟨l,its,n,rfl,hg,rr,hz⟩:=I.lst v;have yI:(s.heap.push { cls:=.type "dict",data:=.dict #[] }).get? l=some { cls:=.type "list",data:=.seq its n }:=Uj _ hg
   refine Ui (wpAny_typeOf (T:="list") ⟨_,yI,rfl⟩ ?_);rw [if_pos (by decide)];refine Ui (FD yI rfl rfl rfl I.ok.hd fun h1 B2 e hx=>?_);rw [if_pos (show(none:Option Uq).isNone=true from rfl)];refine Ui (wpAny_rule ?_);have B3:=hx.keeps _ _ yI
   have J1:=J0.kept (t':=B2) (h':=h1) fun b o e=>hx.keeps b o e
   refine Ui (wpAny_pyIter_list (s:={ s with heap:=h1,toks:=B2 }) (af B3) ?_);refine Uk ⟨plainId_quiet plain_dul _,codeAny_builtin entry_dul ?_⟩;rw [VF plain_dul _];have J2:=J1.kept (t':=B2) (h':=h1.push { cls:=.type "list_iterator",data:=.fields #[.ref l,.int 0 0] }) fun b o e=>Uj _ e
   have hsz:s.heap.objs.size<h1.objs.size:=UP (hx.keeps _ _ (Us s.heap (o:={ cls:=.type "dict",data:=.dict #[] }) rfl));refine tJ (A:=X.A.in1) (a:=s.heap.objs.size) (it:=h1.objs.size) (L:=L) ip [h1.objs.size] (fun i h=>h.get? l=some { cls:=.type "list",data:=.seq its n }/\h.IsListIter h1.objs.size l i) hm hlen (fun c hc=>by rw [UR.mp hc];exact Vw hsz)
    (fun i h h' ⟨q0,o,q1,q2⟩ e=>⟨(e l (U0 (UP hg))).trans q0,o,(e _ (Vw hsz)).trans q1,q2⟩) (fun i s' g' p Q ep lg _ J ⟨pK,ht⟩ hQ=>?_) (fun s' Q ⟨pK,ht⟩ hQ=>?_) (fun s' g' lg J Je=>?_)
    ps.length 0 _ _ rfl (U4 _) (Le.refl _) J2 rd (fun c hc=>by rw [UR.mp hc];exact J1.sZ (UH _) (J1.hok.fresh (UH _))) ⟨Uj _ B3,_,Us _ rfl,rfl,rfl⟩
   ·obtain⟨u,eu,ru⟩:=yG (rr.le l0) B1 ep
    refine wpAny_pyNext_list_item (x:=u) ht (af pK) (by simpa using eu) fun h2 a b=>?_
    have kp:∀c o,c∉[h1.objs.size]->s'.heap.get? c=some o->h2.get? c=some o:=fun c o hc e=>(b.2 c fun z=>hc (by simp [z])).trans e
    obtain⟨t,o,uk,uv,n,rfl,e1,e2,e3,rk,rv⟩:=yF (J h2 kp) (ru.le lg);exact hQ h2 t o uk uv n ⟨kp l _ (by simpa using U0 (Ws (UP hg) hsz)) pK,a⟩ kp e1 e2 e3 rk rv
   ·exact wpAny_pyNext_list_end I.ok.hd ht (af pK) (by simpa using yH (rr.le l0) B1) fun h2 hx=>hQ h2 fun c o hc e=>hx c o (fun z=>hc (by simp [z])) e
   ·exact⟨rfl,g',l0.trans lg,J,Je⟩
  ·rw [ht] at v
   obtain⟨l,its,n,sl,rfl,hg,rr,hz⟩:∃l its n sl,u=.ref l/\s.heap.get? l=some ⟨.type "tuple",none,.seq its n,sl⟩/\cP g ys its.toList/\ys.length<=UU:=by
    have v':=v;cases v with
    | tup hk hc hd hz hl hi =>
     rename_i a o its n;obtain⟨oc,od,dt,sl⟩:=o;obtain⟨h1,h2⟩:=hc;simp only at h1 h2 hd;subst h1 h2 hd;exact⟨_,_,_,_,rfl,I.kn hk,dM (by simpa using hl) fun i x v e1 e2=>hi i x v e1 (by simpa using e2),hz⟩
   have tM:∀{h:Heap},h.get? l=some ⟨.type "tuple",none,.seq its n,sl⟩->h.IsTuple l its:=fun e=>⟨_,e,rfl,n,rfl⟩
   have yI:(s.heap.push { cls:=.type "dict",data:=.dict #[] }).get? l=some ⟨.type "tuple",none,.seq its n,sl⟩:=Uj _ hg;refine Ui (wpAny_typeOf (T:="tuple") ⟨_,yI,rfl⟩ ?_);rw [if_pos (by decide)];refine Ui (noKeysT yI I.ok.hd fun h1 B2 e hx=>?_);rw [if_pos (show(none:Option Uq).isNone=true from rfl)];refine Ui (wpAny_rule ?_);have B3:=hx.keeps _ _ yI
   have J1:=J0.kept (t':=B2) (h':=h1) fun b o e=>hx.keeps b o e
   refine Ui (wpAny_pyIter_tuple (s:={ s with heap:=h1,toks:=B2 }) (tM B3) ?_);refine Uk ⟨plainId_quiet plain_dul _,codeAny_builtin entry_dul ?_⟩;rw [VF plain_dul _];have J2:=J1.kept (t':=B2) (h':=h1.push { cls:=.type "tuple_iterator",data:=.fields #[.ref l,.int 0 0] }) fun b o e=>Uj _ e
   have hsz:s.heap.objs.size<h1.objs.size:=UP (hx.keeps _ _ (Us s.heap (o:={ cls:=.type "dict",data:=.dict #[] }) rfl));refine tJ (A:=X.A.in1) (a:=s.heap.objs.size) (it:=h1.objs.size) (L:=L) ip [h1.objs.size] (fun i h=>h.get? l=some ⟨.type "tuple",none,.seq its n,sl⟩/\h.IsTupleIter h1.objs.size l i) hm hlen (fun c hc=>by rw [UR.mp hc];exact Vw hsz)
    (fun i h h' ⟨q0,o,q1,q2⟩ e=>⟨(e l (U0 (UP hg))).trans q0,o,(e _ (Vw hsz)).trans q1,q2⟩) (fun i s' g' p Q ep lg _ J ⟨pK,ht⟩ hQ=>?_) (fun s' Q ⟨pK,ht⟩ hQ=>?_) (fun s' g' lg J Je=>?_)
    ps.length 0 _ _ rfl (U4 _) (Le.refl _) J2 rd (fun c hc=>by rw [UR.mp hc];exact J1.sZ (UH _) (J1.hok.fresh (UH _))) ⟨Uj _ B3,_,Us _ rfl,rfl,rfl⟩
   ·obtain⟨u,eu,ru⟩:=yG (rr.le l0) B1 ep
    refine wpAny_pyNext_tuple_item (x:=u) ht (tM pK) (by simpa using eu) fun h2 a b=>?_
    have kp:∀c o,c∉[h1.objs.size]->s'.heap.get? c=some o->h2.get? c=some o:=fun c o hc e=>(b.2 c fun z=>hc (by simp [z])).trans e
    obtain⟨t,o,uk,uv,n,rfl,e1,e2,e3,rk,rv⟩:=yF (J h2 kp) (ru.le lg);exact hQ h2 t o uk uv n ⟨kp l _ (by simpa using U0 (Ws (UP hg) hsz)) pK,a⟩ kp e1 e2 e3 rk rv
   ·exact wpAny_pyNext_tuple_end I.ok.hd ht (tM pK) (by simpa using yH (rr.le l0) B1) fun h2 hx=>hQ h2 fun c o hc e=>hx c o (fun z=>hc (by simp [z])) e
   ·exact⟨rfl,g',l0.trans lg,J,Je⟩
 ·cases h
theorem wG (hu:X.A.units+20<cLine):d8 X (.type "dict") jx:=fun I r h=>by
 unfold jx at h;split at h
 ·obtain⟨u,rfl,ru⟩:=bP r
  split at h
  ·exact vc hu I ru (.inl (by assumption)) h
  ·exact vc hu I ru (.inr (by assumption)) h
  ·cases h
 ·cases h
end
end M
namespace L2
open PySem PySem.W PyProof.Rows
noncomputable def cU {α:Type} (lt:Nat->Nat->Bool) (n:Nat):KasT α->(α->Prop)->Prop
 | .ret a,Q=>Q a
 | .ask i j k,Q=>i<n/\j<n/\cU lt n (k (lt i j)) Q
theorem cU.mono {α:Type} {lt:Nat->Nat->Bool} {n:Nat} {Q Q':α->Prop} (hq:∀a,Q a->Q' a):∀{t:KasT α},cU lt n t Q->cU lt n t Q'
 | .ret _,h=>hq _ h
 | .ask _ _ _,⟨h1,h2,h3⟩=>⟨h1,h2,cU.mono hq h3⟩
theorem cU.bind {α β:Type} {lt:Nat->Nat->Bool} {n:Nat} {f:α->KasT β} {Q:β->Prop}:∀{t:KasT α},cU lt n t (fun a=>cU lt n (f a) Q)->cU lt n (t.bind f) Q
 | .ret _,h=>h
 | .ask _ _ _,⟨h1,h2,h3⟩=>⟨h1,h2,cU.bind h3⟩
theorem cU.wp {α:Type} {lt:Nat->Nat->Bool} {n:Nat} {Q:α->Prop} {cmp:Nat->Nat->(Bool->Uu->Prop)->Uu->Prop} {R:α->Uu->Prop} {s:Uu} (hc:∀i j C,i<n->j<n->C (lt i j) s->cmp i j C s) (hq:∀a,Q a->R a s) :
  ∀{t:KasT α},cU lt n t Q->t.kasWp cmp R s
 | .ret _,h=>hq _ h
 | .ask _ _ _,⟨h1,h2,h3⟩=>hc _ _ _ h1 h2 (cU.wp hc hq h3)
structure WO (lt:Nat->Nat->Bool):Prop where
 wH:∀a b,lt a b=true->lt b a=false
 tr:∀a b c,lt b a=false->lt c b=false->lt c a=false
theorem WO.DB {lt:Nat->Nat->Bool} (W:WO lt) (a:Nat):lt a a=false:=by
 cases h:lt a a with
 | false=>rfl
 | true=>have:=W.wH a a h;rw [h] at this;exact this
theorem WO.up {lt:Nat->Nat->Bool} (W:WO lt) {a b c:Nat} (h1:lt a b=true) (h2:lt c b=false):lt a c=true:=by
 cases h:lt a c with
 | true=>rfl
 | false=>have:=W.tr b c a h2 h;rw [h1] at this;exact this.symm
noncomputable def qY (lt:Nat->Nat->Bool) (p:Array Nat) (m:Nat):Prop:=∀i j,i<j->j<m->lt (p.getD j 0) (p.getD i 0)=false
noncomputable def xj (lt:Nat->Nat->Bool) (p:Array Nat) (m:Nat):Prop:=∀i j,i<j->j<m->lt (p.getD i 0) (p.getD j 0)=false
noncomputable def Arr (n:Nat) (p:Array Nat):Prop:=p.size=n/\p.toList.Perm (Vp n)
theorem Arr.lt {n:Nat} {p:Array Nat} (h:Arr n p) {k:Nat} (hk:k<n):p.getD k 0<n:=by
 have hs:k<p.size:=by rw [h.1];exact hk
 have e:p.getD k 0=p[k]:=by simp [Wc,hs]
 rw [e];have m:p[k]∈p.toList:=by simp
 exact Vn.mp (h.2.mem_iff.mp m)
theorem Arr.of {n:Nat} {p q:Array Nat} (h:Arr n p) (hp:q.Perm p):Arr n q:=⟨hp.size_eq.trans h.1,(Array.perm_iff_toList_perm.mp hp).trans h.2⟩
theorem d9 {p:Array Nat} {i j:Nat} (hj:j<=p.size) (k:Nat):(kas_rev p i j).getD k 0=if i<=k/\k<j then p.getD (i+j - 1 - k) 0 else p.getD k 0:=by
 rw [U1,U1,U1];unfold kas_rev;rw [getElem?_mirror_all hj k];split <;> rfl
theorem qZ {p:Array Nat} {src d:Nat} (hs:src<p.size) (hd:d<=src) (k:Nat):(bubble p src d).getD k 0=if k=src - d then p.getD src 0 else if src - d<k/\k<=src then p.getD (k - 1) 0 else p.getD k 0:=by
 rw [U1,U1,U1,U1];rw [getElem?_bubble hs d hd k];split
 ·rfl
 ·split <;> rfl
theorem Arr.rev {n:Nat} {p:Array Nat} (h:Arr n p) (i j:Nat):Arr n (kas_rev p i j):=h.of (mirror_perm _ _ _ _)
theorem Arr.Ru {n:Nat} {p:Array Nat} (h:Arr n p) (i j:Nat):Arr n (bubble p i j):=h.of (bubble_perm _ _ _)
section
variable {lt:Nat->Nat->Bool} {n:Nat} (W:WO lt)
include W
theorem qY.more {p:Array Nat} {m:Nat} (h:qY lt p m) (h1:1<=m) (hl:lt (p.getD m 0) (p.getD (m - 1) 0)=false):qY lt p (m+1):=fun i j tG hj=>by
 by_cases e:j=m
 ·subst e
  by_cases e2:i=j - 1
  ·subst e2;exact hl
  ·exact W.tr _ _ _ (h i (j - 1) (by omega) (by omega)) hl
 ·exact h i j tG (by omega)
theorem xj.more {p:Array Nat} {m:Nat} (h:xj lt p m) (h1:1<=m) (hl:lt (p.getD (m - 1) 0) (p.getD m 0)=false):xj lt p (m+1):=fun i j tG hj=>by
 by_cases e:j=m
 ·subst e
  by_cases e2:i=j - 1
  ·subst e2;exact hl
  ·exact W.tr _ _ _ hl (h i (j - 1) (by omega) (by omega))
 ·exact h i j tG (by omega)
theorem tN {p:Array Nat} (hp:Arr n p):∀(f m:Nat),1<=m->m+f<=n->qY lt p m ->
  cU lt n (kas_asc p f m) (fun r=>m<=r/\r<=m+f/\qY lt p r/\(r<m+f->lt (p.getD r 0) (p.getD (r - 1) 0)=true))
 | 0,m,_,_,h=>⟨UH _,UH _,h,fun z=>absurd z (by omega)⟩
 | f+1,m,h1,h2,h=>by
  refine⟨hp.lt (by omega),hp.lt (by omega),?_⟩;cases e:lt (p.getD m 0) (p.getD (m - 1) 0) with
  | true=>exact⟨UH _,by omega,h,fun _=>e⟩
  | false =>
   show cU lt n (kas_asc p f (m+1)) _;exact(tN hp f (m+1) (by omega) (by omega) (h.more W h1 e)).mono fun r ⟨a,b,c,d⟩=>⟨by omega,by omega,c,fun z=>d (by omega)⟩
noncomputable def Jf (lt:Nat->Nat->Bool) (p:Array Nat) (a b:Nat):Prop:=∀i j,a<=i->i<b->a<=j->j<b->lt (p.getD i 0) (p.getD j 0)=false
omit W in
theorem xj.rev {p:Array Nat} {a m:Nat} (hm:m<=p.size) (h:xj lt p m) (he:Jf lt p a m):xj lt (kas_rev p a m) m:=fun i j tG hj=>by
 rw [d9 hm,d9 hm];by_cases h1:a<=i
 ·rw [if_pos ⟨h1,by omega⟩,if_pos ⟨by omega,hj⟩]
  exact he _ _ (by omega) (by omega) (by omega) (by omega)
 ·rw [if_neg (by omega)]
  by_cases h2:a<=j
  ·rw [if_pos ⟨h2,hj⟩]
   exact h _ _ (by omega) (by omega)
  ·rw [if_neg (by omega)]
   exact h i j tG hj
theorem lS:∀(f:Nat) (p:Array Nat) (m q:Nat),Arr n p->q+1<=m->m+f=n->xj lt p m->Jf lt p (m - (q+1)) m ->
  cU lt n (kas_desc f p m q) (fun r=>Arr n r.1/\r.2.1<=n/\r.2.2+1<=r.2.1/\xj lt r.1 r.2.1/\Jf lt r.1 (r.2.1 - (r.2.2+1)) r.2.1)
 | 0,p,m,q,hp,hq,hm,h,he=>⟨hp,by show m<=n;omega,hq,h,he⟩
 | f+1,p,m,q,hp,hq,hm,h,he=>by
  have hB:m - 1<m:=by omega
  have hA:m - (q+1)<=m - 1:=by omega
  have B4:m<n:=by omega
  have FF:m+1+f=n:=by omega
  have l0:=hp.lt B4;have l1:=hp.lt (Ws hB B4)
  refine⟨l0,l1,?_⟩;have hsz:m<=p.size:=by rw [hp.1];exact XK B4
  have one:∀{p:Array Nat},Jf lt p (m+1 - (0+1)) (m+1):=fun i j a1 a2 a3 a4=>by
   obtain rfl:i=j:=by omega
   exact W.DB _
  cases e:lt (p.getD m 0) (p.getD (m - 1) 0) with
  | true =>
   show cU lt n (if q > 0 then _ else _) _;split
   ·have hr:=h.rev hsz he
    have e1:(kas_rev p (m - (q+1)) m).getD m 0=p.getD m 0:=by rw [d9 hsz,if_neg (fun z=>V0 _ z.2)]
    have hl:lt ((kas_rev p (m - (q+1)) m).getD (m - 1) 0) ((kas_rev p (m - (q+1)) m).getD m 0)=false:=by
     rw [e1,d9 hsz,if_pos ⟨hA,hB⟩];have e2:m - (q+1)+m - 1 - (m - 1)=m - (q+1):=by omega
     rw [e2];exact W.tr _ _ _ (W.wH _ _ e) (he (m - (q+1)) (m - 1) (UH _) (YG hA hB) hA hB)
    exact lS f _ (m+1) 0 (hp.rev _ _) (XU _ _) FF (hr.more W (UO (XU 1 q) hq) hl) one
   ·exact lS f p (m+1) 0 hp (XU _ _) FF (h.more W (UO (XU 1 q) hq) (W.wH _ _ e)) one
  | false =>
   show cU lt n (.ask (p.getD (m - 1) 0) (p.getD m 0) _) _;refine⟨l1,l0,?_⟩;cases e2:lt (p.getD (m - 1) 0) (p.getD m 0) with
   | true=>exact⟨hp,XK B4,hq,h,he⟩
   | false =>
    show cU lt n (kas_desc f p (m+1) (q+1)) _;have lo:∀i,m+1 - (q+1+1)<=i->m - (q+1)<=i:=fun i a=>by omega
    have hi:∀i,i<m+1->i≠m->i<m:=fun i a b=>by omega
    refine lS f p (m+1) (q+1) hp (Zy hq) FF (h.more W (UO (XU 1 q) hq) e2) fun i j a1 a2 a3 a4=>?_
    by_cases c1:i=m
    ·by_cases c2:j=m
     ·rw [c1,c2];exact W.DB _
     ·rw [c1];exact W.tr _ _ _ (he (m - 1) j hA hB (lo j a3) (hi j a4 c2)) e
    ·by_cases c2:j=m
     ·rw [c2];exact W.tr _ _ _ e2 (he i (m - 1) (lo i a1) (hi i a2 c1) hA hB)
     ·exact he i j (lo i a1) (hi i a2 c1) (lo j a3) (hi j a4 c2)
theorem q8 {p:Array Nat} {m:Nat} (hp:Arr n p) (h1:1<=m) (hm:m<=n) (h:xj lt p m):cU lt n (kas_tail3 m n p) (fun r=>Arr n r.2/\1<=r.1/\r.1<=n/\qY lt r.2 r.1):=by
 have hsz:m<=p.size:=by rw [hp.1];exact hm
 have hr:qY lt (kas_rev p 0 m) m:=fun i j tG hj=>by
  rw [d9 hsz,d9 hsz,if_pos ⟨by omega,hj⟩,if_pos ⟨by omega,by omega⟩];exact h _ _ (by omega) (by omega)
 refine cU.bind ((tN W (hp.rev 0 m) (n - m) m h1 (by omega) hr).mono fun r ⟨a,b,c,_⟩=>?_);exact⟨hp.rev 0 m,by show 1<=r;omega,by show r<=n;omega,c⟩
theorem lh {p:Array Nat} {m:Nat} (hp:Arr n p) (hm:m+1<=n) (h:xj lt p (m+1)):cU lt n (kas_descPart m n p) (fun r=>Arr n r.2/\1<=r.1/\r.1<=n/\qY lt r.2 r.1):=by
 refine cU.bind ((lS W (n - (m+1)) p (m+1) 0 hp (by omega) (by omega) h fun i j a1 a2 a3 a4=>?_).mono fun r ⟨a,b,c,d,e⟩=>?_)
 ·obtain rfl:i=j:=by omega
  exact W.DB _
 ·split
  ·exact q8 W (a.rev _ _) (by omega) b (d.rev (by rw [a.1];exact b) e)
  ·exact q8 W a (by omega) b d
theorem yJ {p:Array Nat} (hp:Arr n p) (h1:1<=n):cU lt n (kas_count n p) (fun r=>Arr n r.2/\1<=r.1/\r.1<=n/\qY lt r.2 r.1):=by
 refine cU.bind ((tN W hp (n - 1) 1 (UH _) (by omega) fun i j a b=>absurd a (by omega)).mono fun m ⟨a,b,c,d⟩=>?_);have B4:m<=n:=by omega
 split
 ·exact⟨hp,a,B4,c⟩
 ·rename_i hne
  have hne':m≠n:=fun z=>hne (beq_iff_eq.mpr z)
  have bN:m<n:=Nat.lt_of_le_of_ne B4 hne';have FF:m - 1<m:=Nat.sub_lt a Nat.one_pos
  have hd:=d (by omega);split
  ·refine⟨hp.lt h1,hp.lt (Ws FF bN),?_⟩
   cases e:lt (p.getD 0 0) (p.getD (m - 1) 0) with
   | true=>exact⟨hp,a,B4,c⟩
   | false =>
    show cU lt n (kas_descPart m n (kas_rev p 0 m)) _;have hsz:m<=p.size:=by rw [hp.1];exact B4
    have all:Jf lt p 0 m:=fun i j _ hi _ hj=>by
     have z1:lt (p.getD (m - 1) 0) (p.getD j 0)=false:=by
      by_cases cj:j=m - 1
      ·subst cj;exact W.DB _
      ·exact c j (m - 1) (by omega) FF
     have z2:lt (p.getD i 0) (p.getD 0 0)=false:=by
      by_cases ci:i=0
      ·subst ci;exact W.DB _
      ·exact c 0 i (Nat.pos_of_ne_zero ci) hi
     exact W.tr _ _ _ (W.tr _ _ _ z1 e) z2
    have hf:xj lt (kas_rev p 0 m) m:=xj.rev hsz (fun i j tG hj=>all i j (U4 _) (Ws tG hj) (U4 _) hj) all;refine lh W (hp.rev 0 m) bN (hf.more W a ?_);rw [d9 hsz,d9 hsz,if_pos ⟨U4 _,FF⟩,if_neg (fun z=>V0 _ z.2)];have e2:0+m - 1 - (m - 1)=0:=by omega
    rw [e2];exact W.tr _ _ _ (W.wH _ _ hd) e
  ·obtain rfl:m=1:=by omega
   refine lh W hp bN fun i j tG hj=>?_
   obtain rfl:i=0:=by omega
   obtain rfl:j=1:=by omega
   exact W.wH _ _ hd
theorem mI {p:Array Nat} {k:Nat} (hp:Arr n p) (hk:k<n) (h:qY lt p k):∀(f l r:Nat),l<=r->r<=k->r - l<=f->(∀i,i<l->lt (p.getD k 0) (p.getD i 0)=false)->(∀i,r<=i->i<k->lt (p.getD k 0) (p.getD i 0)=true) ->
  cU lt n (kas_place p k f l r) (fun x=>x<=k/\(∀i,i<x->lt (p.getD k 0) (p.getD i 0)=false)/\∀i,x<=i->i<k->lt (p.getD k 0) (p.getD i 0)=true)
 | 0,l,r,a,b,c,d,e=>by
  obtain rfl:l=r:=by omega
  exact⟨b,d,e⟩
 | f+1,l,r,a,b,c,d,e=>by
  show cU lt n (if l≥r then _ else _) _;split
  ·obtain rfl:l=r:=by omega
   exact⟨b,d,e⟩
  ·have m1:l<=(l+r) / 2:=by omega
   have m2:(l+r) / 2<r:=by omega
   have m3:(l+r) / 2<k:=UY m2 b;refine⟨hp.lt hk,hp.lt (Ws m3 hk),?_⟩;cases q:lt (p.getD k 0) (p.getD ((l+r) / 2) 0) with
   | true =>
    refine mI hp hk h f l ((l+r) / 2) m1 (XK m3) (by omega) d fun i h1 h2=>?_
    by_cases c1:i=(l+r) / 2
    ·subst c1;exact q
    ·exact W.up q (h _ i (by omega) h2)
   | false =>
    refine mI hp hk h f ((l+r) / 2+1) r m2 b (by omega) (fun i h1=>?_) e;by_cases c1:i=(l+r) / 2
    ·subst c1;exact q
    ·exact W.tr _ _ _ (h i ((l+r) / 2) (by omega) m3) q
theorem yK:∀(f:Nat) (p:Array Nat) (k:Nat),Arr n p->k+f=n->qY lt p k->cU lt n (kas_bin f p k) (fun q=>Arr n q/\qY lt q n)
 | 0,p,k,hp,hk,h=>by
  obtain rfl:k=n:=by omega
  exact⟨hp,h⟩
 | f+1,p,k,hp,hk,h=>by
  have hkn:k<n:=by omega
  refine cU.bind ((mI W hp hkn h k 0 k (U4 _) (UH _) (Nat.sub_le _ _) (fun i z=>absurd z (Nat.not_lt_zero _)) fun i z1 z2=>absurd z1 (Nat.not_le_of_lt z2)).mono fun l ⟨a,b,c⟩=>?_);have hs:k<p.size:=by rw [hp.1];exact hkn
  refine yK f _ (k+1) (hp.Ru _ _) (by omega) fun i j tG hj=>?_
  have e:k - (k - l)=l:=Nat.sub_sub_self a;have kl:k - l<=k:=Nat.sub_le _ _
  rw [qZ hs kl,qZ hs kl,e];by_cases j1:j=l
  ·rw [if_pos j1,if_neg (by omega),if_neg (by omega)]
   exact b i (by omega)
  ·rw [if_neg j1]
   by_cases j2:l<j/\j<=k
   ·rw [if_pos j2]
    by_cases i1:i=l
    ·rw [if_pos i1]
     exact W.wH _ _ (c (j - 1) (by omega) (by omega))
    ·rw [if_neg i1]
     by_cases i2:l<i/\i<=k
     ·rw [if_pos i2];exact h _ _ (by omega) (by omega)
     ·rw [if_neg i2];exact h _ _ (by omega) (by omega)
   ·rw [if_neg j2,if_neg (by omega),if_neg (by omega)]
    exact h i j tG (by omega)
theorem B5 (h1:1<=n):cU lt n (kas_sort n) (fun p=>Arr n p/\qY lt p n):=by
 have h0:Arr n (Ye (Vp n)):=⟨by simp,by simp⟩;refine cU.bind ((yJ W h0 h1).mono fun r ⟨a,b,c,d⟩=>?_);have hm:max r.1 1=r.1:=by omega
 split
 ·rw [hm]
  exact yK W _ _ _ a (by omega) d
 ·have e:r.1=n:=by omega
  rw [e] at d;exact⟨a,d⟩
end
end L2
namespace L2
open PySem PySem.W PySem.Calls PyProof.Rows
section
variable {prog:VB} {w:Wy} {A:Vj} {E:Uq->Uu->Prop} {s:Uu}
theorem nV {a:U2} {vs:List Uq} {n:Nat} {κ:SortKind} {lt:Nat->Nat->Bool} {P:PySem.Fin->Uu->Prop} (W:WO lt) (ho:s.heap.get? a=some (seqObj "list" vs.toArray n)) (LS:vs.length<64)
  (hk:2<=vs.length->∀h',(∀b o,b≠a->s.heap.get? b=some o->h'.get? b=some o)->∀Q:SortKind->Uu->Prop,Q κ { s with heap:=h' }->UK (model prog w) A (keyKind' vs.toArray) Q (fun _ _=>False) { s with heap:=h' })
  (hc:∀h',(∀b o,b≠a->s.heap.get? b=some o->h'.get? b=some o)->∀i j (C:Bool->Uu->Prop),i<vs.length->j<vs.length->C (lt i j) { s with heap:=h' } ->
   UK (model prog w) A (keyLt' κ (vs.getD i VJ) (vs.getD j VJ)) C (fun _ _=>False) { s with heap:=h' })
  (fin:∀p h' c,Arr vs.length p->qY lt p vs.length->(∀b o,b≠a->s.heap.get? b=some o->h'.get? b=some o)->h'.get? a=some (seqObj "list" (Ye (p.toList.map fun i=>vs.getD i VJ)) c)->P (.done (.ret .none)) { s with heap:=h' }) :
  UK (model prog w) A (Builtin.«list.sort» ⟨[.ref a],[]⟩) P E s:=by
 have ha:a<s.heap.objs.size:=UP ho;obtain⟨e1,LU⟩:∃e1,(s.heap.update a (VP fun _=>(#[]:Array Uq))).get? a=some (seqObj "list" #[] e1):=⟨_,get?_update_seq ho fun _=>#[]⟩;have Jg:(((s.heap.update a (VP fun _=>(#[]:Array Uq))).push (seqObj "tuple" vs.toArray 0)).push (seqObj "list" #[] 0)).get? a=some (seqObj "list" #[] e1):=by
  rw [Xo _ _ _ (by rw [size_push',Yi];exact U0 (VD ha)),Xo _ _ _ (by rw [Yi];exact U0 ha)];exact LU
 have keep:∀b o,b≠a->s.heap.get? b=some o->(((s.heap.update a (VP fun _=>(#[]:Array Uq))).push (seqObj "tuple" vs.toArray 0)).push (seqObj "list" #[] 0)).get? b=some o:=fun b o hb q=>by
  have bN:b<s.heap.objs.size:=UP q;rw [Xo _ _ _ (by rw [size_push',Yi];exact U0 (VD bN)),Xo _ _ _ (by rw [Yi];exact U0 bN),Yw _ _ _ _ hb];exact q
 have Jh:∀p (arr:Array Uq),Arr vs.length p->qY lt p vs.length->arr=Ye (p.toList.map fun i=>vs.getD i VJ)->P (.done (.ret .none)) { s with heap:=((((s.heap.update a (VP fun _=>(#[]:Array Uq))).push (seqObj "tuple" vs.toArray 0)).push (seqObj "list" #[] 0))).update a (VP fun _=>arr) }:=fun p arr h1 h2 h3=>by
  subst h3;refine fin p _ _ h1 h2 (fun b o hb q=>?_) (get?_update_seq Jg fun _=>_);rw [Yw _ _ _ _ hb];exact keep b o hb q
 rw [list_sort_plain];refine Ui (listItems_at ho rfl ?_);refine Ui (listUpdate_at ho rfl ?_ (by rw [VO,VV];omega) (U4 _));refine Ui (seqEpoch_at LU rfl ?_);refine Ui (wpAny_newTuple ?_ (by show vs.length<=_;rw [VV];omega));refine Ui (wpAny_newList ?_ (U4 _));refine wpAny_holding ?_;show UK (model prog w) A _ P E { s with heap:=((s.heap.update a (VP fun _=>(#[]:Array Uq))).push (seqObj "tuple" vs.toArray 0)).push (seqObj "list" #[] 0) }
 dsimp only;by_cases h2:vs.toArray.size<2
 ·rw [if_pos h2,if_pos h2]
  refine Ui (Uk ?_);rw [StateT.run_pure];refine Ui (Uk ?_);dsimp only;have hr:(Vp vs.length).map (fun i=>vs.getD i VJ)=vs:=by
   apply V4 (by simp);intro i a1 a2;simp [a2]
  refine Ui (seqEpoch_at Jg rfl ?_);refine Ui (listUpdate_at Jg rfl ?_ (hsz2:=by rw [Vv];show(pairsOf vs).size<=_;rw [pairsOf_size,VV];omega));simp only [bne_self_eq_false,UC,if_false];refine Uk (Jh (Ye (Vp vs.length)) _ ⟨by simp,by simp⟩ (fun i j h1 h3=>?_) ?_)
  ·rw [VO] at h2;omega
  ·show Array.map (·.2) (pairsOf vs)=_
   apply Array.toList_inj.mp;rw [Zz,pairsOf_toList];show _=(Vp vs.length).map (fun i=>vs.getD i VJ)
   rw [hr];exact List.map_snd_zip (by simp)
 ·rw [if_neg h2,if_neg h2]
  rw [VO] at h2;refine Ui (wpAny_mono (hk (by omega) _ keep _ ?_) (fun κ' s' hq=>hq) fun _ _ x=>x.elim);refine Ui (wpAny_mono (kat_run (κ:=κ) (Q:=fun eG s'=>∃p:Array Nat,arrOf eG=p.map (kas_item (vs.toArray.zip vs.toArray))/\failedOf eG=none/\Arr vs.length p/\qY lt p vs.length/\s'={ s with heap:=((s.heap.update a (VP fun _=>(#[]:Array Uq))).push (seqObj "tuple" vs.toArray 0)).push (seqObj "list" #[] 0) })
   (G:=fun p s'=>Arr vs.length p/\qY lt p vs.length/\s'={ s with heap:=((s.heap.update a (VP fun _=>(#[]:Array Uq))).push (seqObj "tuple" vs.toArray 0)).push (seqObj "list" #[] 0) })
   rfl (by omega) LS (fun p' eG s' a1 a2 a3 a4=>⟨p',a2,a3,a4.1,a4.2.1,a4.2.2⟩) ((B5 W (n:=vs.length) (by omega)).wp (fun i j C h3 h4 h5=>hc _ keep i j C h3 h4 h5) fun p hp=>⟨hp.1,hp.2,rfl⟩)) ?_ fun _ _ e=>e)
  rintro⟨⟨⟩,eG⟩ s' ⟨p,Rw,hf,hp,MM,rfl⟩;dsimp only;have MN:=kat_snds (ks:=vs) rfl Rw
  have hsz:(Ye (p.toList.map fun i=>vs.getD i VJ)).size=vs.length:=by rw [VO,Lm9,VK,hp.1]
  rw [MN];refine Ui (seqEpoch_at Jg rfl ?_);refine Ui (listUpdate_at Jg rfl ?_ (U4 _) (UO (XM hsz) (by rw [VV];omega)));rw [hf];simp only [bne_self_eq_false,UC,if_false];exact Uk (Jh p _ hp MM rfl)
end
noncomputable def tQ (A:Vj) (s:Uu) (u v:Uq) (b:Bool):Prop :=
 ∀(prog:VB) (w:Wy) (E:Uq->Uu->Prop) (Q:Uq->Uu->Prop),Q (.bool b) s->UK (model prog w) A (richCompare .Lt u v) Q E s
inductive Bf (A:Vj) (s:Uu):List Uq->List Uq->Bool->Prop
 | nn:Bf A s [] [] false
 | nc {w:Uq} {ws:List Uq}:Bf A s [] (w::ws) true
 | cn {v:Uq} {vs:List Uq}:Bf A s (v::vs) [] false
 | eq {v w:Uq} {vs ws:List Uq} {r:Bool} (e:WB A s v w true) (h:Bf A s vs ws r):Bf A s (v::vs) (w::ws) r
 | ne {v w:Uq} {vs ws:List Uq} {r:Bool} (e:WB A s v w false) (h:tQ A s v w r):Bf A s (v::vs) (w::ws) r
section
open PySem.SeqAt
open PySem.AutoSeq1 (wpAny_loadPart')
open PySem.MeetsSeq PySem.MeetsSeq2 PySem.MeetsSeq3
theorem pL (l b:U2) (items gM:Array Uq) (n n2:Nat) (dd MO:Option U2) (sl MP:Array (Option Uq)) (r:Bool) :
  Meets (Builtin.«tuple.__lt__» ⟨[.ref l,.ref b],[]⟩)
   (fun A R s=>s.heap.get? l=some { cls:=.type "tuple",dict:=dd,data:=.seq items n,slots:=sl }/\s.heap.get? b=some { cls:=.type "tuple",dict:=MO,data:=.seq gM n2,slots:=MP } /\
    Bf A.in1 s items.toList gM.toList r/\R (.ok (.ret (.bool r))) s) :=
 .of_wp fun prog w A R s h=>by
  obtain⟨hp,g,d,tk,os⟩:=s;obtain⟨hl,hb,hd,h⟩:=h;have f2:=Y2
  wp_walk using wpAny_loadPart' hl,wpAny_loadPart' hb,wpAny_forIn_list _ (fun rest b s'=>b.1=none/\s'=⟨hp,g,d,tk,os⟩/\∃(vs ws:List Uq),rest=vs.zip ws /\
   Bf A.in1 ⟨hp,g,d,tk,os⟩ vs ws r/\vs.length+gM.size=ws.length+items.size) _
  case turn =>
   rintro⟨y,x⟩ rest b s' ⟨hb',rfl,vs,ws,hz,MQ,hlen⟩;cases MQ with
   | nn=>cases hz
   | nc=>cases hz
   | cn=>rw [List.zip_nil_right] at hz;cases hz
   | @eq v w' vs' ws' _ e hr =>
    rw [VI] at hz;injection hz with MR hrest;injection MR with hy hx;subst hy hx;simp only [Ut] at hlen;refine Ui (e prog w _ _ ?_)
    wp_walk
    exact⟨rfl,rfl,_,_,hrest,hr,by omega⟩
   | @ne v w' vs' ws' _ e hr =>
    rw [VI] at hz;injection hz with MR hrest;injection MR with hy hx;subst hy hx;refine Ui (e prog w _ _ ?_);have MM:=hr prog w
    wp_walk using MM
    exact⟨_,rfl,by simpa using h⟩
  case fin =>
   rintro⟨b1,b2⟩ s' ⟨hb',rfl,vs,ws,hz,MQ,hlen⟩;simp only at hb';subst hb';have hv:r=decide (items.size<gM.size):=by
    cases MQ with
    | nn=>simp only [UW] at hlen;exact(decide_eq_false (by omega)).symm
    | nc=>simp only [UW,Ut] at hlen;exact(decide_eq_true (by omega)).symm
    | cn=>simp only [UW,Ut] at hlen;exact(decide_eq_false (by omega)).symm
    | eq e hr=>rw [VI] at hz;cases hz
    | ne e hr=>rw [VI] at hz;cases hz
   rw [hv] at h
   wp_walk
   exact⟨_,rfl,by simpa [Builtin.Tuple.tupleCompareSizes] using h⟩
  case h =>
   exact⟨rfl,rfl,items.toList,gM.toList,rfl,hd,by simp;omega⟩
end
theorem tR {A:Vj} {s:Uu} {l b:U2} {items gM:Array Uq} {r:Bool} (hl:IsTup s.heap l items) (hb:IsTup s.heap b gM) (hu:A.units<cLine) (hd:Bf A.in1 s items.toList gM.toList r):tQ A s (.ref l) (.ref b) r:=by
 intro prog w E Q h;obtain⟨⟨cls,dd,data,sl⟩,ho,hc,n,sP⟩:=id hl;obtain⟨⟨Rx,MO,data2,MP⟩,H4,DC,n2,hd2⟩:=id hb;simp only at hc sP DC hd2;subst hc sP DC hd2;exact richCompare_meets_room (op:=.Lt) ⟨_,ho,rfl⟩ ⟨_,H4,rfl⟩ PySem.F.slot_tuple_lt PySem.F.entry_tuple_lt (PySem.F.args_tuple_lt_2 _ _) (pL l b items gM n n2 dd MO sl MP r)
  ⟨ho,H4,hd,show Value.bool r≠Value.notImplemented/\Q (.bool r) s from⟨(fun x=>nomatch x),h⟩⟩ hu
end L2
namespace M
open PySem PySem.Spec PyProof.Rows
noncomputable def nM (f:T->T->Bool):List T->List T->Bool
 | [],[]=>false
 | [],_::_=>true
 | _::_,[]=>false
 | a::r,b::q=>if a=b then nM f r q else f a b
noncomputable def ltN:Nat->T->T->Bool
 | _+1,.int a,.int b=>decide (a<b)
 | _+1,.int _,.str _=>true
 | _+1,.int _,.tup _=>true
 | _+1,.str a,.str b=>decide (a<b)
 | _+1,.str _,.tup _=>true
 | n+1,.tup a,.tup b=>nM (ltN n) a b
 | _,_,_=>false
noncomputable def shl (f:T->T->Bool):List T->List T->Bool
 | a::r,b::q=>f a b && shl f r q
 | _,_=>true
noncomputable def q9:Nat->T->T->Bool
 | _+1,.int _,.int _=>true
 | _+1,.str _,.str _=>true
 | n+1,.tup a,.tup b=>shl (q9 n) a b
 | _,_,_=>false
theorem vd {f:T->T->Bool}:∀a:List T,nM f a a=false
 | []=>rfl
 | a::r=>by rw [nM,if_pos rfl];exact vd r
theorem lU:∀(n:Nat) (a:T),ltN n a a=false
 | 0,a=>by cases a <;> rfl
 | n+1,a=>by
  cases a <;> first|rfl|skip
  ·exact decide_eq_false (Zo _)
  ·exact decide_eq_false (YU _)
  ·exact vd _
theorem ve {f:T->T->Bool} {n:Nat} (hf:∀a b,kd n a=true->kd n b=true->a≠b->f a b=true\/f b a=true):∀a b:List T,a.all (kd n)=true->b.all (kd n)=true->a≠b->nM f a b=true\/nM f b a=true
 | [],[],_,_,h=>absurd rfl h
 | [],_::_,_,_,_=>.inl rfl
 | _::_,[],_,_,_=>.inr rfl
 | a::r,b::q,ha,hb,h=>by
  rw [Vf,Uw] at ha hb;rw [nM,nM];by_cases e:a=b
  ·subst e
   rw [if_pos rfl,if_pos rfl];exact ve hf r q ha.2 hb.2 fun z=>h (by rw [z])
  ·rw [if_neg e,if_neg (VU e)]
   exact hf a b ha.1 hb.1 e
theorem pM {a b:Cs} (h:a≠b):a<b\/b<a:=by
 by_cases h1:a<b
 ·exact .inl h1
 ·by_cases h2:b<a
  ·exact .inr h2
  ·exact absurd (List.le_antisymm (List.not_lt.mp h2) (List.not_lt.mp h1)) h
theorem jJ:∀(n:Nat) (a b:T),kd n a=true->kd n b=true->a≠b->ltN n a b=true\/ltN n b a=true
 | 0,a,_,h,_,_=>(Fv h).elim
 | n+1,a,b,ha,hb,h=>by
  cases a <;> first|cases ha|skip
  ·cases b <;> first|cases hb|skip
   ·rename_i i j
    show decide (i<j)=true\/decide (j<i)=true;rw [decide_eq_true_eq,decide_eq_true_eq];have:i≠j:=fun e=>h (by rw [e])
    omega
   ·exact .inl rfl
   ·exact .inl rfl
  ·cases b <;> first|cases hb|skip
   ·exact .inr rfl
   ·rename_i i j
    show decide (i<j)=true\/decide (j<i)=true;rw [decide_eq_true_eq,decide_eq_true_eq];exact pM fun e=>h (by rw [e])
   ·exact .inl rfl
  ·cases b <;> first|cases hb|skip
   ·exact .inr rfl
   ·exact .inr rfl
   ·exact ve (fun a b=>jJ n a b) _ _ ha hb fun e=>h (by rw [e])
theorem oz {f:T->T->Bool} (DB:∀a,f a a=false) (hf:∀a b c,f a b=true->f b c=true->f a c=true):∀a b c:List T,nM f a b=true->nM f b c=true->nM f a c=true
 | [],[],_,h1,_=>by cases h1
 | [],_::_,[],_,h2=>by cases h2
 | [],_::_,_::_,_,_=>rfl
 | _::_,[],_,h1,_=>by cases h1
 | _::_,_::_,[],_,h2=>by cases h2
 | a::r,b::q,c::t,h1,h2=>by
  rw [nM] at h1 h2 ⊢;by_cases e1:a=b
  ·subst e1
   rw [if_pos rfl] at h1;by_cases e2:a=c
   ·subst e2
    rw [if_pos rfl] at h2 ⊢;exact oz DB hf r q t h1 h2
   ·rw [if_neg e2] at h2 ⊢;exact h2
  ·rw [if_neg e1] at h1
   by_cases e2:b=c
   ·subst e2
    rw [if_neg e1];exact h1
   ·rw [if_neg e2] at h2
    have h3:=hf a b c h1 h2;have e3:a≠c:=fun z=>by subst z;rw [DB] at h3;cases h3
    rw [if_neg e3];exact h3
theorem MS {n:Nat} {a b:T} (h:ltN (n+1) a b=true):(∃i,a=.int i)\/(∃z,a=.str z)\/∃xs,a=.tup xs:=by
 cases a with
 | int i=>exact .inl ⟨i,rfl⟩
 | str z=>exact .inr (.inl ⟨z,rfl⟩)
 | tup xs=>exact .inr (.inr ⟨xs,rfl⟩)
 | _=>cases h
theorem Ji {n:Nat} {i:Int} {b:T} (h:ltN (n+1) (.int i) b=true):(∃j,b=.int j/\i<j)\/(∃z,b=.str z)\/∃xs,b=.tup xs:=by
 cases b with
 | int j=>exact .inl ⟨j,rfl,of_decide_eq_true h⟩
 | str z=>exact .inr (.inl ⟨z,rfl⟩)
 | tup xs=>exact .inr (.inr ⟨xs,rfl⟩)
 | _=>cases h
theorem FH {n:Nat} {z:Cs} {b:T} (h:ltN (n+1) (.str z) b=true):(∃y,b=.str y/\z<y)\/∃xs,b=.tup xs:=by
 cases b with
 | str y=>exact .inl ⟨y,rfl,of_decide_eq_true h⟩
 | tup xs=>exact .inr ⟨xs,rfl⟩
 | _=>cases h
theorem B6 {n:Nat} {xs:List T} {b:T} (h:ltN (n+1) (.tup xs) b=true):∃ys,b=.tup ys/\nM (ltN n) xs ys=true:=by
 cases b with
 | tup ys=>exact⟨ys,rfl,h⟩
 | _=>cases h
theorem dN:∀(n:Nat) (a b c:T),ltN n a b=true->ltN n b c=true->ltN n a c=true
 | 0,a,b,_,h,_=>by cases h
 | n+1,a,b,c,h1,h2=>by
  rcases MS h1 with⟨i,rfl⟩|⟨z,rfl⟩|⟨xs,rfl⟩
  ·rcases Ji h1 with⟨j,rfl,hj⟩|⟨y,rfl⟩|⟨ys,rfl⟩
   ·rcases Ji h2 with⟨k,rfl,hk⟩|⟨_,rfl⟩|⟨_,rfl⟩
    ·exact decide_eq_true (Int.lt_trans hj hk)
    ·rfl
    ·rfl
   ·rcases FH h2 with⟨_,rfl,_⟩|⟨_,rfl⟩ <;> rfl
   ·obtain⟨_,rfl,_⟩:=B6 h2;rfl
  ·rcases FH h1 with⟨y,rfl,hy⟩|⟨ys,rfl⟩
   ·rcases FH h2 with⟨x,rfl,hx⟩|⟨_,rfl⟩
    ·exact decide_eq_true (aah hy hx)
    ·rfl
   ·obtain⟨_,rfl,_⟩:=B6 h2;rfl
  ·obtain⟨ys,rfl,hy⟩:=B6 h1
   obtain⟨zs,rfl,hz⟩:=B6 h2;exact oz (lU n) (dN n) _ _ _ hy hz
theorem FI {n:Nat} {f:Nat->T} (hk:∀i,kd n (f i)=true):L2.WO (fun i j=>ltN n (f i) (f j)):=by
 refine⟨fun a b h=>?_,fun a b c h1 h2=>?_⟩
 ·cases e:ltN n (f b) (f a) with
  | false=>rfl
  | true=>have z:=dN n _ _ _ h e;rw [lU] at z;cases z
 ·cases e:ltN n (f c) (f a) with
  | false=>rfl
  | true =>
   by_cases e1:f a=f b
   ·rw [e1] at e;rw [e] at h2;cases h2
   ·rcases jJ n _ _ (hk a) (hk b) e1 with q|q
    ·rw [dN n _ _ _ e q] at h2;cases h2
    ·rw [q] at h1;cases h1
noncomputable def ik (l:List T):Prop:=l.Pairwise fun x y=>ltN 8 y x=false
theorem jK {a b:List T} (hk:a.all (kd 8)=true) (p:a.Perm b) (ha:ik a) (hb:ik b):a=b :=
 List.Perm.eq_of_pairwise (fun x y hx hy h1 h2=>by
  by_cases e:x=y
  ·exact e
  ·have k:=Uo.mp hk
   rcases jJ 8 _ _ (k x hx) (k y (p.mem_iff.mpr hy)) e with q|q
   ·rw [q] at h2;cases h2
   ·rw [q] at h1;cases h1) ha hb p
open Classical in
noncomputable def jL (l:List T):List T:=if h:∃l',l'.Perm l/\ik l' then choose h else l
theorem pN {l l':List T} (hk:l.all (kd 8)=true) (p:l'.Perm l) (h:ik l'):jL l=l':=by
 have ex:∃l',l'.Perm l/\ik l':=⟨l',p,h⟩;unfold jL;rw [dif_pos ex];have z:=Classical.choose_spec ex
 have hk':(Classical.choose ex).all (kd 8)=true:=Uo.mpr fun x hx=>Uo.mp hk x (z.1.mem_iff.mp hx)
 exact jK hk' (z.1.trans p.symm) z.2 h
noncomputable def qH:T->Bool
 | .tup (.str _::_)=>true
 | _=>false
noncomputable def B7:T->Bool
 | .tup (.int _::_)=>true
 | _=>false
noncomputable def iw (fz:Bool):Fn:=fun xs L=>match xs with
 | [x]=>match vw L x with
  | .lst ys=>cx (ys.length<64/\ys.all (kd 8)=true/\(ys.all qH=true\/ys.all B7=true)/\(ys.all fun a=>ys.all fun b=>q9 8 a b)=true) (fF fz (jL ys) L)
  | _=>.bad
 | _=>.bad
end M
namespace M
open PySem PySem.W PySem.Calls PyProof.Rows L2
section
variable {A:Vj} {s:Uu}
theorem DD {n:Nat}:∀(a b:List T) (vs ws:List Uq),vs.length=a.length->ws.length=b.length->shl (q9 n) a b=true ->
  (∀j (h1:j<a.length) (h2:j<b.length) (h3:j<vs.length) (h4:j<ws.length),WB A s vs[j] ws[j] (decide (a[j]=b[j]))/\(q9 n a[j] b[j]=true->tQ A s vs[j] ws[j] (ltN n a[j] b[j])))->Bf A s vs ws (nM (ltN n) a b)
 | [],[],[],[],_,_,_,_=>.nn
 | [],b::q,[],w::ws,_,_,_,_=>.nc
 | a::r,[],v::vs,[],_,_,_,_=>.cn
 | a::r,b::q,v::vs,w::ws,l1,l2,hs,h=>by
  rw [shl,Uw] at hs;obtain⟨h0,h0'⟩:=h 0 (by simp) (by simp) (by simp) (by simp);have h0:WB A s v w (decide (a=b)):=h0
  have h0':q9 n a b=true->tQ A s v w (ltN n a b):=h0';rw [nM];by_cases e:a=b
  ·rw [decide_eq_true e] at h0
   rw [if_pos e];exact .eq h0 (DD r q vs ws (by simpa using l1) (by simpa using l2) hs.2 fun j a1 a2 a3 a4=>h (j+1) (by simpa using a1) (by simpa using a2) (by simpa using a3) (by simpa using a4))
  ·rw [decide_eq_false e] at h0
   rw [if_neg e];exact .ne h0 (h0' hs.1)
 | [],[],_::_,_,l,_,_,_=>by simp at l
 | [],[],[],_::_,_,l,_,_=>by simp at l
 | [],_::_,_::_,_,l,_,_,_=>by simp at l
 | [],_::_,[],[],_,l,_,_=>by simp at l
 | _::_,_,[],_,l,_,_,_=>by simp at l
 | _::_,[],_::_,_::_,_,l,_,_=>by simp at l
 | _::_,_::_,_::_,[],_,l,_,_=>by simp at l
theorem de.lt:∀(n:Nat) {A:Vj} {a b:T} {u v:Uq},kd n a=true->kd n b=true->q9 n a b=true->A.units+n<cLine->de s.heap a u->de s.heap b v->tQ A s u v (ltN n a b)
 | 0,_,a,_,_,_,h,_,_,_,_,_=>(Fv h).elim
 | n+1,A,a,b,u,v,ha,hb,hs,hu,ka,kb=>by
  cases ka with
  | int i t =>
   cases kb with
   | int j t2=>exact fun prog w E Q h=>(PyProof.Rows.lt_int h:UK (model prog w) A (compareOp .Lt _ _) Q E s)
   | _=>cases hs
  | str z t =>
   cases kb with
   | str z2 t2=>exact fun prog w E Q h=>(Z8 (show Q (.bool (decide ((⟨z.toArray⟩:Str).cps.toList<(⟨z2.toArray⟩:Str).cps.toList))) s from h):UK (model prog w) A (compareOp .Lt _ _) Q E s)
   | _=>cases hs
  | tup ho hc hd hl hi =>
   cases kb with
   | tup ho' hc' hd' hl' hi' =>
    rename_i a1 o1 i1 n1 x1 a2 o2 i2 n2 x2;refine tR ⟨_,ho,hc,_,hd⟩ ⟨_,ho',hc',_,hd'⟩ (by omega) (DD x1 x2 i1.toList i2.toList (by simp [hl]) (by simp [hl']) hs fun j c1 c2 c3 c4=>?_);have k1:=hi j _ _ (Ge9 c1) (show i1[j]?=some i1.toList[j] by simp)
    have k2:=hi' j _ _ (Ge9 c2) (show i2[j]?=some i2.toList[j] by simp);have d1:=hO ha (Ge9 c1)
    have d2:=hO hb (Ge9 c2);exact⟨de.eq n d1 d2 (by show A.units+1+n<cLine;omega) k1 k2,fun sh=>de.lt n d1 d2 sh (by show A.units+1+n<cLine;omega) k1 k2⟩
   | _=>cases hs
end
section
variable {prog:VB} {w:Wy} {A:Vj} {E:Uq->Uu->Prop} {s:Uu} {Q:Bool->Uu->Prop} {n:Nat}
theorem kat_tail:∀(a b:List T) (vs ws:List Uq) (i:Nat),0<i->vs.length=a.length->ws.length=b.length->shl (q9 n) a b=true ->
  (∀j (h1:j<a.length) (h2:j<b.length) (h3:j<vs.length) (h4:j<ws.length),WB A s vs[j] ws[j] (decide (a[j]=b[j]))/\(q9 n a[j] b[j]=true->tQ A s vs[j] ws[j] (ltN n a[j] b[j]))) ->
  ∀fin,fin=decide (vs.length<ws.length)->Q (nM (ltN n) a b) s->KatLex prog w A true fin Q (vs.zip ws) i s
 | [],[],[],[],i,_,_,_,_,_,fin,hf,h=>by rw [nM] at h;simp at hf;subst hf;exact kat_nil h
 | [],b::q,[],w'::ws,i,_,_,_,_,_,fin,hf,h=>by rw [nM] at h;simp at hf;subst hf;exact kat_nil h
 | a::r,[],v::vs,[],i,_,_,_,_,_,fin,hf,h=>by rw [nM] at h;simp at hf;subst hf;exact kat_nil h
 | a::r,b::q,v::vs,w'::ws,i,hi,l1,l2,hs,hx,fin,hf,h=>by
  rw [shl,Uw] at hs;obtain⟨h0,h0'⟩:=hx 0 (by simp) (by simp) (by simp) (by simp);have h0:WB A s v w' (decide (a=b)):=h0
  have h0':q9 n a b=true->tQ A s v w' (ltN n a b):=h0';rw [nM] at h;rw [VI];refine kat_cons (h0 prog w _ _ ?_);by_cases e:a=b
  ·rw [if_pos e] at h
   rw [decide_eq_true e];exact kat_yes (kat_tail r q vs ws (i+1) (by omega) (by simpa using l1) (by simpa using l2) hs.2 (fun j a1 a2 a3 a4=>hx (j+1) (by simpa using a1) (by simpa using a2) (by simpa using a3) (by simpa using a4)) fin (by simpa using hf) h)
  ·rw [if_neg e] at h
   rw [decide_eq_false e];refine kat_no ?_;have ei:(true && i == 0)=false:=by
    simp only [Xp,beq_eq_false_iff_ne];omega
   rw [ei];exact kat_one _ _ (h0' hs.1 prog w _ _ h)
 | [],[],_::_,_,_,_,l,_,_,_,_,_,_=>by simp at l
 | [],[],[],_::_,_,_,_,l,_,_,_,_,_=>by simp at l
 | [],_::_,_::_,_,_,_,l,_,_,_,_,_,_=>by simp at l
 | [],_::_,[],[],_,_,_,l,_,_,_,_,_=>by simp at l
 | _::_,_,[],_,_,_,l,_,_,_,_,_,_=>by simp at l
 | _::_,[],_::_,_::_,_,_,_,l,_,_,_,_,_=>by simp at l
 | _::_,_::_,_::_,[],_,_,_,l,_,_,_,_,_=>by simp at l
theorem Jj {t u:T} {vx vy:Uq} (hA:A.units+8<cLine) (hk:kd 8 t=true) (hk':kd 8 u=true) (hh:(qH t=true/\qH u=true)\/(B7 t=true/\B7 u=true)) (hs:q9 8 t u=true) (k1:de s.heap t vx) (k2:de s.heap u vy) (hC:Q (ltN 8 t u) s) :
  UK (model prog w) A (keyLt' (tuples' true) vx vy) Q E s:=by
 have go:∀{a b:T} {r q:List T},t=.tup (a::r)->u=.tup (b::q)->((∃x y,a=.str x/\b=.str y)\/∃x y,a=.int x/\b=.int y)->UK (model prog w) A (keyLt' (tuples' true) vx vy) Q E s:=fun {a b r q} et eu hab=>by
  subst et eu;cases k1 with
  | tup ho hc hd hl hi =>
   cases k2 with
   | tup ho' hc' hd' hl' hi' =>
    rename_i a1 o1 i1 n1 a2 o2 i2 n2;have Pn:∀j (h:j<(a::r).length) (h':j<i1.toList.length),de s.heap (a::r)[j] i1.toList[j]:=fun j h h'=>hi j _ _ (Ge9 h) (by simp)
    have at2:∀j (h:j<(b::q).length) (h':j<i2.toList.length),de s.heap (b::q)[j] i2.toList[j]:=fun j h h'=>hi' j _ _ (Ge9 h) (by simp)
    refine kat_lt ho hd ho' hd' ?_;obtain⟨l1⟩:=i1;obtain⟨l2⟩:=i2;simp only [VO] at hl hl';cases l1 with
    | nil=>simp at hl
    | cons v vs =>
     cases l2 with
     | nil=>simp at hl'
     | cons w' ws =>
      have e0:=Pn 0 (by simp) (by simp);have f0:=at2 0 (by simp) (by simp)
      have e0:de s.heap a v:=e0;have f0:de s.heap b w':=f0
      have hs:shl (q9 7) (a::r) (b::q)=true:=hs;rw [shl,Uw] at hs;have Po:(a::r).all (kd 7)=true:=hk
      have Pp:(b::q).all (kd 7)=true:=hk';have hC:Q (nM (ltN 7) (a::r) (b::q)) s:=hC
      rw [nM] at hC;have q0:=de.eq 7 (s:=s) (A:=A) (hO Po (i:=0) rfl) (hO Pp (i:=0) rfl) (by omega) e0 f0
      show KatLex prog w A true _ Q ((v::vs).zip (w'::ws)) 0 s;rw [VI];refine kat_cons (q0 prog w _ _ ?_);by_cases e:a=b
      ·rw [if_pos e] at hC
       rw [decide_eq_true e];refine kat_yes (kat_tail (n:=7) r q vs ws 1 (by omega) (by simpa using hl.symm) (by simpa using hl'.symm) hs.2 (fun j c1 c2 c3 c4=>?_) _ (by simp) hC);have z1:de s.heap r[j] vs[j]:=Pn (j+1) (by simpa using c1) (by simpa using c3)
       have z2:de s.heap q[j] ws[j]:=at2 (j+1) (by simpa using c2) (by simpa using c4);have d1:kd 7 r[j]=true:=hO Po (i:=j+1) (by simp [c1])
       have d2:kd 7 q[j]=true:=hO Pp (i:=j+1) (by simp [c2]);exact⟨de.eq 7 d1 d2 (by omega) z1 z2,fun sh=>de.lt 7 d1 d2 sh (by omega) z1 z2⟩
      ·rw [if_neg e] at hC
       rw [decide_eq_false e];refine kat_no ?_;show UK (model prog w) A (oneLt' true v w') Q _ s
       rcases hab with⟨x,y,rfl,rfl⟩|⟨x,y,rfl,rfl⟩
       ·cases e0;cases f0
        exact oneLt_str hC
       ·cases e0;cases f0
        exact oneLt_int hC
 rcases hh with⟨h1,h2⟩|⟨h1,h2⟩
 ·unfold qH at h1 h2
  split at h1
  ·split at h2
   ·exact go rfl rfl (.inl ⟨_,_,rfl,rfl⟩)
   ·cases h2
  ·cases h1
 ·unfold B7 at h1 h2
  split at h1
  ·split at h2
   ·exact go rfl rfl (.inr ⟨_,_,rfl,rfl⟩)
   ·cases h2
  ·cases h1
end
section
variable {X:Cx}
theorem oA {h:Heap}:∀{vs fs:List Uq},vs.length=fs.length->(∀i (h1:i<vs.length) (h2:i<fs.length),∃a o xs n,vs[i]=.ref a/\h.get? a=some o/\o.cls=.type "tuple"/\o.data=.seq xs n/\xs[0]?=some fs[i])->KatTups h vs fs
 | [],[],_,_=>.nil
 | [],_::_,l,_=>by simp at l
 | _::_,[],l,_=>by simp at l
 | v::vs,f::fs,l,hh=>by
  obtain⟨a,o,xs,n,e,e1,e2,e3,e4⟩:=hh 0 (by simp) (by simp);have e:v=.ref a:=e
  have e4:xs[0]?=some f:=e4;subst e;exact .cons e1 e2 e3 e4 (oA (by simpa using l) fun i h1 h2=>hh (i+1) (by simpa using h1) (by simpa using h2))
theorem vg {g:G} {ys:List T} {us:List Uq} (r:cP g ys us):∀(p:List Nat),(∀i∈p,i<ys.length)->cP g (p.map fun i=>ys.getD i (.int 0)) (p.map fun i=>us.getD i VJ)
 | [],_=>.nil
 | i::p,h=>by
  refine .cons ?_ (vg r p fun j hj=>h j (Up _ hj));have hi:=h i Um
  obtain⟨u,e,q⟩:=sY r (Ge9 hi);simp only [Gd9,e,Ge9 hi,WA];exact q
theorem B8 {pins:bg} {φ:Fr} {g:G} {L L2:aa} {s:Uu} {fz:Bool} {xs:List T} {us:List Uq} {w:T} {t' n:Nat} {h':Heap} {a:U2} (I:Inv X pins φ g L s) (r:cP g xs us) (h:fF fz xs L=.ok w L2) (k:∀b u,s.heap.get? b=some u->h'.get? b=some u) (ha:s.heap.objs.size<=a) (new:h'.get? a=some { cls:=.type "list",data:=.seq us.toArray n }) :
  EP X pins φ g w L2 (.ref a) { s with heap:=h',toks:=t' }:=by
 have f:=I.hok.fresh ha;unfold fF cx at h;split at h
 ·rename_i hz
  unfold mk at h;split at h
  ·cases h
   exact⟨_,Le.lay f,I.laid k ha new,r.lst (n:=n) (o:=default) (Le.lay f) (.inl rfl) (.inl aw) hz⟩
  ·cases h
   refine⟨_,Le.new f,I.new k ha new (r.lst (n:=n) (o:=default) (Le.new f) (.inr rfl) (.inl aw) hz),?_⟩;have:=I.rel.len
   exact .ref (p:=(a,a)) (by show at_ ((_,_)::g.α) _=_;rw [<- this];exact fq)
 ·cases h
end
end M
namespace M
open PySem PySem.Spec PyProof.Rows
open Classical in
noncomputable def rf:List T->List T
 | []=>[]
 | x::r=>if x∈r then rf r else x::rf r
noncomputable def cS (ys:List T):Prop:=ys.length<64/\ys.all (kd 8)=true/\(ys.all qH=true\/ys.all B7=true)/\(ys.all fun a=>ys.all fun b=>q9 8 a b)=true
noncomputable instance (ys:List T):Decidable (cS ys):=by unfold cS;exact inferInstance
noncomputable def mJ (fz:Bool):Fn:=fun xs L=>match xs with
 | [x]=>match vw L x with
  | .lst ys=>cx (cS ys/\ys.all (kd 6)=true/\ys.all qH=true) (fF fz (jL (rf ys)) L)
  | _=>.bad
 | _=>.bad
noncomputable def kr (fz:Bool):Fn:=fun xs L=>match xs with
 | [x]=>match vw L x with
  | .aS ks=>cx (cS (br ks)) (fF fz (jL (br ks)) L)
  | _=>.bad
 | _=>.bad
noncomputable def ia:Fn:=fun xs L=>match xs with
 | [x,y]=>match vw L x,vw L y with
  | .lst a,.lst b=>cx (a.length<=b.length) (xC (zp a b) L)
  | .lst a,.tup b=>cx (a.length<=b.length) (xC (zp a b) L)
  | _,_=>.bad
 | _=>.bad
noncomputable def Ry:T->Fn:=fun x ts L=>match x,ts with
 | .ref n,[t]=>match at_ L n with
  | some (.lst xs)=>cx (dat 8 t=true/\xs.all (dat 8)=true) (match xs.findIdx? fun y=>eqT y t with
   | some j=>.ok .cm (put L n (.lst (xs.eraseIdx j)))
   | none=>.bad)
  | _=>.bad
 | _,_=>.bad
noncomputable def FJ (L:aa) (t:T) (L':aa):R T:=match t with
 | .ref n=>match at_ L' n with
  | some (.lst xs)=>cx (L.length<=n) (fin L (.lst xs) (put L' n (.ref n)) |>.bind fun t L1=>.ok (.ref L.length) (t::L1))
  | _=>.bad
 | _=>.bad
noncomputable def Ca (np nn:Nat) (b:SS):Fn:=fun xs L=>if xs.length=np then match b (xs.map some++U3 (nn - np) none) L with
  | .rt t L'=>FJ L t L'
  | _=>.bad
 else .bad
end M
namespace M
open PySem
structure Ct where
 fn:List (Str × Fn)
 co:List (Str × T)
 me:List (Str × List (Str × Fn))
 fl:List Str
 us:List Str
 lv:List (Nat × Nat)
structure Sg where
 N:List Str
 sc:Scope
structure Bd where
 E:Expr->SE
 T:Expr->ST
 S:Stmt->SS
noncomputable def Ct.fz (Γ:Ct) (p:Pos):Bool:=!(Γ.lv.any fun q=>q.1 == p.line && q.2 == p.col)
noncomputable def H5 (N:List Str) (x:Str):Option Nat:=N.findIdx? (· == x)
noncomputable def Sg.at (S:Sg) (x:Str):Option Nat:=match S.sc.names.lookup x with
 | some .local=>H5 S.N x
 | some .cell=>H5 S.N x
 | some .free=>H5 S.N x
 | _=>none
noncomputable def Sg.own (S:Sg) (x:Str):Option Nat:=match S.sc.names.lookup x with
 | some .local=>H5 S.N x
 | some .cell=>H5 S.N x
 | _=>none
noncomputable def Sg.gl (S:Sg) (x:Str):Bool:=match S.sc.names.lookup x with
 | some .globalImplicit=>true
 | _=>false
noncomputable def vi (n:Nat) (k:Int):SE:=b2 (v n) (c (.int k)) ix
noncomputable def blt (x:Str) (fz:Bool):Option Fn:=[(("len":Str),bM),("list",fo fz),("tuple",iY),("all",qM),("any",wj),("min",xy),("str",sW),("int",wm),("dict",jx),("sorted",iw fz)].lookup x
noncomputable def S (s:String):Cs:=(VX s).cps.toList
noncomputable def aI:Ty->Option (T->Fn):=fun y=>match y with|.l=>some Bm|_=>none
noncomputable def iy:Ty->Option (T->Fn):=fun y=>match y with|.l=>some xA|_=>none
noncomputable def iR:Ty->Option (T->Fn):=fun y=>match y with|.l=>some uM|.t=>some uN|_=>none
noncomputable def pO:Ty->Option (T->Fn):=fun y=>match y with|.t=>some Bn|_=>none
noncomputable def ku:Ty->Option (T->Fn):=fun y=>match y with|.s=>some kZ|_=>none
noncomputable def lV (fz:Bool):Ty->Option (T->Fn):=fun y=>match y with|.s=>some (mr fz)|_=>none
noncomputable def lW:Ty->Option (T->Fn):=fun y=>match y with|.s=>some mw|_=>none
noncomputable def cQ:Ty->Option (T->Fn):=fun y=>match y with|.d=>some iZ|_=>none
noncomputable def gN:Ty->Option (T->Fn):=fun y=>match y with|.d=>some xB|_=>none
noncomputable def Pq (x:Str) (fz:Bool):Option (Ty->Option (T->Fn)):=[(("append":Str),aI),("extend",iy),("count",iR),("index",pO),("join",ku),("split",lV fz),("strip",lW),("get",cQ),("setdefault",gN)].lookup x
noncomputable def ky:List SE->SE
 | []=>no
 | a::r=>match r with
  | []=>a
  | _::_=>Bl a (ky r)
noncomputable def Bg:List SE->SE
 | []=>no
 | a::r=>match r with
  | []=>a
  | _::_=>LJ a (Bg r)
noncomputable def jM:List ST->ST
 | []=>no
 | a::r=>match r with
  | []=>a
  | _::_=>Bj a (jM r)
noncomputable def vh:List ST->ST
 | []=>no
 | a::r=>match r with
  | []=>a
  | _::_=>LI a (vh r)
noncomputable def eName (Γ:Ct) (S:Sg) (x:Str):SE:=match S.at x with
 | some i=>v i
 | none=>match S.gl x with
  | true=>match Γ.co.lookup x with
   | some t=>c t
   | none=>match Γ.us.contains x,([(("bool":Str),"bool"),("int","int"),("str","str"),("list","list"),("tuple","tuple")]:List (Str × String)).lookup x with
    | true,some n=>c (.cl (.type n))
    | _,_=>no
  | false=>no
noncomputable def FL:Const->SE
 | .int i=>c (.int i)
 | .bool b=>c (.bl b)
 | .none=>c .cm
 | .str x=>match decide (x.cps.toList.length<=lim) with
  | true=>c (.str x.cps.toList)
  | false=>no
 | _=>no
noncomputable def yL (B:Bd) (a:Expr) (ops:List CmpOp) (es:List Expr):SE:=match ops with
 | []=>no
 | op::r=>match r with
  | []=>match es with
   | [b]=>match behindInMarks op b with
    | false=>b2 (B.E a) (B.E b) (cmp op)
    | true=>no
   | _=>no
  | oh::r'=>match r' with
   | []=>match es with
    | [b,d]=>match lastMarks [op,oh] [b,d] with
     | false=>wh op oh (B.E a) (B.E b) (B.E d)
     | true=>no
    | _=>no
   | _::_=>no
noncomputable def LV (B:Bd) (a b:Expr):SE:=match wB b with
 | true=>b2 (B.E a) (B.E b) ix
 | false=>no
noncomputable def Jk (Γ:Ct) (B:Bd) (a b:Expr) (p:Pos):SE:=match b with
 | .Slice lo hi st _=>match st with
  | none=>sl (Γ.fz p) (B.E a) (lo.map B.E) (hi.map B.E)
  | some _=>LV B a b
 | _=>LV B a b
noncomputable def FN (a:Option Nat) (b:Option (List Nat)):Option (List Nat):=match a with
 | some i=>match b with
  | some is=>some (i::is)
  | none=>none
 | none=>none
noncomputable def yM (S:Sg):List Expr->Option (List Nat)
 | []=>some []
 | .Name x _::r=>FN (S.own x) (yM S r)
 | _=>none
noncomputable def MT (S:Sg):Expr->Option Tg
 | .Name x _=>(S.own x).map .one
 | .Tuple ts _ _=>(yM S ts).map .many
 | _=>none
noncomputable def isTup:Expr->Bool
 | .Tuple ..=>true
 | _=>false
noncomputable def DE (Γ:Ct) (B:Bd) (S:Sg) (tg e:Expr) (x:Str) (es:List Expr):SI:=match S.gl x && Γ.us.contains x && es.all bo with
 | true=>match x == ("range":Str) with
  | true=>match es with
   | [a]=>xw (c (.int 0)) (B.E a)
   | [a,b]=>xw (B.E a) (B.E b)
   | _=>src (B.E e)
  | false=>match es with
   | [a]=>match x == ("enumerate":Str) with
    | true=>match isTup tg with
     | true=>LK (B.E a)
     | false=>src (B.E e)
    | false=>src (B.E e)
   | _=>src (B.E e)
 | false=>src (B.E e)
noncomputable def stI (Γ:Ct) (B:Bd) (S:Sg) (tg e:Expr):SI:=match e with
 | .Call (.Name x _) es [] _=>DE Γ B S tg e x es
 | e=>src (B.E e)
noncomputable def inN (sc:Scope):List Str:=(sc.names.filter fun y=>match y.2 with
 | .local=>true
 | .free=>true
 | _=>false).map (·.1)
noncomputable def yN (x:Str):Bool:=!(x == ("__debug__":Str)) && !(x == ("__classdict__":Str))
noncomputable def tS (S:Sg) (sc:Scope):Bool:=(match sc.kind with
  | .function=>true
  | _=>false) && (sc.names.all fun y=>match y.2 with
  | .cell=>false
  | .local=>(match sc.names.lookup y.1 with
   | some .local=>true
   | _=>false)
  | .free=>(match S.sc.names.lookup y.1 with
   | some .cell=>true
   | some .free=>true
   | _=>false)
  | _=>true) && decide (inN sc).Nodup && (inN sc).all yN
noncomputable def aZ (S:Sg) (sc:Scope):List (Option Nat):=(inN sc).map fun y=>match sc.names.lookup y with
 | some .free=>S.at y
 | _=>none
noncomputable def tests (B:Bd):List Expr->ST
 | []=>yes
 | [k]=>B.T k
 | _=>no
noncomputable def oB (Γ:Ct) (B:Sg->Bd) (S:Sg) (elt tg iter:Expr) (ifs:List Expr) (sc:Scope) (p:Pos):SE :=
 match MT ⟨inN sc,sc⟩ tg with
 | some t=>match tS S sc && jj iter && t.slots.all (fun i=>match (aZ S sc)[i]? with
   | some none=>true
   | _=>false) with
  | true=>comp (Γ.fz p) (stI Γ (B S) S tg iter) (aZ S sc) t (tests (B ⟨inN sc,sc⟩) ifs) ((B ⟨inN sc,sc⟩).E elt)
  | false=>no
 | none=>no
noncomputable def DF (Γ:Ct) (S:Sg) (fz:Bool) (x y:Str) (es:List Expr):Option (Fn × List Expr):=match S.gl y && Γ.us.contains y && es.all bo && (Γ.fn.lookup y).isNone with
 | true=>match x == ("sorted":Str) && y == ("set":Str) with
  | true=>match es with
   | [e]=>some (mJ fz,[e])
   | _=>none
  | false=>match x == ("dict":Str) && y == ("zip":Str) with
   | true=>match es with
    | [a,b]=>some (ia,[a,b])
    | _=>none
   | false=>none
 | false=>none
noncomputable def DG (fz:Bool) (x:Str) (o:Expr) (m:Str) (ap q:Pos):Option (Fn × List Expr):=match okBase o && (ap.endLine == q.line) && x == ("sorted":Str) && m == ("items":Str) && bo o with
 | true=>some (kr fz,[o])
 | false=>none
noncomputable def nest (Γ:Ct) (S:Sg) (fz:Bool) (x:Str) (l:List Expr):Option (Fn × List Expr):=match l with
 | [e]=>match e with
  | .Call f es ks q=>match ks with
   | []=>match f with
    | .Name y _=>DF Γ S fz x y es
    | .Attribute o m ap=>match es with
     | []=>DG fz x o m ap q
     | _=>none
    | _=>none
   | _=>none
  | _=>none
 | _=>none
noncomputable def yO (Γ:Ct) (B:Bd) (S:Sg) (x:Str) (es:List Expr) (p:Pos):SE:=match S.gl x && es.all bo with
 | true=>match Γ.fn.lookup x with
  | some F=>ae F (es.map B.E)
  | none=>match Γ.us.contains x && !es.isEmpty,blt x (Γ.fz p) with
   | true,some F=>match nest Γ S (Γ.fz p) x es with
    | some q=>ae q.1 (q.2.map B.E)
    | none=>ae F (es.map B.E)
   | _,_=>no
 | false=>no
noncomputable def yP (Γ:Ct) (B:Bd) (o:Expr) (m:Str) (ap:Pos) (es:List Expr) (p:Pos):SE:=match okBase o && es.all bo && decide (es.length<30) && ap.endLine == p.line with
 | true=>match Γ.me.lookup m with
  | some mf=>oY m (fun y=>mf.lookup y) (B.E o) (es.map B.E)
  | none=>match Pq m (Γ.fz p) with
   | some f=>aU f (B.E o) (es.map B.E)
   | none=>no
 | false=>no
noncomputable def DH (Γ:Ct) (B:Sg->Bd) (S:Sg):Expr->SE
 | .Name x _=>eName Γ S x
 | .Constant k _ _=>FL k
 | .BinOp a op b p=>b2 ((B S).E a) ((B S).E b) (bf (Γ.fz p) op)
 | .UnaryOp .Not a _=>mq ((B S).E a)
 | .UnaryOp .USub a _=>b1 ((B S).E a) neg
 | .BoolOp .And es _=>ky (es.map (B S).E)
 | .BoolOp .Or es _=>Bg (es.map (B S).E)
 | .Compare a ops es _=>yL (B S) a ops es
 | .IfExp k a b _=>Mj ((B S).T k) ((B S).E a) ((B S).E b)
 | .List es p=>match es.all bo with
  | true=>lst (Γ.fz p) (es.map (B S).E)
  | false=>no
 | .Tuple es _ _=>match es.all bo && decide (es.length<=1000) with
  | true=>tup (es.map (B S).E)
  | false=>no
 | .Dict [] [] p=>wi (Γ.fz p)
 | .Subscript a b p=>Jk Γ (B S) a b p
 | .Attribute o f _=>match okBase o && Γ.fl.contains f with
  | true=>b1 ((B S).E o) (fld f)
  | false=>no
 | .ListComp elt [⟨tg,iter,ifs,0⟩] sc p=>oB Γ B S elt tg iter ifs sc p
 | .Call (.Name x _) es [] p=>yO Γ (B S) S x es p
 | .Call (.Attribute o m ap) es [] p=>yP Γ (B S) o m ap es p
 | _=>no
noncomputable def Pt (B:Bd) (own:Expr->SE):Expr->ST
 | .UnaryOp .Not a _=>eL (B.T a)
 | .BoolOp .And es _=>jM (es.map B.T)
 | .BoolOp .Or es _=>vh (es.map B.T)
 | .Compare a ops es p=>tv (own (.Compare a ops es p))
 | .Name x p=>tv (own (.Name x p))
 | .Call f es ks p=>tv (own (.Call f es ks p))
 | .Subscript a b p=>tv (own (.Subscript a b p))
 | .Attribute o f p=>tv (own (.Attribute o f p))
 | .Constant k n p=>tv (own (.Constant k n p))
 | _=>no
noncomputable def DI:Expr->Bool
 | .Call ..=>true
 | .Name ..=>true
 | .Subscript ..=>true
 | .Attribute ..=>true
 | _=>false
noncomputable def MU (gs:List Comprehension):Option (Expr × Expr × List Expr):=match gs with
 | [⟨tg,iter,ifs,0⟩]=>some (tg,iter,ifs)
 | _=>none
noncomputable def Cb (B:Sg->Bd) (S:Sg) (i:Nat) (e:Expr):SS:=match i9 e with
 | true=>asg (.one i) ((B S).E e)
 | false=>gf
noncomputable def wI (Γ:Ct) (B:Sg->Bd) (S:Sg) (tg e:Expr):SS:=match tg with
 | .Name x p=>match S.own x with
  | some i=>match e with
   | .ListComp elt gs sc p=>match MU gs with
    | some (tg,iter,ifs)=>asg (.one i) (oB Γ B S elt tg iter ifs sc p)
    | none=>Cb B S i e
   | _=>Cb B S i e
  | none=>gf
 | .Tuple ts _ _=>match yM S ts,DI e with
  | some is,true=>asg (.many is) ((B S).E e)
  | _,_=>gf
 | .Attribute o f _=>match Γ.fl.contains f && i9 e with
  | true=>jg ((B S).E o) f ((B S).E e)
  | false=>gf
 | .Subscript o i _=>match i9 e with
  | true=>qL ((B S).E o) ((B S).E i) ((B S).E e)
  | false=>gf
 | _=>gf
noncomputable def H6 (Γ:Ct) (B:Sg->Bd) (S:Sg):Stmt->SS
 | .Pass _=>pass
 | .Break _=>brk
 | .Continue _=>cnt
 | .Expr e _=>match i9 e with
  | true=>gg ((B S).E e)
  | false=>gf
 | .Return none _=>ret (c .cm)
 | .Return (some e) _=>ret ((B S).E e)
 | .If k a b _=>iff ((B S).T k) (ab (a.map (B S).S)) (ab (b.map (B S).S))
 | .Assign [tg] e _=>wI Γ B S tg e
 | .AugAssign (.Name x _) op e _=>match S.own x with
  | some i=>aug op i ((B S).E e)
  | none=>gf
 | .AugAssign (.Subscript o i _) op e _=>match wB i with
  | true=>xx op ((B S).E o) ((B S).E i) ((B S).E e)
  | false=>gf
 | .For tg e b [] _=>match MT S tg,jj e with
  | some t,true=>cf (stI Γ (B S) S tg e) t (ab (b.map (B S).S))
  | _,_=>gf
 | .While k b [] _=>qD ((B S).T k) (ab (b.map (B S).S)) lim
 | _=>gf
noncomputable def step (Γ:Ct) (B:Sg->Bd) (S:Sg):Bd:=⟨DH Γ B S,Pt (B S) (DH Γ B S),H6 Γ B S⟩
noncomputable def cX (Γ:Ct):Nat->Sg->Bd
 | 0,_=>⟨fun _=>no,fun _=>no,fun _=>gf⟩
 | n+1,S=>step Γ (cX Γ n) S
noncomputable def code (Γ:Ct) (S:Sg) (b:List Stmt):SS:=ab (b.map (cX Γ 40 S).S)
end M
namespace M
open PySem PySem.W PySem.Calls PyProof.Rows L2
section
variable {X:Cx} {pins:bg} {φ:Fr} {g:G} {L L':aa} {s:Uu}
theorem mL {A:Vj} {E:Uq->Uu->Prop} {fz:Bool} {ts:List T} {its:List Uq} {w:T} (hu:A.units+8<cLine) (I:Inv X pins φ g L s) (rr:cP g ts its) (ok:cS ts) (h:fF fz (jL ts) L=.ok w L') :
  UK (model X.prog X.w) A (Builtin.«list.sort» ⟨[.ref s.heap.objs.size],[]⟩) (fun fin s'=>fin=.done (.ret .none)/\EP X pins φ g w L' (.ref s.heap.objs.size) s') E { s with heap:=s.heap.push (seqObj "list" its.toArray 0) }:=by
 obtain⟨LS,hk,hh,hs⟩:=ok;have nD:∀b o,s.heap.get? b=some o->b≠s.heap.objs.size:=fun b o q=>U0 (UP q)
 have FO:∀b o,s.heap.get? b=some o->(s.heap.push (seqObj "list" its.toArray 0)).get? b=some o:=fun b o q=>Uj _ q
 have hlen:its.length=ts.length:=(UL rr).symm;have hk':=Uo.mp hk
 have Rz:∀i,kd 8 (ts.getD i (.int 0))=true:=fun i=>by
  cases e:ts[i]? with
  | none=>simp only [Gd9,e,Zx];rfl
  | some x=>simp only [Gd9,e,WA];exact hk' x (U7 e)
 have MV:∀{h':Heap},(∀b o,s.heap.get? b=some o->h'.get? b=some o)->∀i (hi:i<ts.length) (hi':i<its.length),de h' ts[i] its[i]:=fun {h'} kp i hi hi' =>
  (I.kept (t':=s.toks) kp).Fw 8 (hk' _ (UJ hi)) (wo rr i _ _ (Ge9 hi) (Ge9 hi'))
 refine nV (κ:=tuples' true) (lt:=fun i j=>ltN 8 (ts.getD i (.int 0)) (ts.getD j (.int 0))) (FI Rz) (Us _ rfl) (by omega) (fun h2 h' kp Q' hQ=>?_) (fun h' kp i j C hi hj hC=>?_) fun p h' c hp hr kp e'=>?_
 ·have hf:∀i:_root_.Fin its.length,∃f:Uq,(∃a o xs n,its[i.1]=.ref a/\h'.get? a=some o/\o.cls=.type "tuple"/\o.data=.seq xs n/\xs[0]?=some f)/\((ts.all qH=true->typeOf f=pure (.type "str"))/\(ts.all B7=true->typeOf f=pure (.type "int"))):=fun⟨i,hi⟩=>by
   have hit:i<ts.length:=by omega
   have k:=MV (fun b o q=>kp b o (nD b o q) (FO b o q)) i hit hi;have tup:∃b r,ts[i]=.tup (b::r):=by
    rcases hh with hh|hh
    ·have z:=Uo.mp hh _ (UJ hit)
     unfold qH at z;split at z
     ·rename_i e;exact⟨_,_,e⟩
     ·cases z
    ·have z:=Uo.mp hh _ (UJ hit)
     unfold B7 at z;split at z
     ·rename_i e;exact⟨_,_,e⟩
     ·cases z
   obtain⟨b,r,et⟩:=tup;have hS:ts.all qH=true->∃x,b=.str x:=fun z=>by
    have z:=Uo.mp z _ (UJ hit);rw [et] at z;cases b <;> first|exact⟨_,rfl⟩|cases z
   have hI:ts.all B7=true->∃x,b=.int x:=fun z=>by
    have z:=Uo.mp z _ (UJ hit);rw [et] at z;cases b <;> first|exact⟨_,rfl⟩|cases z
   rw [et] at k;generalize hv:its[i]=vv at k;cases k with
   | tup ho hc hd hl Dz =>
    rename_i a1 o1 i1 n1;have wJ:0<i1.size:=by simp at hl;omega
    have k0:=Dz 0 b i1[0] rfl (Ux wJ);refine⟨i1[0],⟨a1,o1,i1,n1,rfl,ho,hc,hd,Ux wJ⟩,fun z=>?_,fun z=>?_⟩
    ·obtain⟨x,rfl⟩:=hS z
     generalize i1[0]=y at k0;cases k0;rfl
    ·obtain⟨x,rfl⟩:=hI z
     generalize i1[0]=y at k0;cases k0;rfl
  obtain⟨f,hf⟩:=aaq.mp hf;have kt:KatTups h' its (List.ofFn f):=oA (by simp) fun i h1 h2=>by
   rw [List.getElem_ofFn];exact(hf ⟨i,h1⟩).1
  rcases hh with hh|hh
  ·refine kat_kind (s:={ s with heap:=h' }) (T:=.type "str") (by simpa using kt) (by simp at h2 ⊢;omega) (fun v hv=>?_) (by decide) ?_
   ·obtain⟨i,rfl⟩:=(List.mem_ofFn (f:=f) (a:=v)).mp hv
    exact Looks.of_pure ((hf i).2.1 hh)
   ·exact hQ
  ·refine kat_kind (s:={ s with heap:=h' }) (T:=.type "int") (by simpa using kt) (by simp at h2 ⊢;omega) (fun v hv=>?_) (by decide) ?_
   ·obtain⟨i,rfl⟩:=(List.mem_ofFn (f:=f) (a:=v)).mp hv
    exact Looks.of_pure ((hf i).2.2 hh)
   ·exact hQ
 ·have i1:i<ts.length:=by omega
  have j1:j<ts.length:=by omega
  have t1:ts.getD i (.int 0)=ts[i]:=by simp [i1]
  have t2:ts.getD j (.int 0)=ts[j]:=by simp [j1]
  have g1:its.getD i VJ=its[i]:=by rw [Gd9,Ge9 hi];rfl
  have g2:its.getD j VJ=its[j]:=by rw [Gd9,Ge9 hj];rfl
  rw [g1,g2];have hC:C (ltN 8 (ts.getD i (.int 0)) (ts.getD j (.int 0))) _:=hC
  rw [t1,t2] at hC;refine Jj hu (hk' _ (UJ i1)) (hk' _ (UJ j1)) ?_ (Uo.mp (Uo.mp hs _ (UJ i1)) _ (UJ j1)) (MV (fun b o q=>kp b o (nD b o q) (FO b o q)) i i1 hi) (MV (fun b o q=>kp b o (nD b o q) (FO b o q)) j j1 hj) hC;rcases hh with hh|hh
  ·exact .inl ⟨Uo.mp hh _ (UJ i1),Uo.mp hh _ (UJ j1)⟩
  ·exact .inr ⟨Uo.mp hh _ (UJ i1),Uo.mp hh _ (UJ j1)⟩
 ·have hpl:p.toList.Perm (Vp its.length):=hp.2
  have e1:(Vp its.length).map (fun i=>ts.getD i (.int 0))=ts:=by
   rw [hlen];apply V4 (by simp);intro i a1 a2;simp [a2]
  have MW:jL ts=p.toList.map (fun i=>ts.getD i (.int 0)):=by
   refine pN hk ?_ ?_
   ·have z:=hpl.map (fun i=>ts.getD i (.int 0))
    rw [e1] at z;exact z
   ·unfold ik
    rw [Xq,YV];intro i j hi hj tG;have hi':i<p.size:=by simpa using hi
    have hj':j<p.size:=by simpa using hj
    have z:=hr i j tG (by rw [<- hp.1];exact hj');have g1:p.getD i 0=p.toList[i]:=by simp [Wc,hi']
    have g2:p.getD j 0=p.toList[j]:=by simp [Wc,hj']
    rw [g1,g2] at z;exact z
  rw [MW] at h;exact⟨rfl,B8 (s:=s) (t':=s.toks) (n:=c) I (vg rr p.toList fun i hi=>by have:=Vn.mp (hpl.mem_iff.mp hi);omega) h (fun b o q=>kp b o (nD b o q) (FO b o q)) (UH _) e'⟩
theorem Inv.Jl {h':Heap} {tk:Nat} {as:List U2} (I:Inv X pins φ g L s) (kp:∀b o,s.heap.get? b=some o->h'.get? b=some o) (ha:∀a∈as,s.heap.objs.size<=a) :
  ∃g1,Le g g1/\Inv X pins φ g1 L { s with heap:=h',toks:=tk }/\∀a∈as,∀o,h'.get? a=some o->g1.H a=some (true,o):=by
 classical
 let g1:G:={ g with H:=fun b=>if b∈as then (h'.get? b).map fun o=>(true,o) else g.H b }
 have old:∀b,b<s.heap.objs.size->g1.H b=g.H b:=fun b hb=>if_neg fun z=>V0 _ (UY hb (ha b z))
 have lt:∀b x,g.H b=some x->b<s.heap.objs.size:=fun b x q=>UP (I.hok b x.1 x.2 q)
 have l:Le g g1:=⟨fun b o q=>(old b (lt b _ q)).trans q,fun _ _ q=>q,rfl,rfl,rfl⟩;refine⟨g1,l,I.un l ⟨fun b o q _ _=>kp b o q,fun b o q n _=>(old b (UP q)).trans n,l.f⟩ (fun b c o q=>?_) (I.rel.le l rfl fun b o q=>old b (lt b _ q)),fun a hm o q=>?_⟩
 ·by_cases hb:b∈as
  ·have q:(if b∈as then (h'.get? b).map fun o=>(true,o) else g.H b)=some (c,o):=q
   rw [if_pos hb] at q;obtain⟨z,z1,z2⟩:=UA.mp q;cases z2;exact z1
  ·have q:(if b∈as then (h'.get? b).map fun o=>(true,o) else g.H b)=some (c,o):=q
   rw [if_neg hb] at q;exact kp b o (I.hok b c o q)
 ·show(if a∈as then (h'.get? a).map fun o=>(true,o) else g.H a)=_
  rw [if_pos hm,q];rfl
theorem DJ {a:U2} {o:Obj} {es:Array DictEntry} {ep:Nat} {ks:List (T × T)} (D:bO X g s ks a o es ep) (h:(ks.map (·.1)).all j9=true):∃kvs,s.heap.DictAt (hV X.prog X.w) a kvs ep/\kvs.length=ks.length/\∀(i:Nat) k x,kvs[i]?=some (k,x)->∃p,ks[i]?=some p/\p.1=k/\(∃u,RT g none k u)/\RT g none p.2 x:=by
 have sc:∀(i:Nat) p e,ks[i]?=some p->es[i]?=some e->yx p.1 e.key=true:=fun i p e e1 e2 =>
  lR (Uo.mp h _ (UE (U7 e1))) (D.h1 i p e e1 e2)
 have go:∀(l:List DictEntry) (ks:List (T × T)),ks.length=l.length->(∀(i:Nat) p e,ks[i]?=some p->l[i]?=some e->yx p.1 e.key=true)->∃kvs,Pairs (hV X.prog X.w) l kvs/\kvs.length=ks.length/\kvs.map (·.1)=ks.map (·.1)/\kvs.map (·.2)=l.map (·.val):=fun l=>by
  induction l with
  | nil=>intro ks hl _;cases ks with
   | nil=>exact⟨[],.nil,rfl,rfl,rfl⟩
   | cons _ _=>cases hl
  | cons e l ih=>intro ks hl h;cases ks with
   | nil=>cases hl
   | cons p ks =>
    obtain⟨kvs,k1,k2,k3,k4⟩:=ih ks (by simpa using hl) fun i p e e1 e2=>h (i+1) p e (by simpa using e1) (by simpa using e2)
    exact⟨(p.1,e.val)::kvs,.cons (h 0 p e rfl rfl) rfl k1,by simp [k2],by simp [k3],by simp [k4]⟩
 obtain⟨kvs,k1,k2,k3,k4⟩:=go es.toList ks (by simpa using D.hl) fun i p e e1 e2=>sc i p e e1 (by simpa using e2)
 refine⟨kvs,⟨o,es,D.ho,D.hx,D.hd,fun e he=>?_,k1,by rw [k3];exact D.hn⟩,k2,fun i k x q=>?_⟩
 ·obtain⟨i,hi,rfl⟩:=Wk he
  have e1:=Ge9 (l:=ks) (i:=i) (by rw [D.hl];exact hi);exact⟨_,sc i _ _ e1 (Ux hi),D.hh i _ _ e1 (Ux hi)⟩
 ·have e1:(ks.map (·.1))[i]?=some k:=by rw [<- k3,UM,q];rfl
  have e2:(es.toList.map (·.val))[i]?=some x:=by rw [<- k4,UM,q];rfl
  rw [UM] at e1 e2;obtain⟨p,p1,p2⟩:=UA.mp e1;obtain⟨e,q1,q2⟩:=UA.mp e2;have q1:es[i]?=some e:=by simpa using q1
  subst p2 q2;exact⟨p,p1,rfl,⟨_,D.h1 i p e p1 q1⟩,D.h2 i p e p1 q1⟩
theorem rg {ks:List (T × T)} (h:(br ks).all qH=true\/(br ks).all B7=true):(ks.map (·.1)).all j9=true:=by
 rw [Uo];intro k hk;obtain⟨p,hp,rfl⟩:=Ur.mp hk;have m:T.tup [p.1,p.2]∈br ks:=Ur.mpr ⟨p,hp,rfl⟩
 rcases h with h|h
 ·have z:=Uo.mp h _ m
  generalize p.1=q at z ⊢;cases q <;> first|rfl|cases z
 ·have z:=Uo.mp h _ m
  generalize p.1=q at z ⊢;cases q <;> first|rfl|cases z
theorem tU {fz:Bool} {ks:List (T × T)} {w:T} {a r:U2} {o:Obj} {es:Array DictEntry} {ep:Nat} (hu:X.A.units+20<cLine) (I:Inv X pins φ g L s) (D:bO X g s ks a o es ep) (hr:s.heap.get? r=some { cls:=.type "dict_items",data:=.fields #[.ref a] }) (ok:cS (br ks)) (h:fF fz (jL (br ks)) L=.ok w L') :
  UK (model X.prog X.w) X.A (call (.builtin "sorted") [.ref r]) (EP X pins φ g w L') F0 s:=by
 obtain⟨kvs,d1,d2,d3⟩:=DJ D (rg ok.2.2.1);refine XC kind_sorted plain_sorted entry_sorted (args_sorted1 _) ?_;unfold Builtin.«sorted»;refine Ui (m:=checkCount "sorted" 1 1 _) (Uk ?_);refine Ui (PySem.W.kdx_collect (A:=X.A.in1) (knd:=hV X.prog X.w) (kvs:=kvs) (ep:=ep) (d:=a) I.ok.hd ⟨_,hr,rfl,rfl⟩ d1 (by rw [d2];exact D.hz) fun h' tk as kp Pu hG=>?_);obtain⟨g1,l1,I1,n1⟩:=I.Jl (tk:=tk) (as:=as) kp fun a ha=>XK (hG.above a ha)
 have rr:cP g1 (br ks) (as.map Wj):=by
  refine dM (by simp [br,Pu,d2]) fun i x v e1 e2=>?_
  unfold br at e1;rw [UM] at e1 e2;obtain⟨p,p1,rfl⟩:=UA.mp e1;obtain⟨b,b1,rfl⟩:=UA.mp e2;obtain⟨key,k,y,f1,f2,f3⟩:=hG.pairs i b b1;obtain⟨p',q1,q2,⟨u,q3⟩,q4⟩:=d3 i k y f1;rw [p1] at q1;cases q1;subst q2;have rk:RT g none p.1 key:=yA f2 q3
  refine .tup (.inl (n1 b (U7 b1) _ f3)) ⟨rfl,rfl⟩ rfl (by rw [VV];simp) rfl fun j z v e1 e2=>?_
  match j,e1,e2 with
  | 0,e1,e2=>cases e1;cases e2;exact rk.le l1
  | 1,e1,e2=>cases e1;cases e2;exact q4.le l1
  | j+2,e1,e2=>simp at e1
 refine Ui (wpAny_newList ?_ (by rw [Lm9,Pu,d2];exact D.hz));have jF:=fun E'=>mL (s:={ s with heap:=h',toks:=tk }) (E:=E') (A:=X.A.in1.in1) (by show X.A.units+1+1+8<cLine;omega) I1 rr ok h
 refine Ui (wpAny_holding (wpAny_call_entry slot_list_sort ⟨_,Us _ rfl,rfl⟩ entry_list_sort ?body (args_list_sort _)))
 case body =>
  refine wpAny_mono (jF _) (fun fin s' z=>?_) fun _ _ z=>z
  obtain⟨rfl,z⟩:=z;exact⟨_,rfl,Uk ⟨_,rfl,z.le l1⟩⟩
theorem wK {fz:Bool} (hu:X.A.units+20<cLine):d8 X (.builtin "sorted") (iw fz):=fun {pins φ g L s _ w L' _} I r h=>by
 unfold iw at h;split at h
 ·obtain⟨u,rfl,ru⟩:=bP r
  obtain⟨q,v⟩:=I.view ru;split at h
  ·rename_i ts ev
   rw [ev] at v;obtain⟨ok,h⟩:=aG h;obtain⟨a,its,n,rfl,e,rr,hz⟩:=I.lst v;obtain⟨vs⟩:=its;have hlen:=UL rr
   have LS:=ok.1;refine XC kind_sorted plain_sorted entry_sorted (args_sorted1 _) ?_;unfold Builtin.«sorted»;refine Ui (m:=checkCount "sorted" 1 1 _) (Uk ?_);refine Ui (collect_list (af e) ?_ (by rw [VV];simp at hlen ⊢;omega));refine Ui (wpAny_newList ?_ (by rw [VV];simp at hlen ⊢;omega));have keep:∀b o,s.heap.get? b=some o->((s.heap.push (seqObj "list" #[] 0)).update s.heap.objs.size (VP (·++vs.toArray))).get? b=some o:=fun b o q=>by
    have bN:b<s.heap.objs.size:=UP q;rw [Yw _ _ _ _ (U0 bN),Xo _ _ _ (U0 bN)];exact q
   have I1:=I.kept (t':=s.toks) keep;have jF:=fun E'=>mL (s:={ s with heap:=(s.heap.push (seqObj "list" #[] 0)).update s.heap.objs.size (VP (·++vs.toArray)) }) (E:=E') (A:=X.A.in1.in1) (by show X.A.units+1+1+8<cLine;omega) I1 rr ok h
   refine Ui (wpAny_holding (wpAny_call_entry slot_list_sort ⟨_,Us _ rfl,rfl⟩ entry_list_sort ?body (args_list_sort _)))
   case body =>
    refine wpAny_mono (jF _) (fun fin s' z=>?_) fun _ _ z=>z
    obtain⟨rfl,z⟩:=z;exact⟨_,rfl,Uk ⟨_,rfl,z⟩⟩
  ·cases h
 ·cases h
end
end M
namespace L2
open PySem
theorem noKeysZ:typeLookup (.type "zip") "keys"=pure none:=by rw [typeLookup_type,builtinLookup_eq_fast];kernel_rfl
theorem zip_getattr_none:typeLookup (.type "zip") "__getattr__"=pure none:=by rw [typeLookup_type,builtinLookup_eq_fast];kernel_rfl
theorem entry_zip_getattribute:entryFor table "zip.__getattribute__"=some Builtin.«object.__getattribute__» :=
 entryFor_alias (id':="object.__getattribute__") (by kernel_rfl) (by decide +kernel) (by decide +kernel) (by kernel_rfl)
theorem meets_miss_zip (a:U2) (xs:Array Uq) (sl:Array (Option Uq)) (name:Str) (u:Tok) (hmiss:typeLookup (.type "zip") name=pure none) (hname:(["__module__","__name__","__qualname__","__doc__","__annotations__"]:List Str).contains name=false) (hsz:name.length+100<=UU:=by size_fits) :
  Meets (Builtin.«object.__getattribute__» ⟨[.ref a,.str name u],[]⟩) (fun A R s=>s.heap.get? a=some { cls:=.type "zip",dict:=none,data:=.fields xs,slots:=sl }/\raisesAttr (.ref a) name A R s) :=
 Meets.of_wp fun prog w A R s hs=>by
  obtain⟨hp,g,d,tk,os⟩:=s;obtain⟨hx,hs⟩:=hs;have hT:(⟨hp,g,d,tk,os⟩:Uu).TypeIs (.ref a) "zip":=⟨_,hx,rfl⟩
  unfold Builtin.«object.__getattribute__»
  repeat (any_goals (first|assumption|wp_step))
  simp only [hname,UC,if_false]
  repeat (any_goals (first|assumption|wp_step))
  exact wpAny_raiseAttrError hs.1 hs.2 (attrMsg_fits (by decide +kernel) hsz)
end L2
namespace L2
open PySem PySem.Spec PyProof.Rows
theorem wL {prog:VB} {w:Wy} {A:Vj} {E:Uq->Uu->Prop} {s:Uu} {a:U2} {xs:Array Uq} {sl:Array (Option Uq)} {Q:Option Uq->Uu->Prop}
  (hx:s.heap.get? a=some { cls:=.type "zip",dict:=none,data:=.fields xs,slots:=sl }) (hA:A.handled=none)
  (h:∀h' tk e,aag s.heap h' e "AttributeError"->Q none { s with heap:=h',toks:=tk }) :
  UK (model prog w) A (getAttr? (.ref a) "keys") Q E s:=by
 obtain⟨hp,g,d,tk,os⟩:=s;have hT:∀tk',(⟨hp,g,d,tk',os⟩:Uu).TypeIs (.ref a) "zip":=fun _=>⟨_,hx,rfl⟩
 have f1:=sub_AttributeError;have f3:=WX.lookup
 have f4:=WX.bind (.ref a);have f5:=zip_getattr_none
 have hmiss:=noKeysZ;unfold getAttr? getAttrBy? getAttrBy
 repeat (any_goals (first|assumption|exact hT _|((with_reducible show UK _ _ (call (Yp "zip.__getattribute__") _ _) _ _ _);refine call_meets WX (hT _) entry_zip_getattribute (PySem.F.args_zip_getattribute_2 _ _) (meets_miss_zip a xs sl "keys" _ hmiss (by decide +kernel) (by decide)) ⟨hx,hA,fun h' tk' e hx'=>?_⟩)|wp_step))
 obtain⟨t',u',he⟩:=hx'.there;show UK _ _ (getattributeRaised _ _ _ _ _ _ _) _ _ _
 unfold getattributeRaised
 repeat (any_goals (first|assumption|wp_step))
 exact h _ _ _ hx'.of
abbrev IsZipF (h:Heap) (z TI TO:U2) (f0:Uq) (f1:Bool):Prop :=
 h.get? z=some { cls:=.type "zip",dict:=none,data:=.fields #[f0,.bool f1,.bool false,.ref TI,.ref TO],slots:=#[] }
noncomputable def Cc (h:Heap) (b:Bool) (i l:U2) (k:Nat):Prop:=match b with|true=>h.IsTupleIter i l k|false=>h.IsListIter i l k
noncomputable def Cd (h:Heap) (b:Bool) (l:U2) (xs:Array Uq):Prop:=match b with|true=>h.IsTuple l xs|false=>h.IsList l xs
theorem Cc.at {h h':Heap} {b:Bool} {i l:U2} {k:Nat} (x:Cc h b i l k) (e:∀o,h.get? i=some o->h'.get? i=some o):Cc h' b i l k:=by
 cases b with
 | false=>obtain⟨o,ho,r⟩:=x;exact⟨o,e _ ho,r⟩
 | true=>obtain⟨o,ho,r⟩:=x;exact⟨o,e _ ho,r⟩
theorem Cd.at {h h':Heap} {b:Bool} {l:U2} {xs:Array Uq} (x:Cd h b l xs) (e:∀o,h.get? l=some o->h'.get? l=some o):Cd h' b l xs:=by
 cases b with
 | false=>obtain⟨o,ho,r⟩:=x;exact⟨o,e _ ho,r⟩
 | true=>obtain⟨o,ho,r⟩:=x;exact⟨o,e _ ho,r⟩
theorem Cc.there {h:Heap} {b:Bool} {i l:U2} {k:Nat} (x:Cc h b i l k):∃o,h.get? i=some o:=by
 cases b with
 | false=>obtain⟨o,ho,r⟩:=x;exact⟨o,ho⟩
 | true=>obtain⟨o,ho,r⟩:=x;exact⟨o,ho⟩
section
variable {prog:VB} {w:Wy} {A:Vj} {E:Uq->Uu->Prop} {s:Uu}
theorem pP {it t:U2} {i:Nat} {items:Array Uq} {x:Uq} {Q:Uq->Uu->Prop} (hit:s.heap.IsTupleIter it t i)
  (ht:s.heap.IsTuple t items) (hx:items[i]?=some x)
  (hQ:∀h',h'.IsTupleIter it t (i+1)->V6 it s.heap h'->Q x { s with heap:=h' }) :
  UK (model prog w) A (Vk (.ref it)) Q E s:=by
 obtain⟨o,ho,hc,hd⟩:=id hit;obtain⟨ol,pK,_,nl,MX⟩:=ht;unfold Vk;refine Ui (wpAny_callSpecial?_slot (name:=VX "__next__") hit.typeIs XZ
  (wpAny_call_entry XZ hit.typeIs PySem.F.entry_tuple_iterator_next ?_ (PySem.F.args_tuple_iterator_next_1 _)))
 show UK _ _ (field (.ref it) 0 >>= _) _ _ s;refine Ui (wpAny_field ho hd (x:=.ref t) rfl ?_);show UK _ _ (if (Wj t == VJ)=true then _ else _) _ _ s
 rw [if_neg (show ¬ ((Wj t == VJ)=true) from WE)];show UK _ _ (field (.ref it) 1 >>= _) _ _ s
 refine Ui (wpAny_field ho hd (x:=.int i 0) rfl ?_);show UK _ _ (seqItems? (.ref t) >>= _) _ _ s
 refine Ui (wpAny_seqItems pK MX ?_);simp only [WR,hx];refine Ui (wpAny_setField ho hd (by simp) (Uk ⟨x,rfl,Uk (hQ _ ?_ (VM ..))⟩));exact⟨_,VL _ ho (Yf (WG hd _)),(Zb ..).trans hc,by
  rw [WG hd];simp [rawInt]⟩
theorem rh {b:Bool} {it t:U2} {i:Nat} {items:Array Uq} {x:Uq} {Q:Uq->Uu->Prop} (hit:Cc s.heap b it t i)
  (ht:Cd s.heap b t items) (hx:items[i]?=some x)
  (hQ:∀h',Cc h' b it t (i+1)->V6 it s.heap h'->Q x { s with heap:=h' }) :
  UK (model prog w) A (Vk (.ref it)) Q E s:=by
 cases b with
 | false=>exact wpAny_nextOf_list_item hit ht hx hQ
 | true=>exact pP hit ht hx hQ
structure ZD (z TI TO i1 i2 l1 l2 a:U2):Prop where
 TIz:TI≠z
 TOz:TO≠z
 i1z:i1≠z
 i2z:i2≠z
 TITO:TI≠TO
 TIi1:TI≠i1
 TIi2:TI≠i2
 TOi1:TO≠i1
 TOi2:TO≠i2
 i12:i1≠i2
 l1z:l1≠z
 l1TO:l1≠TO
 l1i1:l1≠i1
 l1i2:l1≠i2
 l2z:l2≠z
 l2TO:l2≠TO
 l2i1:l2≠i1
 l2i2:l2≠i2
 za:z≠a
 RA:TI≠a
 RB:TO≠a
 RC:i1≠a
 RD:i2≠a
structure yQ (h:Heap) (b:Bool) (z TI TO i1 i2 l1 l2 a:U2) (k:Nat):Prop where
 z:∃f0 f1,IsZipF h z TI TO f0 f1/\(f0=.none\/∃T o,f0=rawInt ((T:Nat):Int)/\h.get? T=some o/\T≠z/\T≠TO/\T≠i1/\T≠i2/\T≠a)
 ti:IsPair h TI (.ref i1) (.ref i2)
 to:∃x y,IsPair h TO x y
 j1:h.IsListIter i1 l1 k
 j2:Cc h b i2 l2 k
theorem yQ.ext {h h':Heap} {b:Bool} {z TI TO i1 i2 l1 l2 a:U2} {k:Nat} (D:ZD z TI TO i1 i2 l1 l2 a) (x:yQ h b z TI TO i1 i2 l1 l2 a k) (e:∀c o,c≠a->h.get? c=some o->h'.get? c=some o):yQ h' b z TI TO i1 i2 l1 l2 a k:=by
 obtain⟨⟨f0,f1,hz,hf⟩,RE,⟨u,v,RF⟩,h1,h2⟩:=x;refine⟨⟨f0,f1,e _ _ D.za hz,?_⟩,e _ _ D.RA RE,⟨u,v,e _ _ D.RB RF⟩,h1.at fun o q=>e _ o D.RC q,h2.at fun o q=>e _ o D.RD q⟩;rcases hf with hf|⟨T,o,e0,ho,n1,n2,n3,n4,n5⟩
 ·exact .inl hf
 ·exact .inr ⟨T,o,e0,e _ _ n5 ho,n1,n2,n3,n4,n5⟩
theorem rm {z TI TO T0:U2} {f1:Bool} {o0:Obj} {C:Bool->Uu->Prop} (hz:IsZipF s.heap z TI TO (rawInt ((T0:Nat):Int)) f1) (ho:s.heap.get? T0=some o0)
  (h:∀h₁,IsZipF h₁ z TI TO (rawInt ((T0:Nat):Int)) true->V6 z s.heap h₁->C false { s with heap:=h₁ }):UK (model prog w) A (Vl (.ref z)) C E s:=by
 unfold Vl;refine Ui (wpAny_field hz rfl (x:=rawInt ((T0:Nat):Int)) rfl ?_);show UK _ _ (loadIfAlive (((T0:Nat):Int).toNat) >>= _) _ _ _
 rw [WR];refine Ui (Q:=_) ?_;have al:∀{Q:Option Obj->Uu->Prop},Q (some o0) s->UK (model prog w) A (loadIfAlive T0) Q E s:=fun {Q} q=>by
  have q':Q (s.heap.get? T0) s:=ho ▸ q;exact fun _ _ _=>q'
 refine al ?_;rw [if_neg (by simp)];refine Ui (wpAny_field hz rfl (x:=.bool f1) rfl ?_);cases f1 with
 | true =>
  rw [if_neg (by decide)];exact Uk (h s.heap hz ⟨rfl,fun _ _=>rfl⟩)
 | false =>
  rw [if_pos (by decide)];refine Ui (wpAny_setField_rec hz (by simp) fun h₁ xk oC=>Uk (h h₁ xk oC))
theorem yR {b:Bool} {z TI TO i1 i2 l1 l2 a:U2} {k:Nat} {xs ys:Array Uq} {x y:Uq} {Q:Uq->Uu->Prop} (D:ZD z TI TO i1 i2 l1 l2 a) (ha:a<s.heap.objs.size)
  (Z:yQ s.heap b z TI TO i1 i2 l1 l2 a k) (pQ:s.heap.IsList l1 xs) (j8:Cd s.heap b l2 ys) (hx:xs[k]?=some x) (hy:ys[k]?=some y)
  (hQ:∀h' T,yQ h' b z TI TO i1 i2 l1 l2 a (k+1)->IsPair h' T x y->s.heap.objs.size<=T ->
   (∀c o,c≠z->c≠TO->c≠i1->c≠i2->s.heap.get? c=some o->h'.get? c=some o)->Q (.ref T) { s with heap:=h' }) :
  UK (model prog w) A (Builtin.«zip.__next__» ⟨[.ref z],[]⟩) (fun fin s'=>∃v,fin=.done (.ret v)/\Q v s') E s:=by
 obtain⟨⟨f0,f1,hz,hf⟩,Jm,⟨u,v,MY⟩,h1,h2⟩:=Z;show UK _ _ (field (.ref z) 2 >>= _) _ _ _
 refine Ui (wpAny_field hz rfl (x:=.bool false) rfl ?_);show UK _ _ (field (.ref z) 3 >>= _) _ _ _
 refine Ui (wpAny_field hz rfl (x:=.ref TI) rfl ?_);refine Ui (wpAny_seqItems Jm rfl ?_);show UK _ _ (Vl (.ref z) >>= _) _ _ _
 rcases hf with rfl|⟨T0,o0,rfl,LW,n1,n2,n3,n4,n5⟩
 ·refine Ui ?_
  unfold Vl;refine Ui (wpAny_field hz rfl (x:=.none) rfl (Uk ?_));simp only [if_true];refine Ui (wpAny_rule ?_);refine Ui (wpAny_field hz rfl (x:=.ref TO) rfl ?_);refine Ui (wpAny_setField_rec hz (by simp) fun h₁ xk oC=>?_)
  replace xk:IsZipF h₁ z TI TO .ellipsis f1:=xk
  refine Ui ?_;simp only [List.zipIdx_cons,List.zipIdx_nil,Xe,YW];refine Ui (Ui (wpAny_onRaise ?_));show UK _ _ (Vk (.ref i1) >>= _) _ _ _
  refine Ui (wpAny_nextOf_list_item (h1.extBut oC.extBut D.i1z) (pQ.extBut oC.extBut D.l1z) hx fun h₂ MZ wM=>Uk ?_);have Jn:IsPair h₂ TO u v:=wM.extBut _ _ D.TOi1 (oC.extBut _ _ D.TOz MY)
  refine Ui (wpAny_seqItems Jn rfl ?_);refine Ui (wpAny_updateSeq_pair Jn fun h₃ FP xl=>?_)
  replace FP:IsPair h₃ TO x v:=FP
  refine Ui (wpAny_letGo (Uk ?_));refine Ui (Ui (wpAny_onRaise ?_));show UK _ _ (Vk (.ref i2) >>= _) _ _ _
  have DK:∀c o,c≠z->c≠i1->c≠TO->s.heap.get? c=some o->h₃.get? c=some o:=fun c o c1 c2 c3 e=>xl.extBut _ _ c3 (wM.extBut _ _ c2 (oC.extBut _ _ c1 e))
  refine Ui (rh (h2.at fun o e=>DK _ o D.i2z D.i12.symm D.TOi2.symm e) (j8.at fun o e=>DK _ o D.l2z D.l2i1 D.l2TO e) hy fun h₄ RG Jo=>Uk ?_);have Jp:IsPair h₄ TO x v:=Jo.extBut _ _ D.TOi2 FP
  refine Ui (wpAny_seqItems Jp rfl ?_);refine Ui (wpAny_updateSeq_pair Jp fun h₅ yS Jq=>?_)
  replace yS:IsPair h₅ TO x y:=yS
  refine Ui (wpAny_letGo (Uk (Uk ?_)));refine Ui (wpAny_seqItems yS rfl ?_);refine Ui (wpAny_newTuple ?_);have hsz:h₅.objs.size=s.heap.objs.size:=by rw [Jq.1,Jo.1,xl.1,wM.1,oC.1]
  have Pw:IsZipF h₅ z TI TO .ellipsis f1:=Jq.extBut _ _ D.TOz.symm (Jo.extBut _ _ D.i2z.symm (xl.extBut _ _ D.TOz.symm (wM.extBut _ _ D.i1z.symm xk)));have Px:∀c o,c≠z->c≠TO->c≠i1->c≠i2->s.heap.get? c=some o->h₅.get? c=some o:=fun c o c1 c2 c3 c4 e =>
   Jq.extBut _ _ c2 (Jo.extBut _ _ c4 (DK _ _ c1 c3 c2 e))
  have Py:h₅.IsListIter i1 l1 (k+1):=((MZ.extBut xl.extBut D.TOi1.symm).extBut Jo.extBut D.i12).extBut Jq.extBut D.TOi1.symm;have Pz:Cc h₅ b i2 l2 (k+1):=RG.at fun o e=>Jq.extBut _ _ D.TOi2.symm e
  have FQ:z<h₅.objs.size:=UP Pw;have Jr:TO<h₅.objs.size:=UP yS
  have Js:i1<h₅.objs.size:=by obtain⟨_,e,_⟩:=Py;exact UP e
  have Jt:i2<h₅.objs.size:=by obtain⟨_,e⟩:=Pz.there;exact UP e
  show UK _ _ (XD (.ref z) (.ref h₅.objs.size) >>= _) _ _ _;refine Ui ?_;unfold XD;have RH:IsZipF (h₅.push { cls:=.type "tuple",data:=.seq #[x,y] }) z TI TO .ellipsis f1:=Uj _ Pw
  refine Ui (wpAny_setField_rec RH (by simp) fun h₇ M0 PB=>?_)
  replace M0:IsZipF h₇ z TI TO (rawInt h₅.objs.size) f1:=M0
  refine wpAny_setField_rec M0 (by simp) fun h₈ M3 PC=>?_
  replace M3:IsZipF h₈ z TI TO (rawInt h₅.objs.size) false:=M3
  have up:∀c o,c≠z->h₅.get? c=some o->h₈.get? c=some o:=fun c o c1 e=>PC.extBut _ _ c1 (PB.extBut _ _ c1 (Uj _ e))
  have PD:IsPair h₈ h₅.objs.size x y:=PC.extBut _ _ (Vw FQ) (PB.extBut _ _ (Vw FQ) (Us _ rfl));refine Uk ⟨_,rfl,?_⟩;show Q (.ref h₅.objs.size) _
  refine hQ h₈ h₅.objs.size ⟨⟨_,_,M3,.inr ⟨h₅.objs.size,_,rfl,PD,Vw FQ,Vw Jr,Vw Js,Vw Jt,Vw (by rw [hsz];exact ha)⟩⟩,up _ _ D.TIz (Px _ _ D.TIz D.TITO D.TIi1 D.TIi2 Jm),⟨x,y,up _ _ D.TOz yS⟩,Py.at fun o e=>up _ o D.i1z e,Pz.at fun o e=>up _ o D.i2z e⟩ PD (XM hsz.symm) fun c o c1 c2 c3 c4 e=>up c o c1 (Px c o c1 c2 c3 c4 e)
 ·refine Ui (rm hz LW fun h₁ xk oC=>?_)
  simp only [UC,if_false,List.forIn_toArray,Xe,YW];refine Ui ?_;refine Ui (Ui (wpAny_holding ?_));show UK _ _ (Vk (.ref i1) >>= _) _ _ _
  refine Ui (wpAny_nextOf_list_item (h1.extBut oC.extBut D.i1z) (pQ.extBut oC.extBut D.l1z) hx fun h₂ MZ wM=>Uk ?_);refine Uk ?_;refine Ui (Ui (wpAny_holding ?_));show UK _ _ (Vk (.ref i2) >>= _) _ _ _
  have M4:∀c o,c≠z->c≠i1->s.heap.get? c=some o->h₂.get? c=some o:=fun c o c1 c2 e=>wM.extBut _ _ c2 (oC.extBut _ _ c1 e)
  refine Ui (rh (h2.at fun o e=>M4 _ o D.i2z D.i12.symm e) (j8.at fun o e=>M4 _ o D.l2z D.l2i1 e) hy fun h₃ RI xl=>Uk ?_);refine Uk (Uk ?_);show UK _ _ (newTuple [x,y] >>= _) _ _ _
  refine Ui (wpAny_newTuple (Uk ⟨_,rfl,?_⟩));have hsz:h₃.objs.size=s.heap.objs.size:=by rw [xl.1,wM.1,oC.1]
  have DK:∀c o,c≠z->c≠i1->c≠i2->s.heap.get? c=some o->h₃.get? c=some o:=fun c o c1 c2 c3 e=>xl.extBut _ _ c3 (M4 _ _ c1 c2 e)
  have RJ:IsZipF h₃ z TI TO (rawInt ((T0:Nat):Int)) true:=xl.extBut _ _ D.i2z.symm (wM.extBut _ _ D.i1z.symm xk);have RK:h₃.IsListIter i1 l1 (k+1):=MZ.extBut xl.extBut D.i12
  have FU:∀c o,h₃.get? c=some o->(h₃.push { cls:=.type "tuple",data:=.seq #[x,y] }).get? c=some o:=fun c o e=>Uj _ e
  refine hQ (h₃.push { cls:=.type "tuple",data:=.seq #[x,y] }) h₃.objs.size ⟨⟨_,_,FU _ _ RJ,.inr ⟨T0,o0,rfl,FU _ _ (DK _ _ n1 n3 n4 LW),n1,n2,n3,n4,n5⟩⟩,FU _ _ (DK _ _ D.TIz D.TIi1 D.TIi2 Jm),⟨u,v,FU _ _ (DK _ _ D.TOz D.TOi1 D.TOi2 MY)⟩,RK.at fun o e=>FU _ o e,RI.at fun o e=>FU _ o e⟩ (Us _ rfl) (XM hsz.symm) fun c o c1 _ c3 c4 e=>FU _ _ (DK c o c1 c3 c4 e)
theorem Ce {b:Bool} {z TI TO i1 i2 l1 l2 a:U2} {k:Nat} {xs:Array Uq} {Q:Fin->Uu->Prop} (hh:A.handled=none) (D:ZD z TI TO i1 i2 l1 l2 a)
  (Z:yQ s.heap b z TI TO i1 i2 l1 l2 a k) (pQ:s.heap.IsList l1 xs) (hx:xs[k]?=none)
  (hE:∀h' e,(∀c o,c≠z->c≠TO->c≠i1->c≠i2->s.heap.get? c=some o->h'.get? c=some o)->(∃o,h'.get? e=some o/\o.cls=.type "StopIteration")->E (.ref e) { s with heap:=h' }) :
  UK (model prog w) A (Builtin.«zip.__next__» ⟨[.ref z],[]⟩) Q E s:=by
 obtain⟨⟨f0,f1,hz,hf⟩,Jm,⟨u,v,MY⟩,h1,h2⟩:=Z;show UK _ _ (field (.ref z) 2 >>= _) _ _ _
 refine Ui (wpAny_field hz rfl (x:=.bool false) rfl ?_);show UK _ _ (field (.ref z) 3 >>= _) _ _ _
 refine Ui (wpAny_field hz rfl (x:=.ref TI) rfl ?_);refine Ui (wpAny_seqItems Jm rfl ?_);show UK _ _ (Vl (.ref z) >>= _) _ _ _
 rcases hf with rfl|⟨T0,o0,rfl,LW,n1,n2,n3,n4,n5⟩
 ·refine Ui ?_
  unfold Vl;refine Ui (wpAny_field hz rfl (x:=.none) rfl (Uk ?_));simp only [if_true];refine Ui (wpAny_rule ?_);refine Ui (wpAny_field hz rfl (x:=.ref TO) rfl ?_);refine Ui (wpAny_setField_rec hz (by simp) fun h₁ xk oC=>?_)
  replace xk:IsZipF h₁ z TI TO .ellipsis f1:=xk
  refine Ui ?_;simp only [List.zipIdx_cons,List.zipIdx_nil,Xe,YW];refine Ui (Ui (wpAny_onRaise ?_));show UK _ _ (Vk (.ref i1) >>= _) _ _ _
  refine Ui (wpAny_nextOf_list_end hh (h1.extBut oC.extBut D.i1z) (pQ.extBut oC.extBut D.l1z) hx fun h₂ e wM he=>?_);obtain⟨oe,M5,PF⟩:=he;have PH:IsZipF h₂ z TI TO .ellipsis f1:=wM _ _ D.i1z.symm xk
  have RL:e≠z:=fun x=>by subst x;rw [PH] at M5;cases M5;simp at PF
  refine wpAny_setField_rec PH (by simp) fun h₃ _ xl=>hE h₃ e (fun c o c1 _ c3 _ x=>xl.extBut _ _ c1 (wM _ _ c3 (oC.extBut _ _ c1 x))) ⟨oe,xl.extBut _ _ RL M5,PF⟩
 ·refine Ui (rm hz LW fun h₁ xk oC=>?_)
  simp only [UC,if_false,List.forIn_toArray,Xe,YW];refine Ui ?_;refine Ui (Ui (wpAny_holding ?_));show UK _ _ (Vk (.ref i1) >>= _) _ _ _
  refine Ui (wpAny_nextOf_list_end hh (h1.extBut oC.extBut D.i1z) (pQ.extBut oC.extBut D.l1z) hx fun h₂ e wM he=>?_);exact hE h₂ e (fun c o c1 _ c3 _ x=>wM _ _ c3 (oC.extBut _ _ c1 x)) he
theorem nW {b:Bool} {z TI TO i1 i2 l1 l2 a:U2} {k:Nat} {xs ys:Array Uq} {x y:Uq} {Q:Option Uq->Uu->Prop} (D:ZD z TI TO i1 i2 l1 l2 a) (ha:a<s.heap.objs.size)
  (Z:yQ s.heap b z TI TO i1 i2 l1 l2 a k) (pQ:s.heap.IsList l1 xs) (j8:Cd s.heap b l2 ys) (hx:xs[k]?=some x) (hy:ys[k]?=some y)
  (hQ:∀h' T,yQ h' b z TI TO i1 i2 l1 l2 a (k+1)->IsPair h' T x y->s.heap.objs.size<=T ->
   (∀c o,c≠z->c≠TO->c≠i1->c≠i2->s.heap.get? c=some o->h'.get? c=some o)->Q (some (.ref T)) { s with heap:=h' }) :
  UK (model prog w) A (pyNext (.ref z)) Q E s:=by
 obtain⟨f0,f1,hz,_⟩:=Z.z;have hT:s.TypeIs (.ref z) "zip":=⟨_,hz,rfl⟩
 unfold pyNext;exact Ui (wpAny_attempt (wpAny_callSpecial?_slot (name:=VX "__next__") hT Xh
  (wpAny_call_entry Xh hT ZJ (yR D ha Z pQ j8 hx hy fun h' T a1 a2 a3 a4=>Uk (hQ h' T a1 a2 a3 a4)) (Zp _))))
theorem pR {b:Bool} {z TI TO i1 i2 l1 l2 a:U2} {k:Nat} {xs:Array Uq} {Q:Option Uq->Uu->Prop} (hh:A.handled=none) (D:ZD z TI TO i1 i2 l1 l2 a)
  (Z:yQ s.heap b z TI TO i1 i2 l1 l2 a k) (pQ:s.heap.IsList l1 xs) (hx:xs[k]?=none)
  (hQ:∀h',(∀c o,c≠z->c≠TO->c≠i1->c≠i2->s.heap.get? c=some o->h'.get? c=some o)->Q none { s with heap:=h' }):UK (model prog w) A (pyNext (.ref z)) Q E s:=by
 obtain⟨f0,f1,hz,_⟩:=Z.z;have hT:s.TypeIs (.ref z) "zip":=⟨_,hz,rfl⟩
 unfold pyNext;refine Ui (wpAny_attempt (wpAny_callSpecial?_slot (name:=VX "__next__") hT Xh
  (wpAny_call_entry Xh hT ZJ (Ce hh D Z pQ hx fun h' e hk he=>?_) (Zp _))))
 obtain⟨o,ho,hc⟩:=he;refine Ui (wpAny_isInstance (T:="StopIteration") (b:=true) ⟨o,ho,hc⟩ isSubtype_stop ?_);exact Uk (hQ _ hk)
end
abbrev LX (h:Heap) (l1 l2:U2):Heap:=(zipH1 h l1).push { cls:=.type "tuple_iterator",data:=.fields #[.ref l2,.int 0 0] }
abbrev LY (h:Heap) (l1 l2:U2):Heap:=(LX h l1 l2).push { cls:=.type "tuple",data:=.seq #[.ref h.objs.size,.ref (zipH1 h l1).objs.size] }
abbrev LZ (h:Heap) (l1 l2:U2):Heap:=(LY h l1 l2).push { cls:=.type "tuple",data:=.seq #[.none,.none] }
abbrev FV (h:Heap) (l1 l2:U2):Heap:=(LZ h l1 l2).push { cls:=.type "zip",data:=.fields #[.none,.bool false,.bool false,.ref (LX h l1 l2).objs.size,.ref (LY h l1 l2).objs.size] }
theorem tV (l1 l2:U2) (xs ys:Array Uq) :
  Meets (Builtin.«zip.__new__» ⟨[.type "zip",.ref l1,.ref l2],[]⟩) (fun _ R s=>s.heap.IsList l1 xs/\s.heap.IsTuple l2 ys /\
   R (.ok (.ret (.ref (LZ s.heap l1 l2).objs.size))) { s with heap:=FV s.heap l1 l2 }) :=
 .of_wp fun prog w A R s h=>by
  obtain⟨hp,g,d,tk,os⟩:=s;obtain⟨pQ,j8,h⟩:=h;have Cf:=sub_zip
  have Ju:Heap.IsList (Shared.heap ⟨hp,g,d,tk,os⟩) l1 xs:=pQ;have H7:Heap.IsTuple (Shared.heap ⟨hp.push { cls:=.type "list_iterator",data:=.fields #[.ref l1,.int 0 0] },g,d,tk,os⟩) l2 ys:=Heap.IsTuple.push j8 _
  wp_walk using wpAny_pyIter_list Ju,wpAny_pyIter_tuple H7
  exact⟨_,rfl,h⟩
section
variable {prog:VB} {w:Wy} {A:Vj} {E:Uq->Uu->Prop} {s:Uu}
theorem wN {l1 l2:U2} {xs ys:Array Uq} {Q:Uq->Uu->Prop} (pQ:s.heap.IsList l1 xs) (j8:s.heap.IsTuple l2 ys)
  (h:∀h',IsZip h' (s.heap.objs.size+4) (s.heap.objs.size+2) (s.heap.objs.size+3) .none->IsPair h' (s.heap.objs.size+2) (.ref s.heap.objs.size) (.ref (s.heap.objs.size+1)) ->
   IsPair h' (s.heap.objs.size+3) .none .none->h'.IsListIter s.heap.objs.size l1 0->h'.IsTupleIter (s.heap.objs.size+1) l2 0->h'.objs.size=s.heap.objs.size+5 ->
   (∀c o,s.heap.get? c=some o->h'.get? c=some o)->Q (.ref (s.heap.objs.size+4)) { s with heap:=h' }) :
  UK (model prog w) A (call (.type "zip") [.ref l1,.ref l2]) Q E s:=by
 refine callType_new PySem.F.called_zip (by decide) (PySem.F.typeCall_zip_2 _ _) (PySem.F.newCall_zip_2 _ _) (fun obj=>PySem.F.args_object_init_3 obj _ _) PySem.F.entry_zip_new
  (tV l1 l2 xs ys) ⟨pQ,j8,?_⟩
 have z1:(zipH1 s.heap l1).objs.size=s.heap.objs.size+1:=VC ..;have z2:(LX s.heap l1 l2).objs.size=s.heap.objs.size+2:=by rw [VC,z1]
 have z3:(LY s.heap l1 l2).objs.size=s.heap.objs.size+3:=by rw [VC,z2]
 have z4:(LZ s.heap l1 l2).objs.size=s.heap.objs.size+4:=by rw [VC,z3]
 have z5:(FV s.heap l1 l2).objs.size=s.heap.objs.size+5:=by rw [VC,z4]
 have g5:(FV s.heap l1 l2).get? (LZ s.heap l1 l2).objs.size=some _:=Us _ rfl;have g4:(FV s.heap l1 l2).get? (LY s.heap l1 l2).objs.size=some _:=Uj _ (Us _ rfl)
 have g3:(FV s.heap l1 l2).get? (LX s.heap l1 l2).objs.size=some _:=Uj _ (Uj _ (Us _ rfl));have g2:(FV s.heap l1 l2).get? (zipH1 s.heap l1).objs.size=some _:=Uj _ (Uj _ (Uj _ (Us _ rfl)))
 have g1:(FV s.heap l1 l2).get? s.heap.objs.size=some _:=Uj _ (Uj _ (Uj _ (Uj _ (Us _ rfl))));show _/\_
 rw [z2,z3,z4] at g5;rw [z1,z2] at g3;rw [z3] at g4;rw [z1] at g2;rw [z4];exact⟨⟨_,g5,rfl⟩,h _ g5 g3 g4 ⟨_,g1,rfl,rfl⟩ ⟨_,g2,rfl,rfl⟩ z5 fun c o x =>
  Uj _ (Uj _ (Uj _ (Uj _ (Uj _ x))))⟩
theorem tW {b:Bool} {l1 l2:U2} {xs ys:Array Uq} {Q:Uq->Uu->Prop} (pQ:s.heap.IsList l1 xs) (j8:Cd s.heap b l2 ys)
  (h:∀h',IsZip h' (s.heap.objs.size+4) (s.heap.objs.size+2) (s.heap.objs.size+3) .none->(∀a,yQ h' b (s.heap.objs.size+4) (s.heap.objs.size+2) (s.heap.objs.size+3) s.heap.objs.size (s.heap.objs.size+1) l1 l2 a 0)->h'.objs.size=s.heap.objs.size+5 ->
   (∀c o,s.heap.get? c=some o->h'.get? c=some o)->Q (.ref (s.heap.objs.size+4)) { s with heap:=h' }) :
  UK (model prog w) A (call (.type "zip") [.ref l1,.ref l2]) Q E s:=by
 cases b with
 | false=>exact call_zip_2 pQ j8 fun h' a1 a2 a3 a4 a5 a6 a7=>h h' a1 (fun _=>⟨⟨_,_,a1,.inl rfl⟩,a2,⟨_,_,a3⟩,a4,a5⟩) a6 a7
 | true=>exact wN pQ j8 fun h' a1 a2 a3 a4 a5 a6 a7=>h h' a1 (fun _=>⟨⟨_,_,a1,.inl rfl⟩,a2,⟨_,_,a3⟩,a4,a5⟩) a6 a7
end
end L2
namespace M
open PySem PySem.Spec PyProof.Rows L2
section
variable {X:Cx} {pins:bg} {φ:Fr} {g g0:G} {L L':aa} {s:Uu} {xs ys:List T} {Jv Jw:List Uq} {a z TI TO i1 i2 l1 l2:U2} {TU TV:Obj} {A:Vj} {R:Result->Uu->Prop} {b:Bool}
theorem RM (N l h:Nat) (e:h=N+5) (hl:l<N):l<h:=by omega
theorem PJ (N l h:Nat) (e:h=N+5) (hl:l<N):l≠h:=by omega
theorem PK (N c h:Nat) (e:h=N+5) (hc:c=N+4\/c=N+3\/c=N\/c=N+1):N<=c/\c≠h:=by omega
theorem yT (N l1 l2:Nat) (h1:l1<N) (h2:l2<N):ZD (N+4) (N+2) (N+3) N (N+1) l1 l2 (N+5):=by
 constructor <;> (refine wA ?_;omega)
theorem rz:∀(a b:List T),prsOf (zp a b)=some (a.zip b)
 | [],_=>rfl
 | _::_,[]=>rfl
 | x::a,y::b=>by
  show prsOf (.tup [x,y]::zp a b)=_;unfold prsOf;rw [rz a b];rfl
theorem rA {w:T} (hu:X.A.units+20<cLine) (I:Inv X pins φ g L s) (Ju:s.heap.IsList l1 Jv.toArray) (H7:Cd s.heap b l2 Jw.toArray) (r1:cP g xs Jv) (r2:cP g ys Jw) (hle:xs.length<=ys.length) (h:xC (zp xs ys) L=.ok w L') :
  UK (model X.prog X.w) X.A (call (.type "zip") [.ref l1,.ref l2]) (fun u s'=>UK (model X.prog X.w) X.A (call (.type "dict") [u]) (EP X pins φ g w L') F0 s') F0 s:=by
 have ip:X.A.in1.in1.units+8<cLine:=by show X.A.units+1+1+8<cLine;omega
 unfold xC at h;rw [rz] at h;obtain⟨⟨hm,hlen⟩,h⟩:=aG h;cases h;have ha:l1<s.heap.objs.size:=by
  obtain⟨_,e,_⟩:=Ju;exact UP e
 have hb:l2<s.heap.objs.size:=by
  cases b with
  | false=>obtain⟨_,e,_⟩:=H7;exact UP e
  | true=>obtain⟨_,e,_⟩:=H7;exact UP e
 refine tW Ju H7 fun h1 Pa hZ pS tf=>?_
 have I1:Inv X pins φ g L { s with heap:=h1 }:=I.kept (t':=s.toks) tf;have xR:g.H h1.objs.size=none:=I1.hok.fresh (UH _)
 have big:(h1.objs.size == sysModules)=false:=by
  have h1':sysModules<s.heap.objs.size:=Ws (by decide) (I.mod.glob.keeps I.bk).lt;simpa using Vw (RM _ _ _ pS h1')
 have J0:=I1.new (c:=.aS []) (o:={ cls:=.type "dict",data:=.dict #[] }) (h':=h1.push { cls:=.type "dict",data:=.dict #[] }) (t':=s.toks) (fun b u e=>Uj _ e) (UH _) (Us _ rfl)
  (.aS (.inr rfl) (.inl aw) ⟨rfl,rfl,rfl⟩ rfl (U4 _) rfl ⟨W5,rfl⟩ big (fun i x e e1 _=>by simp at e1) (fun i x e e1 _=>by simp at e1) fun i x e e1 _=>by simp at e1)
 have l0:=Le.new (o:={ cls:=.type "dict",data:=.dict #[] }) xR;have rd:RT (g.new h1.objs.size { cls:=.type "dict",data:=.dict #[] }) none (.ref L.length) (.ref h1.objs.size):=by
  have:=I.rel.len;exact .ref (p:=(h1.objs.size,h1.objs.size)) (by show at_ ((_,_)::g.α) _=_;rw [<- this];exact fq)
 refine callType_codes (Q₁:=fun obj s₁=>obj=.ref h1.objs.size/\s₁={ s with heap:=h1.push { cls:=.type "dict",data:=.dict #[] } }) ZI (YC _) Zn (kt_code_dict_new _ ⟨rfl,rfl⟩) ?_;rintro obj s₁ ⟨rfl,rfl⟩;have tL:Yr { s with heap:=h1.push { cls:=.type "dict",data:=.dict #[] } } (.ref h1.objs.size) "dict":=⟨_,Us _ rfl,rfl⟩
 refine⟨tL,Y9 _ _,?_⟩;unfold Builtin.«dict.__init__»;refine Ui ?_;unfold Za;refine Ui (wpAny_notOrdered_dict tL ?_);show UK _ _ (pure (h1.objs.size,[Wj (s.heap.objs.size+4)])) _ _ _
 refine Uk ?_;show UK _ _ (WV "dict.__init__" h1.objs.size (.ref (s.heap.objs.size+4)) [] .none) _ _ _
 unfold WV;have yI:=Uj { cls:=.type "dict",data:=.dict #[] } Pa
 refine Ui (wpAny_typeOf (T:="zip") ⟨_,yI,rfl⟩ ?_);rw [if_pos (by decide)];refine Ui (wL yI I.ok.hd fun h3 PL e hx=>?_);rw [if_pos (show(none:Option Uq).isNone=true from rfl)];refine Ui (wpAny_rule ?_);have RN:=hx.keeps _ _ yI
 have J1:=J0.kept (t':=PL) (h':=h3) fun b o e=>hx.keeps b o e
 refine Ui (wpAny_pyIter_zip (s:={ s with heap:=h3,toks:=PL }) RN ?_);refine Uk ⟨plainId_quiet plain_dul _,codeAny_builtin entry_dul ?_⟩;rw [VF plain_dul _];have FO:∀b o,s.heap.get? b=some o->h3.get? b=some o:=fun b o q=>hx.keeps _ _ (Uj _ (tf _ _ q))
 have D:ZD (s.heap.objs.size+4) (s.heap.objs.size+2) (s.heap.objs.size+3) s.heap.objs.size (s.heap.objs.size+1) l1 l2 h1.objs.size:=by
  rw [pS];exact yT _ l1 l2 ha hb
 have pQ:=UL r1;have j8:=UL r2
 have TX:(xs.zip ys).length=xs.length:=by rw [List.length_zip];omega
 have four:∀{c:U2},c∉[s.heap.objs.size+4,s.heap.objs.size+3,s.heap.objs.size,s.heap.objs.size+1]->c≠s.heap.objs.size+4/\c≠s.heap.objs.size+3/\c≠s.heap.objs.size/\c≠s.heap.objs.size+1:=fun {c} h=>by simpa using h
 refine tJ (A:=X.A.in1) (a:=h1.objs.size) (L:=L) ip [s.heap.objs.size+4,s.heap.objs.size+3,s.heap.objs.size,s.heap.objs.size+1] (fun i h=>h.IsList l1 Jv.toArray/\Cd h b l2 Jw.toArray/\yQ h b (s.heap.objs.size+4) (s.heap.objs.size+2) (s.heap.objs.size+3) s.heap.objs.size (s.heap.objs.size+1) l1 l2 h1.objs.size i) hm hlen (fun c hc=>by
   simp only [UG,Wa,or_false] at hc;exact(PK _ _ _ pS hc).2)
  (fun i h h' ⟨q1,q2,q3⟩ e=>⟨q1.at fun o q=>(e l1 (PJ _ _ _ pS ha)).trans q,q2.at fun o q=>(e l2 (PJ _ _ _ pS hb)).trans q,q3.ext D fun c o hc q=>(e c hc).trans q⟩)
  (fun i s' g' p Q ep lg MJ J ⟨q1,q2,q3⟩ hQ=>?_) (fun s' Q ⟨q1,q2,q3⟩ hQ=>pR (s:=s') (A:=X.A.in1.in1) I.ok.hd D q3 q1 (by simp;omega) fun h2 qF=>hQ h2 fun c o hc e=>let ⟨a1,a2,a3,a4⟩:=four hc;qF c o a1 a2 a3 a4 e) (fun s' g' lg J Je=>?_)
  (xs.zip ys).length 0 _ _ rfl (U4 _) (Le.refl _) J1 rd (fun c hc=>?_) ⟨Ju.at fun o q=>FO _ o q,H7.at fun o q=>FO _ o q,(hZ h1.objs.size).ext D fun c o _ e=>hx.keeps _ _ (Uj _ e)⟩
 ·have hi:=(UI.mp ep).1
  have hx:i<xs.length:=by omega
  have hy:i<ys.length:=by omega
  have xi:i<Jv.length:=by omega
  have Dz:i<Jw.length:=by omega
  have ez:(xs.zip ys)[i]?=some (xs[i],ys[i]):=by rw [Ge9 hi,List.getElem_zip]
  obtain rfl:=V7 (ez.symm.trans ep);have rk:=(wo (r1.le l0) i _ _ (Ge9 hx) (Ge9 xi)).le lg
  have rv:=(wo (r2.le l0) i _ _ (Ge9 hy) (Ge9 Dz)).le lg;refine nW (s:=s') (x:=Jv[i]) (y:=Jw[i]) D MJ q3 q1 q2 (by simp [xi]) (by simp [Dz]) fun h4 t RO hT Ba H8=>?_
  exact hQ h4 t _ _ _ _ ⟨q1.at fun o q=>H8 l1 o D.l1z D.l1TO D.l1i1 D.l1i2 q,q2.at fun o q=>H8 l2 o D.l2z D.l2TO D.l2i1 D.l2i2 q,RO⟩ (fun c o hc e=>let ⟨a1,a2,a3,a4⟩:=four hc;H8 c o a1 a2 a3 a4 e) hT rfl rfl rk rv
 ·exact⟨rfl,g',l0.trans lg,J,Je⟩
 ·have DC:s.heap.objs.size<=c/\c≠h1.objs.size:=by
   simp only [UG,Wa,or_false] at hc;exact PK _ _ _ pS hc
  refine I.sZ DC.1 ?_;show upd g.H _ _ c=none
  rw [aE DC.2];exact I.hok.fresh DC.1
end
end M
namespace cA
open PySem
noncomputable def Ri (xs:Array Nat):Prop:=∀i j,i<j->j<xs.size->xs.getD i 0<xs.getD j 0
theorem getD_in (xs:Array Nat) {i:Nat} (h:i<xs.size) (a b:Nat):xs.getD i a=xs.getD i b:=by simp [Wc,h]
theorem pU (xs:Array Nat) (hr:Ri xs) (j:Nat):∀(fuel lo hi:Nat),lo<=hi->hi<=xs.size->hi - lo<=fuel->(∀i,i<lo->xs.getD i 0<j)->(∀i,hi<=i->i<xs.size->j<=xs.getD i 0) ->
  (X5 xs j fuel lo hi<=xs.size/\(∀i,i<X5 xs j fuel lo hi->xs.getD i 0<j)/\∀i,X5 xs j fuel lo hi<=i->i<xs.size->j<=xs.getD i 0)
 | 0,lo,hi,h1,h2,h3,h4,h5=>by
  obtain rfl:lo=hi:=by omega
  exact⟨h2,h4,h5⟩
 | fuel+1,lo,hi,h1,h2,h3,h4,h5=>by
  unfold X5;by_cases hl:lo<hi
  ·rw [if_pos hl]
   have hm:(lo+hi) / 2<xs.size:=by omega
   have e:xs.getD ((lo+hi) / 2) j=xs.getD ((lo+hi) / 2) 0:=getD_in xs hm _ _;dsimp only;rw [e];by_cases hc:xs.getD ((lo+hi) / 2) 0<j
   ·rw [if_pos hc]
    refine pU xs hr j fuel ((lo+hi) / 2+1) hi (by omega) h2 (by omega) (fun i hi'=>?_) h5;by_cases ei:i=(lo+hi) / 2
    ·rw [ei];exact hc
    ·exact Ws (hr i _ (by omega) hm) hc
   ·rw [if_neg hc]
    refine pU xs hr j fuel lo ((lo+hi) / 2) (by omega) (by omega) (by omega) h4 fun i xi Dz=>?_
    by_cases ei:i=(lo+hi) / 2
    ·rw [ei];omega
    ·have:=hr _ i (show(lo+hi) / 2<i by omega) Dz
     omega
  ·rw [if_neg hl]
   obtain rfl:lo=hi:=by omega
   exact⟨h2,h4,h5⟩
theorem gO (xs:Array Nat) (hr:Ri xs) (j:Nat):Vo xs j<=xs.size/\(∀i,i<Vo xs j->xs.getD i 0<j)/\∀i,Vo xs j<=i->i<xs.size->j<=xs.getD i 0 :=
 pU xs hr j xs.size 0 xs.size (U4 _) (UH _) (by omega) (fun i h=>absurd h (by omega)) fun i h1 h2=>absurd h1 (by omega)
structure Tb (t:U8):Prop where
 ri:Ri t.place
 nd:t.dummies = #[]
theorem gn {t:U8} (T:Tb t) {i:Nat} (hi:i<t.place.size):t.slot (t.place.getD i 0)=.live i:=by
 have b:=gO t.place T.ri (t.place.getD i 0);have e:Vo t.place (t.place.getD i 0)=i:=by
  rcases Zc (Vo t.place (t.place.getD i 0)) i with h|h|h
  ·have z:=b.2.2 _ (UH _) (by omega)
   have y:=T.ri _ i h hi;omega
  ·exact h
  ·have z:=b.2.1 i h
   omega
 unfold SetTable.slot;rw [e];have e2:t.place[i]?=some (t.place.getD i 0):=by simp [Wc,hi]
 dsimp only;rw [e2];simp
theorem jl {t:U8} (T:Tb t) (j:Nat):(∃i,i<t.place.size/\t.place.getD i 0=j/\t.slot j=.live i)\/((∀i,i<t.place.size->t.place.getD i 0≠j)/\t.slot j=.empty):=by
 by_cases h:∃i,i<t.place.size/\t.place.getD i 0=j
 ·obtain⟨i,h1,h2⟩:=h
  exact .inl ⟨i,h1,h2,by rw [<- h2];exact gn T h1⟩
 ·refine .inr ⟨fun i h1 h2=>h ⟨i,h1,h2⟩,?_⟩
  have hn:∀i,i<t.place.size->t.place.getD i 0≠j:=fun i h1 h2=>h ⟨i,h1,h2⟩
  unfold SetTable.slot;dsimp only;have e1:(t.place[Vo t.place j]? == some j)=false:=by
   cases e:t.place[Vo t.place j]? with
   | none=>rfl
   | some y =>
    obtain⟨h1,h2⟩:=Xt.mp e;have z:=hn _ h1
    have e3:t.place.getD (Vo t.place j) 0=y:=by simp [Wc,h1,h2]
    rw [e3] at z;simpa using z
  rw [e1];have e2:ZV t.dummies j=false:=by rw [T.nd];simp [ZV]
  rw [e2];rfl
end cA
namespace cA
noncomputable def qI:Nat->Nat->Nat
 | 0,s=>s
 | r+1,s=>5 * qI r s+1
noncomputable def T5:Nat->Nat
 | 0=>0
 | r+1=>5 * T5 r+1
theorem mM:∀r s,qI r s=5 ^ r * s+T5 r
 | 0,s=>by simp [qI,T5]
 | r+1,s=>by
  rw [qI,mM r s,T5,Xi,Nat.mul_add,<- Nat.mul_assoc,aal 5 (5 ^ r),Xn]
theorem tX:∀r,4 * T5 r+1=5 ^ r
 | 0=>rfl
 | r+1=>by
  have:=tX r;rw [T5,Xi,<- this];omega
theorem pV:∀a b s,qI (a+b) s=qI a (qI b s)
 | 0,b,s=>by simp [qI]
 | a+1,b,s=>by
  rw [show a+1+b=(a+b)+1 by omega,qI,qI,pV a b s]
theorem FW (a b:Nat):T5 (a+b)=5 ^ a * T5 b+T5 a:=by
 have h:=pV a b 0;rw [mM,mM a,mM b] at h;simpa using h
theorem yU:∀k,∃o,T5 (2 ^ k)=2 ^ k * (2 * o+1)
 | 0=>⟨0,rfl⟩
 | k+1=>by
  obtain⟨o,h⟩:=yU k;have e:2 ^ (k+1)=2 ^ k+2 ^ k:=by rw [Xi];omega
  rw [e,FW,<- tX];refine⟨2 * T5 (2 ^ k) * o+T5 (2 ^ k)+o,?_⟩;generalize T5 (2 ^ k)=T at *
  generalize 2 ^ k=M at *
  have h3:(4 * T+1) * T+T=(2 * (2 * T+1)) * T:=by grind
  rw [h3];have h4:(2 * (2 * T+1)) * T=(2 * (2 * T+1)) * (M * (2 * o+1)):=by rw [<- h]
  rw [h4];grind
theorem cover:∀(k s j:Nat),j<2 ^ k->∃r,r<2 ^ k/\qI r s % 2 ^ k=j
 | 0,s,j,h=>⟨0,by simp,by simp at h;subst h;simp [Nat.mod_one]⟩
 | k+1,s,j,h=>by
  have e:2 ^ (k+1)=2 * 2 ^ k:=by rw [Xi];omega
  have hM:0<2 ^ k:=Nat.two_pow_pos k;obtain⟨r,hr,hj⟩:=cover k s (j % 2 ^ k) (X6 _ hM);obtain⟨o,ho⟩:=yU k;have hB:qI (2 ^ k+r) s=qI r s+2 ^ k * ((2 * o+1) * (4 * qI r s+1)):=by
   rw [pV,mM (2 ^ k),<- tX,ho];generalize qI r s=A;generalize 2 ^ k=M;grind
  rw [e] at h ⊢;obtain⟨A,hA⟩:∃A,qI r s=A:=⟨_,rfl⟩;rw [hA] at hB hj;generalize 2 ^ k=M at *
  have a1:=Nat.div_add_mod A M;have j1:=Nat.div_add_mod j M
  rw [hj] at a1;generalize j % M=c at *
  have hc:c<M:=by
   rw [<- hj];exact X6 _ hM
  have hp:j / M=0\/j / M=1:=by
   have:j / M<2:=Nat.div_lt_of_lt_mul (by rw [aal];exact h)
   revert this
   generalize j / M=p;intro this;omega
  have key:∀q x,x=2 * M * q+j->x % (2 * M)=j:=fun q x e=>by
   rw [e,Nat.mul_add_mod];exact ZA h
  obtain⟨q,hq⟩:∃q,A / M=2 * q\/A / M=2 * q+1:=⟨A / M / 2,by generalize A / M=z;omega⟩;generalize A / M=a at *
  generalize j / M=p at *
  obtain⟨u,hu⟩:∃u,(2 * o+1) * (4 * A+1)=2 * u+1:=⟨4 * A * o+o+2 * A,by grind⟩;rw [hu] at hB;rcases hq with rfl|rfl <;> rcases hp with rfl|rfl
  ·exact⟨r,by omega,key q _ (by grind)⟩
  ·exact⟨M+r,by omega,key (q+u) _ (by grind)⟩
  ·exact⟨M+r,by omega,key (q+u+1) _ (by grind)⟩
  ·exact⟨r,by omega,key q _ (by grind)⟩
end cA
namespace cA
open PySem
noncomputable def bQ (t:U8):Nat->Wt->Wt
 | 0,p=>p
 | n+1,p=>bQ t n (t.advance p)
theorem gP (t:U8):∀a b p,bQ t (a+b) p=bQ t b (bQ t a p)
 | 0,b,p=>by simp [bQ]
 | a+1,b,p=>by rw [show a+1+b=(a+b)+1 by omega,bQ,bQ,gP t a b]
noncomputable def start (mask i pb:Nat) (d:Option Nat):Wt:={ j:=i,more:=Ve mask i - i,i:=i,perturb:=pb,dummy:=d }
theorem jN (t:U8):∀(more j i pb:Nat) (d:Option Nat),bQ t (more+1) { j:=j,more:=more,i:=i,perturb:=pb,dummy:=d }=start t.mask (VA t.mask i pb).1 (VA t.mask i pb).2 d
 | 0,j,i,pb,d=>by
  simp only [bQ,WY];rfl
 | more+1,j,i,pb,d=>by
  rw [bQ];have e:t.advance { j:=j,more:=more+1,i:=i,perturb:=pb,dummy:=d }={ j:=j+1,more:=more,i:=i,perturb:=pb,dummy:=d }:=by
   simp [WY]
  rw [e];exact jN t more (j+1) i pb d
noncomputable def lp (mask:Nat):Nat->Nat × Nat->Nat × Nat
 | 0,x=>x
 | q+1,x=>VA mask (lp mask q x).1 (lp mask q x).2
theorem starts (t:U8) (d:Option Nat) (i pb:Nat):∀q,∃n,n<=10 * q/\bQ t n (start t.mask i pb d)=start t.mask (lp t.mask q (i,pb)).1 (lp t.mask q (i,pb)).2 d
 | 0=>⟨0,UH _,rfl⟩
 | q+1=>by
  obtain⟨n,h1,h2⟩:=starts t d i pb q;have hr:Ve t.mask (lp t.mask q (i,pb)).1 - (lp t.mask q (i,pb)).1<=9:=by
   unfold Ve;split <;> omega
  refine⟨n+(Ve t.mask (lp t.mask q (i,pb)).1 - (lp t.mask q (i,pb)).1+1),by omega,?_⟩;rw [gP,h2,start,jN];rfl
theorem DL (mask:Nat) (x:Nat × Nat):∀q,(lp mask q x).2=x.2 / 32 ^ q
 | 0=>by simp [lp]
 | q+1=>by
  rw [lp,VA,DL mask x q,Xi,Nat.div_div_eq_div_mul]
theorem Cg {mask:Nat} {x:Nat × Nat} (h:x.2<2 ^ 64) {q:Nat} (hq:13<=q):(lp mask q x).2=0:=by
 rw [DL];apply Nat.div_eq_of_lt
 calc x.2<2 ^ 64:=h
  _<=32 ^ 13:=by decide
  _<=32 ^ q:=ZZ (by decide) hq
theorem tY {mask:Nat} {x:Nat × Nat} (h:x.2<2 ^ 64):∀r,(lp mask (13+r) x).1 % (mask+1)=qI r (lp mask 13 x).1 % (mask+1)
 | 0=>rfl
 | r+1=>by
  have e:lp mask (13+(r+1)) x=VA mask (lp mask (13+r) x).1 (lp mask (13+r) x).2:=rfl;rw [e,VA,Cg h (by omega)];show((lp mask (13+r) x).1 * 5+1+0 / 32) % (mask+1) % (mask+1)=_
  rw [Nat.mod_mod,qI];simp only [Nat.zero_div,YK];rw [Nat.add_mod,Nat.mul_mod,tY h r,<- Nat.mul_mod,<- Nat.add_mod,aal]
theorem FX (t:U8) {k:Nat} (hk:t.mask+1=2 ^ k) (h:Int) {j:Nat} (hj:j<=t.mask):∃n,n<=10 * (t.mask+14)/\(bQ t n (t.probeStart h)).j=j:=by
 have e:t.probeStart h=start t.mask (Vi h % (t.mask+1)) (Vi h) none:=rfl;have hb:Vi h<2 ^ 64:=by
  unfold Vi;have h1:=WH h (show(0:Int)<2 ^ 64 by decide)
  have h2:=WS h (show(2 ^ 64:Int)≠0 by decide);omega
 let x:Nat × Nat:=(Vi h % (t.mask+1),Vi h)
 obtain⟨r,hr,hx⟩:=cover k (lp t.mask 13 x).1 j (by omega);rw [<- hk] at hx hr;have h1:=tY (mask:=t.mask) (x:=x) hb r
 have h2:(lp t.mask (13+r) x).1<t.mask+1:=by
  rw [show 13+r=(12+r)+1 by omega,lp,VA];exact X6 _ (YL _)
 rw [ZA h2,hx] at h1;obtain⟨n,h3,h4⟩:=starts t none x.1 x.2 (13+r);refine⟨n,by omega,?_⟩;rw [e];show(bQ t n (start t.mask x.1 x.2 none)).j=j
 rw [h4];exact h1
theorem tZ {t:U8} (T:Tb t) (hf:t.place.size<=t.mask):∃j,j<=t.mask/\t.slot j=.empty:=by
 refine Wd fun lb=>?_
 have all:∀j,j<=t.mask->∃i,i<t.place.size/\t.place.getD i 0=j:=fun j hj=>by
  rcases jl T j with⟨i,h1,h2,_⟩|⟨_,h2⟩
  ·exact⟨i,h1,h2⟩
  ·exact absurd ⟨j,hj,h2⟩ lb
 have up:∀j,j<=t.mask->∀i,i<t.place.size->t.place.getD i 0=j->j<=i:=by
  intro j;induction j with
  | zero=>intro _ i _ _;omega
  | succ j ih =>
   intro hj i hi e;obtain⟨i',hi',e'⟩:=all j (by omega);have:=ih (by omega) i' hi' e'
   rcases Zc i i' with q|q|q
   ·have:=T.ri i i' q hi';omega
   ·subst q;omega
   ·omega
 obtain⟨i,hi,e⟩:=all t.mask (UH _);have:=up _ (UH _) i hi e
 omega
theorem first (P:Nat->Prop) (n:Nat) (h:P n):∃m,m<=n/\P m/\∀i,i<m->¬ P i:=by
 induction n using Nat.strongRecOn with
 | ind n ih =>
  by_cases q:∃i,i<n/\P i
  ·obtain⟨i,h1,h2⟩:=q
   obtain⟨m,a,b,c⟩:=ih i h1 h2;exact⟨m,by omega,b,c⟩
  ·exact⟨n,UH _,h,fun i hi hp=>q ⟨i,hi,hp⟩⟩
theorem way {t:U8} (T:Tb t) {k:Nat} (hk:t.mask+1=2 ^ k) (hf:t.place.size<=t.mask) (h:Int) (hit:Nat->Prop) :
  ∃n,n<=10 * (t.mask+14)/\(t.slot (bQ t n (t.probeStart h)).j=.empty\/∃i,i<t.place.size/\t.slot (bQ t n (t.probeStart h)).j=.live i/\hit i) /\
   ∀m,m<n->∃i,i<t.place.size/\t.slot (bQ t m (t.probeStart h)).j=.live i/\¬ hit i:=by
 obtain⟨j,hj,he⟩:=tZ T hf;obtain⟨n,hn,e⟩:=FX t hk h hj;obtain⟨m,hm,hp,hb⟩:=first (fun n=>t.slot (bQ t n (t.probeStart h)).j=.empty\/∃i,i<t.place.size/\t.slot (bQ t n (t.probeStart h)).j=.live i/\hit i) n (.inl (by rw [e];exact he))
 refine⟨m,by omega,hp,fun i hi=>?_⟩;have lb:=hb i hi
 rcases jl T (bQ t i (t.probeStart h)).j with⟨a,h1,h2,h3⟩|⟨_,h2⟩
 ·exact⟨a,h1,h3,fun z=>lb (.inr ⟨a,h1,h3,z⟩)⟩
 ·exact absurd (.inl h2) lb
theorem yV (t:U8) (hashAt:Nat->Int) (h:Int):∀(n fuel:Nat) (p:Wt),(∀m,m<n->∃i,t.slot (bQ t m p).j=.live i/\(hashAt i == h)=false)->n<=fuel ->
  WT t hashAt h fuel p=WT t hashAt h (fuel - n) (bQ t n p)
 | 0,fuel,p,_,_=>rfl
 | n+1,0,p,_,hf=>absurd hf (by omega)
 | n+1,fuel+1,p,hm,hf=>by
  obtain⟨i,h1,h2⟩:=hm 0 (by omega);have h1:t.slot p.j=.live i:=h1
  rw [WT,h1];simp only [h2,UC,if_false];rw [yV t hashAt h n fuel (t.advance p) (fun m q=>hm (m+1) (by omega)) (by omega)];rw [show fuel+1 - (n+1)=fuel - n by omega];rfl
noncomputable def FY (t:U8) (h:Int) (j:Nat):Prop:=∃n,n<10 * (t.mask+15)/\(bQ t n (t.probeStart h)).j=j/\∀m,m<n->t.slot (bQ t m (t.probeStart h)).j≠.empty
structure qJ (t:U8) (hs:Array Int):Prop where
 tb:Tb t
 sz:t.place.size=hs.size
 le:∀i,i<t.place.size->t.place.getD i 0<=t.mask
 fill:hs.size<=t.mask
 pw:∃k,t.mask+1=2 ^ k
 t4:∀i,i<hs.size->FY t (hs.getD i 0) (t.place.getD i 0)
theorem gq {t t':U8} (h:t'.mask=t.mask):∀n p,bQ t' n p=bQ t n p
 | 0,p=>rfl
 | n+1,p=>by
  have e:t'.advance p=t.advance p:=by simp only [WY,h]
  rw [bQ,bQ,e,gq h n]
theorem gQ {t t':U8} (hm:t'.mask=t.mask) (h:Int):t'.probeStart h=t.probeStart h:=by simp only [SetTable.probeStart,hm]
theorem cV {α:Type} (xs:Array α) {p:Nat} (hp:p<=xs.size) (x:α):(Vb xs p x).size=xs.size+1:=by
 unfold Vb;simp;omega
theorem gR {α:Type} (xs:Array α) {p:Nat} (hp:p<=xs.size) (x:α) (i:Nat):(Vb xs p x)[i]?=if i<p then xs[i]? else if i=p then some x else xs[i - 1]?:=by
 unfold Vb;rw [Array.getElem?_append];have e:((xs.extract 0 p).push x).size=p+1:=by simp;omega
 rw [e];by_cases h1:i<p
 ·rw [if_pos (VD h1),if_pos h1,XI]
  rw [if_neg (by simp;omega),ZK];simp;omega
 ·rw [if_neg h1]
  by_cases h2:i=p
  ·rw [if_pos (Nat.lt_succ_of_le (XM h2)),if_pos h2,XI]
   rw [if_pos (by simp;omega)]
  ·rw [if_neg (by omega),if_neg h2,ZK]
   have e2:p+(i - (p+1))=i - 1:=by omega
   rw [e2];by_cases h3:i - 1<xs.size
   ·rw [if_pos (by omega)]
   ·rw [if_neg (by omega)]
    simp;omega
theorem ja {α:Type} (xs:Array α) {p:Nat} (hp:p<=xs.size) (x d:α) (i:Nat):(Vb xs p x).getD i d=if i<p then xs.getD i d else if i=p then x else xs.getD (i - 1) d:=by
 rw [U1,gR xs hp x i,U1,U1];split
 ·rfl
 ·split <;> rfl
theorem pJ {t:U8} {hs:Array Int} (I:qJ t hs) {h:Int} {n:Nat} (hn:n<10 * (t.mask+15)) (he:t.slot (bQ t n (t.probeStart h)).j=.empty) (hj:(bQ t n (t.probeStart h)).j<=t.mask)
  (hw:∀m,m<n->t.slot (bQ t m (t.probeStart h)).j≠.empty) (DM:hs.size+1<=t.mask) :
  qJ (t.put (bQ t n (t.probeStart h)).j).1 (Vb hs (t.put (bQ t n (t.probeStart h)).j).2 h)/\(t.put (bQ t n (t.probeStart h)).j).2<=hs.size:=by
 generalize RP:(bQ t n (t.probeStart h)).j=j at *
 have Jy:∀i,i<t.place.size->t.place.getD i 0≠j:=fun i hi e=>by
  have z:=gn I.tb hi;rw [e,he] at z;cases z
 have hb:=gO t.place I.tb.ri j;have sQ:(t.put j).2=Vo t.place j:=rfl
 have hm:(t.put j).1.mask=t.mask:=rfl;have hpl:(t.put j).1.place=Vb t.place (Vo t.place j) j:=rfl
 have hd:(t.put j).1.dummies = #[]:=by
  show(if ZV t.dummies j then _ else t.dummies) = #[];rw [I.tb.nd];simp [ZV]
 have gp:=ja t.place hb.1 j 0;have sp:=cV t.place hb.1 j
 generalize Vo t.place j=bb at hb sQ hpl gp sp;have hsz:=I.sz
 have Dv:bb<=hs.size:=by omega
 have ri:Ri (t.put j).1.place:=fun a b hab RQ=>by
  rw [hpl,sp] at RQ;rw [hpl,gp,gp];have h1:=hb.2.1
  have h2:=hb.2.2;by_cases b1:b<bb
  ·rw [if_pos (Ws hab b1),if_pos b1];exact I.tb.ri a b hab (UY b1 hb.1)
  ·rw [if_neg b1]
   by_cases b2:b=bb
   ·rw [if_pos b2,if_pos (b2 ▸ hab)];exact h1 a (b2 ▸ hab)
   ·rw [if_neg b2]
    have b3:bb<=b - 1:=by omega
    have b4:b - 1<t.place.size:=by omega
    by_cases a1:a<bb
    ·rw [if_pos a1];exact I.tb.ri a (b - 1) (UY a1 b3) b4
    ·rw [if_neg a1]
     by_cases a2:a=bb
     ·rw [if_pos a2]
      have z:=h2 (b - 1) b3 b4;have y:=Jy (b - 1) b4
      omega
     ·rw [if_neg a2];exact I.tb.ri (a - 1) (b - 1) (by omega) b4
 have tb:Tb (t.put j).1:=⟨ri,hd⟩;have mono:∀c,t.slot c≠.empty->(t.put j).1.slot c≠.empty:=fun c hc z=>by
  rcases jl I.tb c with⟨i,h1,h2,_⟩|⟨_,h2⟩
  ·have key:∃i',i'<(t.put j).1.place.size/\(t.put j).1.place.getD i' 0=c:=by
    rw [hpl,sp];by_cases q:i<bb
    ·exact⟨i,VD h1,by rw [gp,if_pos q];exact h2⟩
    ·exact⟨i+1,Nat.succ_lt_succ h1,by rw [gp,if_neg (by omega),if_neg (by omega)];exact h2⟩
   obtain⟨i',k1,k2⟩:=key;have y:=gn tb k1
   rw [k2,z] at y;cases y
  ·exact hc h2
 refine⟨⟨tb,?_,?_,?_,?_,?_⟩,?_⟩
 ·rw [sQ,hpl,sp,cV hs Dv,hsz]
 ·intro i hi
  rw [hpl,sp] at hi;rw [hpl,gp,hm];split
  ·exact I.le i (by omega)
  ·split
   ·exact hj
   ·exact I.le (i - 1) (by omega)
 ·rw [sQ,cV hs Dv,hm];exact DM
 ·rw [hm];exact I.pw
 ·intro i hi
  rw [sQ,cV hs Dv] at hi;rw [sQ,hpl,gp,ja hs Dv];have lift:∀h' c,FY t h' c->FY (t.put j).1 h' c:=fun h' c ⟨n',k1,k2,k3⟩ =>
   ⟨n',by rw [hm];exact k1,by rw [gQ hm,gq hm];exact k2,fun m q=>by rw [gQ hm,gq hm];exact mono _ (k3 m q)⟩
  split
  ·exact lift _ _ (I.t4 i (by omega))
  ·split
   ·exact lift _ _ ⟨n,hn,RP,hw⟩
   ·exact lift _ _ (I.t4 (i - 1) (by omega))
 ·rw [sQ];exact Dv
theorem Jz {mask k:Nat} (hk:mask+1=2 ^ k) (h:Int) {j:Nat} (hj:j<=mask):∃q,q<=13+mask/\(lp mask q (Vi h % (mask+1),Vi h)).1=j:=by
 have hb:Vi h<2 ^ 64:=by
  unfold Vi;have h1:=WH h (show(0:Int)<2 ^ 64 by decide)
  have h2:=WS h (show(2 ^ 64:Int)≠0 by decide);omega
 let x:Nat × Nat:=(Vi h % (mask+1),Vi h)
 obtain⟨r,hr,hx⟩:=cover k (lp mask 13 x).1 j (by omega);rw [<- hk] at hx hr;have h1:=tY (mask:=mask) (x:=x) hb r
 have h2:(lp mask (13+r) x).1<mask+1:=by
  rw [show 13+r=(12+r)+1 by omega,lp,VA];exact X6 _ (YL _)
 rw [ZA h2,hx] at h1;exact⟨13+r,by omega,h1⟩
theorem lX (t:U8):∀(n more j i pb:Nat) (d:Option Nat),n<=more->bQ t n { j:=j,more:=more,i:=i,perturb:=pb,dummy:=d }={ j:=j+n,more:=more - n,i:=i,perturb:=pb,dummy:=d }
 | 0,more,j,i,pb,d,_=>rfl
 | n+1,0,j,i,pb,d,h=>absurd h (by omega)
 | n+1,more+1,j,i,pb,d,h=>by
  rw [bQ];have e:t.advance { j:=j,more:=more+1,i:=i,perturb:=pb,dummy:=d }={ j:=j+1,more:=more,i:=i,perturb:=pb,dummy:=d }:=by simp [WY]
  rw [e,lX t n more (j+1) i pb d (by omega)];simp only [SetTable.Probe.mk.injEq,and_true];omega
noncomputable def Fr (owner:Array (Option Nat)) (c:Nat):Prop:=(owner.getD c (some 0)).isNone=true
theorem rB (mask:Nat) (x:Nat × Nat):∀q,lp mask (q+1) x=lp mask q (VA mask x.1 x.2)
 | 0=>rfl
 | q+1=>by rw [lp,rB mask x q,lp]
theorem oE (t:U8) (owner:Array (Option Nat)):∀(fuel i pb:Nat),(∃q,q<fuel/\Fr owner (lp t.mask q (i,pb)).1) ->
  ∃j n,X1 t.mask owner fuel i pb=some j/\n+1<=10 * fuel/\(bQ t n (start t.mask i pb none)).j=j/\Fr owner j/\∀m,m<n->¬ Fr owner (bQ t m (start t.mask i pb none)).j
 | 0,i,pb,⟨q,hq,_⟩=>absurd hq (by omega)
 | fuel+1,i,pb,⟨q,hq,hf⟩=>by
  have hr:Ve t.mask i - i<=9/\i<=Ve t.mask i:=by
   unfold Ve;split <;> omega
  unfold X1;cases e:(Vp (Ve t.mask i+1 - i)).find? fun k=>(owner.getD (i+k) (some 0)).isNone with
  | some k =>
   obtain⟨h1,hk,h3⟩:=List.find?_range_eq_some.mp e;have hk:=Vn.mp hk
   have RR:∀m,m<k->(owner.getD (i+m) (some 0)).isNone=false:=fun m hm=>by simpa using h3 m hm
   refine⟨i+k,k,rfl,by omega,?_,h1,fun m hm=>?_⟩
   ·rw [start,lX t k _ _ _ _ _ (by omega)]
   ·rw [start,lX t m _ _ _ _ _ (by omega)]
    show ¬ (owner.getD (i+m) (some 0)).isNone=true;rw [RR m hm];simp
  | none =>
   have lb:∀k,k<Ve t.mask i+1 - i->(owner.getD (i+k) (some 0)).isNone=false:=fun k hk=>by
    have:=VY.mp e k (Vn.mpr hk);exact Bool.eq_false_iff.mpr this
   obtain⟨q,rfl⟩:∃q',q=q'+1:=by
    cases q with
    | zero =>
     have z:=lb 0 (by omega);have hf:(owner.getD i (some 0)).isNone=true:=hf
     rw [YK,hf] at z;cases z
    | succ q=>exact⟨q,rfl⟩
   rw [rB] at hf;obtain⟨j,n,g1,g2,g3,g4,g5⟩:=oE t owner fuel (VA t.mask i pb).1 (VA t.mask i pb).2 ⟨q,by omega,hf⟩;refine⟨j,(Ve t.mask i - i+1)+n,g1,by omega,?_,g4,fun m hm=>?_⟩
   ·rw [gP,start,jN];exact g3
   ·by_cases FZ:m<=Ve t.mask i - i
    ·rw [start,lX t m _ _ _ _ _ FZ]
     show ¬ (owner.getD (i+m) (some 0)).isNone=true;rw [lb m (by omega)];simp
    ·have em:m=(Ve t.mask i - i+1)+(m - (Ve t.mask i - i+1)):=by omega
     rw [em,gP,start,jN];exact g5 _ (by omega)
theorem oF:∀(n:Nat) (l:List Nat),l.Nodup->(∀x∈l,x<n)->l.length<=n
 | 0,l,_,h=>by
  cases l with
  | nil=>simp
  | cons a r=>exact absurd (h a (by simp)) (by omega)
 | n+1,l,hn,h=>by
  have h1:=oF n (l.erase n) (hn.erase n) fun x hx=>by
   have a:=h x (List.mem_of_mem_erase hx);have b:x≠n:=fun e=>by
    subst e;exact(hn.not_mem_erase) hx
   omega
  have h2:l.length<=(l.erase n).length+1:=by
   by_cases hm:n∈l
   ·rw [XQ hm];omega
   ·rw [List.erase_of_not_mem hm];omega
  omega
structure Own (t:U8) (owner:Array (Option Nat)) (hs:List Int) (pos:Nat->Nat):Prop where
 sz:owner.size=t.mask+1
 at_:∀c,c<=t.mask->∀i,owner.getD c none=some i↔(i<hs.length/\pos i=c)
 le:∀i,i<hs.length->pos i<=t.mask
 t4:∀i (hi:i<hs.length),∃n,n<10 * (t.mask+15)/\(bQ t n (t.probeStart hs[i])).j=pos i/\∀m,m<n->¬ Fr owner (bQ t m (t.probeStart hs[i])).j
theorem Own.mN {t:U8} {owner:Array (Option Nat)} {hs:List Int} {pos:Nat->Nat} (O:Own t owner hs pos) (c:Nat):Fr owner c↔(c<=t.mask/\∀i,i<hs.length->pos i≠c):=by
 unfold Fr;constructor
 ·intro h
  have hc:c<=t.mask:=by
   refine Wd fun hc=>?_
   have hs':=O.sz;have:owner.getD c (some 0)=some 0:=by simp [Wc,show ¬ c<owner.size by omega]
   rw [this] at h;cases h
  refine⟨hc,fun i hi e=>?_⟩;have z:=(O.at_ c hc i).mpr ⟨hi,e⟩
  have bN:c<owner.size:=by rw [O.sz];omega
  have e2:owner.getD c (some 0)=owner.getD c none:=by simp [Wc,bN]
  rw [e2,z] at h;cases h
 ·rintro⟨hc,h⟩
  have bN:c<owner.size:=by rw [O.sz];omega
  have e2:owner.getD c (some 0)=owner.getD c none:=by simp [Wc,bN]
  rw [e2];cases e:owner.getD c none with
  | none=>rfl
  | some i =>
   obtain⟨h1,h2⟩:=(O.at_ c hc i).mp e;exact absurd h2 (h i h1)
theorem Own.wO {t:U8} {owner:Array (Option Nat)} {hs:List Int} {pos:Nat->Nat} (O:Own t owner hs pos) (hf:hs.length<=t.mask):∃c,c<=t.mask/\Fr owner c:=by
 refine Wd fun lb=>?_
 have all:∀c,c<=t.mask->∃i,i<hs.length/\pos i=c:=fun c hc=>Wd fun hn=>lb ⟨c,hc,(O.mN c).mpr ⟨hc,fun i hi e=>hn ⟨i,hi,e⟩⟩⟩
 have M6:∀c,∃i,c<=t.mask->i<hs.length/\pos i=c:=fun c=>by
  by_cases hc:c<=t.mask
  ·obtain⟨i,h⟩:=all c hc;exact⟨i,fun _=>h⟩
  ·exact⟨0,fun z=>absurd z hc⟩
 obtain⟨g,hg⟩:=aaq.mp M6;have h1:=oF hs.length ((Vp (t.mask+1)).map g) (by
  unfold List.Nodup;rw [Xq];refine Zd (R:=fun a b=>a<b) (fun {a b} ha hb bN e=>?_) ZL;have ha':=(hg a (by have:=Vn.mp ha;omega)).2
  have hb':=(hg b (by have:=Vn.mp hb;omega)).2;rw [e] at ha';omega) fun x hx=>by
   obtain⟨c,hc,rfl⟩:=Ur.mp hx;exact(hg c (by have:=Vn.mp hc;omega)).1
 simp at h1;omega
noncomputable def yW (mask:Nat) (acc:Option (Array (Option Nat) × Nat)) (h:Int):Option (Array (Option Nat) × Nat):=do
 let (owner,k) <- acc
 let j <- X1 mask owner (We mask) (Vi h % (mask+1)) (Vi h)
 pure (owner.setIfInBounds j (some k),k+1)
theorem rC (mask:Nat) (hashes:Array Int):X7 mask hashes=(hashes.toList.foldl (yW mask) (some (Array.replicate (mask+1) none,0))).map (·.1):=by
 unfold X7;rw [<- Array.foldl_toList];rfl
theorem Own.step {t:U8} {k:Nat} (hk:t.mask+1=2 ^ k) {owner:Array (Option Nat)} {hs:List Int} {pos:Nat->Nat} (O:Own t owner hs pos) (hf:hs.length<=t.mask) (h:Int) :
  ∃mO pos',yW t.mask (some (owner,hs.length)) h=some (mO,hs.length+1)/\Own t mO (hs++[h]) pos':=by
 obtain⟨c,hc,xR⟩:=O.wO hf;obtain⟨q,hq,e⟩:=Jz hk h hc;obtain⟨j,n,g1,g2,g3,g4,g5⟩:=oE t owner (We t.mask) (Vi h % (t.mask+1)) (Vi h) ⟨q,by unfold We;omega,by rw [e];exact xR⟩;have hj:=(O.mN j).mp g4
 have H9:∀i,i<hs.length+1->i≠hs.length->i<hs.length:=fun i a b=>by omega
 have bN:j<owner.size:=by rw [O.sz];omega
 have gs:∀c d,(owner.setIfInBounds j (some hs.length)).getD c d=if c=j then some hs.length else owner.getD c d:=fun c d=>by
  rw [U1,U1,Array.getElem?_setIfInBounds];by_cases ec:j=c
  ·subst ec;simp [bN]
  ·rw [if_neg ec,if_neg (VU ec)]
 refine⟨owner.setIfInBounds j (some hs.length),fun i=>if i=hs.length then j else pos i,?_,?_⟩
 ·unfold yW
  simp only [Option.bind_eq_bind,WD,g1];rfl
 ·have PM:∀c,Fr (owner.setIfInBounds j (some hs.length)) c->Fr owner c:=fun c hc=>by
   unfold Fr at hc ⊢;rw [gs] at hc;by_cases ec:c=j
   ·rw [if_pos ec] at hc;cases hc
   ·rw [if_neg ec] at hc;exact hc
  refine⟨by rw [Array.size_setIfInBounds];exact O.sz,fun c hc i=>?_,fun i hi=>?_,fun i hi=>?_⟩
  ·rw [gs,Ul,Vx]
   by_cases ec:c=j
   ·subst ec
    rw [if_pos rfl];constructor
    ·intro e;cases e;exact⟨V9 _,by rw [if_pos rfl]⟩
    ·rintro⟨h1,h2⟩
     by_cases ei:i=hs.length
     ·rw [ei]
     ·rw [if_neg ei] at h2
      exact absurd h2 (hj.2 i (H9 i h1 ei))
   ·rw [if_neg ec,O.at_ c hc i]
    constructor
    ·rintro⟨h1,h2⟩;exact⟨VD h1,by rw [if_neg (U0 h1)];exact h2⟩
    ·rintro⟨h1,h2⟩
     by_cases ei:i=hs.length
     ·rw [if_pos ei] at h2;exact absurd h2.symm ec
     ·rw [if_neg ei] at h2;exact⟨H9 i h1 ei,h2⟩
  ·rw [Ul,Vx] at hi
   by_cases ei:i=hs.length
   ·show(if i=hs.length then j else pos i)<=t.mask
    rw [if_pos ei];exact hj.1
   ·show(if i=hs.length then j else pos i)<=t.mask
    rw [if_neg ei];exact O.le i (H9 i hi ei)
  ·rw [Ul,Vx] at hi
   by_cases ei:i=hs.length
   ·subst ei
    have e2:(hs++[h])[hs.length]=h:=by simp
    rw [e2];refine⟨n,by unfold We at g2;omega,by rw [if_pos rfl];exact g3,fun m hm z=>g5 m hm (PM _ z)⟩
   ·obtain⟨n',k1,k2,k3⟩:=O.t4 i (H9 i hi ei)
    have e2:(hs++[h])[i]=hs[i]'(H9 i hi ei):=List.getElem_append_left (H9 i hi ei);rw [e2];exact⟨n',k1,by rw [if_neg ei];exact k2,fun m hm z=>k3 m hm (PM _ z)⟩
theorem rD {t:U8} {k:Nat} (hk:t.mask+1=2 ^ k):∀(l:List Int) (owner:Array (Option Nat)) (pre:List Int) (pos:Nat->Nat),Own t owner pre pos->pre.length+l.length<=t.mask+1 ->
  ∃mO pos',l.foldl (yW t.mask) (some (owner,pre.length))=some (mO,pre.length+l.length)/\Own t mO (pre++l) pos'
 | [],owner,pre,pos,O,_=>⟨owner,pos,by simp,by simpa using O⟩
 | h::l,owner,pre,pos,O,hf=>by
  simp only [Ut] at hf;obtain⟨o1,p1,e1,O1⟩:=O.step hk (by omega) h;obtain⟨o2,p2,e2,O2⟩:=rD hk l o1 (pre++[h]) p1 O1 (by rw [Ul,Vx];omega);refine⟨o2,p2,?_,by simpa using O2⟩;rw [Yu,e1];rw [Ul,Vx] at e2;rw [e2];simp only [Ut];congr 2;omega
theorem Ga {t:U8} {k:Nat} (hk:t.mask+1=2 ^ k) (hs:Array Int) (hf:hs.size<=t.mask):∃owner pos,X7 t.mask hs=some owner/\Own t owner hs.toList pos:=by
 have O0:Own t (Array.replicate (t.mask+1) none) [] (fun _=>0):=⟨by simp,fun c hc i=>by simp [Wc,hc],fun i hi=>by simp at hi,fun i hi=>by simp at hi⟩;obtain⟨o,p,e,O⟩:=rD hk hs.toList _ [] _ O0 (by simp;omega);refine⟨o,p,?_,by simpa using O⟩;rw [rC,show(0:Nat)=([]:List Int).length from rfl,e];rfl
theorem oG {mask i:Nat} (h:i<=mask):i<=Ve mask i/\Ve mask i<=mask:=by
 unfold Ve;split <;> omega
theorem t5 (t:U8) (p:Wt) (h:p.j+p.more<=t.mask):(t.advance p).j+(t.advance p).more<=t.mask:=by
 unfold WY;split
 ·show p.j+1+(p.more - 1)<=t.mask
  omega
 ·have hl:(VA t.mask p.i p.perturb).1<=t.mask:=by
   unfold VA;exact Nat.le_of_lt_succ (X6 _ (YL _))
  have hr:=oG hl;show(VA t.mask p.i p.perturb).1+(Ve t.mask (VA t.mask p.i p.perturb).1 - (VA t.mask p.i p.perturb).1)<=t.mask
  omega
theorem t6 (t:U8):∀(n:Nat) (p:Wt),p.j+p.more<=t.mask->(bQ t n p).j<=t.mask
 | 0,p,h=>by show p.j<=t.mask;omega
 | n+1,p,h=>t6 t n _ (t5 t p h)
theorem rE (t:U8) (h:Int):(t.probeStart h).j+(t.probeStart h).more<=t.mask:=by
 have hl:Vi h % (t.mask+1)<=t.mask:=Nat.le_of_lt_succ (X6 _ (YL _));have hr:=oG hl
 show Vi h % (t.mask+1)+(Ve t.mask (Vi h % (t.mask+1)) - Vi h % (t.mask+1))<=t.mask;omega
theorem Ci {mask k:Nat} (hk:mask+1=2 ^ k) (finger moves:Nat) (led plain:Bool) (hs:Array Int) (hf:hs.size<=mask) :
  ∃t order,SetTable.laid mask finger moves led plain hs=some (t,order)/\t.mask=mask/\t.led=led/\t.plain=plain/\order.toList.Perm (Vp hs.size)/\qJ t (order.map fun i=>hs.getD i 0):=by
 let t0:U8:={ mask:=mask,place:=#[],dummies:=#[],finger:=finger,led:=led,moves:=moves,plain:=plain }
 obtain⟨owner,pos,e,O⟩:=Ga (t:=t0) hk hs hf;have e:X7 mask hs=some owner:=e
 let live:List (Nat × Nat):=(Vp (mask+1)).filterMap fun j=>(owner.getD j none).map (j,·)
 let t:U8:={ mask:=mask,place:=(live.map (·.1)).toArray,dummies:=#[],finger:=finger,led:=led,moves:=moves,plain:=plain }
 have hlen:hs.toList.length=hs.size:=by simp
 have mem:∀j i,(j,i)∈live↔(j<=mask/\i<hs.size/\pos i=j):=fun j i=>by
  have z:(j,i)∈live↔∃a,a∈Vp (mask+1)/\(owner.getD a none).map (a,·)=some (j,i):=YH;rw [z];constructor
  ·rintro⟨a,h1,h2⟩
   obtain⟨b,h3,h4⟩:=UA.mp h2;cases h4;have ha:j<=mask:=by have:=Vn.mp h1;omega
   have:=(O.at_ j ha i).mp h3;exact⟨ha,by rw [<- hlen];exact this.1,this.2⟩
  ·rintro⟨h1,h2,h3⟩
   exact⟨j,Vn.mpr (by omega),by rw [(O.at_ j h1 i).mpr ⟨by rw [hlen];exact h2,h3⟩];rfl⟩
 have rise:live.Pairwise fun a b=>a.1<b.1:=by
  refine List.Pairwise.filterMap (R:=fun a b=>a<b) _ (fun a a' RS b hb b' hb'=>?_) ZL;obtain⟨_,_,rfl⟩:=UA.mp hb;obtain⟨_,_,rfl⟩:=UA.mp hb';exact RS
 have RU:(live.map (·.2)).Nodup:=by
  unfold List.Nodup;rw [Xq];refine Zd (fun {a b} ha hb bN e2=>?_) rise;have h1:=((mem a.1 a.2).mp ha).2.2
  have h2:=((mem b.1 b.2).mp hb).2.2;rw [e2] at h1;omega
 have perm:(live.map (·.2)).Perm (Vp hs.size):=by
  refine(Wz RU List.nodup_range).mpr fun i=>?_
  rw [Vn];constructor
  ·intro hi
   obtain⟨⟨j,i'⟩,h1,rfl⟩:=Ur.mp hi;exact((mem j i').mp h1).2.1
  ·intro hi
   exact Ur.mpr ⟨(pos i,i),(mem _ _).mpr ⟨O.le i (by rw [hlen];exact hi),hi,rfl⟩,rfl⟩
 have ri:Ri t.place:=fun a b hab hb=>by
  show(live.map (·.1)).toArray.getD a 0<(live.map (·.1)).toArray.getD b 0;have hb':b<live.length:=by
   have:(live.map (·.1)).toArray.size=live.length:=by simp
   show b<live.length;rw [<- this];exact hb
  have z:=YV.mp rise a b (by omega) hb' hab;simpa [Wc,show a<live.length by omega,hb'] using z
 have tb:Tb t:=⟨ri,rfl⟩;have M7:t.place.size=live.length:=by show(live.map (·.1)).toArray.size=_;simp
 have Gb:∀i (hi:i<live.length),t.place.getD i 0=(live[i]).1:=fun i hi=>by
  show(live.map (·.1)).toArray.getD i 0=_;simp [Wc,hi]
 have full:∀c,¬ Fr owner c->c<=mask->t.slot c≠.empty:=fun c hc hle z=>by
  have hex:∃i,i<hs.size/\pos i=c:=Wd fun lb=>hc ((O.mN c).mpr ⟨hle,fun i hi e2=>lb ⟨i,by rw [<- hlen];exact hi,e2⟩⟩)
  obtain⟨i,h1,h2⟩:=hex;obtain⟨a,ha,ea⟩:=Xw.mp ((mem c i).mpr ⟨hle,h1,h2⟩);have y:=gn tb (i:=a) (by rw [M7];exact ha)
  rw [Gb a ha,ea,z] at y;cases y
 have M8:live.length=hs.size:=by
  have:=perm.length_eq;simpa using this
 have JA:∀h m,(bQ t m (t.probeStart h)).j<=mask:=fun h m=>t6 t m _ (rE t h)
 refine⟨t,(live.map (·.2)).toArray,?_,rfl,rfl,rfl,by simpa using perm,tb,?_,?_,?_,⟨k,hk⟩,?_⟩
 ·unfold SetTable.laid
  rw [e];rfl
 ·rw [M7];simp
 ·intro i hi
  rw [M7] at hi;rw [Gb i hi];exact((mem _ _).mp (UJ hi)).1
 ·rw [Vv,VO,Lm9,M8];exact hf
 ·intro i hi
  have hi':i<live.length:=by simpa using hi
  have e1:((live.map (·.2)).toArray.map fun i=>hs.getD i 0).getD i 0=hs.getD (live[i]).2 0:=by simp [Wc,hi']
  rw [e1,Gb i hi'];have mm:(live[i]).1<=mask/\(live[i]).2<hs.size/\pos (live[i]).2=(live[i]).1:=(mem _ _).mp (UJ hi')
  obtain⟨m1,m2,m3⟩:=mm;obtain⟨n,k1,k2,k3⟩:=O.t4 (live[i]).2 (by rw [hlen];exact m2);have e2:hs.toList[(live[i]).2]'(by rw [hlen];exact m2)=hs.getD (live[i]).2 0:=by simp [Wc,m2]
  rw [e2] at k2 k3;refine⟨n,k1,?_,fun m hm=>?_⟩
  ·rw [gq (t:=t0) (t':=t) rfl,gQ (t:=t0) (t':=t) rfl,k2,m3]
  ·refine full _ ?_ (JA _ _)
   rw [gq (t:=t0) (t':=t) rfl,gQ (t:=t0) (t':=t) rfl];exact k3 m hm
theorem oH (t:U8):∀(n:Nat) (p:Wt),(bQ t n p).dummy=p.dummy
 | 0,p=>rfl
 | n+1,p=>by
  rw [bQ,oH t n];unfold WY;split <;> rfl
theorem yX (t:U8) (n:Nat) (p:Wt):t.advance (bQ t n p)=bQ t (n+1) p:=by
 rw [gP t n 1 p];rfl
theorem DN {t:U8} {H:Nat->Int} {h:Int} {m0 c:Nat} (hb:∀c',c'<c->∃i,t.slot (bQ t (m0+c') (t.probeStart h)).j=.live i/\(H i == h)=false) (hc:c<10 * We t.mask) :
  ∃f,t.probe H h (bQ t m0 (t.probeStart h))=WT t H h (f+1) (bQ t (m0+c) (t.probeStart h)):=by
 refine⟨10 * We t.mask - c - 1,?_⟩;unfold SetTable.probe;rw [yV t H h c _ _ (fun m hm=>by rw [<- gP];exact hb m hm) (by omega),<- gP];congr 1;omega
theorem yY {t:U8} {H:Nat->Int} {h:Int} {m0 c:Nat} (hs:t.slot (bQ t (m0+c) (t.probeStart h)).j=.empty) (hc:c<10 * We t.mask)
  (hb:∀c',c'<c->∃i,t.slot (bQ t (m0+c') (t.probeStart h)).j=.live i/\(H i == h)=false):t.probe H h (bQ t m0 (t.probeStart h))=some (.empty (bQ t (m0+c) (t.probeStart h)).j none):=by
 obtain⟨f,e⟩:=DN hb hc;rw [e,WT,hs];simp only [oH];rfl
theorem Cj {t:U8} {H:Nat->Int} {h:Int} {m0 c i:Nat} (hs:t.slot (bQ t (m0+c) (t.probeStart h)).j=.live i) (hc:c<10 * We t.mask)
  (hb:∀c',c'<c->∃i,t.slot (bQ t (m0+c') (t.probeStart h)).j=.live i/\(H i == h)=false) (hi:(H i == h)=true) :
  t.probe H h (bQ t m0 (t.probeStart h))=some (.candidate (bQ t (m0+c) (t.probeStart h)).j i (bQ t (m0+c+1) (t.probeStart h))):=by
 obtain⟨f,e⟩:=DN hb hc;rw [e,WT,hs];simp only [hi,if_true,yX]
section
variable {prog:VB} {w:Wy} {A:Vj} {E:Uq->Uu->Prop} {s:Uu} {a:U2} {o:Obj} {es:Array (Int × Uq)} {ep:Nat} {t:U8} {x:Uq} {h:Int} {eqv:Nat->Bool} {Q:SetFound->Uu->Prop}
theorem wQ (ho:s.heap.get? a=some o) (hd:o.data=.set es ep t) (I:qJ t (es.map (·.1))) (Ck:(t.mask % 2 == 0)=false)
  (hq:∀i (hi:i<es.size),(es[i]).1=h->WB A s (es[i]).2 x (eqv i)) (JB:∀i (hi:i<es.size),∃b,(es[i]).2=.ref b)
  (yZ:t.led=false->∀Q':Bool->Uu->Prop,Q' false s->UK (model prog w) A (searchCouldBeSeen x ((es.filter (·.1 == h)).toList.map (·.2))) Q' E s)
  {n:Nat} (hn:n<=10 * (t.mask+14))
  (wR:∀m,m<n->∃i,i<t.place.size/\t.slot (bQ t m (t.probeStart h)).j=.live i/\¬ (∃hi:i<es.size,(es[i]).1=h/\eqv i=true))
  (hend:(t.slot (bQ t n (t.probeStart h)).j=.empty/\Q (.free (bQ t n (t.probeStart h)).j false) s)\/((∃i,t.slot (bQ t n (t.probeStart h)).j=.live i/\∃hi:i<es.size,(es[i]).1=h/\eqv i=true)/\Q (.there none) s)) :
  ∀(d m0 fuel:Nat) (y0:Option Wt),m0+d=n->d<fuel->y0.getD (t.probeStart h)=bQ t m0 (t.probeStart h)->UK (model prog w) A (setSearchFrom a x h true fuel y0) Q E s:=by
 intro d;induction d using Nat.strongRecOn with
 | ind d ih =>
  intro m0 fuel y0 hm TY lN;obtain⟨fuel,rfl⟩:∃g,fuel=g+1:=⟨fuel - 1,by omega⟩;have hfit:t.fits es.size=true:=by
   have z:=I.sz;have f:=I.fill
   rw [Vv] at z f;simp only [SetTable.fits,aai,I.tb.nd,Uw,beq_iff_eq,decide_eq_true_eq];exact⟨z,by simp;omega⟩
  unfold setSearchFrom;refine Ui (Vg ho hd hfit ?_);dsimp only;have hg:t.gaveWay=false:=Ck
  rw [hg];simp only [UC,if_false];rw [lN];have hsz:t.place.size=es.size:=by have z:=I.sz;rw [Vv] at z;exact z
  have gH:∀i (hi:i<es.size),((es[i]?.map (·.1)).getD 0)=(es[i]).1:=fun i hi=>by simp [hi]
  obtain⟨c,hcd,hP,M9⟩:=first (fun c=>m0+c=n\/∃i,t.slot (bQ t (m0+c) (t.probeStart h)).j=.live i/\∃hi:i<es.size,(es[i]).1=h) d (.inl hm)
  have FE:c<10 * We t.mask:=by unfold We;omega
  have hb:∀c',c'<c->∃i,t.slot (bQ t (m0+c') (t.probeStart h)).j=.live i/\(((es[i]?.map (·.1)).getD 0) == h)=false:=fun c' hc'=>by
   have lb:=M9 c' hc';obtain⟨i,h1,h2,_⟩:=wR (m0+c') (by omega);refine⟨i,h2,?_⟩;rw [gH i (by omega)];exact beq_eq_false_iff_ne.mpr fun e=>lb (.inr ⟨i,h2,by omega,e⟩)
  have JC:(m0+c=n/\t.slot (bQ t (m0+c) (t.probeStart h)).j=.empty)\/∃i,∃hi:i<es.size,t.slot (bQ t (m0+c) (t.probeStart h)).j=.live i/\(es[i]).1=h:=by
   rcases hP with e|⟨i,h1,hi,h2⟩
   ·rcases hend with⟨z,_⟩|⟨⟨i,z,hi,h1,_⟩,_⟩
    ·exact .inl ⟨e,by rw [e];exact z⟩
    ·exact .inr ⟨i,hi,by rw [e];exact z,h1⟩
   ·exact .inr ⟨i,hi,h1,h2⟩
  rcases JC with⟨e,hs⟩|⟨i,hi,hs,hh⟩
  ·rw [yY hs FE]
   rotate_left
   ·exact hb
   dsimp only;rcases hend with⟨_,q⟩|⟨⟨i,z,_⟩,_⟩
   ·refine Uk ?_
    rw [e];exact q
   ·rw [<- e,hs] at z;cases z
  ·rw [Cj (i:=i) hs FE]
   case hb=>exact hb
   case hi =>
    show(((es[i]?.map (·.1)).getD 0) == h)=true;rw [gH i hi,hh];simp
   dsimp only;obtain⟨b,wu⟩:=JB i hi;have ge:es[i]?=some (es[i]):=by simp [hi]
   have tail:UK (model prog w) A (do
     let some (_,y):=es[i]?|unsupported "internal:set-entry"
     let equal <- holding [y] (eqBool y x)
     let (fW,_,t') <- setState a
     if true && equal then return .there none
     let some same:=t'.sameMemory t.moves t.mask|unsupported "set.changed-during-lookup:is-the-new-block-at-the-old-address"
     let JD <- match (if same then t'.slot (bQ t (m0+c) (t.probeStart h)).j else .empty) with
      | .live i'=>match fW[i']? with
       | some (_,y')=>do pure (if <- isSame y' y then some i' else none)
       | none=>pure none
      | _=>pure none
     match JD with
     | none=>rule "set.search.anew";setSearchFrom a x h true fuel none
     | some i'=>if equal then return .there (some i') else setSearchFrom a x h true fuel (some (bQ t (m0+c+1) (t.probeStart h)))) Q E s:=by
    rw [ge];dsimp only;refine Ui (wpAny_holding (hq i hi hh prog w _ _ ?_));refine Ui (Vg ho hd hfit ?_);dsimp only;cases ev:eqv i with
    | true =>
     simp only [Bool.and_self,if_true];refine Uk ?_;rcases hend with⟨z,_⟩|⟨_,q⟩
     ·exfalso
      by_cases en:m0+c=n
      ·rw [<- en,hs] at z;cases z
      ·obtain⟨i',_,h2,h3⟩:=wR (m0+c) (by omega)
       rw [hs] at h2;cases h2;exact h3 ⟨hi,hh,ev⟩
     ·exact q
    | false =>
     simp only [X9,UC,if_false];have hmem:t.sameMemory t.moves t.mask=some true:=by simp [SetTable.sameMemory]
     rw [hmem];simp only [if_true];rw [hs];simp only [ge,wu];refine Ui (wpAny_isSame_ref_self (Ui (Uk ?_)));simp only [if_true,UC,if_false];have bN:m0+c<n:=by
      refine Nat.lt_of_le_of_ne (by omega) fun en=>?_
      rcases hend with⟨z,_⟩|⟨⟨i',z,hi',h1,h2⟩,_⟩
      ·rw [<- en,hs] at z;cases z
      ·rw [<- en,hs] at z
       cases z;rw [ev] at h2;cases h2
     exact ih (n - (m0+c+1)) (by omega) (m0+c+1) fuel _ (by omega) (by omega) rfl
   cases hl:t.led with
   | true =>
    simp only [Wm,UC,if_false];exact tail
   | false =>
    simp only [W6,if_true];refine Ui (yZ hl _ ?_);simp only [UC,if_false];exact tail
end
theorem rF (n:Nat):∀(fuel k:Nat),n<2 ^ (k+fuel)->2 ^ k<=8+2 * n->∃k',ZW n fuel (2 ^ k)=2 ^ k'/\n<2 ^ k'/\2 ^ k'<=8+2 * n
 | 0,k,h1,h2=>⟨k,rfl,h1,h2⟩
 | fuel+1,k,h1,h2=>by
  unfold ZW;by_cases h:2 ^ k<=n
  ·rw [if_pos h,<- Xi]
   exact rF n fuel (k+1) (by rw [show k+1+fuel=k+(fuel+1) by omega];exact h1) (by rw [Xi];omega)
  ·rw [if_neg h]
   exact⟨k,rfl,by omega,h2⟩
theorem above {n:Nat} (h:n<2 ^ 60):∃k,YM n=2 ^ k/\n<2 ^ k/\2 ^ k<=8+2 * n :=
 rF n 64 3 (UY h (ZZ (by decide) (by decide))) (by omega)
theorem qJ.plain {t:U8} {hs:Array Int} (I:qJ t hs) (b:Bool):qJ { t with plain:=b } hs :=
 ⟨⟨I.tb.ri,I.tb.nd⟩,I.sz,I.le,I.fill,I.pw,fun i hi=>by
  obtain⟨n,h1,h2,h3⟩:=I.t4 i hi;have e1:∀m p,bQ { t with plain:=b } m p=bQ t m p:=fun m p=>gq (t:=t) (t':={ t with plain:=b }) rfl m p
  exact⟨n,h1,by rw [e1];exact h2,fun m hm=>by rw [e1];exact h3 m hm⟩⟩
theorem pW {α β:Type} (f:α->β) (xs:Array α) {p:Nat} (hp:p<=xs.size) (x:α):(Vb xs p x).map f=Vb (xs.map f) p (f x):=by
 apply Array.ext_getElem?;intro i;rw [Array.getElem?_map,gR xs hp,gR (xs.map f) (by rw [Vv];exact hp)];split
 ·simp
 ·split <;> simp
theorem nY {α:Type} (xs:Array α) {p:Nat} (hp:p<=xs.size) (x:α):(Vb xs p x).toList.Perm (x::xs.toList):=by
 unfold Vb;rw [Array.toList_append,Y7,Z0,Z0];have e:xs.toList=xs.toList.take p++xs.toList.drop p:=(Xj p _).symm
 have e1:xs.toList.extract 0 p=xs.toList.take p:=by simp [YX]
 have e2:xs.toList.extract p xs.size=xs.toList.drop p:=by
  rw [YX];rw [Vm];simp
 rw [e1,e2]
 conv=>rhs;rw [e]
 rw [UN];exact List.perm_middle
noncomputable def SI (l:Bool) (h:Heap) (a:U2) (es:Array (Int × Uq)):Prop :=
 ∃o ep t,h.get? a=some o/\o.ExactSet/\o.data=.set es ep t/\qJ t (es.map (·.1))/\es.size * 5<t.mask * 3/\t.mask<=8 * es.size+20/\(t.mask % 2 == 0)=false/\(∀i (hi:i<es.size),∃b,(es[i]).2=.ref b)/\t.led=l/\(1<=es.size->t.plain=false)
theorem qJ.fits {t:U8} {es:Array (Int × Uq)} (I:qJ t (es.map (·.1))):t.fits es.size=true:=by
 have z:=I.sz;have f:=I.fill
 rw [Vv] at z f;simp only [SetTable.fits,aai,I.tb.nd,Uw,beq_iff_eq,decide_eq_true_eq];exact⟨z,by simp;omega⟩
theorem Gd {m k:Nat} (h:m+1=2 ^ k) (hm:1<=m):(m % 2 == 0)=false:=by
 cases k with
 | zero=>simp at h;omega
 | succ k =>
  rw [Xi] at h;have:m % 2=1:=by omega
  rw [this];rfl
theorem vm {h:Heap} {a:U2} {o:Obj} {es:Array (Int × Uq)} {ep:Nat} {t:U8} (ho:h.get? a=some o) (hd:o.data=.set es ep t) (fW:Array (Int × Uq)) (t':U8) :
  (h.update a (aak fW t')).get? a=some { o with data:=.set fW (ep+1) t' }:=by
 have:=VL (aak fW t') ho (by rw [putSet_of fW t' hd];rfl);rw [putSet_of fW t' hd] at this;exact this
theorem ib {α:Type}:∀(l:List α),(Vp l.length).filterMap (fun i=>l[i]?)=l
 | []=>rfl
 | a::r=>by
  rw [Ut,ZF,aaa];simp only [WW,List.filterMap_map];have e:((fun i=>(a::r)[i]?) ∘ Nat.succ)=fun i=>r[i]?:=by funext i;simp
  rw [e,ib r]
theorem mP (es:Array (Int × Uq)):∀(l:List Nat),(∀i∈l,i<es.size)->(l.filterMap (fun i=>es[i]?)).map (·.1)=l.map fun i=>(es.map (·.1)).getD i 0
 | [],_=>rfl
 | i::l,h=>by
  have hi:=h i (by simp);have e:es[i]?=some es[i]:=by simp [hi]
  rw [aaa,e];simp only [Uy];rw [mP es l fun j hj=>h j (by simp [hj])];congr 1;simp [Wc,hi]
section
variable {prog:VB} {w:Wy} {A:Vj} {E:Uq->Uu->Prop} {s:Uu} {a:U2} {es:Array (Int × Uq)} {x:Uq} {h:Int} {eqv:Nat->Bool} {l:Bool}
theorem y7 {o:Obj} {ep:Nat} {t:U8} {Q:Unit->Uu->Prop} (ho:s.heap.get? a=some o) (hx:o.ExactSet) (hd:o.data=.set es ep t) (I:qJ t (es.map (·.1))) (h1:1<=es.size) (hs:es.size<50000) (hr:∀i (hi:i<es.size),∃b,(es[i]).2=.ref b) (hL:t.led=l) (hP:t.plain=false)
  (hQ:∀h' fW,V6 a s.heap h'->SI l h' a fW->fW.toList.Perm es.toList->Q () { s with heap:=h' }):UK (model prog w) A (setRelay a (Wu es.size)) Q E s:=by
 have hg:Wu es.size<=4 * 100000/\Wu es.size=4 * es.size:=by
  unfold Wu;rw [if_neg (by omega)];omega
 obtain⟨k,e1,e2,e3⟩:=above (n:=Wu es.size) (YG hg.1 (by decide));have hm:YM (Wu es.size) - 1+1=2 ^ k:=by rw [e1];omega
 obtain⟨t',order,f1,f2,f3,f4,f5,f6⟩:=Ci hm t.finger (t.movedTo (YM (Wu es.size) - 1)) t.led t.plain (es.map (·.1)) (by rw [Vv,e1];omega);rw [Vv] at f5;unfold setRelay;refine Ui (Vg ho hd I.fits ?_);dsimp only;rw [if_neg (by rw [e1,VV];omega)];have Na:t.relaid (es.map (·.1)) (Wu es.size)=some (t',order):=f1
 rw [Na];have I0:(order.filterMap (es[·]?)).toList.Perm es.toList:=by
  rw [ZM];have z:=f5.filterMap (fun i=>es[i]?)
  refine z.trans (List.Perm.of_eq ?_);have y:=ib es.toList
  simpa using y
 have hsz:(order.filterMap (es[·]?)).size=es.size:=by
  rw [<- VK,I0.length_eq,VK]
 have Nb:(order.filterMap (es[·]?)).map (·.1)=order.map fun i=>(es.map (·.1)).getD i 0:=by
  apply Array.toList_inj.mp;rw [Zz,ZM,Zz];exact mP es order.toList fun i hi=>Vn.mp (f5.mem_iff.mp hi)
 show UK (model prog w) A ((do
  let fW:=order.filterMap (es[·]?)
  if fW.size != es.size then unsupported "internal:set-table-lost-an-element"
  pure (fW,t')) >>= fun(p:Array (Int × Uq) × U8)=>storeSet a p.1 p.2) Q E s
 refine Ui ?_;dsimp only;rw [hsz];simp only [bne_self_eq_false,UC,if_false];refine Uk (wpAny_storeSet_of ho hd ?_ (by rw [hsz,VV];omega));have I':qJ t' ((order.filterMap (es[·]?)).map (·.1)):=by rw [Nb];exact f6
 refine hQ _ (order.filterMap (es[·]?)) (VM _ _ _) ⟨_,_,t',vm ho hd _ _,hx,rfl,I',?_,?_,?_,fun i hi=>?_,f3.trans hL,fun _=>f4.trans hP⟩ I0
 ·rw [hsz,f2,e1];omega
 ·rw [hsz,f2,e1];omega
 ·rw [f2];exact Gd hm (by rw [e1];omega)
 ·have hm:(order.filterMap (es[·]?))[i]∈es.toList:=I0.mem_iff.mp (by rw [Xv];exact Y4 hi)
  obtain⟨j,hj,e⟩:=Xw.mp hm;have hj':j<es.size:=by simpa using hj
  obtain⟨b,hb⟩:=hr j hj';refine⟨b,?_⟩;rw [<- e];simpa using hb
theorem Ge {Q:Bool->Uu->Prop} (hS:SI l s.heap a es) (hx:∃b,x=.ref b) (hs:es.size<1000) (hq:∀i (hi:i<es.size),(es[i]).1=h->WB A s (es[i]).2 x (eqv i))
  (yZ:∀Q':Bool->Uu->Prop,Q' false s->UK (model prog w) A (searchCouldBeSeen x ((es.filter (·.1 == h)).toList.map (·.2))) Q' E s)
  (RV:∀Q':Bool->Uu->Prop,Q' false s->UK (model prog w) A (hashByValue 8 x) Q' E s)
  (h1:(∃i,∃hi:i<es.size,(es[i]).1=h/\eqv i=true)->Q false s)
  (h2:(¬ ∃i,∃hi:i<es.size,(es[i]).1=h/\eqv i=true)->∀h' fW,V6 a s.heap h'->SI l h' a fW->fW.toList.Perm ((h,x)::es.toList)->Q true { s with heap:=h' }) :
  UK (model prog w) A (setAddHashed a x h) Q E s:=by
 obtain⟨o,ep,t,ho,hex,hd,I,DM,TZ,Ck,hr,hL,hP⟩:=hS;obtain⟨b,rfl⟩:=hx;have hsz:t.place.size=es.size:=by have z:=I.sz;rw [Vv] at z;exact z
 obtain⟨k,hk⟩:=I.pw;obtain⟨n,hn,hend,wR⟩:=way I.tb hk (by omega) h (fun i=>∃hi:i<es.size,(es[i]).1=h/\eqv i=true);have Gf:t.slot (bQ t n (t.probeStart h)).j=.empty->¬ ∃i,∃hi:i<es.size,(es[i]).1=h/\eqv i=true:=by
  rintro he ⟨i,hi,e1,e2⟩;obtain⟨n',g1,g2,g3⟩:=I.t4 i (by rw [Vv];exact hi);have eh:(es.map (·.1)).getD i 0=h:=by simp [Wc,hi,e1]
  rw [eh] at g2 g3;have hl:=gn I.tb (i:=i) (by omega)
  rw [<- g2] at hl;rcases Zc n n' with q|q|q
  ·exact g3 n q he
  ·subst q;rw [he] at hl;cases hl
  ·obtain⟨i',_,w2,w3⟩:=wR n' q
   rw [hl] at w2;cases w2;exact w3 ⟨hi,e1,e2⟩
 unfold setAddHashed;refine wpAny_holding ?_;unfold setAddHashedIn;refine Ui (Vg ho hd I.fits ?_);dsimp only;have hsc:byScan (.ref b) es=false:=rfl
 rw [hsc];simp only [UC,if_false];unfold setSearch;refine Ui (wQ (n:=n) (eqv:=eqv) ho hd I Ck hq hr (fun _=>yZ) hn wR ?_ n 0 100000 none (by omega) (by omega) rfl);rcases hend with he|⟨i,_,hl,hi,e1,e2⟩
 ·refine .inl ⟨he,?_⟩
  dsimp only;refine Ui (Vg ho hd I.fits ?_);dsimp only;have hj:(bQ t n (t.probeStart h)).j<=t.mask:=t6 t n _ (rE t h)
  obtain⟨I1,hp⟩:=pJ I (h:=h) (n:=n) (by omega) he hj (fun m hm=>by obtain⟨i,_,z,_⟩:=wR m hm;rw [z];intro q;cases q) (by rw [Vv];omega);rw [Vv] at hp;rw [<- pW (·.1) es hp (h,Wj b)] at I1;have y8:=nY es hp (h,Wj b)
  have pS:(Vb es (t.put (bQ t n (t.probeStart h)).j).2 (h,Wj b)).size=es.size+1:=cV es hp _;have JE:∀i (hi:i<(Vb es (t.put (bQ t n (t.probeStart h)).j).2 (h,Wj b)).size),∃b',((Vb es (t.put (bQ t n (t.probeStart h)).j).2 (h,Wj b))[i]).2=.ref b':=fun i hi=>by
   have hm:(Vb es (t.put (bQ t n (t.probeStart h)).j).2 (h,Wj b))[i]∈(h,Wj b)::es.toList:=y8.mem_iff.mp (by rw [Xv];exact Y4 hi);rcases UG.mp hm with e|e
   ·exact⟨b,by rw [e]⟩
   ·obtain⟨j,hj,e⟩:=Xw.mp e
    have hj':j<es.size:=by simpa using hj
    obtain⟨b',hb'⟩:=hr j hj';refine⟨b',?_⟩;rw [<- e];simpa using hb'
  have lb:=Gf he;generalize RW:Vb es (t.put (bQ t n (t.probeStart h)).j).2 (h,Wj b)=DO at *
  have tail:∀t2:U8,qJ t2 (DO.map (·.1))->t2.mask=t.mask->t2.led=l->t2.plain=false->UK (model prog w) A (do
    storeSet a DO t2
    if (!false && t2.tooFull)=true then setRelay a (Wu (es.size+1))
    return true) Q E s:=fun t2 I2 FZ j8 sQ=>by
   refine Ui (wpAny_storeSet_of ho hd ?_ (by rw [pS,VV];omega));have hg:=vm ho hd DO t2
   by_cases hf:t2.tooFull=true
   ·simp only [hf,W6,Bool.and_self,if_true]
    refine Ui ?_;rw [<- pS];refine y7 (s:={ s with heap:=s.heap.update a (aak DO t2) }) hg hex rfl I2 (by omega) (by omega) JE j8 sQ fun h' fW Dx hS' hp'=>Uk ?_
    exact h2 lb h' fW ((VM s.heap a (aak DO t2)).trans Dx) hS' (hp'.trans y8)
   ·have hf':t2.tooFull=false:=by simpa using hf
    simp only [hf',W6,X9,UC,if_false];refine Uk ?_;have hnf:DO.size * 5<t2.mask * 3:=by
     have z:¬ (t2.fill * 5≥t2.mask * 3):=by simpa [SetTable.tooFull] using hf'
     have y:t2.fill=DO.size:=by
      have q:=I2.sz;rw [Vv] at q;simp only [aai,I2.tb.nd];simp [q]
     omega
    exact h2 lb _ DO (VM _ _ _) ⟨_,_,t2,hg,hex,rfl,I2,hnf,by omega,by rw [FZ];exact Ck,JE,j8,fun _=>sQ⟩ y8
  cases hpl:(t.put (bQ t n (t.probeStart h)).j).1.plain with
  | false =>
   simp only [UC,if_false];refine Ui (Uk ?_);simp only [if_true];exact tail _ I1 rfl hL hpl
  | true =>
   simp only [if_true];refine Ui (RV _ ?_);simp only [UC,if_false];exact tail _ (I1.plain false) rfl hL rfl
 ·refine .inr ⟨⟨i,hl,hi,e1,e2⟩,?_⟩
  exact Uk (h1 ⟨i,hi,e1,e2⟩)
end
end cA
namespace PySem
theorem typeCall_set_1 (v:Uq):checkTypeCall "set" ⟨[v],[]⟩=pure ():=by kernel_rfl
theorem newCall_set_1 (v:Uq):checkBuiltinCall "set.__new__" ⟨[.type "set",v],[]⟩=pure ():=by kernel_rfl
theorem sub_list_set:isSubtype (.type "list") (.type "set")=pure false:=by rw [isSubtype_type];kernel_rfl
theorem sub_list_frozenset:isSubtype (.type "list") (.type "frozenset")=pure false:=by rw [isSubtype_type];kernel_rfl
section
variable {prog:VB} {w:Wy} {A:Vj} {E:Uq->Uu->Prop} {s:Uu}
theorem nZ {v:Uq} {Q₁:Uq->Uu->Prop}
  (h:Q₁ (.ref s.heap.objs.size) { s with heap:=s.heap.push { cls:=.type "set",dict:=none,data:=.set #[] 0 (.fresh 0 0 (!w.params.followText "set-order")) } }) :
  codeAny (model prog w) A (.call (.builtin "set.__new__") ⟨[.type "set",v],[]⟩) (wants Q₁ E) s:=by
 refine codeAny_of_tree ?_;show UK _ A.in1 (do checkBuiltinCall "set.__new__" ⟨[.type "set",v],[]⟩;again (.builtin "set.__new__" ⟨[.type "set",v],[]⟩)) _ _ s
 refine Ui (wpAny_of_eq (newCall_set_1 v) (Uk ⟨plainId_quiet F.plain_set_new _,codeAny_builtin F.entry_set_new ?_⟩));rw [VF F.plain_set_new _];unfold Builtin.«set.__new__» Builtin.Frozenset.newClass;have Cf:=sub_set_self
 obtain⟨hp,g,d,tk,os⟩:=s;dsimp only
 wp_walk
 refine wpAny_askSetting (Uk ?_);dsimp only;simp only [newObj];refine Ui (wpAny_alloc (Uk ?_));exact Uk h
theorem lC {M:Model} {self v:Uq} {Q:Unit->Uu->Prop} (hT:s.TypeIs self "set") (hQ:Q () s) :
  UK M A (checkBuiltinCall "set.__init__" ⟨[self,v],[]⟩) Q E s:=by
 simp only [checkBuiltinCall,kind_set_init,split_set_init,sig_set_init];refine Ui (wpAny_isInstance hT sub_set_self ?_);simp only [Wm,UC,if_false];unfold Bind.checkArgs;dsimp only;refine Ui (m:=Bind.printed "set" true _ _) (PyProof.Rows.printed_name (by decide) ?_);refine Ui (m:=Bind.printed "*" false _ _) (PyProof.Rows.printed_star (self:=self) rfl hT fun short=>?_);have RX:(ZN == ZO)=false:=by decide
 have hn:(if (ZN == ZO)=true then [self,v].length else [self,v].length - 1)=1:=by simp [RX]
 rw [hn];simp only [Vy];have hc:Bind.check ⟨.positional,"set","*",.self,[⟨"iterable",.posOnly,false⟩]⟩ "set" short 1 []=pure ():=by
  have hp:(YD == YD)=true:=by decide
  simp [Bind.check,Bind.checkCount,Bind.isPositional,hp]
 rw [hc];exact Uk hQ
set_option maxHeartbeats 1000000 in
theorem t8 {l:U2} {items:Array Uq} {Q:Uq->Uu->Prop} (hl:s.heap.IsList l items)
  {led:Bool} (Nc:led = !w.params.followText "set-order") (h:codeAny (model prog w) A.in1.in1 (.builtin "set.update.loop" ⟨[.ref s.heap.objs.size,.ref (s.heap.objs.size+1)],[]⟩) (wants (fun _ s'=>Q (.ref s.heap.objs.size) s') E)
   { s with heap:=(s.heap.push { cls:=.type "set",dict:=none,data:=.set #[] 0 (.fresh 0 0 led) }).push { cls:=.type "list_iterator",data:=.fields #[.ref l,.int 0 0] } }) :
  UK (model prog w) A (call (.type "set") [.ref l]) Q E s:=by
 obtain⟨c,tl,RY⟩:=Xk.mro;have hmade:=Xk.made
 have Cf:=Xk.sub;refine wpAny_call (codeAny_of_tree ?_);show UK _ _ (callAny (.type "set") _) _ _ _
 refine Uk ⟨Code.quiet_builtin _ (by decide +kernel),codeAny_builtin F.entry_type_call ?_⟩;rw [Around.under_plain (weight_type_call_type "set" [.ref l] []) rfl];have h1:=Xk.notType
 have h2:=Xk.canCreate;have FE:=typeCall_set_1 (.ref l)
 repeat (any_goals (first|assumption|wp_step))
 refine codeAny_mono (nZ (E:=E) (Q₁:=fun obj s₁=>obj=.ref s.heap.objs.size/\s₁={ s with heap:=s.heap.push { cls:=.type "set",dict:=none,data:=.set #[] 0 (.fresh 0 0 led) } }) ⟨rfl,by rw [Nc]⟩) fun r s₁ hr=>?_
 cases r with
 | error e=>exact hr
 | ok fl =>
  cases fl with
  | ret obj =>
   obtain⟨rfl,rfl⟩:=hr;have hS:(s.heap.push { cls:=.type "set",dict:=none,data:=.set #[] 0 (.fresh 0 0 led) }).get? s.heap.objs.size=some { cls:=.type "set",dict:=none,data:=.set #[] 0 (.fresh 0 0 led) }:=Us _ rfl
   have hT:Yr { s with heap:=s.heap.push { cls:=.type "set",dict:=none,data:=.set #[] 0 (.fresh 0 0 led) } } (.ref s.heap.objs.size) "set":=⟨_,hS,rfl⟩;have T3:=Xk.init.lookup
   have T4:=Xk.init.bind (.ref s.heap.objs.size)
   repeat (any_goals (first|assumption|wp_step))
   refine codeAny_mono (codeAny_call_builtin (R:=wants (fun r s₂=>r=.none/\Q (.ref s.heap.objs.size) s₂) E) Xk.init.plain F.entry_set_init (lC hT ?_)) fun r₂ s₂ Nd=>?_
   ·unfold Builtin.«set.__init__» noKeywords
    have hl':(s.heap.push { cls:=.type "set",dict:=none,data:=.set #[] 0 (.fresh 0 0 led) }).IsList l items:=by obtain⟨o,ho,r⟩:=hl;exact⟨o,Uj _ ho,r⟩
    have T6:Yr { s with heap:=s.heap.push { cls:=.type "set",dict:=none,data:=.set #[] 0 (.fresh 0 0 led) } } (.ref l) "list":=hl'.typeIs;have T7:=sub_list_set
    have sM:=sub_list_frozenset;have ML:∀{A':Vj} {Q':Uq->Uu->Prop} {E':Uq->Uu->Prop},Q' (.ref (s.heap.objs.size+1)) { s with heap:=(s.heap.push { cls:=.type "set",dict:=none,data:=.set #[] 0 (.fresh 0 0 led) }).push { cls:=.type "list_iterator",data:=.fields #[.ref l,.int 0 0] } } ->
      UK (model prog w) A' (pyIter (.ref l)) Q' E' { s with heap:=s.heap.push { cls:=.type "set",dict:=none,data:=.set #[] 0 (.fresh 0 0 led) } }:=fun {A' Q' E'} hq=>by
     have e:(s.heap.push { cls:=.type "set",dict:=none,data:=.set #[] 0 (.fresh 0 0 led) }).objs.size=s.heap.objs.size+1:=VC _ _;refine wpAny_pyIter_list (s:={ s with heap:=s.heap.push { cls:=.type "set",dict:=none,data:=.set #[] 0 (.fresh 0 0 led) } }) hl' ?_;show Q' (.ref (s.heap.push _).objs.size) _
     rw [e];exact hq
    wp_walk using ML
    refine codeAny_mono h fun r3 s3 Nf=>?_
    cases r3 with
    | error e=>exact Nf
    | ok f3 =>
     cases f3 with
     | ret v3=>exact Uk (Uk ⟨rfl,Nf⟩)
     | _=>exact Nf.elim
   ·cases r₂ with
    | error e=>exact Nd
    | ok RZ =>
     cases RZ with
     | ret r =>
      obtain⟨rfl,hq⟩:=Nd
      repeat (any_goals (first|assumption|wp_step))
     | _=>exact Nd.elim
  | _=>exact hr.elim
end
end PySem
namespace PySem.F
theorem bt:Slot "set_iterator" "__next__" "set_iterator.__next__" :=
 .of (owner:="set_iterator") (n:="__next__") (by rw [typeLookup_type,builtinLookup_eq_fast];kernel_rfl) (by decide +kernel) (by decide +kernel) (by decide +kernel)
  (by first|exact .inl (by decide +kernel)|exact .inr (by decide +kernel)) (by rw [isSubtype_type];kernel_rfl)
theorem ic:entryFor table "set_iterator.__next__"=some Builtin.«set_iterator.__next__»:=entryFor_of_tree (by kernel_rfl)
theorem iz (a:Uq):argsOk "set_iterator.__next__" ⟨[a],[]⟩:=by unfold argsOk;kernel_rfl
theorem iA:Slot "set_iterator" "__iter__" "set_iterator.__iter__" :=
 .of (owner:="set_iterator") (n:="__iter__") (by rw [typeLookup_type,builtinLookup_eq_fast];kernel_rfl) (by decide +kernel) (by decide +kernel) (by decide +kernel)
  (by first|exact .inl (by decide +kernel)|exact .inr (by decide +kernel)) (by rw [isSubtype_type];kernel_rfl)
theorem lD:entryFor table "set_iterator.__iter__"=some Builtin.«dict_keyiterator.__iter__» :=
 entryFor_alias (id':="dict_keyiterator.__iter__") (by kernel_rfl) rfl (by decide +kernel) (by kernel_rfl)
theorem mQ (a:Uq):argsOk "set_iterator.__iter__" ⟨[a],[]⟩:=by unfold argsOk;kernel_rfl
theorem lE:entryFor table "set.__iter__"=some Builtin.«frozenset.__iter__» :=
 entryFor_alias (id':="frozenset.__iter__") (by kernel_rfl) rfl (by decide +kernel) (by kernel_rfl)
end PySem.F
namespace cA
open PySem
theorem mR {α:Type} {l:List α} {i:Nat} (h:i<l.length):(l[i]::l.eraseIdx i).Perm l:=by
 rw [List.eraseIdx_eq_take_drop_succ];have e:l=l.take i++l[i]::l.drop (i+1):=by rw [List.getElem_cons_drop,Xj]
 conv=>rhs;rw [e]
 exact List.perm_middle.symm
theorem vn {α:Type} (next:Nat->Nat):∀(n k:Nat) (left:List α) (out:Array α),left.length=n->(pickOrder.go next n k left out).toList.Perm (out.toList++left)
 | 0,k,left,out,h=>by
  have:left=[]:=Zq.mp h;subst this;rw [UQ];exact .refl _
 | n+1,k,left,out,h=>by
  have hi:next k % left.length<left.length:=X6 _ (by omega)
  unfold pickOrder.go;rw [Ge9 hi];dsimp only;refine(vn next n (k+1) _ _ (by rw [YE hi];omega)).trans ?_;rw [Y7,UN];exact(mR hi).append_left _
theorem oJ {α:Type} (next:Nat->Nat) (xs:Array α):(pickOrder next xs).toList.Perm xs.toList:=by
 have z:=vn next xs.size 0 xs.toList #[] (by simp)
 simpa [pickOrder] using z
section
variable {M:Model} {A:Vj} {E:Uq->Uu->Prop} {s:Uu}
theorem wU {src:Source} {n:Nat} {Q:Nat->Uu->Prop} (hn:n≠0) (h:∀k dr,k<n->Q k { s with drawn:=dr }):UK M A (choose src n) Q E s :=
 fun _ _ _=>⟨hn,h _ _ (X6 _ (Nat.pos_of_ne_zero hn))⟩
theorem vo {α:Type}:∀(n:Nat) (xs:List α) (s:Uu) (Q:List α->Uu->Prop),xs.length=n->(∀l dr,l.Perm xs->Q l { s with drawn:=dr })->UK M A (drawOrder n xs) Q E s
 | 0,xs,s,Q,h,hQ=>by
  have:xs=[]:=Zq.mp h;subst this;exact Uk (hQ [] s.drawn (.refl _))
 | n+1,[],s,Q,h,hQ=>by cases h
 | n+1,x::xs,s,Q,h,hQ=>by
  unfold drawOrder;refine Ui (wU (by simp) fun k dr hk=>?_);rw [Ge9 hk];dsimp only;refine Ui (vo n _ _ _ (by rw [YE hk];omega) fun l R0 hp=>Uk ?_);exact hQ _ R0 ((hp.cons _).trans (mR hk))
end
noncomputable def fv (h:Heap) (I a:U2) (first:Uq) (i n ep:Nat):Prop:=∃o,h.get? I=some o/\o.cls=.type "set_iterator"/\o.data=.fields #[first,.int i 0,.ref a,.int n 0,.int ep 0]
noncomputable def dA (h:Heap) (a:U2) (es:Array (Int × Uq)) (ep:Nat) (t:U8):Prop:=∃o,h.get? a=some o/\o.cls=.type "set"/\o.data=.set es ep t
noncomputable def Way (w:Wy) (h:Heap) (a:U2) (es:Array (Int × Uq)) (ep:Nat) (t:U8) (pl:List Nat) (T:U2) (ord:List Uq) (i:Nat) (first:Uq):Prop :=
 (w.params.followText "set-order"=true/\first=.int 0 0/\ord=(pickOrder (w.params.setOrder a ep) es).toList.map (·.2)) \/
 (w.params.followText "set-order"=false/\first=.ref T/\h.IsTuple T (pl.map fun(j:Nat)=>aas j 0).toArray/\pl.Perm (Vp es.size)/\ord=pl.map fun j=>(es.getD j (0,.none)).2) \/
 (w.params.followText "set-order"=false/\t.led=true/\es.size<=1/\ord=es.toList.map (·.2)/\((i=0/\first=.int 0 0)\/(i=1/\∃k:Nat,first=.int k 0/\∀j,j<t.place.size->t.place.getD j 0<k)))
section
variable {prog:VB} {w:Wy} {A:Vj} {E:Uq->Uu->Prop} {s:Uu} {I a T:U2} {first:Uq} {i ep:Nat} {es:Array (Int × Uq)} {t:U8} {pl:List Nat} {ord:List Uq}
theorem fv.typeIs {h:Heap} {n:Nat} (x:fv s.heap I a first i n ep):s.TypeIs (.ref I) "set_iterator":=let ⟨o,ho,hc,_⟩:=x;⟨o,ho,hc⟩
theorem jm {Q:Array (Int × Uq)->Uu->Prop} (hS:dA s.heap a es ep t) (hf:t.fits es.size=true) (h:Q es s):UK (model prog w) A (setEntries a) Q E s:=by
 obtain⟨o,ho,_,hd⟩:=hS;unfold setEntries;exact Ui (Vg ho hd hf (Uk h))
theorem dO {Q:Bool->Uu->Prop} (h:Q (w.params.followText "set-order") s):UK (model prog w) A setsByText Q E s:=by
 unfold setsByText;exact Ui (wpAny_askSetting (Uk h))
theorem pX (W:Way w s.heap a es ep t pl T ord i first):ord.length=es.size:=by
 rcases W with⟨_,_,e⟩|⟨_,_,_,p,e⟩|⟨_,_,_,e,_⟩
 ·rw [e,Lm9,(oJ _ es).length_eq,VK]
 ·rw [e,Lm9,p.length_eq,Xr]
 ·rw [e,Lm9,VK]
theorem range_getD (es:Array (Int × Uq)):∀n,n<=es.size->(Vp n).map (fun j=>(es.getD j (0,.none)).2)=(es.toList.take n).map (·.2):=fun n hn=>by
 apply V4 (by simp;omega);intro j h1 h2;have hj:j<es.size:=by simp at h1;omega
 simp [hj]
theorem y9 (W:Way w s.heap a es ep t pl T ord i first):ord.Perm (es.toList.map (·.2)):=by
 rcases W with⟨_,_,e⟩|⟨_,_,_,p,e⟩|⟨_,_,_,e,_⟩
 ·rw [e];exact(oJ _ es).map _
 ·rw [e]
  have z:=p.map (fun j=>(es.getD j (0,VJ)).2);rw [range_getD es es.size (UH _),Vm (by simp)] at z;exact z
 ·rw [e]
theorem Gg {h:Heap} {n:Nat} (x:fv h I a first i n ep):fv (h.update I (Zr (·.setIfInBounds 1 (rawInt ((i:Int)+1))))) I a first (i+1) n ep:=by
 obtain⟨o,ho,hc,hd⟩:=x;exact⟨_,VL _ ho (Yf (WG hd _)),(Zb ..).trans hc,by rw [WG hd];simp [rawInt]⟩
theorem Gh {h:Heap} {n:Nat} {f:Uq} (x:fv h I a first i n ep):fv (h.update I (Zr (·.setIfInBounds 0 f))) I a f i n ep:=by
 obtain⟨o,ho,hc,hd⟩:=x;exact⟨_,VL _ ho (Yf (WG hd _)),(Zb ..).trans hc,by rw [WG hd];simp⟩
theorem Gi {n:Nat} {Q:Unit->Uu->Prop} (x:fv s.heap I a first i n ep) (h:Q () { s with heap:=s.heap.update I (Zr (·.setIfInBounds 1 (rawInt ((i:Int)+1)))) }):UK (model prog w) A (setField (.ref I) 1 (rawInt ((i:Int)+1))) Q E s:=by
 obtain⟨o,ho,hc,hd⟩:=x;exact wpAny_setField ho hd (by simp) h
theorem Gj {n:Nat} {f:Uq} {Q:Unit->Uu->Prop} (x:fv s.heap I a first i n ep) (h:Q () { s with heap:=s.heap.update I (Zr (·.setIfInBounds 0 f)) }):UK (model prog w) A (setField (.ref I) 0 f) Q E s:=by
 obtain⟨o,ho,hc,hd⟩:=x;exact wpAny_setField ho hd (by simp) h
set_option maxHeartbeats 1000000 in
theorem next_item {Q:Option Uq->Uu->Prop} (rG:qJ t (es.map (·.1))) (JF:I≠T) (hIa:I≠a) (hit:fv s.heap I a first i es.size ep) (hS:dA s.heap a es ep t) (W:Way w s.heap a es ep t pl T ord i first) (hi:i<es.size)
  (hQ:∀v h' zc,ord[i]?=some v->fv h' I a zc (i+1) es.size ep->Way w h' a es ep t pl T ord (i+1) zc->V6 I s.heap h'->Q (some v) { s with heap:=h' }):UK (model prog w) A (pyNext (.ref I)) Q E s:=by
 obtain⟨o,ho,hc,hd⟩:=id hit;have hf:=rG.fits
 have pK:=pX W;unfold pyNext;refine Ui (wpAny_attempt (wpAny_callSpecial?_slot (name:=VX "__next__") (fv.typeIs (h:=s.heap) hit) F.bt
  (wpAny_call_entry F.bt (fv.typeIs (h:=s.heap) hit) F.ic ?_ (F.iz _))))
 unfold Builtin.«set_iterator.__next__»;refine Ui (wpAny_of_eq (a:=(Wj I,[])) rfl ?_);dsimp only;refine Ui (wpAny_fieldsOf ho hd ?_);dsimp only;refine Ui (jm hS hf ?_);rw [if_neg (by simp)];rcases id W with⟨hT,rfl,e⟩|⟨hT,rfl,hp,pp,e⟩|⟨hT,hl,h1,e,hw⟩
 ·dsimp only
  unfold setNext;obtain⟨oa,vq,_,sP⟩:=id hS;refine Ui (Ui (Vg vq sP hf ?_));dsimp only;refine Ui (dO ?_);rw [hT];simp only [if_true,WR,bne_self_eq_false,UC,if_false];unfold setWalk;refine Ui (Ui (Vg vq sP hf ?_));dsimp only;refine Ui (dO ?_);rw [hT];simp only [if_true];refine Ui (wpAny_askSetting (Uk ?_));refine Uk ?_;have PN:i<ord.length:=by omega
  have hx:(pickOrder (w.params.setOrder a ep) es)[i]?.map (·.2)=some ord[i]:=by
   rw [<- Yd,<- UM,<- e,Ge9 PN]
  obtain⟨y,hy,R1⟩:=UA.mp hx;have hy':(pickOrder ({ program:=(model prog w).prog,params:=(model prog w).w.params:Setting }.params.setOrder a ep) es)[i]?=some y:=hy
  rw [hy'];dsimp only [Option.map];refine Ui (Gj hit ?_);have h0:=Gh (f:=rawInt ((aat 0:Nat):Int)) hit
  refine Ui (Gi (s:={ s with heap:=_ }) h0 ?_);refine Uk ⟨_,rfl,Uk (hQ _ _ _ (by rw [Ge9 PN,R1]) (Gg h0) (.inl ⟨hT,rfl,e⟩) ((VM ..).trans (VM ..)))⟩
 ·dsimp only
  obtain⟨oT,JG,_,nT,Ng⟩:=id hp;refine Ui (wpAny_seqItems JG Ng ?_);dsimp only;have hpl:i<pl.length:=by rw [pp.length_eq,Xr];exact hi
  have hj:pl[i]<es.size:=Vn.mp (pp.mem_iff.mp (UJ hpl));have hx:(pl.map fun(j:Nat)=>aas j 0).toArray[((i:Nat):Int).toNat]?=some (aas (pl[i]:Nat) 0):=by simp [hpl]
  rw [hx];dsimp only;refine Ui ?_;unfold setNextDrawn;obtain⟨oa,vq,_,sP⟩:=id hS;refine Ui (Vg vq sP hf ?_);dsimp only;simp only [WR,bne_self_eq_false,UC,if_false,Ux hj];refine Uk ?_;refine Ui (Gi hit ?_);refine Uk ⟨_,rfl,Uk (hQ _ _ _ ?_ (Gg hit) (.inr (.inl ⟨hT,rfl,⟨oT,(U6 _ _ JF).trans JG,?_⟩,pp,e⟩)) (VM ..))⟩
  ·subst e
   simp [hpl,hj]
  ·obtain⟨T8,JH,r⟩:=hp
   rw [JG] at JH;cases JH;exact r
 ·have R2:i=0:=by omega
  subst R2;rcases hw with⟨_,rfl⟩|⟨z,_⟩
  ·dsimp only
   unfold setNext;obtain⟨oa,vq,_,sP⟩:=id hS;refine Ui (Ui (Vg vq sP hf ?_));dsimp only;refine Ui (dO ?_);rw [hT];have B1:t.place.size=es.size:=by have z:=rG.sz;rw [Vv] at z;exact z
   have hb:Vo t.place (aat 0)=0:=by
    have z:=gO t.place rG.tb.ri (aat 0);rcases Nat.eq_zero_or_pos (Vo t.place (aat 0)) with q|q
    ·exact q
    ·exact absurd (z.2.1 0 q) (Nat.not_lt_zero _)
   refine wpAny_ite_split (fun hab=>absurd hab (by decide)) fun _=>?_
   refine wpAny_ite_split (fun hab=>absurd hab (show ¬ ((!t.plain && decide (es.size > 1))=true) from by simp;omega)) fun _=>?_
   refine Ui (show UK (model prog w) A.in1 (if (!t.led && !es.isEmpty)=true then unsupported "set:maker-not-led" else pure ()) _ _ s from ?_);rw [hl];refine wpAny_ite_split (fun hab=>absurd hab (by simp)) fun _=>?_
   refine Uk (Uk ?_);rw [hb,Ux (by omega),Ux (by omega)];dsimp only;refine Ui (Gj hit ?_);have h0:=Gh (f:=rawInt ((t.place[0]'(by omega)+1:Nat):Int)) hit
   refine Ui (Gi (s:={ s with heap:=_ }) h0 ?_);refine Uk ⟨_,rfl,Uk (hQ _ _ _ ?_ (Gg h0) (.inr (.inr ⟨hT,hl,h1,e,.inr ⟨rfl,_,rfl,fun j hj=>?_⟩⟩)) ((VM ..).trans (VM ..)))⟩
   ·subst e
    simp [hi]
   ·have:j=0:=by omega
    subst this;simp [hj]
  ·cases z
set_option maxHeartbeats 1000000 in
theorem next_end {Q:Option Uq->Uu->Prop} (hh:A.handled=none) (rG:qJ t (es.map (·.1))) (hit:fv s.heap I a first es.size es.size ep) (hS:dA s.heap a es ep t) (W:Way w s.heap a es ep t pl T ord es.size first)
  (hQ:∀h',Heap.ExtBut I s.heap h'->Q none { s with heap:=h' }):UK (model prog w) A (pyNext (.ref I)) Q E s:=by
 obtain⟨o,ho,hc,hd⟩:=id hit;have hf:=rG.fits
 have pK:=pX W;have fin:∀(h1:Heap) (f:Uq),fv h1 I a f es.size es.size ep->Heap.ExtBut I s.heap h1->UK (model prog w) A.in1 (do
   setField (Wj I) 2 VJ
   let e <- newExc (Ze "StopIteration") []
   raiseNew e:Sem PySem.Fin) (fun fin s'=>∃v,fin=PySem.Fin.done (Flow.ret v)/\UK (model prog w) A (pure (some v)) Q E s') (fun e s'=>UK (model prog w) A (do
     let b <- isInstance e (Ze "StopIteration")
     if b=true then pure none else throw e) Q E s') { s with heap:=h1 }:=fun h1 f R3 hex=>by
  obtain⟨o1,LU,T9,R4⟩:=R3;refine Ui (wpAny_setField (s:={ s with heap:=h1 }) LU R4 (by simp) ?_);refine Ui ?_;simp only [newExc,newTuple];refine Ui (wpAny_newObj_type ?_ (by size_fits));refine Ui (m:=firstArgMember _ _) (wpAny_of_eq (a:=VJ) (by first|rfl|(simp only [firstArgMember];rfl)) ?_);refine wpAny_newObj_type ?_ (by size_fits);simp only [raiseNew];refine Ui (wpAny_handled ?_);rw [show A.in1.handled=none from hh];refine Ui (Uk (wpAny_throw ?_));refine Ui (wpAny_isInstance (T:="StopIteration") (b:=true) ⟨_,Us _ rfl,rfl⟩ isSubtype_stop ?_);refine Uk (hQ _ fun b ob hb Nh=>?_);exact Uj _ (Uj _ ((U6 _ _ (VU hb)).trans (hex b ob hb Nh)))
 unfold pyNext;refine Ui (wpAny_attempt (wpAny_callSpecial?_slot (name:=VX "__next__") (fv.typeIs (h:=s.heap) hit) F.bt
  (wpAny_call_entry F.bt (fv.typeIs (h:=s.heap) hit) F.ic ?_ (F.iz _))))
 unfold Builtin.«set_iterator.__next__»;refine Ui (wpAny_of_eq (a:=(Wj I,[])) rfl ?_);dsimp only;refine Ui (wpAny_fieldsOf ho hd ?_);dsimp only;refine Ui (jm hS hf ?_);rw [if_neg (by simp)];rcases id W with⟨hT,rfl,e⟩|⟨hT,rfl,hp,pp,e⟩|⟨hT,hl,h1,e,hw⟩
 ·dsimp only
  unfold setNext;obtain⟨oa,vq,_,sP⟩:=id hS;refine Ui (Ui (Vg vq sP hf ?_));dsimp only;refine Ui (dO ?_);rw [hT];simp only [if_true,WR,bne_self_eq_false,UC,if_false];unfold setWalk;refine Ui (Ui (Vg vq sP hf ?_));dsimp only;refine Ui (dO ?_);rw [hT];simp only [if_true];refine Ui (wpAny_askSetting (Uk ?_));refine Uk ?_;have hy:(pickOrder (w.params.setOrder a ep) es)[es.size]?=none:=by
   rw [YF];rw [e,Lm9,VK] at pK;omega
  have hy':(pickOrder ({ program:=(model prog w).prog,params:=(model prog w).w.params:Setting }.params.setOrder a ep) es)[es.size]?=none:=hy;rw [hy'];exact fin s.heap _ hit fun _ _ _ z=>z
 ·dsimp only
  obtain⟨oT,JG,_,nT,Ng⟩:=id hp;refine Ui (wpAny_seqItems JG Ng ?_);dsimp only;have hpl:pl.length=es.size:=by rw [pp.length_eq,Xr]
  have hx:(pl.map fun(j:Nat)=>aas j 0).toArray[((es.size:Nat):Int).toNat]?=none:=by simp [hpl]
  rw [hx];dsimp only;refine Ui (Gj hit ?_);exact fin _ _ (Gh hit) fun b ob hb Nh=>(U6 _ _ (VU hb)).trans Nh
 ·have B1:t.place.size=es.size:=by have z:=rG.sz;rw [Vv] at z;exact z
  have hk:∃k:Nat,first=.int k 0/\es.size<=Vo t.place k:=by
   rcases hw with⟨z,rfl⟩|⟨z,k,rfl,hk⟩
   ·exact⟨0,rfl,by omega⟩
   ·refine⟨k,rfl,?_⟩
    have q:=gO t.place rG.tb.ri k;rcases ZT (Vo t.place k) es.size with y|y
    ·have:=q.2.2 (Vo t.place k) (UH _) (by omega)
     have:=hk (Vo t.place k) (by omega);omega
    ·exact y
  obtain⟨k,rfl,hb⟩:=hk;dsimp only;unfold setNext;obtain⟨oa,vq,_,sP⟩:=id hS;refine Ui (Ui (Vg vq sP hf ?_));dsimp only;refine Ui (dO ?_);rw [hT];refine wpAny_ite_split (fun hab=>absurd hab (by decide)) fun _=>?_
  refine wpAny_ite_split (fun hab=>absurd hab (show ¬ ((!t.plain && decide (es.size > 1))=true) from by simp;omega)) fun _=>?_
  refine Ui (show UK (model prog w) A.in1 (if (!t.led && !es.isEmpty)=true then unsupported "set:maker-not-led" else pure ()) _ _ s from ?_);rw [hl];refine wpAny_ite_split (fun hab=>absurd hab (by simp)) fun _=>?_
  refine Uk (Uk ?_);rw [WR,YF.mpr hb];exact fin s.heap _ hit fun _ _ _ z=>z
theorem Cm {n:Nat} {Q:Uq->Uu->Prop} (hit:fv s.heap I a first i n ep) (h:Q (.ref I) s):UK (model prog w) A (pyIter (.ref I)) Q E s:=by
 refine wpAny_pyIter_slot (fv.typeIs (h:=s.heap) hit) F.iA (wpAny_call_entry F.iA (fv.typeIs (h:=s.heap) hit) F.lD ?_ (F.mQ _));show UK _ _ (ret (.ref I)) _ _ s
 exact Uk ⟨_,rfl,"set_iterator",_,fv.typeIs (h:=s.heap) hit,F.bt.lookup,h⟩
theorem wW (hh:A.handled=none) (rG:qJ t (es.map (·.1))) (JF:I≠T) (hIa:I≠a) :
  Walks prog w A I [I,a,T] [I] es.size (fun i v=>ord[i]?=some v) (fun i h=>∃first,fv h I a first i es.size ep/\dA h a es ep t/\Way w h a es ep t pl T ord i first) where
 sub:=fun b hb=>by simp at hb;simp [hb]
 frame:=fun i h h' ⟨first,⟨o,ho,r⟩,⟨o2,H4,r2⟩,W⟩ hk=>⟨first,⟨o,hk I (by simp) o ho,r⟩,⟨o2,hk a (by simp) o2 H4,r2⟩,by
  rcases W with z|⟨z1,z2,⟨o3,R5,r3⟩,z4⟩|z
  ·exact .inl z
  ·exact .inr (.inl ⟨z1,z2,⟨o3,hk T (by simp) o3 R5,r3⟩,z4⟩)
  ·exact .inr (.inr z)⟩
 item:=fun i s Q E hi ⟨first,hit,hS,W⟩ hQ=>next_item rG JF hIa hit hS W hi fun v h' f' hv hit' W' sb=>by
  obtain⟨o2,H4,r2⟩:=hS;exact hQ v h' s.toks hv ⟨f',hit',⟨o2,(sb.2 a (VU hIa)).trans H4,r2⟩,W'⟩ fun b o hb ho=>(sb.2 b (by simpa using hb)).trans ho
 done:=fun s Q E ⟨first,hit,hS,W⟩ hQ=>next_end hh rG hit hS W fun h' hx=>hQ h' s.toks fun b o hb ho=>hx b o (by simpa using hb) ho
 self:=fun i s Q E ⟨first,hit,hS,W⟩ h=>Cm hit h
end
section
variable {prog:VB} {w:Wy} {A:Vj} {E:Uq->Uu->Prop} {s:Uu} {a:U2} {ep:Nat} {es:Array (Int × Uq)} {t:U8}
theorem dA.push {h:Heap} (x:dA h a es ep t) (o:Obj):dA (h.push o) a es ep t:=let ⟨o',ho,r⟩:=x;⟨o',Uj _ ho,r⟩
set_option maxHeartbeats 1000000 in
theorem Cn {Q:Uq->Uu->Prop} (rG:qJ t (es.map (·.1))) (hS:dA s.heap a es ep t) (hl:t.led = !w.params.followText "set-order") (hp:1<=es.size->t.plain=false) (hsz:es.size<1000)
  (hQ:∀I T first pl ord h' dr,s.heap.objs.size<=I->s.heap.objs.size<=T->I≠T->(∀b o,s.heap.get? b=some o->h'.get? b=some o)->fv h' I a first 0 es.size ep->dA h' a es ep t->Way w h' a es ep t pl T ord 0 first->Q (.ref I) { s with heap:=h',drawn:=dr }) :
  UK (model prog w) A (pyIter (.ref a)) Q E s:=by
 obtain⟨o,ho,hc,hd⟩:=id hS;have hT:s.TypeIs (.ref a) "set":=⟨o,ho,hc⟩
 have hf:=rG.fits;refine wpAny_pyIter_slot hT F.slot_set_iter (wpAny_call_entry F.slot_set_iter hT F.lE ?_ (F.args_set_iter_1 _));unfold Builtin.«frozenset.__iter__»;refine Ui (wpAny_of_eq (a:=a) rfl ?_);dsimp only;refine Ui (m:=Builtin.Frozenset.sizeOf a) (show UK _ _ (setEntries a >>= fun es=>pure es.size) _ _ _ from Ui (jm hS hf (Uk ?_)));refine Ui (m:=setDrawn a) (show UK _ _ (setState a >>= fun q=>setsByText >>= fun b=>pure (!b && (!q.2.2.plain && decide (q.1.size > 1)))) _ _ _ from Ui (Vg ho hd hf (Ui (dO (Uk ?_)))));have PQ:∀{A':Vj} {E':Uq->Uu->Prop} {s':Uu} {Q':Nat->Uu->Prop},dA s'.heap a es ep t->Q' ep s'->UK (model prog w) A' (setEpoch a) Q' E' s':=fun {A' E' s' Q'} ⟨o',ho',_,hd'⟩ q=>by
  unfold setEpoch;exact Ui (Vg ho' hd' hf (Uk q))
 by_cases hdr:(!w.params.followText "set-order" && (!t.plain && decide (es.size > 1)))=true
 ·rw [if_pos hdr]
  have h1:w.params.followText "set-order"=false:=by simpa using (Bool.and_eq_true_iff.mp hdr).1
  refine Ui (vo _ _ _ _ (Xr) fun l dr hp=>?_);have j8:l.length=es.size:=by rw [hp.length_eq,Xr]
  refine Ui (wpAny_newObj_type (T:="tuple") (data:=.seq (l.map fun(i:Nat)=>rawInt i).toArray) ?_ (by show(l.map fun(i:Nat)=>rawInt i).toArray.size<=UU;simp only [VO,Lm9];rw [VV];omega));refine Ui (PQ (dA.push hS _) ?_);refine Ui (wpAny_newObj_type ?_ (by size_fits));refine Uk ⟨_,rfl,"set_iterator",_,⟨_,Us _ rfl,rfl⟩,F.bt.lookup,?_⟩;have e1:∀o,(s.heap.push o).objs.size=s.heap.objs.size+1:=fun o=>VC _ _
  refine hQ _ s.heap.objs.size (.ref s.heap.objs.size) l _ _ dr (by rw [e1];omega) (UH _) (by rw [e1];omega) (fun b o q=>Uj _ (Uj _ q)) ⟨_,Us _ rfl,rfl,rfl⟩ (dA.push (dA.push hS _) _) (.inr (.inl ⟨h1,rfl,⟨_,Uj _ (Us _ rfl),rfl,0,rfl⟩,hp,rfl⟩))
 ·rw [if_neg hdr]
  refine Ui (Uk ?_);refine Ui (PQ hS ?_);refine Ui (wpAny_newObj_type ?_ (by size_fits));refine Uk ⟨_,rfl,"set_iterator",_,⟨_,Us _ rfl,rfl⟩,F.bt.lookup,?_⟩;cases h1:w.params.followText "set-order" with
  | true=>exact hQ s.heap.objs.size (s.heap.objs.size+1) (.int 0 0) [] _ _ s.drawn (UH _) (by omega) (by omega) (fun b o q=>Uj _ q) ⟨_,Us _ rfl,rfl,rfl⟩ (dA.push hS _) (.inl ⟨h1,rfl,rfl⟩)
  | false =>
   rw [h1] at hl hdr;refine hQ s.heap.objs.size (s.heap.objs.size+1) (.int 0 0) [] _ _ s.drawn (UH _) (by omega) (by omega) (fun b o q=>Uj _ q) ⟨_,Us _ rfl,rfl,rfl⟩ (dA.push hS _) (.inr (.inr ⟨h1,hl,?_,rfl,.inl ⟨rfl,rfl⟩⟩));rcases ZT 1 es.size with q|q
   ·exfalso
    apply hdr;rw [hp (by omega)];simp [q]
   ·exact q
end
end cA
namespace cA
open PySem PySem.W PyProof.Rows
section
variable {prog:VB} {w:Wy} {A:Vj} {E:Uq->Uu->Prop} {s:Uu} {a:U2} {ep:Nat} {es:Array (Int × Uq)} {t:U8}
theorem zd {Q:Bool->Uu->Prop} (hT:s.TypeIs (.ref a) "set") (h:Q false s):UK (model prog w) A (Yx (.ref a)) Q E s:=by
 unfold Yx;refine Ui (wpAny_specialOf hT PySem.F.slot_set_len.lookup ?_);generalize sL:("set.__len__":String)=R6
 wp_delta
 rw [show splitId R6=some ("set","__len__") from by subst sL;decide +kernel];subst sL;refine Ui (wpAny_isInstance (T:="set") (b:=true) hT (by rw [isSubtype_type];kernel_rfl) ?_);refine wpAny_ite_split (fun hab=>absurd hab (by decide)) (fun _=>?_);refine wpAny_ite_split (fun _=>?_) (fun hab=>absurd (by decide +kernel) hab);refine Ui (wpAny_typeOf hT ?_);exact Uk h
theorem zf {ord:List Uq} {acc:Array Uq} (h:ItemsOf (fun i v=>ord[i]?=some v) acc ord.length):acc.toList=ord:=by
 apply YZ fun j=>?_
 rcases ZT j acc.size with hj|hj
 ·have e:acc[j]?=some acc[j]:=Ux hj
  rw [h.2 j _ e,Yd,e]
 ·rw [Wf (by simpa using hj),Wf (by have:=h.1;omega)]
theorem t9 {R:Result->Uu->Prop} (hh:A.handled=none) (rG:qJ t (es.map (·.1))) (hA:dA s.heap a es ep t) (hl:t.led = !w.params.followText "set-order") (hp:1<=es.size->t.plain=false) (hsz:es.size<1000)
  (S:U2) (PR:S≠a) (res:Uq) (c₀:Nat) (hS:s.heap.get? S=some { cls:=.type "list",data:=.seq #[] c₀ })
  (hR:∀h' tk dr eM c',(∀b o,b≠S->s.heap.get? b=some o->h'.get? b=some o)->h'.get? S=some { cls:=.type "list",dict:=none,data:=.seq eM c',slots:=#[] }->eM.toList.Perm (es.toList.map (·.2))->R (.ok (.ret res)) { s with heap:=h',toks:=tk,drawn:=dr }) :
  UK (model prog w) A.in1 (Xl (.ref S) (.ref a) res)
   (fun fin s'=>match fin with|.done f=>R (.ok f) s'|.again c'=>c'.quiet=true/\codeAny (model prog w) A c' R s') (fun e s'=>R (.error e) s') s:=by
 have hn:es.size<=UU:=by rw [VV];omega
 have JI:s.TypeIs (.ref a) "set":=let ⟨o,ho,hc,_⟩:=hA;⟨o,ho,hc⟩
 unfold Xl;refine Ui (wpAny_typeOf (T:="set") JI ?_);have h1:Zf (.ref S) (.ref a)=false:=by simp [Zf,PR]
 have h2:(Ze "set" == Ze "list")=false:=by decide
 have h3:(Ze "set" == Ze "tuple")=false:=by decide
 simp only [h1,h2,h3,Bool.or_false,UC,if_false];refine Ui (Cn rG hA hl hp hsz fun I T first pl ord h1 dr hI hT JF kp hit Ni W=>?_);have PU:=UP hS
 have Nj:S≠I:=U0 (UY PU hI);have R7:S≠T:=U0 (UY PU hT)
 have hIa:I≠a:=by
  obtain⟨o,ho,_⟩:=hA;exact Vw (UY (UP ho) hI)
 have PV:=wW (prog:=prog) (A:=A.in1) (w:=w) (ep:=ep) (pl:=pl) (ord:=ord) (T:=T) hh rG JF hIa;have pK:=pX (s:={ s with heap:=h1 }) W
 have Nk:=y9 (s:={ s with heap:=h1 }) W;have hS1:=kp S _ hS
 have PW:S∉[I,a,T]:=by simp only [UG,Wa,or_false,not_or];exact⟨Nj,PR,R7⟩
 have key:∀(h:Heap) (c₁ tk:Nat),(∃first,fv h I a first 0 es.size ep/\dA h a es ep t/\Way w h a es ep t pl T ord 0 first)->(∀b o,b≠S->s.heap.get? b=some o->h.get? b=some o) ->
   h.get? S=some { cls:=.type "list",data:=.seq #[] c₁ }->codeAny (model prog w) A (.builtin "list.extend.loop" ⟨[.ref S,.ref I,res],[]⟩) R { s with heap:=h,toks:=tk,drawn:=dr }:=by
  intro h c₁ tk lN hk Nl;refine codeAny_extend_loopS PV.toS hn S PW res es.size 0 _ #[] c₁ rfl (U4 _) lN Nl (ItemsOf.nil _) fun s' eM c' hm hS' mH=>?_
  rw [Moved.eq_with hm];refine hR s'.heap s'.toks dr eM c' (fun b o hb e=>hm.heap b o (fun hmem=>?_) (hk b o hb e)) hS' ?_
  ·rcases UG.mp hmem with e'|hmem
   ·exact hb e'
   ·exact absurd (UP e) (by rw [UR.mp hmem];exact Nat.not_lt.mpr hI)
  ·rw [<- pK] at mH
   rw [zf mH];exact Nk
 refine Ui (wpAny_holding (zd (s:={ s with heap:=h1,drawn:=dr }) (let ⟨o,ho,hc,_⟩:=Ni;⟨o,ho,hc⟩) ?_));refine wpAny_ite_split (fun _=>?_) (fun _=>Uk ⟨plainId_quiet YY _,key _ c₀ s.toks ⟨first,hit,Ni,W⟩ (fun b o _ e=>kp b o e) hS1⟩);refine Ui (wpAny_rule ?_);refine Ui ?_;show UK _ _ (updateSeq S (·.push .none) >>= fun _=>updateSeq S (·.pop)) _ _ _
 refine Ui (wpAny_updateSeq (s:={ s with heap:=h1,drawn:=dr }) hS1 rfl ?_);have PX:=VL (VP (·.push VJ)) hS1 rfl
 refine wpAny_updateSeq (s:={ s with heap:=h1.update S (VP (·.push VJ)),drawn:=dr }) (hz:=by seq_fits) PX rfl ?_;have R8:=VL (VP (·.pop)) PX rfl
 refine Uk ⟨plainId_quiet YY _,key _ _ s.toks ?_ (fun b o hb e=>?_) R8⟩
 ·refine PV.frame 0 _ _ ⟨first,hit,Ni,W⟩ fun b hb o e=>?_
  have PY:b≠S:=fun h=>PW (h ▸ hb)
  exact(U6 _ _ (VU PY)).trans ((U6 _ _ (VU PY)).trans e)
 ·exact(U6 _ _ (VU hb)).trans ((U6 _ _ (VU hb)).trans (kp b o e))
theorem rH {R:List Uq->Uu->Prop} {ld:Bool} (hh:A.handled=none) (hS:SI ld s.heap a es) (hl:ld = !w.params.followText "set-order") (hsz:es.size<1000)
  (h:∀h' tk dr acc,(∀b o,s.heap.get? b=some o->h'.get? b=some o)->acc.Perm (es.toList.map (·.2))->R acc { s with heap:=h',toks:=tk,drawn:=dr }):UK (model prog w) A (collect (.ref a)) R E s:=by
 obtain⟨oa,ep,t,vq,hex,sP,rG,_,_,_,_,hL,hP⟩:=hS;have hA:dA s.heap a es ep t:=⟨oa,vq,hex.1,sP⟩
 unfold collect;refine Ui (wpAny_runValue (codeAny_builtin entry_proto_collect' ?_));rw [VF PySem.F.plain_proto_collect _];show UK _ A.in1 (newList [] >>= fun l=>again (.builtin "list.__iadd__" ⟨[l,.ref a],[]⟩)) _ _ s
 refine Ui (wpAny_newObj_type ?_);refine Uk ⟨plainId_quiet Zs _,codeAny_builtin entry_list_iadd' ?_⟩;rw [VF Zs _];have Nl:(s.heap.push { cls:=.type "list",data:=.seq ([]:List Uq).toArray }).get? s.heap.objs.size=some { cls:=.type "list",data:=.seq #[] }:=Us _ rfl
 show UK _ A.in1 (Xl (.ref s.heap.objs.size) (.ref a) (.ref s.heap.objs.size)) _ _ _;have key:=t9 (A:=A) (w:=w) (prog:=prog) (s:={ s with heap:=s.heap.push { cls:=.type "list",data:=.seq ([]:List Uq).toArray } })
  (R:=fun(q:Result) (s':Uu)=>∃(h':Heap) (tk:Nat) (dr:_) (eM:Array Uq) (c':Nat),q=.ok (.ret (.ref s.heap.objs.size))/\s'={ s with heap:=h',toks:=tk,drawn:=dr } /\
   (∀b o,s.heap.get? b=some o->h'.get? b=some o)/\h'.get? s.heap.objs.size=some { cls:=.type "list",dict:=none,data:=.seq eM c',slots:=#[] }/\eM.toList.Perm (es.toList.map (·.2)))
  hh rG (dA.push hA _) (hL.trans hl) hP hsz s.heap.objs.size (Vw (UP vq)) (.ref s.heap.objs.size) 0 Nl
  (fun h' tk dr eM c' hk hS' mH=>⟨h',tk,dr,eM,c',rfl,rfl,fun b o e=>hk b o (U0 (UP e)) (Uj _ e),hS',mH⟩)
 refine wpAny_mono key (fun fin s' x=>?_) fun e s' x=>?_
 ·cases fin with
  | done f =>
   obtain⟨h',tk,dr,eM,c',e,rfl,hk,hS',mH⟩:=x;cases e;show UK _ A (load s.heap.objs.size >>= _) _ _ _
   refine Ui (wpAny_load hS' ?_);exact Uk (h h' tk dr _ hk mH)
  | again c₁ =>
   refine⟨x.1,codeAny_mono x.2 fun q s₂ y=>?_⟩;obtain⟨h',tk,dr,eM,c',rfl,rfl,hk,hS',mH⟩:=y;show UK _ A (load s.heap.objs.size >>= _) _ _ _
   refine Ui (wpAny_load hS' ?_);exact Uk (h h' tk dr _ hk mH)
 ·obtain⟨_,_,_,_,_,e',_⟩:=x
  cases e'
end
end cA
namespace M
open PySem PySem.Spec PyProof.Rows L2 cA
section
variable {P:VB} {w:Wy} {A:Vj} {E:Uq->Uu->Prop}
theorem de.zi:∀(n m:Nat) {A:Vj} {E:Uq->Uu->Prop} {s:Uu} {t:T} {u:Uq},kd n t=true->n<=m->de s.heap t u->UK (model P w) A (ofAClassStatement m u) (fun b s'=>b=false/\s'=s) E s
 | 0,_,_,_,_,t,_,hk,_,_=>(Fv hk).elim
 | n+1,m,A,E,s,t,u,hk,hm,k=>by
  cases k with
  | int i t=>cases m with
   | zero=>omega
   | succ m=>exact Uk ⟨rfl,rfl⟩
  | str z t=>cases m with
   | zero=>omega
   | succ m=>exact Uk ⟨rfl,rfl⟩
  | tup ho hc hd hl hi =>
   rename_i a o its nn xs;have JI:s.TypeIs (.ref a) "tuple":=⟨o,ho,hc⟩
   obtain⟨m,rfl⟩:∃k,m=k+1:=⟨m - 1,by omega⟩;unfold ofAClassStatement;refine Ui (wpAny_typeOf JI ?_);dsimp only;simp only [beq_self_eq_true,if_true];refine Ui (Uk ?_);simp only [Wm,UC,if_false];refine Ui (wpAny_seqItems ho hd ?_);dsimp only;refine Ui ?_;show UK _ _ (forIn its _ _) _ _ s
   rw [<- XT];refine wpAny_forIn_list _ (fun rest r s'=>r.1=none/\s'=s/\∀v∈rest,v∈its) _ ?_ ?_ _ _ ⟨rfl,rfl,fun v hv=>by simpa using hv⟩
   ·rintro v rest r s' ⟨hr,rfl,hall⟩
    obtain⟨i,xi,rfl⟩:=Wk (hall v Um);have ex:=Ge9 (l:=xs) (i:=i) (by omega)
    refine Ui (wpAny_mono (de.zi n m (hO hk ex) (by omega) (hi i _ _ ex (Ux xi))) (fun b BO hb=>?_) fun _ _ e=>e);obtain⟨rfl,rfl⟩:=hb;simp only [UC,if_false];exact Uk ⟨rfl,rfl,fun u ip=>hall u (Up _ ip)⟩
   ·rintro⟨r1,r2⟩ s' ⟨hr,rfl,_⟩
    simp only at hr;subst hr;exact Uk ⟨rfl,rfl⟩
theorem de.JJ {s:Uu} {t:T} {u:Uq} {Q:Bool->Uu->Prop} (hh:qH t=true) (k:de s.heap t u) (q:Q false s):UK (model P w) A (hashByValue 8 u) Q E s:=by
 unfold qH at hh;split at hh
 ·rename_i z r
  cases k with
  | tup ho hc hd hl hi =>
   rename_i a o its nn;have JI:s.TypeIs (.ref a) "tuple":=⟨o,ho,hc⟩
   unfold hashByValue;refine Ui (wpAny_specialOf JI W8.lookup ?_);show UK _ _ (seqItems? (.ref a) >>= _) _ _ s
   refine Ui (wpAny_seqItems ho hd ?_);refine Ui ?_;have wJ:0<its.size:=by simp at hl;omega
   have k0:=hi 0 (.str z) its[0] rfl (Ux wJ);obtain⟨l⟩:=its;cases l with
   | nil=>simp at wJ
   | cons v vs =>
    have k0:de s.heap (.str z) v:=k0;cases k0;show UK _ _ (forIn (Yc _ _::vs).toArray _ _) _ _ s
    rw [<- XT];simp only [Xe];exact Ui (Ui (Uk (by simp only [W6,if_true];exact Uk (Uk (Uk q)))))
 ·cases hh
theorem de.seen {n:Nat} (hn:n<=8) {s:Uu} {t:T} {u:Uq} {Q:Bool->Uu->Prop} (hk:kd n t=true) (k:de s.heap t u) :
  ∀(stored:List Uq),(∀v∈stored,∃b,kd n b=true/\de s.heap b v)->Q false s->UK (model P w) A (searchCouldBeSeen u stored) Q E s:=by
 intro stored lN q;unfold searchCouldBeSeen;refine Ui ?_;refine wpAny_forIn_list _ (fun rest rr s'=>s'=s/\rr.1=none/\∀v∈rest,v∈stored) _ ?_ ?_ _ _ ⟨rfl,rfl,fun v hv=>hv⟩
 ·rintro v rest rr s' ⟨rfl,hr,hm⟩
  obtain⟨b,hb,k2⟩:=lN v (hm v (by simp));dsimp only;split;all_goals split
  any_goals exact Uk ⟨rfl,rfl,fun z hz=>hm z (by simp [hz])⟩
  all_goals
   refine Ui (wpAny_mono (de.quiet n 8 hk hn k) (fun b BO hb=>?_) fun _ _ e=>e);obtain⟨rfl,rfl⟩:=hb;simp only [Wm,UC,if_false];refine Ui (wpAny_mono (de.quiet n 8 hb hn k2) (fun b BO hb=>?_) fun _ _ e=>e);obtain⟨rfl,rfl⟩:=hb;simp only [Wm,UC,if_false];refine Ui (wpAny_mono (de.zi n 8 hk hn k) (fun b BO hb=>?_) fun _ _ e=>e);obtain⟨rfl,rfl⟩:=hb;simp only [UC,if_false];refine Ui (wpAny_mono (de.zi n 8 hb hn k2) (fun b BO hb=>?_) fun _ _ e=>e);obtain⟨rfl,rfl⟩:=hb;simp only [UC,if_false];exact Uk ⟨rfl,rfl,fun z hz=>hm z (by simp [hz])⟩
 ·rintro⟨r1,r2⟩ s' ⟨rfl,hr,_⟩
  simp only at hr;subst hr;exact Uk q
end
noncomputable def Ia (w:Wy) (g:G) (es:List (Int × Uq)) (tr:List T):Prop:=Paired (fun(e:Int × Uq) (t:T)=>e.1=hT w t/\kd 6 t=true/\RT g none t e.2) es tr
theorem lj {α β:Type} {F:α->β->Prop} {l l':List α} (p:l'.Perm l):∀{m:List β},Paired F l m->∃m',m'.Perm m/\Paired F l' m':=by
 induction p with
 | nil=>intro m h;exact⟨m,.refl _,h⟩
 | cons x _ ih =>
  intro m h;cases h with
  | cons r t=>obtain⟨m',h1,h2⟩:=ih t;exact⟨_::m',h1.cons _,.cons r h2⟩
 | swap x y l =>
  intro m h;cases h with
  | cons r t=>cases t with
   | cons r2 t2=>exact⟨_,.swap _ _ _,.cons r2 (.cons r t2)⟩
 | trans _ _ Nm Nn =>
  intro m h;obtain⟨m1,a1,a2⟩:=Nn h;obtain⟨m2,b1,b2⟩:=Nm a2;exact⟨m2,b1.trans a1,b2⟩
theorem Co {l:Bool} {h h':Heap} {a b:U2} {es:Array (Int × Uq)} (S:cA.SI l h a es) (hs:V6 b h h') (hab:a≠b):cA.SI l h' a es:=by
 obtain⟨o,ep,t,ho,r⟩:=S;exact⟨o,ep,t,(hs.2 a hab).trans ho,r⟩
theorem oK:entryFor table "set.update.loop"=some Builtin.«set.update.loop»:=entryFor_of_tree (by kernel_rfl)
theorem kz:plainId "set.update.loop"=true:=by decide +kernel
theorem zk {h:Heap} {a:U2} {ld:Bool} (e:h.get? a=some { cls:=.type "set",dict:=none,data:=.set #[] 0 (.fresh 0 0 ld) }):cA.SI ld h a #[] :=
 ⟨_,0,.fresh 0 0 ld,e,⟨rfl,rfl,rfl⟩,rfl,⟨⟨fun i j _ hj=>absurd hj (by simp [XE]),rfl⟩,by simp [XE],fun i hi=>absurd hi (by simp [XE]),by simp,⟨3,rfl⟩,fun i hi=>absurd hi (by simp)⟩,by simp [XE],by simp [XE],by simp [XE],fun i hi=>absurd hi (by simp),rfl,fun z=>absurd z (by simp)⟩
section
variable {X:Cx} {pins:bg} {φ:Fr} {g:G} {L L':aa} {s:Uu} {a it l:U2} {es:Array (Int × Uq)} {tr ts:List T} {its:List Uq} {t:T} {u:Uq} {ld:Bool}
theorem Np {A:Vj} {E:Uq->Uu->Prop} {Q:Bool->Uu->Prop} (I:Inv X pins φ g L s) (hu:A.units+10<cLine) (hS:cA.SI ld s.heap a es) (hE:Ia X.w g es.toList tr) (hs:es.size<1000) (hd:tr.Nodup) (hk:kd 6 t=true) (hh:qH t=true) (r:RT g none t u)
  (hQ:∀b h' tk fW xm,V6 a s.heap h'\/h'=s.heap->cA.SI ld h' a fW->Ia X.w g fW.toList xm->xm.Nodup->xm.length<=tr.length+1->(∀x,x∈xm↔x=t\/x∈tr)->Q b { s with heap:=h',toks:=tk }):UK (model X.prog X.w) A (setAdd a u) Q E s:=by
 classical
 have hl:=UL hE;have hl':es.size=tr.length:=by simpa using hl
 have k:=I.Fw 6 hk r;unfold setAdd;refine wpAny_holding (Ui ?_);refine de.hash 6 hk (by omega) k ?_;generalize s.toks+dr t=tk;have I':Inv X pins φ g L { s with toks:=tk }:=I.tok tk
 have k':=I'.Fw 6 hk r;have at_:∀i (hi:i<es.size),(es[i]).1=hT X.w (tr[i]'(by omega))/\kd 6 (tr[i]'(by omega))=true/\RT g none (tr[i]'(by omega)) (es[i]).2:=fun i hi=>by
  have z:=wo hE i _ _ (Ge9 (by simpa using hi)) (Ge9 (by omega));simpa using z
 refine Ge (s:={ s with toks:=tk }) (eqv:=fun i=>decide (tr.getD i (.int 0)=t)) hS ?_ hs (fun i hi _=>?_) (fun Q' q=>de.seen (n:=6) (by omega) hk k' _ (fun v hv=>?_) q) (fun Q' q=>de.JJ hh k' q) (fun hex=>?_) fun lb h' fW Dx hS' hp=>?_
 ·unfold qH at hh
  split at hh
  ·cases r with
   | tup=>exact⟨_,rfl⟩
  ·cases hh
 ·obtain⟨_,h2,h3⟩:=at_ i hi
  have e:tr.getD i (.int 0)=tr[i]'(by omega):=by simp [show i<tr.length by omega]
  show WB A _ _ _ (decide (tr.getD i (.int 0)=t));rw [e];exact de.eq 6 h2 hk (by omega) (I'.Fw 6 h2 h3) k'
 ·obtain⟨e,he,rfl⟩:=Ur.mp hv
  rw [Xv] at he;have he:=(Array.mem_filter.mp he).1
  obtain⟨i,hi,rfl⟩:=Wk he;obtain⟨_,h2,h3⟩:=at_ i hi
  exact⟨_,h2,I'.Fw 6 h2 h3⟩
 ·obtain⟨i,hi,e1,e2⟩:=hex
  have e:tr.getD i (.int 0)=tr[i]'(by omega):=by simp [show i<tr.length by omega]
  have e2:=of_decide_eq_true e2;rw [e] at e2;refine hQ false s.heap tk es tr (.inr rfl) hS hE hd (Wv _) fun x=>⟨.inr,fun z=>?_⟩
  rcases z with rfl|z
  ·rw [<- e2];exact UJ _
  ·exact z
 ·have hE':Ia X.w g ((hT X.w t,u)::es.toList) (t::tr):=.cons ⟨rfl,hk,r⟩ hE
  obtain⟨xm,p1,p2⟩:=lj hp hE';have Nq:t∉tr:=fun hb=>by
   obtain⟨i,hi,e⟩:=Xw.mp hb;have hi':i<es.size:=by omega
   refine lb ⟨i,hi',?_,?_⟩
   ·rw [(at_ i hi').1,e]
   ·exact decide_eq_true (by simp [hi,e])
  exact hQ true h' tk fW xm (.inl Dx) hS' p2 (p1.nodup_iff.mpr (Vd.mpr ⟨Nq,hd⟩)) (XM p1.length_eq) fun x=>by rw [p1.mem_iff,UG]
theorem zm {A:Vj} {R:Result->Uu->Prop} (I:Inv X pins φ g L s) (hu:A.units+12<cLine) (hh:A.handled=none) (hl:s.heap.IsList l its.toArray) (rv:cP g ts its) (hlen:its.length<900) (R9:∀t∈ts,kd 6 t=true/\qH t=true)
  (ha:s.heap.objs.size<=a) (Nr:s.heap.objs.size<=it) (hne:a≠it)
  (fin:∀h' tk es tr,(∀b o,s.heap.get? b=some o->h'.get? b=some o)->cA.SI ld h' a es->Ia X.w g es.toList tr->tr.Nodup->(∀x,x∈tr↔x∈ts)->R (.ok (.ret .none)) { s with heap:=h',toks:=tk }) :
  ∀(k i:Nat) (h':Heap) (tk:Nat) (es:Array (Int × Uq)) (tr:List T),its.length - i=k->i<=its.length->(∀b o,s.heap.get? b=some o->h'.get? b=some o)->h'.IsListIter it l i->cA.SI ld h' a es->Ia X.w g es.toList tr->tr.Nodup->tr.length<=i->(∀x,x∈tr↔x∈ts.take i) ->
   UK (model X.prog X.w) A.in1 (Builtin.«set.update.loop» ⟨[.ref a,.ref it],[]⟩) (fun fin s'=>match fin with|.done f=>R (.ok f) s'|.again c'=>c'.quiet=true/\codeAny (model X.prog X.w) A c' R s') (fun e s'=>R (.error e) s') { s with heap:=h',toks:=tk }:=by
 have pQ:=UL rv;have lt:∀b o,s.heap.get? b=some o->b≠a/\b≠it:=fun b o q =>
  ⟨U0 (UY (UP q) ha),U0 (UY (UP q) Nr)⟩
 obtain⟨ol,pK,PZ⟩:=id hl;intro k;induction k with
 | zero =>
  intro i h' tk es tr hk hi kp hit hS hE hd hn hp;obtain rfl:i=its.length:=by omega
  unfold Builtin.«set.update.loop»;dsimp only;refine Ui (wpAny_pyNext_list_end (s:={ s with heap:=h',toks:=tk }) (A:=A.in1) hh hit (show h'.IsList l its.toArray from⟨ol,kp _ _ pK,PZ⟩) (by simp) fun h2 JK=>?_);dsimp only;refine Uk ?_;refine fin h2 tk es tr (fun b o q=>JK b o (lt b o q).2 (kp b o q)) ?_ hE hd (by rw [<- pQ,List.take_length] at hp;exact hp);obtain⟨o,ep,t,ho,r⟩:=hS;exact⟨o,ep,t,JK a o hne ho,r⟩
 | succ k ih =>
  intro i h' tk es tr hk hi kp hit hS hE hd hn hp;have xi:i<its.length:=by omega
  have xP:i<ts.length:=by omega
  unfold Builtin.«set.update.loop»;dsimp only;refine Ui (wpAny_pyNext_list_item (s:={ s with heap:=h',toks:=tk }) (x:=its[i]) hit (show h'.IsList l its.toArray from⟨ol,kp _ _ pK,PZ⟩) (by simp [xi]) fun h1 DP Dx=>?_);dsimp only;have Nt:∀b o,s.heap.get? b=some o->h1.get? b=some o:=fun b o q=>(Dx.2 b (lt b o q).2).trans (kp b o q)
  have I1:Inv X pins φ g L { s with heap:=h1,toks:=tk }:=I.kept Nt;have hS1:cA.SI ld h1 a es:=Co hS Dx hne
  have ht:=R9 _ (UJ xP);have JL:es.size<1000:=by
   have z1:=UL hE;have z4:es.toList.length=es.size:=by simp
   omega
  refine Ui (wpAny_holding (Np (s:={ s with heap:=h1,toks:=tk }) I1 (by show A.units+1+10<cLine;omega) hS1 hE JL hd ht.1 ht.2 (wo rv i _ _ (Ge9 xP) (Ge9 xi)) fun bb h2 JM fW xm P4 hS2 Sa hd2 wx sQ=>?_));have Nu:∀b o,s.heap.get? b=some o->h2.get? b=some o:=fun b o q=>by
   rcases P4 with Gk|rfl
   ·exact(Gk.2 b (lt b o q).1).trans (Nt b o q)
   ·exact Nt b o q
  have Nv:h2.IsListIter it l (i+1):=by
   rcases P4 with Gk|rfl
   ·obtain⟨o,ho,r⟩:=DP
    exact⟨o,(Gk.2 it (VU hne)).trans ho,r⟩
   ·exact DP
  refine Uk ?_;refine⟨plainId_quiet kz _,codeAny_builtin oK ?_⟩;rw [VF kz _];have hmem:∀x,x∈xm↔x∈ts.take (i+1):=fun x=>by
   rw [sQ,List.take_succ_eq_append_getElem xP,Uz,UR,hp,or_comm]
  exact ih (i+1) h2 JM fW xm (by omega) (by omega) Nu Nv hS2 Sa hd2 (by omega) hmem
theorem lY {x:T}:∀{l:List T},x∈rf l↔x∈l
 | []=>Iff.rfl
 | y::l=>by
  unfold rf;split
  ·rename_i h
   rw [lY,UG];exact⟨.inr,fun z=>z.elim (fun e=>by rw [e];exact h) id⟩
  ·rw [UG,UG,lY]
theorem ua:∀l:List T,(rf l).Nodup
 | []=>.nil
 | y::l=>by
  unfold rf;split
  ·exact ua l
  ·rename_i h
   exact Vd.mpr ⟨fun z=>h (lY.mp z),ua l⟩
theorem vt:∀l:List T,(rf l).length<=l.length
 | []=>UH _
 | y::l=>by
  have:=vt l;unfold rf;split <;> simp <;> omega
theorem rI {α:Type}:∀{a b:List α},a.Nodup->b.Nodup->(∀x,x∈a↔x∈b)->a.Perm b:=fun ha hb h=>(Wz ha hb).mpr h
theorem Inv.Sb (I:Inv X pins φ g L s) (dr:_):Inv X pins φ g L { s with drawn:=dr }:=⟨I.ok,I.os,I.bare,I.base,I.loc,I.cell,I.free,I.qN,I.pin,I.hok,I.len,I.rel,I.gB,I.gm,I.gw⟩
theorem vz:∀{es:List (Int × Uq)} {tr:List T},Ia w' g es tr->cP g tr (es.map (·.2))
 | _,_,.nil=>.nil
 | _,_,.cons h t=>.cons h.2.2 (vz t)
theorem rJ:∀{us:List Uq} {tr:List T},cP g tr us->Paired (fun u t=>RT g none t u) us tr
 | _,_,.nil=>.nil
 | _,_,.cons h t=>.cons h (rJ t)
theorem rK:∀{us:List Uq} {tr:List T},Paired (fun u t=>RT g none t u) us tr->cP g tr us
 | _,_,.nil=>.nil
 | _,_,.cons h t=>.cons h (rK t)
theorem ub {a b:List T} (h:cS b) (hl:a.length<=b.length) (hm:∀x∈a,x∈b):cS a:=by
 obtain⟨h1,h2,h3,h4⟩:=h;refine⟨by omega,Uo.mpr fun x hx=>Uo.mp h2 x (hm x hx),?_,Uo.mpr fun x hx=>Uo.mpr fun y hy=>Uo.mp (Uo.mp h4 x (hm x hx)) y (hm y hy)⟩;rcases h3 with h3|h3
 ·exact .inl (Uo.mpr fun x hx=>Uo.mp h3 x (hm x hx))
 ·exact .inr (Uo.mpr fun x hx=>Uo.mp h3 x (hm x hx))
theorem Nx {x y:T} (hx:kd 8 x=true) (hy:kd 8 y=true) (h:ltN 8 y x=false):x=y\/ltN 8 x y=true:=by
 by_cases e:x=y
 ·exact .inl e
 ·rcases jJ 8 _ _ hx hy e with q|q
  ·exact .inr q
  ·rw [h] at q;cases q
theorem DQ (x:T) (hx:kd 8 x=true):∀l:List T,(∀y∈l,kd 8 y=true)->ik l->∃l',l'.Perm (x::l)/\ik l'
 | [],_,_=>⟨[x],.refl _,by simp [ik]⟩
 | y::l,hk,hr=>by
  have hy:=hk y Um;have hr':=Wh.mp hr
  cases e:ltN 8 y x with
  | false =>
   refine⟨x::y::l,.refl _,Wh.mpr ⟨fun z hz=>?_,hr⟩⟩;rcases UG.mp hz with rfl|hz
   ·exact e
   ·have h1:=hr'.1 z hz
    rcases Nx hx hy e with rfl|q
    ·exact h1
    ·cases e2:ltN 8 z x with
     | false=>rfl
     | true=>rw [dN 8 _ _ _ e2 q] at h1;cases h1
  | true =>
   obtain⟨l',p,r⟩:=DQ x hx l (fun z hz=>hk z (Up _ hz)) hr'.2;refine⟨y::l',(p.cons y).trans (.swap _ _ _),Wh.mpr ⟨fun z hz=>?_,r⟩⟩;rcases UG.mp (p.mem_iff.mp hz) with rfl|hz
   ·cases e2:ltN 8 z y with
    | false=>rfl
    | true=>have:=dN 8 _ _ _ e e2;rw [lU] at this;cases this
   ·exact hr'.1 z hz
theorem DR:∀l:List T,(∀y∈l,kd 8 y=true)->∃l',l'.Perm l/\ik l'
 | [],_=>⟨[],.refl _,Zg⟩
 | x::l,h=>by
  obtain⟨l1,p1,r1⟩:=DR l fun y hy=>h y (Up _ hy)
  obtain⟨l2,p2,r2⟩:=DQ x (h x Um) l1 (fun y hy=>h y (Up _ (p1.mem_iff.mp hy))) r1;exact⟨l2,p2.trans (p1.cons x),r2⟩
theorem zo {a b:List T} (hk:a.all (kd 8)=true) (p:a.Perm b):jL a=jL b:=by
 obtain⟨l',p',h⟩:=DR a (Uo.mp hk);rw [pN hk p' h,pN (Uo.mpr fun x hx=>Uo.mp hk x (p.mem_iff.mpr hx)) (p'.trans p) h]
theorem zq {fz:Bool} {w:T} (hu:X.A.units+20<cLine) (I:Inv X pins φ g L s) (hl:s.heap.IsList l its.toArray) (rv:cP g ts its) (ok:cS ts) (h6:ts.all (kd 6)=true) (hS:ts.all qH=true) (h:fF fz (jL (rf ts)) L=.ok w L') :
  UK (model X.prog X.w) X.A (call (.type "set") [.ref l]) (fun u s'=>UK (model X.prog X.w) X.A (call (.builtin "sorted") [u]) (EP X pins φ g w L') F0 s') F0 s:=by
 have hlen:=UL rv;have LS:=ok.1
 refine t8 (led:=!X.w.params.followText "set-order") hl rfl ?_;refine codeAny_builtin oK ?_;rw [VF kz _];have e1:(s.heap.push { cls:=.type "set",dict:=none,data:=.set #[] 0 (.fresh 0 0 (!X.w.params.followText "set-order")) }).get? s.heap.objs.size=some { cls:=.type "set",dict:=none,data:=.set #[] 0 (.fresh 0 0 (!X.w.params.followText "set-order")) }:=Us _ rfl
 have e2:(s.heap.push { cls:=.type "set",dict:=none,data:=.set #[] 0 (.fresh 0 0 (!X.w.params.followText "set-order")) }).objs.size=s.heap.objs.size+1:=VC _ _;have e3:((s.heap.push { cls:=.type "set",dict:=none,data:=.set #[] 0 (.fresh 0 0 (!X.w.params.followText "set-order")) }).push { cls:=.type "list_iterator",data:=.fields #[.ref l,.int 0 0] }).get? (s.heap.objs.size+1)=some { cls:=.type "list_iterator",data:=.fields #[.ref l,.int 0 0] }:=by
  rw [<- e2];exact Us _ rfl
 refine zm (ld:=!X.w.params.followText "set-order") (l:=l) (ts:=ts) (its:=its) I (A:=X.A.in1.in1) (by show X.A.units+1+1+12<cLine;omega) I.ok.hd hl rv (by omega) (fun t ht=>⟨Uo.mp h6 t ht,Uo.mp hS t ht⟩) (UH _) (Wv _) (U0 (V9 _)) ?_ its.length 0 _ s.toks #[] [] (by omega) (U4 _) (fun b o z=>Uj _ (Uj _ z)) ⟨_,e3,rfl,rfl⟩ (zk (Uj _ e1)) .nil .nil (U4 _) (fun x=>by simp);intro h' tk es tr kp Nj hE hnd hmem;have pn:tr.Perm (rf ts):=rI hnd (ua ts) fun x=>(hmem x).trans lY.symm
 have nl:(rf ts).length<=ts.length:=vt ts;have hsz:es.size<1000:=by
  have z1:=UL hE;have z2:=pn.length_eq
  have z4:es.toList.length=es.size:=by simp
  omega
 refine XC kind_sorted plain_sorted entry_sorted (args_sorted1 _) ?_;unfold Builtin.«sorted»;refine Ui (m:=checkCount "sorted" 1 1 _) (Uk ?_);refine Ui (rH (A:=X.A.in1) (s:={ s with heap:=h',toks:=tk }) I.ok.hd Nj rfl hsz fun h2 JM dr acc Nu pa=>?_);have I1:Inv X pins φ g L { s with heap:=h2,toks:=JM,drawn:=dr }:=(I.kept (t':=JM) fun b o q=>Nu b o (kp b o q)).Sb dr
 obtain⟨xm,p1,p2⟩:=lj pa (rJ (vz hE));have rr:=rK p2
 have hl':=UL rr;have j8:=p1.length_eq
 have Ny:cS xm:=ub ok (by have:=pn.length_eq;omega) fun x hx=>(hmem x).mp (p1.mem_iff.mp hx)
 have fW:jL xm=jL (rf ts):=zo Ny.2.1 (p1.trans pn);refine Ui (wpAny_newList ?_ (by rw [VV];have:=Ny.1;omega));have jF:=fun E'=>mL (s:={ s with heap:=h2,toks:=JM,drawn:=dr }) (E:=E') (A:=X.A.in1.in1) (by show X.A.units+1+1+8<cLine;omega) I1 rr Ny (by rw [fW];exact h)
 refine Ui (wpAny_holding (wpAny_call_entry slot_list_sort ⟨_,Us _ rfl,rfl⟩ entry_list_sort ?body (args_list_sort _)))
 case body =>
  refine wpAny_mono (jF _) (fun fin s' z=>?_) fun _ _ z=>z
  obtain⟨rfl,z⟩:=z;exact⟨_,rfl,Uk ⟨_,rfl,z⟩⟩
end
end M
namespace M
open PySem PySem.Spec PyProof.Rows
section
variable {X:Cx} {pins:bg} {φ:Fr} {g:G} {L L':aa} {s:Uu} {o e:Expr} {m:SE} {fz:Bool} {p q ap pos:Pos}
theorem pY {t:List T} {L1:aa} (h:iM [m] φ L=.ok t L1):∃x,t=[x]/\m φ L=.ok x L1:=by
 obtain⟨x,L2,e1,h⟩:=R.of h;obtain⟨ts,L3,e2,h⟩:=R.of h;cases e2;cases h;exact⟨x,rfl,e1⟩
theorem zr (hu:X.A.units+20<cLine) (ho:PE X o m) (hb:okBase o=true) (mD:(ap.endLine == q.line)=true) (hg:Gl X "sorted") (hm:X.mg "sorted"=none) (hs:bo (.Call (.Attribute o "items" ap) [] [] q)=true):PE X (.Call (.Name "sorted" p) [.Call (.Attribute o "items" ap) [] [] q] [] pos) (ae (kr fz) [m]):=fun {pins φ g L s w L'} I h=>by
 obtain⟨ts,L1,e1,h⟩:=R.of h;obtain⟨t,rfl,e2⟩:=pY e1;refine wpAny_Call_Name_kw (fX I hg hm (by kernel_rfl:bootBuiltins "sorted"=some (.builtin "sorted")) ?_ (by decide) (by decide));refine callWith_builtin1 ?_ (aD hs) (bU rfl);rw [aD hs];refine XR ?_;refine wpAny_Call_method_late (base_ok hb) (tB rfl (by decide)) mD rfl (thn (ho I e2) fun v s1 ⟨g1,l1,I1,r1⟩=>?_);unfold kr at h;obtain⟨pp,vw⟩:=I1.view r1
 ·dsimp only at h
  split at h
  ·rename_i ks ev
   rw [ev] at vw;obtain⟨ok,h⟩:=aG h;obtain⟨a,od,es,ep,rfl,_,_,D⟩:=I1.aS vw;obtain⟨kvs,d1,d2,d3⟩:=DJ D (rg ok.2.2.1);refine⟨"dict","dict.items",XW,Zt,PySem.F.type_dict_items,D.typeIs,fun b e=>?_,?_⟩
   ·cases e;exact⟨od,D.ho,D.hx.2.1⟩
   ·refine ZG (bU rfl) (Z7 ?_)
    refine call_meetsIn Zt D.typeIs PySem.F.entry_dict_items (PySem.F.args_dict_items_1 _) (meets_dict_items (hV X.prog X.w) a D.hs) ⟨⟨kvs,Heap.DictAt.dictOf d1⟩,?_⟩;refine Xm ?_;have kp:∀b o,s1.heap.get? b=some o->(s1.heap.push { cls:=.type "dict_items",data:=.fields #[.ref a] }).get? b=some o:=fun b o z=>Uj _ z
    have I2:=I1.kept (t':=s1.toks) kp;have D2:bO X g1 { s1 with heap:=s1.heap.push { cls:=.type "dict_items",data:=.fields #[.ref a] } } ks a od es ep:=⟨kp _ _ D.ho,D.hx,D.hd,D.hz,D.hl,D.hn,D.hm,D.hs,D.hh,D.h1,D.h2⟩
    exact thn (tU hu I2 D2 (Us _ rfl) ok h) fun _ _ z=>z.le l1
  ·cases h
theorem Cp {m1 m2:SE} {t:List T} {L1:aa} (h:iM [m1,m2] φ L=.ok t L1):∃x y,t=[x,y]:=by
 obtain⟨x,L2,e1,h⟩:=R.of h;obtain⟨ts,L3,e2,h⟩:=R.of h;obtain⟨y,rfl,e2⟩:=pY e2;cases h;exact⟨x,y,rfl⟩
theorem zu (hu:X.A.units+20<cLine) (ha:PA X [e] (iM [m])) (hg:Gl X "sorted") (hm:X.mg "sorted"=none) (B3:Gl X "set") (FZ:X.mg "set"=none) (sM:[e].all bo=true) (hs:bo (.Call (.Name "set" ap) [e] [] q)=true):PE X (.Call (.Name "sorted" p) [.Call (.Name "set" ap) [e] [] q] [] pos) (ae (mJ fz) [m]):=fun {pins φ g L s w L'} I h=>by
 obtain⟨ts,L1,e1,h⟩:=R.of h;obtain⟨t,rfl,e2⟩:=pY e1;refine wpAny_Call_Name_kw (fX I hg hm (by kernel_rfl:bootBuiltins "sorted"=some (.builtin "sorted")) ?_ (by decide) (by decide));refine callWith_builtin1 ?_ (aD hs) (bU rfl);rw [aD hs];refine XR ?_;refine wpAny_Call_Name_kw (fX I B3 FZ (by kernel_rfl:bootBuiltins "set"=some (.type "set")) ?_ (by decide) (by decide));refine callWith_type1 (thn (ha q I e1) fun us s1 ⟨g1,l1,I1,r1⟩=>?_) (aD (by simpa using sM)) (bU rfl);obtain⟨u,rfl,ru⟩:=bP r1;unfold mJ at h;dsimp only at h;obtain⟨pp,v⟩:=I1.view ru;split at h
 ·rename_i ys ev
  rw [ev] at v;obtain⟨⟨ok,h6,hS⟩,h⟩:=aG h;obtain⟨a,its,n,rfl,e,rr,hz⟩:=I1.lst v;exact thn (zq hu I1 (by simpa using af e) rr ok h6 hS h) fun _ _ z=>Xm (thn z fun _ _ y=>y.le l1)
 ·cases h
theorem Cq {a b:Expr} {ma mb:SE} (hu:X.A.units+20<cLine) (ha:PA X [a,b] (iM [ma,mb])) (hg:Gl X "dict") (hm:X.mg "dict"=none) (B3:Gl X "zip") (FZ:X.mg "zip"=none) (sM:[a,b].all bo=true) (hs:bo (.Call (.Name "zip" ap) [a,b] [] q)=true):PE X (.Call (.Name "dict" p) [.Call (.Name "zip" ap) [a,b] [] q] [] pos) (ae ia [ma,mb]):=fun {pins φ g L s w L'} I h=>by
 obtain⟨ts,L1,e1,h⟩:=R.of h;obtain⟨t1,t2,rfl⟩:=Cp e1;have P5:bo a=true/\bo b=true:=by simpa using sM
 refine wpAny_Call_Name_kw (fX I hg hm (by kernel_rfl:bootBuiltins "dict"=some (.type "dict")) ?_ (by decide) (by decide));refine callWith_type1 ?_ (aD hs) (bU rfl);rw [aD hs];refine XR ?_;refine wpAny_Call_Name_kw (fX I B3 FZ (by kernel_rfl:bootBuiltins "zip"=some (.type "zip")) ?_ (by decide) (by decide));refine callWith_type1 (thn (ha q I e1) fun us s1 ⟨g1,l1,I1,r1⟩=>?_) (aD P5.1) (bU (by simpa using P5.2));obtain⟨u1,u2,rfl,Sd,Se⟩:=km r1;unfold ia at h;dsimp only at h;obtain⟨p1,v1⟩:=I1.view Sd;obtain⟨p2,v2⟩:=I1.view Se;split at h
 ·rename_i xs ys Nz NA
  rw [Nz] at v1;rw [NA] at v2;obtain⟨hle,h⟩:=aG h;obtain⟨a1,NB,n1,rfl,q1,NC,_⟩:=I1.lst v1;obtain⟨a2,pD,n2,rfl,q2,BN,_⟩:=I1.lst v2;exact thn (rA (b:=false) hu I1 (by simpa using af q1) (show s1.heap.IsList a2 pD.toList.toArray from by simpa using af q2) NC BN hle h) fun _ _ z=>Xm (thn z fun _ _ y=>y.le l1)
 ·rename_i xs ys Nz NA
  rw [Nz] at v1;rw [NA] at v2;obtain⟨hle,h⟩:=aG h;obtain⟨a1,NB,n1,rfl,q1,NC,_⟩:=I1.lst v1;obtain⟨a2,pD,rfl,q2,BN,_⟩:=I1.tupP v2;exact thn (rA (b:=true) hu I1 (by simpa using af q1) (show s1.heap.IsTuple a2 pD.toList.toArray from by rw [Array.toArray_toList];exact q2) NC BN hle h) fun _ _ z=>Xm (thn z fun _ _ y=>y.le l1)
 ·cases h
end
structure eH (X:Cx) (Γ:Ct):Prop where
 hu:X.A.units+20<cLine
 fn:∀x F,Γ.fn.lookup x=some F->(x == ("__debug__":Str))=false/\∃k fa,fJ X.prog X.w X.K X.mg X.cls X.base k fa F/\fH k X.A/\X.mg x=some (.ref fa)/\VE X.K (.ref fa)=true
 co:∀x t,Γ.co.lookup x=some t->(x == ("__debug__":Str))=false/\∃u,X.mg x=some u/\∀g:G,g.B=X.base->g.cls=X.cls->g.w=X.w->RT g none t u
 us:∀x∈Γ.us,X.mg x=none/\x≠"__name__"/\(x == ("__debug__":Str))=false
 fl:∀c C,X.cls c=some C->ClsOk X.K Γ.fl C
 me:∀m mf,Γ.me.lookup m=some mf->∀c C F,X.cls c=some C->mf.lookup c=some F->∃fa k,BC X.K C/\Meth X.K C m fa/\fJ X.prog X.w X.K X.mg X.cls X.base k fa F/\fH k X.A
structure eO (X:Cx) (S:Sg):Prop where
 N:X.N=S.N
 nd:S.N.Nodup
 nm:S.N.all yN=true
 loc:∀x,S.sc.names.lookup x=some .local->X.env.scope.names.lookup x=some .local
 L9:∀x,S.sc.names.lookup x=some .cell->X.env.scope.names.lookup x=some .cell/\X.fn x=true
 P6:∀x,S.sc.names.lookup x=some .free->X.env.scope.names.lookup x=some .cell\/X.env.scope.names.lookup x=some .free
 Sf:∀x,S.sc.names.lookup x=some .globalImplicit->X.env.scope.names.lookup x=some .globalImplicit
structure fK (X:Cx) (B:Bd):Prop where
 E:∀e,PE X e (B.E e)
 T:∀e,PT X e (B.T e)
 S:∀st,PS X st (B.S st)
section
variable {X:Cx} {Γ:Ct} {S:Sg} {B:Bd} {BS:Sg->Bd} {x:Str} {i:Nat} {pos p p2:Pos} {a b e:Expr} {es:List Expr}
theorem mS {N:List Str} (h:H5 N x=some i):N[i]?=some x:=by
 obtain⟨h1,h2,_⟩:=VH.mp h;rw [Ge9 h1,eq_of_beq h2]
theorem JN (c:eO X S) (h:S.N[i]?=some x):(x == ("__debug__":Str))=false/\(x == ("__classdict__":Str))=false:=by
 have:=Uo.mp c.nm x (U7 h);unfold yN at this;simpa using this
theorem at_of (c:eO X S) (h:S.at x=some i):X.N[i]?=some x/\LM X.env.scope x:=by
 unfold Sg.at at h;rw [c.N];split at h
 ·exact⟨mS h,.inl (c.loc x (by assumption))⟩
 ·exact⟨mS h,.inr (.inl (c.L9 x (by assumption)).1)⟩
 ·refine⟨mS h,?_⟩
  rcases c.P6 x (by assumption) with z|z
  ·exact .inr (.inl z)
  ·exact .inr (.inr z)
 ·cases h
theorem mU (c:eO X S) (h:S.own x=some i):s9 X i x:=by
 unfold Sg.own at h;split at h
 ·exact⟨by rw [c.N];exact c.nd,by rw [c.N];exact mS h,.inl (c.loc x (by assumption)),.inr (c.loc x (by assumption))⟩
 ·exact⟨by rw [c.N];exact c.nd,by rw [c.N];exact mS h,.inr (c.L9 x (by assumption)).1,.inl (c.L9 x (by assumption)).2⟩
 ·cases h
theorem jO (c:eO X S) (h:S.gl x=true):Gl X x:=by
 unfold Sg.gl at h;split at h
 ·exact c.Sf x (by assumption)
 ·cases h
theorem Cr (o:eH X Γ) (c:eO X S):PE X (.Name x pos) (eName Γ S x):=by
 unfold eName;split
 ·rename_i h
  obtain⟨h1,h2⟩:=at_of c h;have:=JN c (by rw [<- c.N];exact h1)
  exact fun {_ _ _ _ _ _ _} I h=>Ew h1 h2 this.1 this.2 I h
 ·split
  ·rename_i hg
   split
   ·rename_i ht
    obtain⟨h1,u,h2,h3⟩:=o.co x _ ht;exact EA (jO c hg) h2 h3 h1
   ·split
    ·rename_i n hu hn
     obtain⟨h1,h2,h3⟩:=o.us x (by simpa using hu);have hb:bootBuiltins x=some (.type n):=by
      simp only [US] at hn
      repeat' split at hn
      all_goals first|cases hn|skip
      all_goals (rename_i hx;have hx:=eq_of_beq hx;subst hx;kernel_rfl)
     exact fun {_ _ _ _ _ _ _} I q=>EB (jO c hg) h1 hb (fun _ _ _ _=>.ty _) h2 h3 I q
    ·exact fun {_ _ _ _ _ _ _} I q=>cT I q
  ·exact fun {_ _ _ _ _ _ _} I q=>cT I q
theorem Gm {k:Const} {j:Nat}:PE X (.Constant k j pos) (FL k):=by
 cases k with
 | int=>exact Ex
 | bool=>exact Iz
 | none=>exact Ey
 | str x =>
  delta FL;dsimp only;split
  ·rename_i h;exact Ez (of_decide_eq_true h)
  ·exact cT
 | _=>exact cT
theorem Gn (o:eH X Γ) (hB:fK X B) {ops:List CmpOp}:PE X (.Compare a ops es pos) (yL B a ops es):=by
 unfold yL;split
 ·exact cT
 ·split
  ·split
   ·split
    ·exact ED (pH o.hu) (hB.E _) (hB.E _) (by assumption)
    ·exact cT
   ·exact cT
  ·split
   ·split
    ·split
     ·exact xG (fun _=>pH o.hu) (hB.E _) (hB.E _) (hB.E _) (by assumption)
     ·exact cT
    ·exact cT
   ·exact cT
theorem Cu (o:eH X Γ) (hB:fK X B) {ops:List CmpOp}:PT X (.Compare a ops es pos) (tv (yL B a ops es)):=by
 have Cv:PT X (.Compare a ops es pos) (tv no):=fun {_ _ _ _ _ _ _} w _ I h=>by cases h
 unfold yL;split
 ·exact @Cv
 ·split
  ·split
   ·split
    ·rename_i hm;exact fun {_ _ _ _ _ _ _} w hw I h=>EM (pH o.hu) (hB.E _) (hB.E _) hm w hw I h
    ·exact @Cv
   ·exact @Cv
  ·split
   ·split
    ·split
     ·rename_i hm;exact fun {_ _ _ _ _ _ _} w hw I h=>xH (fun _=>pH o.hu) (hB.E _) (hB.E _) (hB.E _) hm w hw I h
     ·exact @Cv
    ·exact @Cv
   ·exact @Cv
theorem zw (hB:fK X B) {o:Option Expr}:PO X o (o.map B.E):=by
 cases o with
 | none=>exact BI
 | some e=>exact BJ (hB.E e)
theorem Gp (o:eH X Γ) (hB:fK X B):PE X (.Subscript a b pos) (Jk Γ B a b pos):=by
 have V:PE X (.Subscript a b pos) (LV B a b):=by
  unfold LV;split
  ·exact IA (Jc o.hu (by assumption)) (hB.E _) (hB.E _)
  ·exact cT
 cases b with
 | Slice lo hi st p=>cases st with
  | none=>exact fun {_ _ _ _ _ _ _} I q=>Fl (hB.E _) (zw hB) (zw hB) I q
  | some _=>exact @V
 | _=>exact @V
theorem eQ (hB:fK X B):∀{es:List Expr},es.all bo=true->PA X es (iM (es.map B.E))
 | [],_=>ph
 | e::es,h=>by
  rw [Vf,Uw] at h;exact jy (hB.E e) (eQ hB h.2) h.1
theorem vA (hB:fK X B):∀(es:List Expr),PE X (.BoolOp .And es pos) (ky (es.map B.E))
 | []=>cT
 | [a]=>xF (hB.E a)
 | a::b::r=>EH (hB.E a) (vA hB (b::r))
theorem zx (hB:fK X B):∀(es:List Expr),PE X (.BoolOp .Or es pos) (Bg (es.map B.E))
 | []=>cT
 | [a]=>xF (hB.E a)
 | a::b::r=>IC (hB.E a) (zx hB (b::r))
theorem vB (hB:fK X B):∀(es:List Expr),PT X (.BoolOp .And es pos) (jM (es.map B.T))
 | []=>uP
 | [a]=>Bo (hB.T a)
 | a::b::r=>EL (hB.T a) (vB hB (b::r))
theorem zy (hB:fK X B):∀(es:List Expr),PT X (.BoolOp .Or es pos) (vh (es.map B.T))
 | []=>uP
 | [a]=>EK (hB.T a)
 | a::b::r=>ID (hB.T a) (zy hB (b::r))
theorem gu (hB:fK X B):∀(l:List Stmt),xD X l (ab (l.map B.S))
 | []=>Bp
 | s::l=>xJ (hB.S s) (gu hB l)
theorem Cw {a:Option Nat} {b:Option (List Nat)} {is:List Nat} (h:FN a b=some is):∃i js,a=some i/\b=some js/\is=i::js:=by
 cases a with
 | none=>cases h
 | some i=>cases b with
  | none=>cases h
  | some js=>cases h;exact⟨i,js,rfl,rfl,rfl⟩
theorem pZ (c:eO X S):∀{ts:List Expr} {is:List Nat},yM S ts=some is->IG X ts is/\(assignEach ts X.env).length=is.length/\(assignEach ts X.env).findIdx? (·.1)=none
 | [],is,h=>by cases h;exact⟨Bs,rfl,rfl⟩
 | t::r,is,h=>by
  cases t with
  | Name x p =>
   obtain⟨i,js,h1,h2,rfl⟩:=Cw (show FN (S.own x) (yM S r)=some is from h);obtain⟨q1,q2,q3⟩:=pZ c h2;refine⟨xK (mU c h1) q1,?_,?_⟩
   ·show(assignEach r X.env).length+1=_;rw [q2];rfl
   ·show((false,_)::assignEach r X.env).findIdx? (·.1)=none
    rw [YI,q3];rfl
  | _=>cases h
theorem uc (c:eO X S) {tg:Expr} {t:Tg} (h:MT S tg=some t):PG X tg t:=by
 cases tg with
 | Name x p =>
  obtain⟨i,h1,rfl⟩:=UA.mp h;exact lM (mU c h1)
 | Tuple ts k p =>
  obtain⟨is,h1,rfl⟩:=UA.mp h;obtain⟨q1,q2,q3⟩:=pZ c h1;exact xM q1 q2 q3
 | _=>cases h
theorem zA {e:Expr} (h:isTup e=true):∃ts k p,e=.Tuple ts k p:=by
 cases e with
 | Tuple ts k p=>exact⟨ts,k,p,rfl⟩
 | _=>cases h
theorem p7 (o:eH X Γ) (c:eO X S) (hB:fK X B) {tg:Expr}:PI X tg e (stI Γ B S tg e):=by
 unfold stI;split
 ·rename_i x px es pos
  unfold DE;split
  ·rename_i hc
   simp only [Uw] at hc;obtain⟨⟨h1,h2⟩,h3⟩:=hc;have hg:=jO c h1
   have hm:=(o.us x (by simpa using h2)).1;split
   ·rename_i hx
    have:=eq_of_beq hx;subst this;split
    ·simp only [Vf,YJ,Zu] at h3
     exact fun {_ _ _ _ _ _ _ _} I h=>Bt hg hm (hB.E _) h3 I h
    ·simp only [Vf,YJ,Zu,Uw] at h3
     exact fun {_ _ _ _ _ _ _ _} I h=>Bu hg hm (hB.E _) (hB.E _) h3.1 h3.2 I h
    ·exact fun {_ _ _ _ _ _ _ _} I h=>ki (hB.E _) I h
   ·split
    ·split
     ·rename_i hx
      have:=eq_of_beq hx;subst this;split
      ·rename_i ht
       simp only [Vf,YJ,Zu] at h3;obtain⟨_,_,_,rfl⟩:=zA ht;exact fun {_ _ _ _ _ _ _ _} I h=>EZ hg hm (hB.E _) h3 I h
      ·exact fun {_ _ _ _ _ _ _ _} I h=>ki (hB.E _) I h
     ·exact fun {_ _ _ _ _ _ _ _} I h=>ki (hB.E _) I h
    ·exact fun {_ _ _ _ _ _ _ _} I h=>ki (hB.E _) I h
  ·exact fun {_ _ _ _ _ _ _ _} I h=>ki (hB.E _) I h
 ·exact fun {_ _ _ _ _ _ _ _} I h=>ki (hB.E _) I h
theorem jP {scope:Scope} {env:Env} {y:Str} {k:NameKind} (h:scope.names.lookup y=some k) (hk:k≠.free):(relabel scope env).names.lookup y=some k:=by
 have go:∀(names:List (Str × NameKind)),names.lookup y=some k->(names.map fun(n,k)=>if (k == V3 && env.scope.kind == .function && env.kindOf n == some .cell) then (n,Zl) else (n,k)).lookup y=some k:=by
  intro names;induction names with
  | nil=>intro h;simp at h
  | cons a r ih =>
   obtain⟨n,k'⟩:=a;intro h;rw [Uy];rw [US] at h;by_cases hc:(k' == V3 && env.scope.kind == .function && env.kindOf n == some .cell)=true
   ·simp only [hc,if_true,US]
    cases hy:y == n with
    | true =>
     rw [hy] at h;have e:k'=k:=V7 h
     simp only [Uw,beq_iff_eq] at hc;exact absurd (e ▸ hc.1.1) hk
    | false =>
     rw [hy] at h;exact ih h
   ·simp only [hc,UC,if_false,US]
    cases hy:y == n with
    | true =>
     rw [hy] at h;exact h
    | false =>
     rw [hy] at h;exact ih h
 exact go scope.names h
theorem vC (c:eO X S) {sc:Scope} (h:tS S sc=true):mz X sc (inN sc) (aZ S sc)/\∀cl C s₀ H₀ ex,eO (dz X sc cl (inN sc) C s₀ H₀ ex) ⟨inN sc,sc⟩:=by
 unfold tS at h;simp only [Uw] at h;obtain⟨⟨⟨h1,h2⟩,h3⟩,h4⟩:=h;have h2:=Uo.mp h2
 have mB:∀y∈sc.names,y.2≠.cell:=fun y hy e=>by
  have:=h2 y hy;rw [e] at this;cases this
 constructor
 ·refine⟨?_,mB,fun y hy e=>?_,fun y hy e=>?_,fun i y j q1 q2=>?_,of_decide_eq_true h3,by unfold aZ;rw [Lm9]⟩
  ·split at h1
   ·assumption
   ·cases h1
  ·have:=h2 y hy
   simp only [e] at this;split at this
   ·assumption
   ·cases this
  ·have:=h2 y hy
   simp only [e] at this;split at this
   ·rename_i k;exact .inl (c.L9 _ k).1
   ·rename_i k;exact c.P6 _ k
   ·cases this
  ·unfold aZ at q2
   rw [UM,q1] at q2;simp only [Option.map_some,Option.some.injEq] at q2;split at q2
   ·rename_i k
    exact⟨(at_of c q2).1,k⟩
   ·cases q2
 ·intro cl C s₀ H₀ ex
  exact⟨rfl,of_decide_eq_true h3,h4,fun x h=>jP h (by decide),fun x h=>absurd rfl (mB (x,.cell) (Va h)),fun x h=>jD h,fun x h=>jP h (by decide)⟩
theorem eH.comp (o:eH X Γ) {sc:Scope} {N:List Str} {cl C s₀ H₀ ex}:eH (dz X sc cl N C s₀ H₀ ex) Γ:=⟨o.hu,o.fn,o.co,o.us,o.fl,o.me⟩
theorem rL (hB:fK X B) (ifs:List Expr):E3 X ifs (tests B ifs):=by
 unfold tests;split
 ·exact Bv
 ·exact Bw (hB.T _)
 ·exact fun I h=>by cases h
theorem Cy (hS:∀X S,eH X Γ->eO X S->fK X (BS S)) (o:eH X Γ) (c:eO X S) {elt tg iter:Expr} {ifs:List Expr} {sc:Scope}:PE X (.ListComp elt [⟨tg,iter,ifs,0⟩] sc pos) (oB Γ BS S elt tg iter ifs sc pos):=by
 unfold oB;split
 ·rename_i t ht
  split
  ·rename_i h
   simp only [Uw] at h;obtain⟨⟨h1,h2⟩,h3⟩:=h;obtain⟨k1,k2⟩:=vC c h1;refine fun {_ _ _ _ _ _ _} I h=>uV k1 (fun i hi=>?_) (p7 o c (hS X S o c)) (fun cl C s₀ H₀ ex=>uc (k2 cl C s₀ H₀ ex) ht) (fun cl C s₀ H₀ ex=>rL (hS _ _ o.comp (k2 cl C s₀ H₀ ex)) ifs) (fun cl C s₀ H₀ ex=>(hS _ _ o.comp (k2 cl C s₀ H₀ ex)).E elt) h2 I h
   have:=Uo.mp h3 i hi;split at this
   ·assumption
   ·cases this
  ·exact cT
 ·exact cT
theorem zB (hS:∀X S,eH X Γ->eO X S->fK X (BS S)) (o:eH X Γ) (c:eO X S) {y:Str} (hy:s9 X i y) {elt tg iter:Expr} {ifs:List Expr} {sc:Scope}:PS X (.Assign [.Name y p] (.ListComp elt [⟨tg,iter,ifs,0⟩] sc pos) p2) (asg (.one i) (oB Γ BS S elt tg iter ifs sc pos)):=by
 have Cv:PS X (.Assign [.Name y p] (.ListComp elt [⟨tg,iter,ifs,0⟩] sc pos) p2) (asg (.one i) no):=fun I h=>absurd rfl h
 unfold oB;split
 ·rename_i t ht
  split
  ·rename_i h
   simp only [Uw] at h;obtain⟨⟨h1,h2⟩,h3⟩:=h;obtain⟨k1,k2⟩:=vC c h1;refine fun {_ _ _ _ _} I h=>Bz hy k1 (fun i hi=>?_) (p7 o c (hS X S o c)) (fun cl C s₀ H₀ ex=>uc (k2 cl C s₀ H₀ ex) ht) (fun cl C s₀ H₀ ex=>rL (hS _ _ o.comp (k2 cl C s₀ H₀ ex)) ifs) (fun cl C s₀ H₀ ex=>(hS _ _ o.comp (k2 cl C s₀ H₀ ex)).E elt) h2 I h
   have:=Uo.mp h3 i hi;split at this
   ·assumption
   ·cases this
  ·exact fun {_ _ _ _ _} I h=>Cv I h
 ·exact fun {_ _ _ _ _} I h=>Cv I h
end
section
variable {X:Cx} {Γ:Ct} {S:Sg} {B:Bd} {BS:Sg->Bd} {x:Str} {i:Nat} {pos p p2:Pos} {a b e o:Expr} {es:List Expr} {fz:Bool} {F:Fn}
theorem mV {α β:Type} [BEq α] [LawfulBEq α] {P:α->β->Prop} {x:α} {b:β}:∀{l:List (α × β)},l.lookup x=some b->(∀p∈l,P p.1 p.2)->P x b
 | (a,c)::l,h,k=>by
  rw [US] at h;split at h
  ·rename_i e
   cases h;cases eq_of_beq e;exact k _ Um
  ·exact mV h fun p hp=>k p (Up _ hp)
theorem lc {α:Type} {P:α->Prop} {a:α} {l:List α} (h:P a) (k:∀x∈l,P x):∀x∈a::l,P x:=Xx.mpr ⟨h,k⟩
theorem ln {α:Type} {P:α->Prop}:∀x∈([]:List α),P x:=fun _ h=>nomatch h
theorem Gq (hu:X.A.units+20<cLine) (h:blt x fz=some F):∃f,bootBuiltins x=some f/\d8 X f F/\((∃id,f=.builtin id)\/∃T,f=.type T):=by
 refine mV (P:=fun x F=>∃f,bootBuiltins x=some f/\d8 X f F/\((∃id,f=.builtin id)\/∃T,f=.type T)) h ?_
 repeat' refine lc ?_ ?_
 ·exact⟨_,by kernel_rfl,yg,.inl ⟨_,rfl⟩⟩
 ·exact⟨_,by kernel_rfl,wC,.inr ⟨_,rfl⟩⟩
 ·exact⟨_,by kernel_rfl,yh,.inr ⟨_,rfl⟩⟩
 ·exact⟨_,by kernel_rfl,yk,.inl ⟨_,rfl⟩⟩
 ·exact⟨_,by kernel_rfl,yl,.inl ⟨_,rfl⟩⟩
 ·exact⟨_,by kernel_rfl,yr,.inl ⟨_,rfl⟩⟩
 ·exact⟨_,by kernel_rfl,ym,.inr ⟨_,rfl⟩⟩
 ·exact⟨_,by kernel_rfl,yn,.inr ⟨_,rfl⟩⟩
 ·exact⟨_,by kernel_rfl,wG hu,.inr ⟨_,rfl⟩⟩
 ·exact⟨_,by kernel_rfl,wK hu,.inl ⟨_,rfl⟩⟩
 ·exact ln
theorem Gr (hu:X.A.units+20<cLine) {f:Ty->Option (T->Fn)} (h:Pq x fz=some f):∀y F,f y=some F->Fq X x y F:=by
 refine mV (P:=fun x f=>∀y F,f y=some F->Fq X x y F) h ?_
 repeat' refine lc ?_ ?_
 rotate_right
 ·exact ln
 all_goals (intro y F hf;cases y <;> cases hf)
 ·exact⟨_,XX,Yk,PySem.F.type_list_append,Fs⟩
 ·exact⟨_,XX,Yl,PySem.F.type_list_extend,Ft⟩
 ·exact⟨_,XX,Zm,PySem.F.type_list_count,BP hu⟩
 ·exact⟨_,Zh,Y5,PySem.F.type_tuple_count,BQ hu⟩
 ·exact⟨_,Zh,Y6,PySem.F.type_tuple_index,Fu hu⟩
 ·exact⟨_,X2,PySem.F.slot_str_join,PySem.F.type_str_join,BR⟩
 ·exact⟨_,X2,W7,PySem.F.type_str_split,yw⟩
 ·exact⟨_,X2,PySem.F.slot_str_strip,PySem.F.type_str_strip,yt⟩
 ·exact⟨_,XW,ZU,PySem.F.type_dict_get,Fy hu⟩
 ·exact⟨_,XW,Yq,PySem.F.type_dict_setdefault,Fz hu⟩
theorem Cz (o:eH X Γ) (c:eO X S) (hB:fK X B) {q:Fn × List Expr} (hg:Gl X x) (h1:X.mg x=none) (h2:x≠"__name__") (h3:(x == ("__debug__":Str))=false) (hs:es.all bo=true) (h:nest Γ S fz x es=some q):PE X (.Call (.Name x p) es [] pos) (ae q.1 (q.2.map B.E)):=by
 unfold nest at h;split at h
 case h_2=>cases h
 split at h
 case h_2=>cases h
 split at h
 case h_2=>cases h
 split at h
 case h_3=>cases h
 ·rename_i P7 q _ _ y p2
  replace hs:bo (.Call (.Name y p2) P7 [] q)=true:=by simpa using hs
  unfold DF at h;split at h
  case h_2=>cases h
  rename_i hb;simp only [Uw] at hb;obtain⟨⟨⟨b1,b2⟩,b3⟩,b4⟩:=hb;obtain⟨m1,m2,m3⟩:=o.us y (by simpa using b2);split at h
  ·rename_i hx
   rw [Uw] at hx;have e1:=eq_of_beq hx.1
   have e2:=eq_of_beq hx.2;subst e1 e2;split at h
   ·cases h
    exact fun {_ _ _ _ _ _ _} I q=>zu o.hu (eQ hB b3) hg h1 (jO c b1) m1 b3 hs I q
   ·cases h
  ·split at h
   ·rename_i hx
    rw [Uw] at hx;have e1:=eq_of_beq hx.1
    have e2:=eq_of_beq hx.2;subst e1 e2;split at h
    ·cases h
     exact fun {_ _ _ _ _ _ _} I q=>Cq o.hu (eQ hB b3) hg h1 (jO c b1) m1 b3 hs I q
    ·cases h
   ·cases h
 ·rename_i P7 q _ _ ob m ap
  split at h
  case h_2=>cases h
  replace hs:bo (.Call (.Attribute ob m ap) [] [] q)=true:=by simpa using hs
  unfold DG at h;split at h
  ·rename_i hb
   simp only [Uw] at hb;obtain⟨⟨⟨⟨b1,b2⟩,b3⟩,b4⟩,b5⟩:=hb;have e1:=eq_of_beq b3
   have e2:=eq_of_beq b4;subst e1 e2;cases h;exact fun {_ _ _ _ _ _ _} I q=>zr o.hu (hB.E _) b1 b2 hg h1 hs I q
  ·cases h
theorem CA (o:eH X Γ) (c:eO X S) (hB:fK X B):PE X (.Call (.Name x p) es [] pos) (yO Γ B S x es pos):=by
 unfold yO;split
 ·rename_i h
  simp only [Uw] at h;split
  ·rename_i F hF
   obtain⟨h1,k,fa,h2,h3,h4,h5⟩:=o.fn x F hF;cases es with
   | nil=>exact fun {_ _ _ _ _ _ _} I q=>BE (tA h2 h3) (jO c h.1) h4 h5 h1 I q
   | cons e es=>exact fun {_ _ _ _ _ _ _} I q=>Fb (tA h2 h3) (jO c h.1) h4 h5 (eQ hB h.2) h.2 h1 I q
  ·split
   ·rename_i hb hF
    simp only [Uw] at hb;obtain⟨h1,h2,h3⟩:=o.us x (by simpa using hb.1);split
    ·rename_i q hq
     exact fun {_ _ _ _ _ _ _} I z=>Cz o c hB (jO c h.1) h1 h2 h3 h.2 hq I z
    ·cases es with
     | nil=>exact absurd hb.2 (by simp)
     | cons e es=>exact fun {_ _ _ _ _ _ _} I q=>Fm (Gq o.hu hF) (jO c h.1) h1 h2 h3 (eQ hB h.2) h.2 I q
   ·exact fun {_ _ _ _ _ _ _} I q=>cT I q
 ·exact fun {_ _ _ _ _ _ _} I q=>cT I q
theorem CB (oc:eH X Γ) (hB:fK X B):PE X (.Call (.Attribute o x p) es [] pos) (yP Γ B o x p es pos):=by
 unfold yP;split
 ·rename_i h
  simp only [Uw] at h;obtain⟨⟨⟨h1,h2⟩,h3⟩,h4⟩:=h;have h3:=of_decide_eq_true h3
  have h0:es=[]->es.map B.E=[]:=fun e=>by rw [e];rfl
  split
  ·rename_i mf hF
   refine fun {_ _ _ _ _ _ _} I q=>BG (fun c C F hc hf=>?_) (hB.E o) (eQ hB h2) h0 h2 h3 h1 h4 I q
   obtain⟨fa,k,q1,q2,q3,q4⟩:=oc.me x mf hF c C F hc hf;exact⟨fa,q1,q2,tA q3 q4⟩
  ·split
   ·rename_i f hf
    exact fun {_ _ _ _ _ _ _} I q=>BM (Gr oc.hu hf) (hB.E o) (eQ hB h2) h0 h2 h3 h1 h4 I q
   ·exact fun {_ _ _ _ _ _ _} I q=>cT I q
 ·exact fun {_ _ _ _ _ _ _} I q=>cT I q
theorem zC (hS:∀X S,eH X Γ->eO X S->fK X (BS S)) (o:eH X Γ) (c:eO X S) (e:Expr):PE X e (DH Γ BS S e):=by
 have hB:=hS X S o c;have no:PE X e no:=fun {_ _ _ _ _ _ _} I q=>cT I q
 cases e with
 | Name=>exact fun {_ _ _ _ _ _ _} I q=>Cr o c I q
 | Constant=>exact fun {_ _ _ _ _ _ _} I q=>Gm I q
 | BinOp=>exact fun {_ _ _ _ _ _ _} I q=>EC Fh (hB.E _) (hB.E _) I q
 | UnaryOp op=>cases op with
  | Not=>exact fun {_ _ _ _ _ _ _} I q=>EG (hB.E _) I q
  | USub=>exact fun {_ _ _ _ _ _ _} I q=>IB EF (hB.E _) I q
  | _=>exact @no
 | BoolOp op=>cases op with
  | And=>exact fun {_ _ _ _ _ _ _} I q=>vA hB _ I q
  | Or=>exact fun {_ _ _ _ _ _ _} I q=>zx hB _ I q
 | Compare=>exact fun {_ _ _ _ _ _ _} I q=>Gn o hB I q
 | IfExp=>exact fun {_ _ _ _ _ _ _} I q=>EN (hB.T _) (hB.E _) (hB.E _) I q
 | List =>
  delta DH;dsimp only;split
  ·rename_i h;exact fun {_ _ _ _ _ _ _} I q=>EO (eQ hB h) I q
  ·exact @no
 | Tuple =>
  delta DH;dsimp only;split
  ·rename_i h
   simp only [Uw] at h;exact fun {_ _ _ _ _ _ _} I q=>ER (eQ hB h.1) (UO (of_decide_eq_true h.2) (by decide)) (by simp) I q
  ·exact @no
 | Dict a b=>cases a with
  | nil=>cases b with
   | nil=>exact fun {_ _ _ _ _ _ _} I q=>BY I q
   | _=>exact @no
  | _=>exact @no
 | Subscript=>exact fun {_ _ _ _ _ _ _} I q=>Gp o hB I q
 | Attribute =>
  delta DH;dsimp only;split
  ·rename_i h
   simp only [Uw] at h;exact fun {_ _ _ _ _ _ _} I q=>pe_fld o.fl (by simpa using h.2) (hB.E _) h.1 I q
  ·exact @no
 | ListComp _ gs=>cases gs with
  | nil=>exact @no
  | cons g r =>
   obtain⟨tg,it,fs,n⟩:=g;cases n with
   | ofNat n=>cases n with
    | zero=>cases r with
     | nil=>exact fun {_ _ _ _ _ _ _} I q=>Cy hS o c I q
     | cons=>exact @no
    | succ=>cases r <;> exact @no
   | negSucc=>cases r <;> exact @no
 | Call f es ks=>cases ks with
  | nil=>cases f with
   | Name=>exact fun {_ _ _ _ _ _ _} I q=>CA o c hB I q
   | Attribute=>exact fun {_ _ _ _ _ _ _} I q=>CB o hB I q
   | _=>exact @no
  | cons=>cases f <;> exact @no
 | _=>exact @no
theorem Gs (o:eH X Γ) (hB:fK X (BS S)) (hE:∀e,PE X e (DH Γ BS S e)) (e:Expr):PT X e (Pt (BS S) (DH Γ BS S) e):=by
 have no:PT X e no:=fun {_ _ _ _ _ _ _} w hw I q=>uP w hw I q
 cases e with
 | UnaryOp op=>cases op with
  | Not=>exact fun {_ _ _ _ _ _ _} w hw I q=>EJ (hB.T _) w hw I q
  | _=>exact @no
 | BoolOp op=>cases op with
  | And=>exact fun {_ _ _ _ _ _ _} w hw I q=>vB hB _ w hw I q
  | Or=>exact fun {_ _ _ _ _ _ _} w hw I q=>zy hB _ w hw I q
 | Compare=>exact fun {_ _ _ _ _ _ _} w hw I q=>Cu o hB w hw I q
 | Name|Call|Subscript|Attribute|Constant=>exact fun {_ _ _ _ _ _ _} w hw I q=>EI (hE _) (fun _=>rfl) (fun _ _ _ h=>by cases h) w hw I q
 | _=>exact @no
theorem DS {tg:Expr} {l:Nat} {env:Env} (h:i9 e=true):swapsWithSole [tg] e l env=pure false:=jz h
theorem P8 {ts:List Expr} {k:Nat} {env:Env} (h:DI e=true):swappedStores [.Tuple ts k p] e env=pure none/\i9 e=true:=by
 cases e <;> first|exact⟨rfl,rfl⟩|cases h
theorem Gu {gs:List Comprehension} {tg iter:Expr} {ifs:List Expr} (h:MU gs=some (tg,iter,ifs)):gs=[⟨tg,iter,ifs,0⟩]:=by
 unfold MU at h;split at h
 ·cases h;rfl
 ·cases h
theorem Gv (hS:∀X S,eH X Γ->eO X S->fK X (BS S)) (o:eH X Γ) (c:eO X S) {tg:Expr}:PS X (.Assign [tg] e pos) (wI Γ BS S tg e):=by
 have hB:=hS X S o c;have no:PS X (.Assign [tg] e pos) gf:=fun {_ _ _ _ _} I q=>xI I q
 cases tg with
 | Name x p =>
  delta wI;dsimp only;split
  ·rename_i i hi
   have V:PS X (.Assign [.Name x p] e pos) (Cb BS S i e):=by
    unfold Cb;split
    ·rename_i hv
     exact fun {_ _ _ _ _} I q=>ta (hB.E _) (lM (mU c hi)) (DS hv) rfl rfl I q
    ·exact @no
   cases e with
   | ListComp elt gs sc q =>
    dsimp only;split
    ·rename_i hg
     cases Gu hg;exact fun {_ _ _ _ _} I q=>zB hS o c (mU c hi) I q
    ·exact @V
   | _=>exact @V
  ·exact @no
 | Tuple ts _ _ =>
  delta wI;dsimp only;split
  ·rename_i hi ht
   obtain⟨q1,q2,q3⟩:=pZ c hi;exact fun {_ _ _ _ _} I q=>ta (hB.E _) (xM q1 q2 q3) (DS (P8 (ts:=[]) (k:=0) (p:=pos) (env:=X.env) ht).2) (P8 ht).1 rfl I q
  ·exact @no
 | Attribute ob f _ =>
  delta wI;dsimp only;split
  ·rename_i h
   simp only [Uw] at h;exact fun {_ _ _ _ _} I q=>BD o.fl (by simpa using h.1) (hB.E _) (hB.E _) h.2 I q
  ·exact @no
 | Subscript ob i _ =>
  delta wI;dsimp only;split
  ·rename_i h;exact fun {_ _ _ _ _} I q=>BW o.hu (hB.E _) (hB.E _) (hB.E _) h I q
  ·exact @no
 | _=>exact @no
theorem Gw (hS:∀X S,eH X Γ->eO X S->fK X (BS S)) (o:eH X Γ) (c:eO X S) (st:Stmt):PS X st (H6 Γ BS S st):=by
 have hB:=hS X S o c;have no:PS X st gf:=fun {_ _ _ _ _} I q=>xI I q
 cases st with
 | Pass=>exact fun {_ _ _ _ _} I q=>Bq I q
 | Break=>exact fun {_ _ _ _ _} I q=>ES I q
 | Continue=>exact fun {_ _ _ _ _} I q=>ET I q
 | Expr =>
  delta H6;dsimp only;split
  ·rename_i h;exact fun {_ _ _ _ _} I q=>EU (hB.E _) h I q
  ·exact @no
 | Return v=>cases v with
  | none=>exact fun {_ _ _ _ _} I q=>Br I q
  | some=>exact fun {_ _ _ _ _} I q=>EV (hB.E _) I q
 | If=>exact fun {_ _ _ _ _} I q=>IE (hB.T _) (gu hB _) (gu hB _) I q
 | Assign ts=>cases ts with
  | nil=>exact @no
  | cons t r=>cases r with
   | nil=>exact fun {_ _ _ _ _} I q=>Gv hS o c I q
   | cons=>exact @no
 | AugAssign t=>cases t with
  | Name =>
   delta H6;dsimp only;split
   ·rename_i h;exact fun {_ _ _ _ _} I q=>EW (mU c h) (hB.E _) yc I q
   ·exact @no
  | Subscript =>
   delta H6;dsimp only;split
   ·rename_i h;exact fun {_ _ _ _ _} I q=>BX o.hu (hB.E _) (hB.E _) (hB.E _) h I q
   ·exact @no
  | _=>exact @no
 | For tg e b r=>cases r with
  | nil =>
   delta H6;dsimp only;split
   ·rename_i h1 h2;exact fun {_ _ _ _ _} I q=>E0 (p7 o c hB) (uc c h1) (gu hB _) h2 I q
   ·exact @no
  | cons=>exact @no
 | While k b r=>cases r with
  | nil=>exact fun {_ _ _ _ _} I q=>EX (hB.T _) (gu hB _) lim I q
  | cons=>exact @no
 | _=>exact @no
theorem rM:∀(n:Nat) (X:Cx) (S:Sg),eH X Γ->eO X S->fK X (cX Γ n S)
 | 0,X,S,_,_=>⟨fun _ {_ _ _ _ _ _ _} I q=>cT I q,fun _ {_ _ _ _ _ _ _} w hw I q=>uP w hw I q,fun _ {_ _ _ _ _} I q=>xI I q⟩
 | n+1,X,S,o,c=>⟨zC (rM n) o c,Gs o (rM n X S o c) (zC (rM n) o c),Gw (rM n) o c⟩
theorem vD (o:eH X Γ) (c:eO X S) (b:List Stmt):xD X b (code Γ S b):=gu (rM 40 X S o c) b
end
theorem rN {n0 n:Nat} {L:aa} (hn:n0<=n) (h:∀c,at_ L n=some c->c=.ref n):∀k,cz n0 L k (.ref n)=none
 | 0=>rfl
 | k+1=>by
  unfold cz;rw [if_neg (by rw [lt];simpa using hn)];cases e:at_ L n with
  | none=>simp only [e]
  | some c=>simp only [e];rw [h c e];exact rN hn h k
theorem CC {n0 k:Nat} {L:aa} {xs:List T} {t:T} (e:cz n0 L (k+2) (.lst xs)=some t):∃ys,t=.lst ys/\xs.length=ys.length/\∀(i:Nat) y,ys[i]?=some y->∃x,xs[i]?=some x/\cz n0 L (k+1) x=some y:=by
 unfold cz at e;split at e
 ·rename_i hl
  cases e;rw [lt] at hl;refine⟨xs,rfl,rfl,fun i y q=>⟨y,q,?_⟩⟩;unfold cz;rw [if_pos (gJ.mp hl i y q)]
 ·obtain⟨ys,e1,rfl⟩:=UA.mp e
  obtain⟨len,at'⟩:=iO e1;exact⟨ys,rfl,len,at'⟩
theorem CD {g g':G} {L L' Lo:aa} {t t':T} {u:Uq} (l:Le g g') (r0:Rel g L) (r:Rel g' L') (h:RT g' none t u) (e:FJ L t L'=.ok t' Lo) :
  ∃dy,Le g dy/\Rel dy Lo/\RT dy none t' u/\(∀a b o,dy.H a=some (b,o)->∃b',g'.H a=some (b',o))/\(∀a,g'.H a=none->dy.H a=none)/\∀a o,g'.H a=some (true,o)->dy.H a=some (true,o):=by
 classical
 cases t with
 | ref n=>?_
 | _=>cases e
 cases h with
 | ref hp=>?_
 rename_i p;unfold FJ at e;cases ec:at_ L' n with
 | none=>simp only [ec] at e;cases e
 | some c=>?_
 cases c with
 | lst xs=>?_
 | _=>simp only [ec] at e;cases e
 simp only [ec] at e;unfold cx at e;split at e
 case isFalse=>cases e
 case isTrue hn =>
 obtain⟨p',hp',hcell⟩:=r.cells n _ ec;rw [hp] at hp';cases hp';generalize ND:put L' n (.ref n)=Lp at e;have JO:Lp.length=L'.length:=by rw [<- ND];exact uO
 unfold fin at e;split at e
 case isFalse=>cases e
 case isTrue ho =>
 have n0:L.length<=L'.length:=by have:=fL ec;omega
 cases ef:cz L.length Lp 9 (.lst xs) with
 | none=>rw [ef] at e;cases e
 | some t1=>?_
 rw [ef] at e;cases e;obtain⟨ys,rfl,JP,Sh⟩:=CC ef;have JQ:∀m c,m≠n->at_ Lp m=some c->at_ L' m=some c:=fun m c hm q=>by
  rw [<- ND] at q;rcases oZ q with⟨z,_⟩|⟨_,z⟩
  ·exact absurd z hm
  ·exact z
 have P9:∀c,at_ Lp n=some c->c=.ref n:=fun c q=>by
  rw [<- ND] at q;rcases oZ q with⟨_,z⟩|⟨z,_⟩
  ·exact z
  ·exact absurd rfl z
 let nw:U2->Prop:=fun a=>∃m q,L.length<=m/\m≠n/\at_ g'.α m=some q/\(a=q.1\/a=q.2)
 let dy:G:={ g' with H:=fun a=>if nw a then (g'.H a).map fun q=>(true,q.2) else g'.H a,α:=p::g'.α.drop (g'.α.length - L.length) }
 have hH:∀a,dy.H a=if nw a then (g'.H a).map fun q=>(true,q.2) else g'.H a:=fun _=>rfl
 have dl:(g'.α.drop (g'.α.length - L.length)).length=L.length:=by rw [U9,r.len];omega
 have dL:(Lp.drop (Lp.length - L.length)).length=L.length:=by rw [U9,JO];omega
 have hα:∀m,m<L.length->at_ dy.α m=at_ g'.α m:=fun m hm=>by
  have:at_ (p::g'.α.drop (g'.α.length - L.length)) m=at_ (g'.α.drop (g'.α.length - L.length)) m:=if_neg (by rw [dl];omega)
  exact this.trans (jE hm (by rw [r.len];exact n0))
 have NF:at_ dy.α L.length=some p:=by
  have:at_ (p::g'.α.drop (g'.α.length - L.length)) (g'.α.drop (g'.α.length - L.length)).length=some p:=fq
  rw [dl] at this;exact this
 have Gx:∀a o,g'.H a=some (true,o)->dy.H a=some (true,o):=fun a o q=>by
  rw [hH];split
  ·rw [q];rfl
  ·exact q
 have nQ:∀a o,g'.kn true a o->dy.kn true a o:=fun a o q=>q.elim (fun q=>.inl (Gx a o q)) .inr
 have tf:∀m p b o,L.length<=m->m≠n->at_ g'.α m=some p->(b=p.1\/b=p.2)->g'.kn false b o->dy.kn true b o:=fun m p b o hm hne hp hb q=>by
  rcases q with q|⟨z,_⟩
  ·refine .inl ?_
   rw [hH,if_pos ⟨m,p,hm,hne,hp,hb⟩,q];rfl
  ·cases z
 have hr:∀m p,m<L.length->at_ g'.α m=some p->at_ dy.α m=some p:=fun m p hm hp=>(hα m hm).trans hp
 have xV:∀m p,m<L.length\/m=n->at_ g'.α m=some p->¬ nw p.1/\¬ nw p.2:=fun m p hm hp=>by
  refine⟨?_,?_⟩ <;>
  ·rintro⟨m',q,hm',hne,hq,hb⟩
   have ap:=r.apart m m' p q hp hq (by omega);rcases hb with hb|hb
   ·first|exact ap.1 hb|exact ap.2.2.1 hb
   ·first|exact ap.2.1 hb|exact ap.2.2.2 hb
 have DT:∀m p b o,m<L.length\/m=n->at_ g'.α m=some p->(b=p.1\/b=p.2)->g'.kn false b o->dy.kn false b o:=fun m p b o hm hp hb hk=>by
  have no:=xV m p hm hp;rcases hk with hk|⟨z,_⟩
  ·refine .inl ?_
   rw [hH,if_neg (by rcases hb with hb|hb <;> rw [hb];exact no.1;exact no.2)];exact hk
  ·cases z
 have hc:∀m c,L.length<=m->at_ Lp m=some c->(∀k,cz L.length Lp k c=none)\/∃p,at_ g'.α m=some p/\RT g' (some p) c (.ref p.1)/\∀b o,(b=p.1\/b=p.2)->g'.kn false b o->dy.kn true b o:=fun m c hm q=>by
  by_cases z:m=n
  ·subst z
   rw [P9 c q];exact .inl (rN hn P9)
  ·obtain⟨p1,q1,q2⟩:=r.cells m c (JQ m c z q)
   exact .inr ⟨p1,q1,q2,fun b o hb=>tf m p1 b o hm z q1 hb⟩
 have top:RT dy (some p) (.lst ys) (.ref p.1):=by
  cases hcell with
  | lst ht hk hz hl hi =>
   have hk':=DT n p _ _ (.inr rfl) hp (.inl rfl) hk;refine .lst ht hk' (by rw [<- JP];exact hz) (by rw [<- JP];exact hl) fun i y v q1 q2=>?_
   obtain⟨x,x1,x2⟩:=Sh i y q1;exact gK hr nQ hc rfl rfl _ (hi i x v x1 q2) (fun q z=>by cases z) x2
 have NH:∀m c,m<L.length->at_ (Lp.drop (Lp.length - L.length)) m=some c->∃p,at_ dy.α m=some p/\RT dy (some p) c (.ref p.1):=fun m c hm q=>by
  have q':at_ L' m=some c:=JQ m c (by omega) ((jE hm (by rw [JO];exact n0)).symm.trans q)
  obtain⟨p1,h1,h2⟩:=r.cells m c q';have bN:M.lt L.length c=true:=by
   rcases ho m c q with z|z
   ·obtain⟨p0,_,z2⟩:=r0.cells m c z
    rw [<- r0.len];exact z2.lt
   ·exact z
  refine⟨p1,hr m p1 hm h1,h2.re hr nQ rfl rfl bN (fun z=>by cases z) fun a d b o ht hb hk=>⟨ht,?_⟩⟩;rcases ht with z|z
  ·cases z
  ·cases z
   exact DT m _ b o (.inl hm) h1 hb hk
 have zD:∀m q,at_ dy.α m=some q->∃m',at_ g'.α m'=some q/\((m<L.length/\m'=m)\/(m=L.length/\m'=n)):=fun m q z=>by
  have hm:m<L.length+1:=by have:=fL z;have:m<(p::g'.α.drop (g'.α.length - L.length)).length:=this;rw [Ut,dl] at this;exact this
  by_cases zz:m=L.length
  ·subst zz;rw [NF] at z;cases z;exact⟨n,hp,.inr ⟨rfl,rfl⟩⟩
  ·have hm:m<L.length:=by omega
   exact⟨m,(hα m hm).symm.trans z,.inl ⟨hm,rfl⟩⟩
 refine⟨dy,⟨fun a o q=>Gx a o (l.f a o q),fun m p q=>hr m p (by rw [<- r0.len];exact fL q) (l.α m p q),l.B,l.m,l.w⟩,⟨?_,fun m c q=>?_,fun m m' q q' h1 h2 hne=>?_,fun m q z=>?_⟩,.ref NF,fun a b o q=>?_,fun a q=>?_,Gx⟩
 ·show(p::g'.α.drop _).length=_
  rw [Ut,Ut,dl,dL]
 ·unfold at_ at q
  split at q
  ·rename_i em
   cases q;rw [dL] at em;subst em;exact⟨p,NF,top⟩
  ·exact NH m c (by have:=fL q;rw [dL] at this;exact this) q
 ·obtain⟨a,a1,a2⟩:=zD m q h1
  obtain⟨b,b1,b2⟩:=zD m' q' h2;exact r.apart a b q q' a1 b1 (by omega)
 ·obtain⟨a,a1,a2⟩:=zD m q z
  obtain⟨⟨o1,h1⟩,o2,h2⟩:=r.live a q a1;have no:=xV a q (by omega) a1
  exact⟨⟨o1,by rw [hH,if_neg no.1];exact h1⟩,o2,by rw [hH,if_neg no.2];exact h2⟩
 ·rw [hH] at q
  split at q
  ·obtain⟨z,z1,z2⟩:=UA.mp q
   cases z2;exact⟨z.1,z1⟩
  ·exact⟨b,q⟩
 ·rw [hH,q];split <;> rfl
section
variable {P:VB} {w:Wy} {K:UX} {mg:Str->Option Uq} {cls:Str->Option U2} {base:Heap} {N ps:List Str} {qual:Str} {scope:Scope} {f:U2} {g:G} {L:aa}
theorem Gy {k:Nat} {name:Str} {params:Arguments} {body:List Stmt} {dV kV doc pm gL ct oc:Uq} {an od:Option U2} {sN:Array (Option Uq)} {mb:SS} (lk:K.lookup f=some ⟨oc,od,.func (Wg name qual params body scope dV kV doc pm an gL ct),sN⟩) (hcd:W4 K gL qual=true) (S:lQ N ps scope)
  (x6:∀us:List Uq,us.length=ps.length->bindArgs (Wg name qual params body scope dV kV doc pm an gL ct) ⟨us,[]⟩=pure (ps.zip us))
  (jF:∀(A:Vj) (s:Uu) (H:Hp),fH k (A.deeper (envOfC qual scope s.heap.objs.size f gL))->xD (xY P w K mg cls base N qual scope f gL A s H) body mb) :
  fJ P w K mg cls base (k+1) f (Ca ps.length N.length mb):=fun {A s g L L' us xs t} hr e0 r nR=>by
 unfold Ca at nR;split at nR
 ·rename_i hl
  have MB:us.length=ps.length:=by rw [<- UL r];exact hl
  have KX:K.In s.heap:=e0.mod.HV.keeps fun b o e=>(e0.bs b o e).1
  have lim:s.heap.NoLimit:=e0.mod.nolimit.keeps fun b o e=>(e0.bs b o e).1
  have hkind:∀y∈ps.zip us,scope.names.lookup y.1=some .local\/(scope.names.lookup y.1=some .cell/\((cellsFrom (s.heap.objs.size+1) scope.names []).lookup y.1).isSome=true):=fun⟨n,v⟩ hy=>by
   rcases S.par n (Xf hy).1 with q|q
   ·exact .inl q
   ·exact .inr ⟨q,X0 _ _ _ (.inl q)⟩
  refine codeAny_call_function hr.depth (KX _ _ lk) rfl S.co S.gen rfl (aaf KX hcd) (BindsTo.of_eq (x6 us MB) _ _ _ _ ?_);refine wpAny_newFunctionEnv_cells S.kind hkind fun env he s1 x=>?_
  subst he;refine⟨lim.keeps x.toInCall.keep,codeAny_func ?_⟩;have I:=ox (A:=A) (cd:=gL) S hr.hd e0 hl r x
  have nb:mb (xs.map some++U3 (N.length - ps.length) none) L≠.bad:=fun z=>by rw [z] at nR;cases nR
  refine wpAny_mono (jF A s g.H (hr.deeper _) I nb) (fun fl s' ⟨g',l,hs⟩=>?_) fun e s' hs=>hs.elim
  cases eb:mb (xs.map some++U3 (N.length - ps.length) none) L with
  | rt t0 L1 =>
   rw [eb] at hs nR;cases fl <;> first|exact hs.elim|skip
   obtain⟨⟨φ',J⟩,rt⟩:=hs;obtain⟨g2,l2,r2,h2,a,b,c⟩:=CD l e0.rel J.rel rt nR;exact⟨g2,J.os,J.bare,⟨J.base.keep,fun x o q n z=>b x (J.base.free x o q n z),fun x o q=>c x o (J.base.cz x o q)⟩,fun x y o q=>let ⟨_,z⟩:=a x y o q;J.hok x _ o z,l2,r2,h2⟩
  | _=>rw [eb] at nR;cases nR
 ·cases nR
end
noncomputable def gS (s:Stmt):Arguments:=match s with
 | .FunctionDef _ a ..=>a
 | _=>⟨[],[],none,[],[],none,[]⟩
noncomputable def bodyOf (s:Stmt):List Stmt:=match s with
 | .FunctionDef _ _ b ..=>b
 | _=>[]
noncomputable def gx (s:Stmt):Scope:=match s with
 | .FunctionDef _ _ _ _ _ _ sc ..=>sc
 | _=>⟨.function,[],false,false,[]⟩
noncomputable def JR:NameKind->Bool
 | .local=>true
 | .cell=>true
 | _=>false
noncomputable def zE (ps:List Str) (sc:Scope):List Str:=ps++((sc.names.filter fun y=>JR y.2).map (·.1)).filter fun y=>!ps.contains y
noncomputable def zF (ps:List Str) (sc:Scope):Bool:=(match sc.kind with
  | .function=>true
  | _=>false) && !sc.isCoroutine && !sc.isGenerator && decide (zE ps sc).Nodup && (ps.all fun x=>match sc.names.lookup x with
  | some k=>JR k
  | none=>false) && (sc.names.all fun y=>match y.2 with
  | .free=>false
  | _=>true) && (zE ps sc).all yN
structure ud (K:UX) (x qual:Str) (st:Stmt) (f:U2):Prop where
 ex:∃(oc:Uq) (od:Option U2) (kV doc pm:Uq) (an:Option U2) (gL ct:Uq) (sN:Array (Option Uq)),K.lookup f=some ⟨oc,od,.func (Wg x qual (gS st) (bodyOf st) (gx st) .none kV doc pm an gL ct),sN⟩/\W4 K gL qual=true
 kp:VE K (.ref f)=true
structure Tab (P:VB) (w:Wy) (K:UX) (mg:Str->Option Uq) (cls:Str->Option U2) (base:Heap) (n:Nat) (Γ:Ct):Prop where
 fn:∀x F,Γ.fn.lookup x=some F->(x == ("__debug__":Str))=false/\∃fa,fJ P w K mg cls base n fa F/\mg x=some (.ref fa)/\VE K (.ref fa)=true
 co:∀x t,Γ.co.lookup x=some t->(x == ("__debug__":Str))=false/\∃u,mg x=some u/\∀g:G,g.B=base->g.cls=cls->g.w=w->RT g none t u
 us:∀x∈Γ.us,mg x=none/\x≠"__name__"/\(x == ("__debug__":Str))=false
 fl:∀c C,cls c=some C->ClsOk K Γ.fl C
 me:∀m mf,Γ.me.lookup m=some mf->∀c C F,cls c=some C->mf.lookup c=some F->∃fa,BC K C/\Meth K C m fa/\fJ P w K mg cls base n fa F
noncomputable def Ct.wX (Γ:Ct) (x:Str) (F:Fn):Ct:={ Γ with fn:=(x,F)::Γ.fn }
noncomputable def Ct.zG (Γ:Ct) (m c:Str) (F:Fn):Ct:={ Γ with me:=(m,(c,F)::(Γ.me.lookup m).getD [])::Γ.me }
section
variable {P:VB} {w:Wy} {K:UX} {mg:Str->Option Uq} {cls:Str->Option U2} {base:Heap} {n:Nat} {Γ:Ct} {x qual:Str} {st:Stmt} {f:U2} {ps:List Str} {m F:Fn}
theorem fJ.mono {j k:Nat} (h:fJ P w K mg cls base j f m) (l:j<=k):fJ P w K mg cls base k f m:=fun {_ _ _ _ _ _ _ _} hr e r q=>h (hr.mono l) e r q
theorem Tab.ct {X:Cx} (T:Tab P w K mg cls base n Γ) (h:X.prog=P/\X.w=w/\X.K=K/\X.mg=mg/\X.cls=cls/\X.base=base) (hr:fH n X.A):eH X Γ:=by
 obtain⟨rfl,rfl,rfl,rfl,rfl,rfl⟩:=h;refine⟨?_,fun x F q=>?_,T.co,T.us,T.fl,fun m mf q c C F hc hF=>?_⟩
 ·have:=hr.un;omega
 ·obtain⟨h1,fa,h2,h3,h4⟩:=T.fn x F q
  exact⟨h1,n,fa,h2,hr,h3,h4⟩
 ·obtain⟨fa,h1,h2,h3⟩:=T.me m mf q c C F hc hF
  exact⟨fa,n,h1,h2,h3,hr⟩
theorem vE (h:zF ps sc=true):lQ (zE ps sc) ps sc/\(zE ps sc).all yN=true:=by
 unfold zF at h;simp only [Uw] at h;obtain⟨⟨⟨⟨⟨⟨h1,h2⟩,h3⟩,h4⟩,h5⟩,h6⟩,h7⟩:=h;refine⟨⟨?_,by simpa using h2,by simpa using h3,of_decide_eq_true h4,by simp [zE],fun x hx=>?_,fun y hy e=>?_⟩,h7⟩
 ·split at h1
  ·assumption
  ·cases h1
 ·have:=Uo.mp h5 x hx
  cases e:sc.names.lookup x with
  | none=>rw [e] at this;cases this
  | some k =>
   rw [e] at this;cases k <;> first|exact .inl rfl|exact .inr rfl|cases this
 ·have:=Uo.mp h6 y hy
  rw [e] at this;cases this
noncomputable def Dn (rn:Nat->Nat->SS->Fn) (Γ:Ct) (ps:List Str) (st:Stmt) (m:Fn):Prop:=zF ps (gx st)=true/\rn ps.length (zE ps (gx st)).length (code Γ ⟨zE ps (gx st),gx st⟩ (bodyOf st))=m
theorem Tab.NI (T:Tab P w K mg cls base n Γ) (F:ud K x qual st f)
  (e:Dn run Γ ps st m)
  (hb:∀(kV doc pm:Uq) (an:Option U2) (gL ct:Uq) (us:List Uq),us.length=ps.length->bindArgs (Wg x qual (gS st) (bodyOf st) (gx st) .none kV doc pm an gL ct) ⟨us,[]⟩=pure (ps.zip us)):fJ P w K mg cls base (n+1) f m:=by
 obtain⟨ok,e⟩:=e;subst e;obtain⟨oc,od,kV,doc,pm,an,gL,ct,sN,l,c⟩:=F.ex;obtain⟨S,nm⟩:=vE ok;refine IV l c S (hb kV doc pm an gL ct) fun A s H hr=>vD (T.ct ⟨rfl,rfl,rfl,rfl,rfl,rfl⟩ hr) ⟨rfl,S.nd,nm,fun _ h=>h,fun _ h=>⟨h,rfl⟩,fun x h=>absurd rfl (S.tC (x,.free) (Va h)),fun _ h=>h⟩ _
theorem Tab.JS (T:Tab P w K mg cls base n Γ) (F:ud K x qual st f)
  (e:Dn Ca Γ ps st m)
  (hb:∀(kV doc pm:Uq) (an:Option U2) (gL ct:Uq) (us:List Uq),us.length=ps.length->bindArgs (Wg x qual (gS st) (bodyOf st) (gx st) .none kV doc pm an gL ct) ⟨us,[]⟩=pure (ps.zip us)):fJ P w K mg cls base (n+1) f m:=by
 obtain⟨ok,e⟩:=e;subst e;obtain⟨oc,od,kV,doc,pm,an,gL,ct,sN,l,c⟩:=F.ex;obtain⟨S,nm⟩:=vE ok;refine Gy l c S (hb kV doc pm an gL ct) fun A s H hr=>vD (T.ct ⟨rfl,rfl,rfl,rfl,rfl,rfl⟩ hr) ⟨rfl,S.nd,nm,fun _ h=>h,fun _ h=>⟨h,rfl⟩,fun x h=>absurd rfl (S.tC (x,.free) (Va h)),fun _ h=>h⟩ _
theorem Tab.add (T:Tab P w K mg cls base n Γ) (hF:fJ P w K mg cls base (n+1) f m) (hm:mg x=some (.ref f)) (hk:VE K (.ref f)=true) (hd:(x == ("__debug__":Str))=false):Tab P w K mg cls base (n+1) (Γ.wX x m):=by
 refine⟨fun y F q=>?_,T.co,T.us,T.fl,fun m mf q c C F hc hF=>let ⟨fa,h1,h2,h3⟩:=T.me m mf q c C F hc hF;⟨fa,h1,h2,h3.mono (Wv n)⟩⟩;have z:Zk y ((x,m)::Γ.fn)=some F:=q
 clear q;rw [US] at z;split at z
 ·rename_i e
  have:=eq_of_beq e;subst this;cases z;exact⟨hd,f,hF,hm,hk⟩
 ·obtain⟨h1,fa,h2,h3⟩:=T.fn y F z
  exact⟨h1,fa,h2.mono (Wv n),h3⟩
theorem Tab.zG {c y:Str} {C:U2} (T:Tab P w K mg cls base n Γ) (hF:fJ P w K mg cls base (n+1) f m) (hc:cls c=some C) (h1:BC K C) (h2:Meth K C y f):Tab P w K mg cls base (n+1) (Γ.zG y c m):=by
 refine⟨fun y F q=>let ⟨h1,fa,h2,h3⟩:=T.fn y F q;⟨h1,fa,h2.mono (Wv n),h3⟩,T.co,T.us,T.fl,fun y' mf q c' C' F hc' hF'=>?_⟩;have z:Zk y' ((y,(c,m)::(Γ.me.lookup y).getD [])::Γ.me)=some mf:=q
 clear q;have old:∀mf,Γ.me.lookup y'=some mf->mf.lookup c'=some F->∃fa,BC K C'/\Meth K C' y' fa/\fJ P w K mg cls base (n+1) fa F:=fun mf q z =>
  let ⟨fa,h1,h2,h3⟩:=T.me y' mf q c' C' F hc' z;⟨fa,h1,h2,h3.mono (Wv n)⟩
 rw [US] at z;split at z
 ·rename_i e
  have:=eq_of_beq e;subst this;cases z;rw [US] at hF';split at hF'
  ·rename_i e2
   have:=eq_of_beq e2;subst this;cases hF';rw [hc] at hc';cases hc';exact⟨f,h1,h2,hF⟩
  ·cases eo:Γ.me.lookup y' with
   | none=>rw [eo] at hF';cases hF'
   | some mf=>rw [eo] at hF';exact old mf eo hF'
 ·exact old mf z hF'
theorem rO:∀{g:G} {vs:List Uq} {ns:List Int},IntsAre vs ns->cP g (ns.map T.int) vs
 | _,_,_,.nil=>.nil
 | _,_,_,.cons n t h=>.cons (.int n t) (rO h)
theorem zH {mb:Str->Option Uq} {k:Nat} {fa a:U2} {s₁:Uu} {vs:List Uq} {ns:List Int}
  (KX:K.In s₁.heap) (DU:s₁.heap.Ns Vh mg) (hb:s₁.heap.Ns builtinsNs mb) (Si:∀x:Str,x≠"__name__"->mb x=bootBuiltins x) (NJ:s₁.heap.NoLimit) (hg:s₁.gens = #[])
  (ha:s₁.heap.get? a=some { cls:=.type "list",data:=.seq vs.toArray }) (hi:IntsAre vs ns) (hl:ns.length<=UU) (hr:fH k callerA)
  (hF:fJ P w K mg cls s₁.heap k fa m) (hm:∃L',m [.lst (ns.map .int)] []=.ok (.bl true) L') :
  codeAny (model P w) callerA (.call (.ref fa) ⟨[.ref a],[]⟩) (fun r s'=>r=.ok (.ret (.bool true))/\OldK s₁.heap s'.heap/\s'.os=s₁.os/\AllBare s'.gens) s₁:=by
 obtain⟨L',hm⟩:=hm
 let g:G:=⟨fun _=>none,[],s₁.heap,cls,w⟩
 have r:cP g [.lst (ns.map T.int)] [.ref a]:=.cons ((rO hi).lst (o:=default) (Le.refl g) (.inl rfl) (.inr ⟨rfl,ha⟩) (by simpa using hl)) .nil;have e0:wz P w K mg cls s₁.heap s₁ g []:=⟨⟨KX,DU,⟨mb,hb,Si⟩,NJ⟩,fun b o e=>⟨e,rfl⟩,UH _,fun a b o z=>(by cases z),.of_eq hg,⟨rfl,fun n c z=>(by cases z),fun n m p q z=>(by cases z),fun n p z=>(by cases z)⟩,rfl,rfl,rfl⟩
 refine codeAny_mono (hF hr e0 r hm) fun r s' h=>?_
 cases r with
 | error e=>exact Y1 h
 | ok fl =>
  cases fl with
  | ret u =>
   obtain⟨g',os,bare,un,hok,l,rel,rt⟩:=h;cases rt;exact⟨rfl,OldK.of_keep fun b o e=>un.keep b o e rfl (by simp),os,bare⟩
  | _=>exact Y1 h
end
end M
namespace Qa
open PySem PySem.W PySem.Calls PyProof.Rows
theorem lF {P:Params} {h:Heap}:∀(ns:List Int) (vs:List Uq),WellAll P h vs (ns.map WData.int)->IntsAre vs ns:=by
 intro ns;induction ns with
 | nil =>
  intro vs w;rw [Vy] at w;cases w;exact .nil
 | cons n ns ih =>
  intro vs w;rw [Uy] at w;cases w with
  | cons a b =>
   cases a;exact .cons _ _ (ih _ b)
theorem wY {l:OpenLaw} {n:Nat} (hn:l.most=some n) {P:Params} {h:Heap} {args:List WData} {vals:List Uq}
  (hpre:l.row.toRowW.claim.pre args=true) (hwl:WellAll P h vals args) :
  ∃a vs ns,vals=[Wj a]/\args=[WData.list (ns.map WData.int)]/\h.get? a=some { cls:=.type "list",data:=.seq vs.toArray }/\IntsAre vs ns/\ns.length<=n:=by
 have Sj:WShape.hasAll [] args [.list .int]=true:=(pre_splitW hpre).1;have hc:l.pre.holds [] { args:=args }=true:=(pre_splitW hpre).2
 obtain⟨d,r,rfl,h1,h2⟩:=hasAllW_cons Sj;obtain rfl:=hasAllW_nil h2;obtain⟨xs,rfl,h3⟩:=hasW_list h1;obtain⟨ns,rfl⟩:=items_int h3;have hlen:ns.length<=n:=by
  unfold OpenLaw.pre at hc;have h4:(WTm.not (.lt (.lit (.int (n:Int))) (.len (.arg 0)))).holds [] { args:=[.list (ns.map .int)] }=true:=by
   have h4:=(holds_andW hc).1;rw [hn] at h4;exact h4
  have h5:=condW_of h4 (w_not (w_lt w_lit (w_len_list (w_arg rfl))));rw [Lm9] at h5;refine Nat.le_of_not_lt fun q=>?_
  have q':(n:Int)<((ns.length:Nat):Int):=by omega
  first
   | (rw [decide_eq_true q'] at h5;exact absurd h5 (by decide))
   | (simp at h5;omega)
 cases hwl with
 | cons w1 w2 =>
  cases w2;cases w1 with
  | list ho hall=>exact⟨_,_,ns,rfl,rfl,ho,lF ns _ hall,hlen⟩
theorem wZ (l:OpenLaw) (args:List WData):l.row.toRowW.claim.post args (.bool true) args=true :=
 postW_of (r:=l.row.toRowW) (X:=(true == true))
  (show WShape.has [] (.bool true) .bool=true by first|rfl|decide|simp [WShape.has,WShape.arms,WShape.armsAll])
  (show(WTm.eq .res (.lit (.bool true))).value [] { args:=args,res:=some (.bool true),after:=args }=some (.bool (true == true)) from w_eq_bool (w_res rfl) w_lit) rfl
theorem rP {l:OpenLaw} {n:Nat} {q:VB} {loose:List Str} {XP:(Str->Option Uq)->Heap->Prop} {YP:Wy->Heap->Prop} {d:DefRec}
  (hn:l.most=some n) (NK:d.params.defaults=[])
  (call:∀(w:Wy) (s₀ s₁:Uu) (mg mb:Str->Option Uq) (fa:U2) (o:Obj) (pm cd doc:Uq) (a:U2) (vs:List Uq) (ns:List Int),
   Ground q loose [] XP w s₀ mg mb s₁.heap->YP w s₁.heap ->
   s₁.heap.get? fa=some o->o.data=.func (docDef d.name d.params d.body d.scope pm cd doc)->s₁.heap.CodeRec cd d.name->mg d.name=some (.ref fa) ->
   s₁.heap.get? a=some { cls:=.type "list",data:=.seq vs.toArray }->IntsAre vs ns->ns.length<=n->s₁.gens = #[] ->
   codeAny (model l.prog w) callerA (.call (.ref fa) ⟨[.ref a],[]⟩) (fun r s'=>r=.ok (.ret (.bool true))/\OldK s₁.heap s'.heap/\s'.os=s₁.os/\AllBare s'.gens) s₁) :
  WalkO q loose XP YP l.row.toRowW d [] (fun f vs=>PySem.call f vs):=by
 intro w s₀ s₁ mg mb G Y fa o pm cd doc dV kV ho hd hcd hD hmg hg args vals as hpre hlay hrd hwl hlo;obtain rfl:dV=.none:=Dflts.none hD NK;obtain rfl:kV=.none:=Dflts.noKw hD;obtain⟨a,vs,ns,rfl,rfl,Gz,hints,hlen⟩:=wY hn hpre hwl;refine enter_call (codeAny_mono (call w s₀ s₁ mg mb fa o pm cd doc a vs ns G Y ho (fd_plain hd) hcd hmg Gz hints hlen hg) fun r s' hq=>?_);obtain⟨rfl,h2,h3,h4⟩:=hq;exact⟨.inl ⟨.bool true,.bool true,[],rfl,fun _=>rfl,.bool true,wZ l _,fun _=>⟨Zg,fun _ hm=>(nomatch hm)⟩⟩,h2,h3,h4⟩
end Qa
namespace M
open PySem PySem.Spec PyProof.Rows
theorem CF {l:PySem.W.OpenLaw} {n k:Nat} {q:VB} {loose:List Str} {XP:(Str->Option Uq)->Heap->Prop} {YP:Wy->Heap->Prop} {d:DefRec} {K:Params->UX} {m:Fn}
  (hn:l.most=some n) (wx:n<=UU) (NK:d.params.defaults=[]) (hr:fH k callerA) (hY:∀(w:Wy) (h:Heap),YP w h->(K w.params).In h)
  (F:∀(w:Wy) (mg:Str->Option Uq) (fa:U2) (h:Heap),(K w.params).In h->h.Ns Vh mg->mg d.name=some (.ref fa)->∃cls,∀base:Heap,(K w.params).In base->base.Ns Vh mg->fJ l.prog w (K w.params) mg cls base k fa m)
  (hm:∀ns:List Int,ns.length<=n->∃L',m [.lst (ns.map .int)] []=.ok (.bl true) L'):PySem.W.WalkO q loose XP YP l.row.toRowW d [] (fun f vs=>PySem.call f vs):=by
 refine Qa.rP hn NK fun w s₀ s₁ mg mb fa o pm cd doc a vs ns G Y ho hd hcd hmg Gz hints hlen hg=>?_
 have KX:=hY w _ Y;obtain⟨cls,hF⟩:=F w mg fa _ KX G.T.g hmg;exact zH KX G.T.g G.T.b G.T.builtins G.T.nolimit hg Gz hints (UO hlen wx) hr (hF _ KX G.T.g) (hm ns hlen)
theorem ue {K:UX} {x qual:Str} {st:Stmt} {f:U2} {oc:Uq} {od an:Option U2} {sN:Array (Option Uq)} {kV doc pm gL ct:Uq} (l:K.lookup f=some ⟨oc,od,.func (Wg x qual (gS st) (bodyOf st) (gx st) .none kV doc pm an gL ct),sN⟩)
  (c:W4 K gL qual=true) (k:VE K (.ref f)=true):ud K x qual st f:=⟨⟨oc,od,kV,doc,pm,an,gL,ct,sN,l,c⟩,k⟩
noncomputable def NL (K:UX) (x:Str) (st:Stmt) (f:U2):Prop:=VG K Vh x=some (some (.ref f))/\ud K x x st f
theorem b0 {Pr:List Uq->Prop} (h:Pr []):∀us:List Uq,us.length=0->Pr us:=fun us e=>by cases us;exact h;cases e
theorem bC {n:Nat} {Pr:List Uq->Prop} (h:∀q us,us.length=n->Pr (q::us)):∀us:List Uq,us.length=n+1->Pr us:=fun us e=>by
 cases us
 ·cases e
 ·exact h _ _ (Nat.succ.inj e)
section
variable {P:VB} {w:Wy} {K:UX} {mg:Str->Option Uq} {cls:Str->Option U2} {base h:Heap} {n:Nat} {Γ:Ct} {x:Str} {st:Stmt} {f:U2} {m:Fn}
theorem Tab.mono (T:Tab P w K mg cls base n Γ):Tab P w K mg cls base (n+1) Γ :=
 ⟨fun y F q=>let ⟨h1,fa,h2,h3⟩:=T.fn y F q;⟨h1,fa,h2.mono (Wv n),h3⟩,T.co,T.us,T.fl,fun m mf q c C F hc hF=>let ⟨fa,h1,h2,h3⟩:=T.me m mf q c C F hc hF;⟨fa,h1,h2,h3.mono (Wv n)⟩⟩
theorem Tab.Sl {cn:Str} {C:U2} (T:Tab P w K mg cls base n Γ) (hF:fJ P w K mg cls base (n+1) f m) (Q:Mk K C f) (hc:cls cn=some C) (hm:mg cn=some (.ref C)) (hd:(cn == ("__debug__":Str))=false):Tab P w K mg cls base (n+2) (Γ.wX cn (make cn m)) :=
 T.mono.add (IW Q hF hc) hm Q.kp hd
end
noncomputable def AllP {α:Type} (p:α->Prop):List α->Prop
 | []=>True
 | a::r=>p a/\AllP p r
theorem AllP.of {α:Type} {p:α->Prop}:∀{l:List α},AllP p l->∀a∈l,p a
 | _::_,h,a,m=>by
  rcases UG.mp m with rfl|m
  ·exact h.1
  ·exact AllP.of h.2 a m
noncomputable def tp (B:List Stmt) (i:Nat):Stmt:=B.getD i (.Pass ⟨0,0,0,0⟩)
noncomputable def xn (s:Stmt) (j:Nat):Stmt:=match s with
 | .ClassDef _ _ _ b ..=>b.getD j (.Pass ⟨0,0,0,0⟩)
 | _=>s
noncomputable def p8 (s:Stmt):List Str:=(gS s).args.map (·.arg)
mutual
noncomputable def xo (K:UX):T->Uq->Prop
 | .bl b,u=>u=.bool b
 | .int i,u=>∃t,u=.int i t
 | .str s,u=>s.length<=UU/\∃t,u=.str ⟨s.toArray⟩ t
 | .tup xs,u=>∃a us n s,u=.ref a/\K.lookup a=some ⟨.type "tuple",none,.seq us n,s⟩/\xs.length<=UU/\f7 K xs us.toList
 | _,_=>False
noncomputable def f7 (K:UX):List T->List Uq->Prop
 | [],us=>us=[]
 | x::xs,us=>∃v vs,us=v::vs/\xo K x v/\f7 K xs vs
end
mutual
theorem xo.rt {K:UX} {g:G} (KB:K.In g.B):∀(t:T) (u:Uq),xo K t u->RT g none t u
 | .bl b,u,h=>(show u=.bool b from h) ▸ .bl b
 | .int i,u,h=>by obtain⟨t,rfl⟩:∃t,u=.int i t:=h;exact .int i t
 | .str s,u,h=>by obtain⟨h,t,rfl⟩:s.length<=UU/\∃t,u=.str ⟨s.toArray⟩ t:=h;exact .str s t h
 | .tup xs,u,h=>by
  obtain⟨a,us,n,s,rfl,l,hz,r⟩:∃a us n s,u=.ref a/\K.lookup a=some ⟨.type "tuple",none,.seq us n,s⟩/\xs.length<=UU/\f7 K xs us.toList:=h;exact cP.tup (us:=us.toList) (n:=n) (f7.rt KB xs _ r) (.refl _) (.inr ⟨rfl,KB _ _ l⟩) ⟨rfl,rfl⟩ (by simp) hz
 | .cm,_,h=>(show False from h).elim
 | .cl _,_,h=>(show False from h).elim
 | .ref _,_,h=>(show False from h).elim
 | .lst _,_,h=>(show False from h).elim
 | .aS _,_,h=>(show False from h).elim
 | .obj _ _,_,h=>(show False from h).elim
theorem f7.rt {K:UX} {g:G} (KB:K.In g.B):∀(xs:List T) (us:List Uq),f7 K xs us->cP g xs us
 | [],us,h=>(show us=[] from h) ▸ .nil
 | x::xs,us,h=>by
  obtain⟨v,vs,rfl,h1,h2⟩:∃v vs,us=v::vs/\xo K x v/\f7 K xs vs:=h;exact .cons (xo.rt KB x v h1) (f7.rt KB xs vs h2)
end
inductive Df
 | f (b:Bool) (x:Str) (k i:Nat) (m:Fn)
 | mt (c y q:Str) (k i j:Nat) (m:Fn)
 | mk (c q:Str) (k i j:Nat) (m:Fn)
noncomputable def Qb:Bool->Nat->Nat->SS->Fn
 | true=>Ca
 | false=>run
noncomputable def BA (k:Nat) (x q:Str) (st:Stmt):Prop:=∀(kV doc pm:Uq) (an:Option U2) (gL ct:Uq) (us:List Uq),us.length=k->bindArgs (Wg x q (gS st) (bodyOf st) (gx st) .none kV doc pm an gL ct) ⟨us,[]⟩=pure ((p8 st).zip us)
structure GA (b:Bool) (k:Nat) (Γ:Ct) (x q:Str) (st:Stmt) (m:Fn):Prop where
 d:(zF (p8 st) (gx st) && (p8 st).length == k && !(x == ("__debug__":Str)))=true
 e:Qb b k (zE (p8 st) (gx st)).length (code Γ ⟨zE (p8 st) (gx st),gx st⟩ (bodyOf st))=m
 a:BA k x q st
noncomputable def Df.ok (B:List Stmt) (Γ:Ct):Df->Prop
 | .f b x k i m=>GA b k Γ x x (tp B i) m
 | .mt _ y q k i j m=>GA false k Γ y q (xn (tp B i) j) m
 | .mk c q k i j m=>GA false k Γ "__init__" q (xn (tp B i) j) m/\(c == ("__debug__":Str))=false
noncomputable def Df.add (Γ:Ct):Df->Ct
 | .f _ x _ _ m=>Γ.wX x m
 | .mt c y _ _ _ _ m=>Γ.zG y c m
 | .mk c _ _ _ _ m=>Γ.wX c (make c m)
noncomputable def Df.n:Df->Nat
 | .mk ..=>2
 | _=>1
noncomputable def adds:Ct->List Df->Ct
 | Γ,[]=>Γ
 | Γ,d::ds=>adds (d.add Γ) ds
noncomputable def dep:List Df->Nat
 | []=>0
 | d::ds=>d.n+dep ds
noncomputable def zI (B:List Stmt):Ct->List Df->Prop
 | _,[]=>True
 | Γ,d::ds=>d.ok B Γ/\zI B (d.add Γ) ds
noncomputable def DV (B:List Stmt) (K:UX) (cn:List Str):Df->Prop
 | .f _ x _ i _=>∃f,NL K x (tp B i) f
 | .mt c y q _ i j _=>cn.contains c=true/\∃C f,VG K Vh c=some (some (.ref C))/\Vu K (.ref C) y=some (some (.ref f))/\XN K (.ref f)=true/\ud K y q (xn (tp B i) j) f
 | .mk c q _ i j _=>cn.contains c=true/\∃C f,VG K Vh c=some (some (.ref C))/\Vu K (.ref C) "__init__"=some (some (.ref f))/\XN K (.ref f)=true/\ud K "__init__" q (xn (tp B i) j) f
noncomputable def GB (K:UX) (p:Str × T):Prop:=∃u,VG K Vh p.1=some (some u)/\xo K p.2 u
noncomputable def NM (K:UX) (x:Str):Prop:=VG K Vh x=some none
noncomputable def CG (K:UX) (fl:List Str) (c:Str):Prop:=∃C,VG K Vh c=some (some (.ref C))/\BC K C/\Yt K C=true/\VE K (.ref C)=true/\AllP (jk K C) fl
noncomputable def rQ (K:UX) (cn:List Str) (c:Str):Option U2:=match cn.contains c,VG K Vh c with
 | true,some (some (.ref C))=>some C
 | _,_=>none
theorem vF {K:UX} {cn:List Str} {c:Str} {C:U2} (h:cn.contains c=true) (e:VG K Vh c=some (some (.ref C))):rQ K cn c=some C:=by
 unfold rQ;rw [h,e]
theorem zJ {K:UX} {cn:List Str} {c:Str} {C:U2} (h:rQ K cn c=some C):c∈cn/\VG K Vh c=some (some (.ref C)):=by
 unfold rQ at h;split at h
 ·rename_i h1 h2
  cases h;exact⟨by simpa using h1,h2⟩
 ·cases h
section
variable {P:VB} {w:Wy} {K:UX} {mg:Str->Option Uq} {base h:Heap} {B:List Stmt} {cn fl:List Str}
theorem GA.fn {cls:Str->Option U2} {n k:Nat} {Γ:Ct} {x q:Str} {st:Stmt} {f:U2} {m:Fn} {b:Bool} (D:GA b k Γ x q st m) (T:Tab P w K mg cls base n Γ) (F:ud K x q st f):fJ P w K mg cls base (n+1) f m/\(x == ("__debug__":Str))=false:=by
 obtain⟨d,e,a⟩:=D;simp only [Uw,beq_iff_eq,Zi] at d;obtain⟨⟨d,rfl⟩,d2⟩:=d;refine⟨?_,d2⟩;cases b with
 | true=>exact T.JS F ⟨d,e⟩ a
 | false=>exact T.NI F ⟨d,e⟩ a
theorem Tab.all (X:K.In h) (G:h.Ns Vh mg) (hc:AllP (CG K fl) cn):∀(ds:List Df) {n:Nat} {Γ:Ct},Tab P w K mg (rQ K cn) base n Γ->zI B Γ ds->AllP (DV B K cn) ds->Tab P w K mg (rQ K cn) base (n+dep ds) (adds Γ ds)
 | [],_,_,T,_,_=>by exact T
 | .f b x k i m::ds,n,Γ,T,o,p=>by
  obtain⟨⟨f,F⟩,p⟩:=p;obtain⟨h1,h2⟩:=o.1.fn T F.2;have:=Tab.all X G hc ds (T.add h1 (aaj X G F.1) F.2.kp h2) o.2 p
  rw [Xn] at this;exact this
 | .mt c y q k i j m::ds,n,Γ,T,o,p=>by
  obtain⟨⟨hm,C,f,e,fi,is,F⟩,p⟩:=p;obtain⟨C',e',ck,mk,kc,_⟩:=hc.of c (by simpa using hm);rw [e] at e';cases e';have:=Tab.all X G hc ds (T.zG (o.1.fn T F).1 (vF hm e) ck ⟨fi,is,F.kp⟩) o.2 p
  rw [Xn] at this;exact this
 | .mk c q k i j m::ds,n,Γ,T,o,p=>by
  obtain⟨⟨hm,C,f,e,fi,is,F⟩,p⟩:=p;obtain⟨C',e',ck,mk,kc,_⟩:=hc.of c (by simpa using hm);rw [e] at e';cases e';have:=Tab.all X G hc ds (T.Sl (o.1.1.fn T F).1 ⟨mk,fi,is,kc⟩ (vF hm e) (aaj X G e) o.1.2) o.2 p
  rw [Xn] at this;exact this
theorem GC {fa:U2} (B:List Stmt) (Γ:Ct) (cn:List Str) (ds:List Df) {k:Nat} {m:Fn} (X:K.In h) (G:h.Ns Vh mg) (Sm:mg "law"=some (.ref fa)) (o:zI B Γ ds) (hk:dep ds=k) (hm:(adds Γ ds).fn.lookup ("law":Str)=some m) (h0:Γ.fn=[]/\Γ.me=[])
  (hd:((Γ.co.all fun p=>!(p.1 == ("__debug__":Str))) && Γ.us.all fun x=>!(x == ("__debug__":Str)) && !(x == ("__name__":Str)))=true)
  (c1:AllP (GB K) Γ.co) (c2:AllP (NM K) Γ.us) (c3:AllP (CG K Γ.fl) cn) (c4:AllP (DV B K cn) ds):∃cls,∀base:Heap,K.In base->base.Ns Vh mg->fJ P w K mg cls base k fa m:=by
 refine⟨rQ K cn,fun base KB _=>?_⟩;simp only [Uw,Uo,Zi] at hd;have T0:Tab P w K mg (rQ K cn) base 0 Γ:=by
  refine⟨fun x F q=>by(rw [h0.1] at q;cases q),fun x t q=>?_,fun x hx=>⟨PySem.W.mg_none_of X G (c2.of x hx),fun z=>?_,(hd.2 x hx).1⟩,fun c C e=>?_,fun y mf q=>by(rw [h0.2] at q;cases q)⟩
  ·have hm:=Va q
   obtain⟨u,h1,h2⟩:=c1.of _ hm;exact⟨hd.1 _ hm,u,aaj X G h1,fun g hB _ _=>h2.rt (by rw [hB];exact KB)⟩
  ·have:=(hd.2 x hx).2;rw [z] at this;exact absurd this (by decide)
  ·obtain⟨h1,h2⟩:=zJ e
   obtain⟨C',e',ck,_,_,na⟩:=c3.of c h1;rw [h2] at e';cases e';exact⟨ck,na.of⟩
 have T:=Tab.all X G c3 ds T0 o c4;rw [Nat.zero_add,hk] at T;obtain⟨_,Ua,h1,h2,_⟩:=T.fn _ _ hm;rw [Sm] at h2;cases h2;exact fun {_ _ _ _ _ _ _ _} a b c d=>h1 a b c d
theorem JT {α:Type} {p:α->Prop}:AllP p []:=trivial
theorem NN {Γ:Ct}:zI B Γ []:=trivial
theorem NO {x:Str} {l:List Str} (h:VG K Vh x=some none) (r:AllP (NM K) l):AllP (NM K) (x::l):=⟨h,r⟩
theorem NP {C:U2} {x:Str} {l:List Str} (h:Vu K (.ref C) x=some none) (r:AllP (jk K C) l):AllP (jk K C) (x::l):=⟨h,r⟩
theorem NQ {x:Str} {C:U2} {l:List Str} (h:VG K Vh x=some (some (.ref C))) (pg:XF K C Str.empty=true) (hd:X4 K C=true) (po:Y0 K C=true) (sa:Vu K (.ref C) "__setattr__"=some (some (.builtin "object.__setattr__"))) (mk:Yt K C=true) (kc:VE K (.ref C)=true) (na:AllP (jk K C) fl) (r:AllP (CG K fl) l):AllP (CG K fl) (x::l):=⟨⟨C,h,⟨pg,hd,po,sa⟩,mk,kc,na⟩,r⟩
theorem NS {x:Str} {b:Bool} {k i:Nat} {m:Fn} {ds:List Df} {f:U2} {oc:Uq} {od an:Option U2} {sN:Array (Option Uq)} {kV doc pm gL ct:Uq} (n:VG K Vh x=some (some (.ref f))) (l:K.lookup f=some ⟨oc,od,.func (Wg x x (gS (tp B i)) (bodyOf (tp B i)) (gx (tp B i)) .none kV doc pm an gL ct),sN⟩)
  (c:W4 K gL x=true) (kp:VE K (.ref f)=true) (r:AllP (DV B K cn) ds):AllP (DV B K cn) (.f b x k i m::ds):=⟨⟨f,n,ue l c kp⟩,r⟩
theorem JU {cl y q:Str} {k i j:Nat} {m:Fn} {ds:List Df} {C f:U2} {oc:Uq} {od an:Option U2} {sN:Array (Option Uq)} {kV doc pm gL ct:Uq} (n:VG K Vh cl=some (some (.ref C))) (fi:Vu K (.ref C) y=some (some (.ref f))) (is:XN K (.ref f)=true) (l:K.lookup f=some ⟨oc,od,.func (Wg y q (gS (xn (tp B i) j)) (bodyOf (xn (tp B i) j)) (gx (xn (tp B i) j)) .none kV doc pm an gL ct),sN⟩)
  (c:W4 K gL q=true) (kp:VE K (.ref f)=true) (hc:cn.contains cl=true) (r:AllP (DV B K cn) ds):AllP (DV B K cn) (.mt cl y q k i j m::ds):=⟨⟨hc,C,f,n,fi,is,ue l c kp⟩,r⟩
theorem JV {cl q:Str} {k i j:Nat} {m:Fn} {ds:List Df} {C f:U2} {oc:Uq} {od an:Option U2} {sN:Array (Option Uq)} {kV doc pm gL ct:Uq} (n:VG K Vh cl=some (some (.ref C))) (fi:Vu K (.ref C) "__init__"=some (some (.ref f))) (is:XN K (.ref f)=true) (l:K.lookup f=some ⟨oc,od,.func (Wg "__init__" q (gS (xn (tp B i) j)) (bodyOf (xn (tp B i) j)) (gx (xn (tp B i) j)) .none kV doc pm an gL ct),sN⟩)
  (c:W4 K gL q=true) (kp:VE K (.ref f)=true) (hc:cn.contains cl=true) (r:AllP (DV B K cn) ds):AllP (DV B K cn) (.mk cl q k i j m::ds):=⟨⟨hc,C,f,n,fi,is,ue l c kp⟩,r⟩
theorem w4 {Γ:Ct} {b:Bool} {x:Str} {k i:Nat} {m:Fn} {ds:List Df} (r:zI B (Γ.wX x m) ds) (d:(zF (p8 (tp B i)) (gx (tp B i)) && (p8 (tp B i)).length == k && !(x == ("__debug__":Str)))=true:=by decide +kernel) (e:Qb b k (zE (p8 (tp B i)) (gx (tp B i))).length (code Γ ⟨zE (p8 (tp B i)) (gx (tp B i)),gx (tp B i)⟩ (bodyOf (tp B i)))=m:=by kernel_rfl) (a:BA k x x (tp B i):=by intro _ _ _ _ _ _;(repeat refine bC fun _=>?_);exact b0 (by kernel_rfl)):zI B Γ (.f b x k i m::ds):=⟨⟨d,e,a⟩,r⟩
theorem JW {Γ:Ct} {c y q:Str} {k i j:Nat} {m:Fn} {ds:List Df} (r:zI B (Γ.zG y c m) ds) (D:GA false k Γ y q (xn (tp B i) j) m:=by exact⟨by decide +kernel,by kernel_rfl,by intro _ _ _ _ _ _;(repeat refine bC fun _=>?_);exact b0 (by kernel_rfl)⟩):zI B Γ (.mt c y q k i j m::ds):=⟨D,r⟩
theorem JX {Γ:Ct} {c q:Str} {k i j:Nat} {m:Fn} {ds:List Df} (r:zI B (Γ.wX c (make c m)) ds) (D:GA false k Γ "__init__" q (xn (tp B i) j) m:=by exact⟨by decide +kernel,by kernel_rfl,by intro _ _ _ _ _ _;(repeat refine bC fun _=>?_);exact b0 (by kernel_rfl)⟩) (h:(c == ("__debug__":Str))=false:=by decide):zI B Γ (.mk c q k i j m::ds):=⟨⟨D,h⟩,r⟩
theorem zK {x:Str} {s:Cs} {t:Tok} {l:List (Str × T)} (h:VG K Vh x=some (some (.str ⟨s.toArray⟩ t))) (z:s.length<=UU) (r:AllP (GB K) l):AllP (GB K) ((x,.str s)::l):=⟨⟨_,h,by rw [xo];exact⟨z,t,rfl⟩⟩,r⟩
theorem NT {x:Str} {i:Int} {t:Tok} {l:List (Str × T)} (h:VG K Vh x=some (some (.int i t))) (r:AllP (GB K) l):AllP (GB K) ((x,.int i)::l):=⟨⟨_,h,by rw [xo];exact⟨t,rfl⟩⟩,r⟩
theorem CH {x:Str} {xs:List T} {a:U2} {us:Array Uq} {n:Nat} {s:Array (Option Uq)} {l:List (Str × T)} (h:VG K Vh x=some (some (.ref a))) (e:K.lookup a=some ⟨.type "tuple",none,.seq us n,s⟩) (z:xs.length<=UU) (q:f7 K xs us.toList) (r:AllP (GB K) l):AllP (GB K) ((x,.tup xs)::l):=⟨⟨_,h,by rw [xo];exact⟨a,us,n,s,rfl,e,z,q⟩⟩,r⟩
theorem uf:f7 K [] []:=by rw [f7]
theorem lG {s:Cs} {t:Tok} {xs:List T} {vs:List Uq} (z:s.length<=UU) (q:f7 K xs vs):f7 K (.str s::xs) (.str ⟨s.toArray⟩ t::vs):=by rw [f7];exact⟨_,_,rfl,by rw [xo];exact⟨z,t,rfl⟩,q⟩
theorem NU {b:Bool} {xs:List T} {vs:List Uq} (q:f7 K xs vs):f7 K (.bl b::xs) (.bool b::vs):=by rw [f7];exact⟨_,_,rfl,by rw [xo],q⟩
theorem GD {ys:List T} {a:U2} {us:Array Uq} {n:Nat} {s:Array (Option Uq)} {xs:List T} {vs:List Uq} (e:K.lookup a=some ⟨.type "tuple",none,.seq us n,s⟩) (z:ys.length<=UU) (p:f7 K ys us.toList) (q:f7 K xs vs):f7 K (.tup ys::xs) (.ref a::vs):=by rw [f7];exact⟨_,_,rfl,by rw [xo];exact⟨a,us,n,s,rfl,e,z,p⟩,q⟩
end
end M
namespace M
open PySem
theorem fin_same {L:aa} {t:T} (h:lt L.length t=true):fin L t L=.ok t L:=by
 unfold fin;rw [if_pos (show old L (L.drop (L.length - L.length)) from fun n c e=>.inl (by simpa using e))];simp only [Nat.sub_self,Z3];unfold cz;rw [if_pos h];rfl
theorem aM {α β:Type} (a:α) (L:aa) (f:α->aa->R β):(R.ok a L).bind f=f a L:=rfl
theorem of_ok {α:Type} (a:α) (L:aa) (f:α->aa->O):O.of (.ok a L) f=f a L:=rfl
theorem vG (φ:Fr) (L:aa) (f:Fr->aa->O):(O.nx φ L).next f=f φ L:=rfl
theorem CI (t:T) (L:aa) (f:Fr->aa->O):(O.rt t L).next f=.rt t L:=rfl
theorem fk (t:T) (L:aa):lift (some t) L=.ok t L:=rfl
theorem GF {α β:Type} (f:α->β) (a:α) (L:aa):R.map f (.ok a L)=.ok (f a) L:=rfl
theorem aV {α:Type} {c:Prop} [Decidable c] {r:R α} (h:c):cx c r=r:=if_pos h
theorem zL {L:aa} {b:Bool}:fin L (.bl b) L=.ok (.bl b) L:=fin_same (by simp [lt])
theorem CJ {L:aa} {b:Int}:fin L (.int b) L=.ok (.int b) L:=fin_same (by simp [lt])
theorem CK {L:aa} {b:Cs}:fin L (.str b) L=.ok (.str b) L:=fin_same (by simp [lt])
theorem CL {L:aa}:fin L .cm L=.ok .cm L:=fin_same (by simp [lt])
theorem dP {xs:List T} {i:Nat} {x:T} {L:aa} (h:xs[i]?=some x):ix (.lst xs) (.int i) L=.ok x L:=by
 obtain⟨hi,e⟩:=UI.mp h;simp [ix,vw,place,hi,e,lift]
theorem GG {α:Type} {b:Bool} {x y:α} {L:aa}:(if b=true then R.ok x L else R.ok y L)=R.ok (if b=true then x else y) L:=by cases b <;> rfl
theorem Ib (i:Nat) (φ:Fr) (L:aa):v i φ L=((lift ((φ[i]?).join) L):R T):=rfl
theorem Qc (x:T) (φ:Fr) (L:aa):c x φ L=((.ok x L):R T):=rfl
theorem NV (a:SE) (f:T->aa->R T) (φ:Fr) (L:aa):b1 a f φ L=(((a φ L).bind f):R T):=rfl
theorem JY (a b:SE) (f:T->T->aa->R T) (φ:Fr) (L:aa):b2 a b f φ L=(((a φ L).bind fun x L1=>(b φ L1).bind fun y L2=>f x y L2):R T):=rfl
theorem GH (op oh:CmpOp) (a b d:SE) (φ:Fr) (L:aa):wh op oh a b d φ L=(((a φ L).bind fun x L1=>(b φ L1).bind fun y L2=>(Bi op x y L2).bind fun k L3=>if k=true then (d φ L3).bind fun z L4=>cmp oh y z L4 else .ok (.bl false) L3):R T):=rfl
theorem NW (a:SE) (φ:Fr) (L:aa):tv a φ L=(((a φ L).bind fun x L1=>match x with
 | .bl b=>.ok b L1
 | _=>.bad):R Bool):=rfl
theorem GI (a b:ST) (φ:Fr) (L:aa):Bj a b φ L=(((a φ L).bind fun x L1=>if x=true then b φ L1 else .ok false L1):R Bool):=rfl
theorem JZ (a b:ST) (φ:Fr) (L:aa):LI a b φ L=(((a φ L).bind fun x L1=>if x=true then .ok true L1 else b φ L1):R Bool):=rfl
theorem GJ (a:ST) (φ:Fr) (L:aa):eL a φ L=(((a φ L).map (!·)):R Bool):=rfl
theorem GK (a b:SE) (φ:Fr) (L:aa):Bl a b φ L=(((tv a φ L).bind fun x L1=>if x=true then b φ L1 else .ok (.bl false) L1):R T):=rfl
theorem Ka (a b:SE) (φ:Fr) (L:aa):LJ a b φ L=(((tv a φ L).bind fun x L1=>if x=true then .ok (.bl true) L1 else b φ L1):R T):=rfl
theorem GL (a:SE) (φ:Fr) (L:aa):mq a φ L=(((tv a φ L).map fun b=>.bl (!b)):R T):=rfl
theorem Kb (φ:Fr) (L:aa):yes  φ L=((.ok true L):R Bool):=rfl
theorem Kc (k:ST) (a b:SE) (φ:Fr) (L:aa):Mj k a b φ L=(((k φ L).bind fun x L1=>if x=true then a φ L1 else b φ L1):R T):=rfl
theorem DW (ms:List SE) (φ:Fr) (L:aa):tup ms φ L=(((iM ms φ L).bind fun ts L1=>.ok (.tup ts) L1):R T):=rfl
theorem Ke (fz:Bool) (ms:List SE) (φ:Fr) (L:aa):lst fz ms φ L=(((iM ms φ L).bind fun ts L1=>fF fz ts L1):R T):=rfl
theorem GN (fz:Bool) (φ:Fr) (L:aa):wi fz φ L=((mk fz (.aS []) L):R T):=rfl
theorem NY (fz:Bool) (a:SE) (lo hi:Option SE) (φ:Fr) (L:aa):sl fz a lo hi φ L=(((a φ L).bind fun x L1=>(Er lo φ L1).bind fun i L2=>(Er hi φ L2).bind fun j L3=>jf fz x i j L3):R T):=rfl
theorem zM (f:Fn) (ms:List SE) (φ:Fr) (L:aa):ae f ms φ L=(((iM ms φ L).bind f):R T):=rfl
theorem zN (a:SE) (φ:Fr) (L:aa):src a φ L=(((a φ L).bind fun x L1=>match items x L1 with
 | some xs=>.ok (xs,stays x L1) L1
 | none=>.bad):R (List T × (aa->Prop))):=rfl
theorem Qd (a b:SE) (φ:Fr) (L:aa):xw a b φ L=(((a φ L).bind fun x L1=>(b φ L1).bind fun y L2=>match x,y with
 | .int i,.int j=>cx (sT i/\sT j) (.ok (upTo i (j - i).toNat,fun _=>True) L2)
 | _,_=>.bad):R (List T × (aa->Prop))):=rfl
theorem Kf (a:SE) (φ:Fr) (L:aa):LK a φ L=(((a φ L).bind fun x L1=>match vw L1 x with
 | .lst xs=>.ok (num 0 xs,stays x L1) L1
 | _=>.bad):R (List T × (aa->Prop))):=rfl
theorem GO (a b:SE) (φ:Fr) (L:aa):Ml a b φ L=(((src a φ L).bind fun p L1=>(src b φ L1).bind fun q L2=>.ok (zp p.1 q.1,fun L'=>p.2 L'/\q.2 L') L2):R (List T × (aa->Prop))):=rfl
theorem GP (a:SE) (φ:Fr) (L:aa):Mm a φ L=(((a φ L).bind fun x L1=>match vw L1 x with
 | .aS ks=>.ok (br ks,stays x L1) L1
 | _=>.bad):R (List T × (aa->Prop))):=rfl
theorem GQ (φ:Fr) (L:aa):pass  φ L=((.nx φ L):O):=rfl
theorem Kg (φ:Fr) (L:aa):brk  φ L=((.bk φ L):O):=rfl
theorem Kh (φ:Fr) (L:aa):cnt  φ L=((.ct φ L):O):=rfl
theorem Ki (φ:Fr) (L:aa):gf  φ L=((.bad):O):=rfl
theorem zO (tg:Tg) (m:SE) (φ:Fr) (L:aa):asg tg m φ L=((O.of (m φ L) fun t L1=>match tg.set t φ with
 | some φ1=>.nx φ1 L1
 | none=>.bad):O):=rfl
theorem Kj (m:SE) (φ:Fr) (L:aa):gg m φ L=((O.of (m φ L) fun _ L1=>.nx φ L1):O):=rfl
theorem zP (m:SE) (φ:Fr) (L:aa):ret m φ L=((O.of (m φ L) fun t L1=>.rt t L1):O):=rfl
theorem Kk (k:ST) (a b:SS) (φ:Fr) (L:aa):iff k a b φ L=((O.of (k φ L) fun x L1=>if x=true then a φ L1 else b φ L1):O):=rfl
theorem Kl (op:Operator) (i:Nat) (m:SE) (φ:Fr) (L:aa):aug op i m φ L=((O.of (b2 (v i) m (ag op) φ L) fun t L1=>.nx (φ.set i (some t)) L1):O):=rfl
theorem GR (o:SE) (f:Str) (m:SE) (φ:Fr) (L:aa):jg o f m φ L=((O.of (m φ L) fun t L1=>O.of (o φ L1) fun x L2=>match sU f x t L2 with
 | some L3=>.nx φ L3
 | none=>.bad):O):=rfl
theorem GS (o i m:SE) (φ:Fr) (L:aa):qL o i m φ L=((O.of (m φ L) fun t L1=>O.of (o φ L1) fun x L2=>O.of (i φ L2) fun y L3=>match jw x y t L3 with
 | some L4=>.nx φ L4
 | none=>.bad):O):=rfl
theorem GU (op:Operator) (o i m:SE) (φ:Fr) (L:aa):xx op o i m φ L=((O.of (o φ L) fun x L1=>O.of (i φ L1) fun y L2=>O.of (Iy x y L2) fun z L3=>O.of (m φ L3) fun t L4=>O.of (ag op z t L4) fun r L5=>match jw x y r L5 with
 | some L6=>.nx φ L6
 | none=>.bad):O):=rfl
theorem zQ (s:SI) (tg:Tg) (b:SS) (φ:Fr) (L:aa):cf s tg b φ L=((O.of (s φ L) fun u L1=>forL u.2 tg b u.1 φ L1):O):=rfl
theorem lq (np nn:Nat) (b:SS) (xs:List T) (L:aa):run np nn b xs L=(if xs.length=np then match b (xs.map some++U3 (nn - np) none) L with
  | .rt t L'=>fin L t L'
  | .nx _ L'=>fin L .cm L'
  | _=>.bad
 else .bad):=rfl
theorem ug (φ:Fr) (L:aa):ab [] φ L=.nx φ L:=rfl
theorem kC (s:SS) (r:List SS) (φ:Fr) (L:aa):ab (s::r) φ L=(s φ L).next (ab r):=rfl
theorem CM (a:SE) (φ:Fr) (L:aa):ky [a] φ L=a φ L:=rfl
theorem CN (a b:SE) (r:List SE) (φ:Fr) (L:aa):ky (a::b::r) φ L=Bl a (ky (b::r)) φ L:=rfl
theorem GV (a:SE) (φ:Fr) (L:aa):Bg [a] φ L=a φ L:=rfl
theorem GW (a b:SE) (r:List SE) (φ:Fr) (L:aa):Bg (a::b::r) φ L=LJ a (Bg (b::r)) φ L:=rfl
theorem CO (a:ST) (φ:Fr) (L:aa):jM [a] φ L=a φ L:=rfl
theorem CP (a b:ST) (r:List ST) (φ:Fr) (L:aa):jM (a::b::r) φ L=Bj a (jM (b::r)) φ L:=rfl
theorem GX (a:ST) (φ:Fr) (L:aa):vh [a] φ L=a φ L:=rfl
theorem GY (a b:ST) (r:List ST) (φ:Fr) (L:aa):vh (a::b::r) φ L=LI a (vh (b::r)) φ L:=rfl
theorem mW (φ:Fr) (L:aa):iM [] φ L=.ok [] L:=rfl
theorem mX (m:SE) (ms:List SE) (φ:Fr) (L:aa):iM (m::ms) φ L=((m φ L).bind fun t L1=>(iM ms φ L1).bind fun ts L2=>.ok (t::ts) L2):=rfl
theorem GZ (φ:Fr) (L:aa):Er none φ L=.ok none L:=rfl
theorem G3 (m:SE) (φ:Fr) (L:aa):Er (some m) φ L=((m φ L).bind fun t L1=>match t with
  | .int i=>.ok (some i) L1
  | _=>.bad):=rfl
theorem G4 (f:Ty->Option (T->Fn)) (a:SE) (ms:List SE) (φ:Fr) (L:aa):aU f a ms φ L=((a φ L).bind fun x L1=>match (Du L1 x).bind f with
 | some F=>(iM ms φ L1).bind fun ts L2=>F x ts L2
 | none=>.bad):=rfl
theorem mapM_map {α β:Type} {f:T->Option α} {g:β->T} {h:β->α} (hf:∀b,f (g b)=some (h b)):∀l:List β,(l.map g).mapM f=some (l.map h)
 | []=>rfl
 | b::l=>by rw [Uy,Wr,hf,mapM_map hf l];rfl
theorem zR {L Ln:aa} {t:T} (h:lt L.length t=true):fin L t (Ln++L)=.ok t L:=by
 have e:(Ln++L).drop ((Ln++L).length - L.length)=L:=by
  rw [Ul,YN,Ya]
 unfold fin;rw [e,if_pos (show old L L from fun n c e=>.inl e)];unfold cz;rw [if_pos h];rfl
theorem uh {s:Cs} {i:Int} {L:aa} (h0:0<=i) (h1:i<s.length):ix (.str s) (.int i) L=.ok (.str [s.getD i.toNat 0]) L:=by
 have hi:i.toNat<s.length:=by omega
 simp [ix,vw,place,h0,h1,lift,Gd9,hi]
theorem vH {xs:List T} {i:Int} {x:T} {L:aa} (h0:0<=i) (h:xs[i.toNat]?=some x):ix (.lst xs) (.int i) L=.ok x L:=by
 obtain⟨hi,e⟩:=UI.mp h;have h1:i<xs.length:=by omega
 simp [ix,vw,place,h0,h1,hi,e,lift]
theorem G5 {sep:Cs} {zs:List Cs} {L:aa} (h:(zs.map (·.length)).sum+zs.length * sep.length<=16777216):kZ (.str sep) [.lst (zs.map .str)] L=.ok (.str (jn sep zs)) L:=by
 have:=mapM_map (f:=HU) (g:=T.str) (h:=id) (fun _=>rfl) zs;simp [kZ,items,vw,this,cx,h]
theorem vI {x:T} {L:aa} (h:∀n,x≠.ref n) (L':aa):stays x L L':=fun n e=>absurd e (h n)
theorem aq {x:T} {L:aa}:stays x L L:=fun n e=>rfl
noncomputable def Sn:T->Bool
 | .ref _=>true
 | _=>false
theorem sv {x:T} {L L':aa} (h:Sn x=false:=by rfl):stays x L L':=fun n e=>by subst e;cases h
end M
namespace lZ
open PySem
abbrev ui:Str:="abcdefghijklmnopqrstuvwxyz"
abbrev qb:Str:="ABCDEFGHIJKLMNOPQRSTUVWXYZ"
abbrev NZ:Str:="0123456789"
noncomputable def bV (c:Nat):Bool:=decide (c∈ui.cps.toList) || (decide (c∈qb.cps.toList) || decide (c∈NZ.cps.toList))
noncomputable def aQ (l:List Nat):Nat:=(l.takeWhile bV).length
noncomputable def ah (p:List Nat):Bool:=decide (1<=p.length) && (decide (p.length<=12) && p.all bV)
end lZ
namespace Bk
open PySem lZ
abbrev Cs:=List Nat
theorem aA {s:Cs} (h:ah s=true):1<=s.length/\s.length<=12:=by
 unfold ah at h;simp only [Uw,decide_eq_true_eq] at h;exact⟨h.1,h.2.1⟩
theorem DX {s:Cs} (h:ah s=true):∀c∈s,bV c=true:=by
 unfold ah at h;simp only [Uw,Uo] at h;exact h.2.2
structure Fc where
 k:Cs
 as:List Cs
structure Kd where
 n:Cs
 c:Nat
 l:Bool
structure Lk where
 same:Bool
 l:Cs
 r:Cs
structure Rl where
 title:Cs
 take:List Fc
 keep:List Fc
 ar:List Lk
 put:List Fc
 tell:List (Cs × Cs)
noncomputable def great (x:Cs):Bool:=decide (x.headD 0∈qb.cps.toList)
noncomputable def aK (p:Cs):Bool:=ah p && decide (p.headD 0∈ui.cps.toList)
theorem bu {p:Cs} (h:aK p=true):ah p=true:=by
 unfold aK at h;rw [Uw] at h;exact h.1
noncomputable def cW (x:Cs) (acc:List Cs):List Cs:=if great x=true then (if x∈acc then acc else acc++[x]) else acc
noncomputable def az (l:List Cs) (acc:List Cs):List Cs:=l.foldl (fun acc x=>cW x acc) acc
noncomputable def opens (fs:List Fc):List Cs:=az (fs.flatMap (·.as)) []
theorem mY:∀(l:List Cs) {acc:List Cs} (x:Cs),x∈az l acc↔x∈acc\/(x∈l/\great x=true)
 | [],acc,x=>by simp [az]
 | n::ns,acc,x=>by
  show x∈az ns (cW n acc)↔_;rw [mY ns];have e:x∈cW n acc↔x∈acc\/(x=n/\great x=true):=by
   unfold cW;by_cases g:great n=true
   ·by_cases hm:n∈acc <;> simp only [g,hm,if_true,if_false,Uz,UR]
    ·exact⟨.inl,fun z=>z.elim id fun z=>z.1 ▸ hm⟩
    ·exact or_congr_right ⟨fun z=>⟨z,z ▸ g⟩,And.left⟩
   ·rw [if_neg g]
    exact⟨.inl,fun z=>z.elim id fun z=>absurd (z.1 ▸ z.2) g⟩
  rw [e,UG,or_assoc,<- or_and_right]
theorem mZ:∀(l acc:List Cs),acc.Nodup->(az l acc).Nodup
 | [],_,h=>h
 | x::r,acc,h=>mZ r _ (by
  show(cW x acc).Nodup;unfold cW;split
  ·split
   ·exact h
   ·rename_i hx
    exact VS.mpr ⟨h,by simp,fun a ha b hb e=>hx (by rw [<- UR.mp hb,<- e];exact ha)⟩
  ·exact h)
theorem eg (fs:List Fc):(opens fs).Nodup:=mZ _ _ W5
theorem zS (x:Cs) (acc:List Cs):(cW x acc).length<=acc.length+1:=by unfold cW;split <;> (try split) <;> simp
theorem dQ (l acc:List Cs):(az l acc).length<=acc.length+l.length:=by
 induction l generalizing acc with
 | nil=>simp [az]
 | cons x l ih =>
  have h1:=ih (cW x acc);have h2:=zS x acc
  show(az l (cW x acc)).length<=_;rw [Ut];omega
theorem gz {α β:Type} {g:α->List β} {B:Nat}:∀{l:List α},(∀x∈l,(g x).length<=B)->(l.flatMap g).length<=l.length * B
 | [],_=>by simp
 | a::r,h=>by
  have h1:=gz (l:=r) fun x hx=>h x (Up _ hx)
  have h2:=h a Um;rw [Zj,Ul,Ut,aam];omega
theorem jQ {fs:List Fc} {a:Cs} (h:a∈opens fs):(∃f∈fs,a∈f.as)/\great a=true:=by
 rcases(mY _ a).mp h with h|⟨h,g⟩
 ·cases h
 ·exact⟨XG.mp h,g⟩
theorem w5 {fs:List Fc} {a:Cs} {f:Fc} (hf:f∈fs) (ha:a∈f.as) (g:great a=true):a∈opens fs :=
 (mY _ a).mpr (.inr ⟨XG.mpr ⟨f,hf,ha⟩,g⟩)
inductive W (m:Cs):Cs->List Cs->Prop
 | nil:W m [] []
 | name {n:Cs} (h:ah n=true):W m n [n]
 | sp {a b:Cs} {p q:List Cs} (x:W m a p) (y:W m b q):W m (a++32::b) (p++q)
 | mk {a b:Cs} {p q:List Cs} {c:Nat} (hc:c∈m) (x:W m a p) (y:W m b q):W m (a++c::b) (p++[c]::q)
theorem W.up {m m':Cs} (h:∀c∈m,c∈m') {t:Cs} {p:List Cs} (w:W m t p):W m' t p:=by
 induction w with
 | nil=>exact .nil
 | name h=>exact .name h
 | sp _ _ a b=>exact .sp a b
 | mk hc _ _ a b=>exact .mk (h _ hc) a b
theorem rR:bV 32=false:=by decide +kernel
theorem W.no {m:Cs} {c:Nat} (ha:bV c=false) (hm:c∉m) {t:Cs} {p:List Cs} (w:W m t p):[c]∉p/\(c≠32->c∉t):=by
 induction w with
 | nil=>simp
 | @name n h =>
  have z:c∉n:=fun z=>by rw [DX h c z] at ha;cases ha
  exact⟨fun e=>z (by rw [<- UR.mp e];exact UR.mpr rfl),fun _=>z⟩
 | sp _ _ a b=>exact⟨fun z=>(Uz.mp z).elim a.1 b.1,fun h z=>(Uz.mp z).elim (a.2 h) fun z=>(UG.mp z).elim h (b.2 h)⟩
 | mk hc _ _ a b =>
  have n:∀{d},d∈m->c≠d:=fun h e=>hm (e ▸ h)
  exact⟨fun z=>(Uz.mp z).elim a.1 fun z=>(UG.mp z).elim (fun e=>n hc (Wo e).1) b.1,fun h z=>(Uz.mp z).elim (a.2 h) fun z=>(UG.mp z).elim (n hc) (b.2 h)⟩
inductive Tk (m:Cs):Cs->List Cs->Prop
 | nil:Tk m [] []
 | sp {r:Cs} {q:List Cs} (t:Tk m r q):Tk m (32::r) q
 | mk {c:Nat} {r:Cs} {q:List Cs} (hc:c∈m) (t:Tk m r q):Tk m (c::r) ([c]::q)
 | name {n r:Cs} {q:List Cs} (h:ah n=true) (hs:∀c∈r.head?,bV c=false) (t:Tk m r q):Tk m (n++r) (n::q)
theorem W.tk {m:Cs} (hm:∀c∈m,bV c=false) {t:Cs} {p:List Cs} (w:W m t p):∀{r:Cs} {q:List Cs},(∀c∈r.head?,bV c=false)->Tk m r q->Tk m (t++r) (p++q):=by
 induction w with
 | nil=>exact fun _ h=>h
 | name h=>exact fun s t=>.name h s t
 | sp _ _ a b =>
  intro r q s t;rw [UN,UN];exact a (fun c h=>by cases h;exact rR) (.sp (b s t))
 | mk hc _ _ a b =>
  intro r q s t;rw [UN,UN];exact a (fun c h=>by cases h;exact hm _ hc) (.mk hc (b s t))
theorem Tk.len {m t:Cs} {p:List Cs} (w:Tk m t p):p.length<=t.length:=by
 induction w with
 | nil=>exact UH _
 | sp _ ih=>exact Nat.le_succ_of_le ih
 | mk _ _ ih=>exact Zy ih
 | name h _ _ ih =>
  have:=(aA h).1;rw [Ul,Ut];omega
noncomputable def glue (m:Cs):List (List Cs)->List Cs
 | []=>[]
 | [q]=>q
 | q::r=>q++m::glue m r
theorem W.join {α:Type} {m:Cs} {c:Nat} (hc:c∈m) {tx:α->Cs} {tp:α->List Cs}:∀l:List α,(∀x∈l,W m (tx x) (tp x))->W m (M.jn [c,32] (l.map tx)) (glue [c] (l.map tp))
 | [],_=>.nil
 | [a],h=>h a Um
 | a::b::r,h=>by
  have z:=W.mk hc (h a Um) (.sp .nil (W.join hc (b::r) fun x hx=>h x (Up _ hx)));show W m (tx a++[c,32]++M.jn [c,32] ((b::r).map tx)) _
  rw [UN];exact z
theorem kE {sep:Cs} {B:Nat}:∀{ls:List Cs},(∀l∈ls,l.length<=B)->(M.jn sep ls).length<=ls.length * (B+sep.length)
 | [],_=>U4 _
 | [a],h=>by
  have:=h a Um;show a.length<=1 * _
  omega
 | a::b::r,h=>by
  have z:=kE (sep:=sep) (ls:=b::r) fun l hl=>h l (Up _ hl)
  have:=h a Um;show(a++sep++M.jn sep (b::r)).length<=((b::r).length+1) * _
  rw [Ul,Ul,aam];omega
abbrev cL:Cs:=[112,97,115,115,105,110,103]
abbrev cM:Cs:=[108,97,115,116,105,110,103]
abbrev gT:Cs:=[114,117,108,101]
abbrev G6:Cs:=[115,97,109,101]
abbrev zT:Cs:=[117,110,108,105,107,101]
noncomputable def wordAt:Nat->Cs
 | 0=>[116,97,107,101]
 | 1=>[107,101,101,112]
 | 2=>[108,111,111,107]
 | 3=>[112,117,116]
 | _=>[116,101,108,108]
theorem jo {i j:Nat} (hi:i<5) (hj:j<5) (h:wordAt i=wordAt j):i=j:=(by decide +kernel:∀i<5,∀j<5,wordAt i=wordAt j->i=j) i hi j hj h
theorem zU {n:Nat} (h:n<5):ah (wordAt n)=true/\(wordAt n).length<=4:=(by decide +kernel:∀n<5,ah (wordAt n)=true/\(wordAt n).length<=4) n h
noncomputable def between:List Cs->List Cs
 | []=>[]
 | [a]=>[a,[41]]
 | a::r=>a::[44]::between r
noncomputable def iB (g:Fc):Cs:=if g.as=[] then g.k else ((g.k++[40])++M.jn [44] g.as)++[41]
noncomputable def cY (g:Fc):List Cs:=if g.as=[] then [g.k] else g.k::[40]::between g.as
noncomputable def fM (b:Bool):Cs:=if b=true then G6 else zT
theorem zV (b:Bool):ah (fM b)=true/\(fM b).length<=6:=by cases b <;> decide +kernel
noncomputable def m4 (k:Lk):Cs:=k.l++32::(fM k.same++32::k.r)
noncomputable def iC (k:Lk):List Cs:=[k.l,fM k.same,k.r]
noncomputable def m5 (p:Cs × Cs):Cs:=p.1++32::61::32::p.2
noncomputable def iD (p:Cs × Cs):List Cs:=[p.1,[61],p.2]
noncomputable def ax (k:Kd):Cs:=(if k.l=true then cM else cL)++(32::(k.n++(32::[48+k.c])))
noncomputable def rS (k:Kd):List Cs:=[if k.l=true then cM else cL,k.n,[48+k.c]]
structure Im where
 tx:Cs
 tp:List Cs
 t:M.T
end Bk
namespace M
open PySem
open Bk (Fc Kd Lk Rl)
noncomputable def fT (f:Fc):T:=.tup [.str f.k,.tup (f.as.map .str)]
noncomputable def pT (p:Cs × Cs):T:=.tup [.str p.1,.str p.2]
noncomputable def lT (k:Lk):T:=.obj (if k.same=true then "Same" else "Unlike") [("left",.str k.l),("right",.str k.r)]
end M
namespace Bk
open PySem lZ
noncomputable def fI (f:Fc):Im:=⟨iB f,cY f,M.fT f⟩
noncomputable def lI (k:Lk):Im:=⟨m4 k,iC k,M.lT k⟩
noncomputable def pI (p:Cs × Cs):Im:=⟨m5 p,iD p,M.pT p⟩
noncomputable def rows (r:Rl):List (Nat × List Im):=[(0,r.take.map fI),(1,r.keep.map fI),(2,r.ar.map lI),(3,r.put.map fI),(4,r.tell.map pI)]
noncomputable def ne (x:Nat × List Im):Bool:=!x.2.isEmpty
noncomputable def gU (r:Rl):List (Nat × List Im):=(rows r).filter ne
noncomputable def ie (x:Nat × List Im):Cs:=wordAt x.1++32::M.jn [44,32] (x.2.map (·.tx))
noncomputable def ig (x:Nat × List Im):List Cs:=wordAt x.1::glue [44] (x.2.map (·.tp))
noncomputable def oL (w:Cs) (m:List Cs):List Cs:=if m=[] then [] else [w++32::M.jn [44,32] m]
theorem rU:∀l:List (Nat × List Im),(l.flatMap fun x=>oL (wordAt x.1) (x.2.map (·.tx)))=(l.filter ne).map ie
 | []=>rfl
 | x::r=>by
  rw [Zj,rU r,List.filter_cons];obtain⟨n,l⟩:=x;cases l <;> rfl
noncomputable def cq (r:Rl):Cs:=gT++32::(r.title++58::32::M.jn [59,32] ((gU r).map ie))
noncomputable def eK (r:Rl):List Cs:=gT::r.title::[58]::glue [59] ((gU r).map ig)
structure FG (g:Fc):Prop where
 k:aK g.k=true
 as:∀a∈g.as,ah a=true
 n:g.as.length<=4
noncomputable def zW (m:Nat) (r:Rl):Prop:=r.take.length<=m/\r.keep.length<=m/\r.ar.length<=m/\r.put.length<=m/\r.tell.length<=m
noncomputable def ai (ks:List Kd):List Cs:=(ks.filter (·.l)).map (·.n)
noncomputable def aj (ks:List Kd) (f:Fc):Prop:=∃k∈ks,k.n=f.k/\f.as.length=k.c
noncomputable def cB (r:Rl):List Cs:=(r.ar.flatMap fun k=>[k.l,k.r])++((r.put.flatMap (·.as))++(r.tell.flatMap fun p=>[p.1,p.2]))
structure nN (ks:List Kd) (r:Rl):Prop where
 t:aK r.title=true
 f:∀g∈r.take++r.keep++r.put,FG g/\aj ks g
 l:∀k∈r.ar,ah k.l=true/\ah k.r=true
 p:∀p∈r.tell,ah p.1=true/\ah p.2=true
 hd:r.take=[]->r.keep≠[]
 pC:zW 2 r
 takes:∀f∈r.take,f.k∉ai ks
 calls:r.take=[]->∀f∈r.put,f.k∈ai ks
 uj:∀a∈cB r,ah a=true/\(great a=true->a∈opens (r.take++r.keep))
abbrev Ma:Cs:=[40,41,44,61]
abbrev DY:Cs:=[40,41,44,58,59,61]
theorem W.Qe:∀{as:List Cs},as≠[]->(∀a∈as,ah a=true)->W Ma (M.jn [44] as++[41]) (between as)
 | [],h,_=>absurd rfl h
 | [a],_,h=>.mk (c:=41) (by decide) (.name (h a Um)) .nil
 | a::b::r,_,h=>by
  have z:=W.mk (c:=44) (by decide) (.name (h a Um)) (W.Qe (as:=b::r) (XH _ _) fun x hx=>h x (Up _ hx));show W Ma (a++[44]++M.jn [44] (b::r)++[41]) _
  rw [UN,UN];exact z
noncomputable def rV (i:Im):Prop:=i.tx.length<=70/\W Ma i.tx i.tp
theorem FG.im {g:Fc} (h:FG g):rV (fI g):=by
 have hk:=bu h.k;have h1:=(aA hk).2
 have h2:=kE (sep:=[44]) fun a ha=>(aA (h.as a ha)).2
 have h3:=h.n;unfold rV fI iB cY;by_cases e:g.as=[]
 ·rw [if_pos e,if_pos e]
  exact⟨UO h1 (by decide),.name hk⟩
 ·rw [if_neg e,if_neg e]
  refine⟨?_,?_⟩
  ·simp only [Ul,Ut,UW] at h2 ⊢
   omega
  ·dsimp only
   rw [UN,UN];exact .mk (c:=40) (by decide) (.name hk) (W.Qe e h.as)
theorem vJ {k:Lk} (h:ah k.l=true/\ah k.r=true):rV (lI k)/\[44]∉iC k:=by
 have w:∀m,W m (m4 k) (iC k):=fun m=>.sp (.name h.1) (.sp (.name (zV _).1) (.name h.2))
 have h1:=(aA h.1).2;have h2:=(aA h.2).2
 have h3:=(zV k.same).2;refine⟨⟨?_,w _⟩,(W.no (m:=[]) (by decide +kernel) (by decide) (w _)).1⟩;unfold lI m4;simp only [Ul,Ut];omega
theorem vK {k:Cs × Cs} (h:ah k.1=true/\ah k.2=true):rV (pI k)/\[44]∉iD k:=by
 have w:∀{m},61∈m->W m (m5 k) (iD k):=fun z=>.sp (.name h.1) (.mk z .nil (.sp .nil (.name h.2)))
 have h1:=(aA h.1).2;have h2:=(aA h.2).2
 refine⟨⟨?_,w (by decide)⟩,(W.no (m:=[61]) (by decide +kernel) (by decide) (w (by decide))).1⟩;unfold pI m5;simp only [Ul,Ut];omega
theorem CQ {α:Type} {P:α->Prop} {a b c d e:α} (ha:P a) (hb:P b) (hc:P c) (hd:P d) (he:P e):∀x∈[a,b,c,d,e],P x:=by
 simp only [UG,Wa,or_false];rintro x (rfl|rfl|rfl|rfl|rfl) <;> assumption
section
variable {ks:List Kd} {r:Rl} (h:nN ks r)
include h
theorem nN.row:∀x∈rows r,x.1<5/\x.2.length<=2/\∀i∈x.2,rV i:=by
 obtain⟨f1,f2,f3,f4,f5⟩:=h.pC;have F:∀n<5,∀l:List Fc,l.length<=2->(∀g∈l,g∈r.take++r.keep++r.put)->n<5/\(l.map fI).length<=2/\∀i∈l.map fI,rV i:=fun n hn l hl hs=>⟨hn,by rwa [Lm9],fun i hi=>by
  obtain⟨g,hg,rfl⟩:=Ur.mp hi;exact(h.f g (hs g hg)).1.im⟩
 refine CQ (F 0 (by decide) _ f1 fun g hg=>Uv _ (Uv _ hg)) (F 1 (by decide) _ f2 fun g hg=>Uv _ (UB _ hg)) ⟨show 2<5 by decide,by rwa [Lm9],fun i hi=>?_⟩ (F 3 (by decide) _ f4 fun g hg=>UB _ hg) ⟨show 4<5 by decide,by rwa [Lm9],fun i hi=>?_⟩
 ·obtain⟨g,hg,rfl⟩:=Ur.mp hi
  exact(vJ (h.l g hg)).1
 ·obtain⟨g,hg,rfl⟩:=Ur.mp hi
  exact(vK (h.p g hg)).1
theorem nN.part {x:Nat × List Im} (hx:x∈rows r):W Ma (ie x) (ig x)/\(ie x).length<=150:=by
 obtain⟨h5,h2,hi⟩:=h.row x hx;refine⟨.sp (.name (zU h5).1) (W.join (by decide) _ fun i h=>(hi i h).2),?_⟩;have z:=kE (sep:=[44,32]) (ls:=x.2.map (·.tx)) (B:=70) fun l hl=>by
  obtain⟨i,h,rfl⟩:=Ur.mp hl;exact(hi i h).1
 have:=(zU h5).2;unfold ie;simp only [Ul,Ut,Lm9,UW] at z ⊢;omega
theorem nN.parts:((gU r).map ie).length<=5/\∀l∈(gU r).map ie,l.length<=150:=by
 refine⟨by rw [Lm9];exact WI _ _,fun l hl=>?_⟩;obtain⟨x,hx,rfl⟩:=Ur.mp hl;exact(h.part (UZ.mp hx).1).2
theorem nN.line:W DY (cq r) (eK r)/\(cq r).length<=800:=by
 refine⟨.sp (.name (n:=gT) (by decide +kernel)) (.mk (by decide) (.name (bu h.t)) (.sp .nil (W.join (by decide) _ fun x hx=>(h.part (UZ.mp hx).1).1.up (by decide)))),?_⟩;have z:=kE (sep:=[59,32]) h.parts.2
 have:=h.parts.1;have:=(aA (bu h.t)).2
 unfold cq;simp only [Ul,Ut,UW] at z ⊢;omega
end
structure KG (ks:List Kd):Prop where
 len:ks.length=4
 nd:(ks.map (·.n)).Nodup
 ok:∀k∈ks,aK k.n=true/\k.c<=4
 yes:∃k∈ks,k.l=true
 no:∃k∈ks,k.l=false
theorem kH {k:Kd} (h:aK k.n=true/\k.c<=4):W DY (ax k) (rS k)/\(ax k).length<=800:=by
 have hw:ah (if k.l=true then cM else cL)=true/\(if k.l=true then cM else cL).length=7:=by cases k.l <;> decide +kernel
 have:=(aA (bu h.1)).2;refine⟨.sp (.name hw.1) (.sp (.name (bu h.1)) (.name ((by decide +kernel:∀c≤4,ah [48+c]=true) k.c h.2))),?_⟩;unfold ax;simp only [Ul,Ut,UW,hw.2];omega
theorem jR (p:Cs):(M.toS p).cps.toList=p:=by simp [M.toS]
theorem Km (x:Str):M.toS x.cps.toList=x:=by cases x;simp [M.toS]
noncomputable def lH:Cs->List Cs
 | []=>[[]]
 | c::r=>if c=10 then []::lH r else match lH r with
  | []=>[[c]]
  | q::qs=>(c::q)::qs
theorem rW:∀(a r:Cs),10∉a->lH (a++10::r)=a::lH r
 | [],r,_=>rfl
 | c::a,r,h=>by
  have hc:c≠10:=fun e=>h (by rw [e];exact Um)
  show(if c=10 then []::lH (a++10::r) else match lH (a++10::r) with|[]=>[[c]]|q::qs=>(c::q)::qs)=_;rw [if_neg hc,rW a r fun z=>h (Up _ z)]
theorem rY:∀(a:Cs),10∉a->lH a=[a]
 | [],_=>rfl
 | c::a,h=>by
  have hc:c≠10:=fun e=>h (by rw [e];exact Um)
  show(if c=10 then []::lH a else match lH a with|[]=>[[c]]|q::qs=>(c::q)::qs)=_;rw [if_neg hc,rY a fun z=>h (Up _ z)]
theorem kI:∀(ls:List Cs),ls≠[]->(∀l∈ls,10∉l)->lH (M.jn [10] ls)=ls
 | [],h,_=>absurd rfl h
 | [a],_,h=>rY a (h a Um)
 | a::b::r,_,h=>by
  show lH (a++[10]++M.jn [10] (b::r))=_;rw [UN,Yg,rW a _ (h a Um),kI (b::r) (XH _ _) fun l hl=>h l (Up _ hl)]
theorem rZ:∀(ls:List Str),(Str.join ⟨#[10]⟩ ls).cps.toList=M.jn [10] (ls.map fun s=>s.cps.toList)
 | []=>rfl
 | [a]=>rfl
 | a::b::r=>by
  show((a++(⟨#[10]⟩:Str))++Str.join ⟨#[10]⟩ (b::r)).cps.toList=_;rw [aab,aab,rZ (b::r)];rfl
theorem zX (x:Str):Xy x ⟨#[10]⟩≠[]:=by
 unfold Xy;split
 ·simp
 ·split
  ·simp
  ·intro h
   have e:=congrArg Ww h;rw [PyProof.Rows.len_partsBetween] at e;simp at e
theorem r6 {ls:List Cs} (h0:ls≠[]) (h:∀l∈ls,10∉l):Xy (M.toS (M.jn [10] ls)) (M.toS [10])=ls.map M.toS:=by
 have e1:=StrLaws.join_split (M.toS (M.jn [10] ls)) ⟨#[10]⟩;have hf:=StrLaws.split_free (M.toS (M.jn [10] ls)) 10
 have hn:=zX (M.toS (M.jn [10] ls));show Xy (M.toS (M.jn [10] ls)) ⟨#[10]⟩=_
 generalize Xy (M.toS (M.jn [10] ls)) ⟨#[10]⟩=ts at e1 hf hn;have e3:=congrArg lH (show M.jn [10] (ts.map fun s=>s.cps.toList)=M.jn [10] ls by rw [<- rZ,e1,jR])
 rw [kI ls h0 h,kI _ (by simpa using hn) (by
  intro l hl;obtain⟨t,ht,rfl⟩:=Ur.mp hl;exact hf t ht)] at e3
 rw [<- e3,UT,show(M.toS ∘ fun s:Str=>s.cps.toList)=id from funext Km,X8]
theorem zY {c:Nat} (hc:c≠32) (p:Cs):∃q:Cs,YQ (M.toS (c::p)) (M.toS [32])=M.toS (c::q)/\q.length<=p.length:=by
 have e0:(M.toS [32]).cps.contains=fun c=>c == 32:=by
  funext c;simp [M.toS,Bool.beq_eq_decide_eq]
 unfold YQ;rw [e0,PyProof.Rows.stripBy_eq];have So:stripLo (fun c=>c == 32) true (M.toS (c::p))=0:=by
  simp [stripLo,M.toS,hc]
 obtain⟨b1,b2,b3,b4⟩:=PyProof.Rows.hi_facts (fun c=>c == 32) (M.toS (c::p)) _ (U4 _);rw [So];generalize stripHi (fun c=>c == 32) true (M.toS (c::p)) 0=hi at b1 b2 b3 b4;have hl:(M.toS (c::p)).length=p.length+1:=by simp [M.toS,Str.length]
 rw [hl] at b2 b3;obtain⟨k,rfl⟩:∃k,hi=k+1:=by
  cases hi with
  | succ k=>exact⟨k,rfl⟩
  | zero =>
   have z:=b3 0 (UH _) (YL _);exact absurd z (by simp [M.toS,hc])
 refine⟨p.take k,?_,by rw [Vc];omega⟩;rw [<- Km (Builtin.Str.strSub (M.toS (c::p)) 0 (k+1)),StrLaws.strSub_toList,jR];rfl
abbrev kJ:Cs:=[97,98,99,100,101,102,103,104]
noncomputable def nameOf (a b k:Nat):Cs:=U3 a 109++([kJ.getD k 0]++U3 b 109)
theorem dh {a b k:Nat} (hk:k<8) (hab:a+b<=4):aK (nameOf a b k)=true:=(by decide +kernel:∀a<5,∀b<5,∀k<8,aK (nameOf a b k)=true) a (by omega) b (by omega) k hk
theorem m6 {a b j k:Nat} (hj:j<8) (hk:k<8) (h:nameOf a b j=nameOf a b k):j=k:=by
 unfold nameOf at h;have h2:=List.append_inj_right h rfl
 have h3:kJ.getD j 0=kJ.getD k 0:=(Wo h2).1;exact(by decide +kernel:∀j<8,∀k<8,kJ.getD j 0=kJ.getD k 0->j=k) j hj k hk h3
theorem oM:∀(l m:List Cs),l.Nodup->(∀x∈l,x∈m)->l.length<=m.length
 | [],_,_,_=>U4 _
 | x::r,m,nd,h=>by
  have hx:=h x (Um ..);have nr:=Vd.mp nd
  have z:=oM r (m.erase x) nr.2 fun y hy=>(List.mem_erase_of_ne (fun e=>nr.1 (by rw [<- e];exact hy))).mpr (h y (Up _ hy))
  rw [XQ hx] at z;have:1<=m.length:=Xa hx
  rw [Ut];omega
deriving instance DecidableEq for Fc
noncomputable def short (bp ts:List Fc):Bool:=ts.any fun f=>decide (bp.count f<ts.count f)
theorem iS {α:Type} [DecidableEq α]:∀(l b:List α),(∀f,l.count f<=b.count f)->l.length<=b.length
 | [],_,_=>U4 _
 | x::l,b,h=>by
  have hx:x∈b:=by
   have z:=h x;rw [List.count_cons_self] at z;exact Xb.mp (by omega)
  have ih:=iS l (b.erase x) fun f=>by
   have z:=h f;rw [List.count_cons] at z;rw [List.count_erase];by_cases e:x=f
   ·subst e
    simp only [beq_self_eq_true,if_true] at z ⊢;omega
   ·have e1:(x == f)=false:=by simpa using e
    simp only [e1,UC,if_false] at z ⊢;omega
  have hp:=Xa hx;rw [XQ hx] at ih;rw [Ut];omega
end Bk
namespace Un
section
variable {α:Type} [DecidableEq α] (great:α->Bool) (lt:α->α->Bool)
noncomputable def mn (a b:α):α:=if lt b a=true then b else a
noncomputable def bK (p q:α):α:=if great p=false then p else if great q=false then q else mn lt p q
variable {great lt}
theorem DZ (a b:α):mn lt a b=a\/mn lt a b=b:=by
 unfold mn;split
 ·exact .inr rfl
 ·exact .inl rfl
noncomputable def told (great:α->Bool) (lt:α->α->Bool) (ρ:α->α) (a b x:α):α:=if ρ x=ρ a\/ρ x=ρ b then bK great lt (ρ a) (ρ b) else ρ x
end
end Un
namespace Bk
open PySem lZ
abbrev aY:=List (Cs × Cs)
noncomputable def gG (st:aY) (n:Cs):Option Cs:=(st.find? fun p=>decide (p.1=n)).map (·.2)
noncomputable def ak (st:aY) (n:Cs):Cs:=(gG st n).getD n
noncomputable def fw (a b:Cs):Bool:=decide (a<b)
noncomputable def eI (st:aY) (n:Cs):aY:=if great n=true then (if n∈st.map (·.1) then st else st++[(n,n)]) else st
noncomputable def fG (st:aY) (ns:List Cs):aY:=ns.foldl eI st
noncomputable def cu (p q:Cs) (e:Cs × Cs):Cs × Cs:=(e.1,if e.2=p\/e.2=q then Un.bK great fw p q else e.2)
noncomputable def cv (p q:Cs):Prop:=p≠q/\great p=false/\great q=false
noncomputable instance (p q:Cs):Decidable (cv p q):=by unfold cv;infer_instance
noncomputable def cw (st:aY) (p q:Cs):aY:=if p=q then st else st.map (cu p q)
theorem gV (p q:Cs) (st:aY):(st.map (cu p q)).map (·.1)=st.map (·.1):=by
 rw [UT];rfl
noncomputable def wr (st:aY) (f:Fc):Fc:=⟨f.k,f.as.map (ak st)⟩
noncomputable def aN:aY->List (Cs × Cs)->Option aY
 | st,[]=>some st
 | st,(a,b)::r=>if cv (ak (fG st [a,b]) a) (ak (fG st [a,b]) b) then none else aN (cw (fG st [a,b]) (ak (fG st [a,b]) a) (ak (fG st [a,b]) b)) r
noncomputable def lw (gU:List (Cs × Cs)) (st:aY) (l:List Fc):List Fc:=if gU=[] then l else l.map (wr st)
noncomputable def i0 (ks:List Kd) (ns:List Cs) (f:Fc):Prop:=(∃k∈ks,f.k=k.n/\f.as.length=k.c)/\∀a∈f.as,a∈ns
noncomputable def l6 (k:Kd):Bool:=!k.l
structure xp (ks:List Kd) (os ws:List Cs) (r:Rl):Prop where
 take:∀f∈r.take,i0 (ks.filter l6) (os++ws) f
 keep:∀f∈r.keep,i0 ks (os++ws) f
 put:∀f∈r.put,i0 (if r.take=[] then ks.filter (·.l) else ks) (opens (r.take++r.keep)++ws) f
 ar:∀k∈r.ar,k.l∈opens (r.take++r.keep)++ws/\k.r∈opens (r.take++r.keep)++ws
 tell:∀p∈r.tell,p.1∈opens (r.take++r.keep)++ws/\p.2∈opens (r.take++r.keep)++ws
 hd:1<=r.take.length+r.keep.length
 pC:zW 2 r
noncomputable def gA (r:Rl) (t:Cs):Rl:={ r with title:=t }
section
variable {ks:List Kd} {os ws:List Cs} {r:Rl} {t:Cs}
theorem i0.sub {ks tH:List Kd} {ns ns':List Cs} {f:Fc} (h:i0 tH ns f) (hs:∀k∈tH,k∈ks) (hn:∀n∈ns,n∈ns'):i0 ks ns' f:=by
 obtain⟨⟨k,hk,e⟩,ha⟩:=h;exact⟨⟨k,hs k hk,e⟩,fun a h=>hn a (ha a h)⟩
theorem jq {α β:Type} {f:α->β} {l:List α} (nd:(l.map f).Nodup) {j k:α} (hj:j∈l) (hk:k∈l) (e:f j=f k):j=k:=by
 induction l with
 | nil=>cases hk
 | cons a r ih =>
  rw [Uy,Vd] at nd;rcases UG.mp hj with z|z <;> rcases UG.mp hk with y|y
  ·rw [y,z]
  ·exact absurd (by rw [<- z,e];exact UE y) nd.1
  ·exact absurd (by rw [<- y,<- e];exact UE z) nd.1
  ·exact ih nd.2 z y
theorem xp.Sp (hG:KG ks) (hN:∀n∈os++ws,ah n=true) (hW:∀n∈ws,great n=false) (ht:aK t=true) (d:xp ks os ws r):nN ks (gA r t):=by
 have hd:∀f∈r.take++r.keep,i0 ks (os++ws) f:=fun f hf=>(Uz.mp hf).elim (fun h=>(d.take f h).sub (fun k hk=>(UZ.mp hk).1) fun _ h=>h) (d.keep f)
 have Ic:∀n∈opens (r.take++r.keep)++ws,ah n=true:=fun n hn=>(Uz.mp hn).elim (fun h=>by
  obtain⟨⟨f,hf,ha⟩,_⟩:=jQ h;exact hN n ((hd f hf).2 n ha)) fun h=>hN n (UB _ h)
 have fg:∀{ns f},(∀n∈ns,ah n=true)->i0 ks ns f->FG f/\aj ks f:=fun hn h=>by
  obtain⟨⟨k,hk,e1,e2⟩,ha⟩:=h;exact⟨⟨by rw [e1];exact(hG.ok k hk).1,fun a h=>hn a (ha a h),by rw [e2];exact(hG.ok k hk).2⟩,k,hk,e1.symm,e2⟩
 refine⟨ht,fun g hg=>(Uz.mp hg).elim (fun h=>fg hN (hd g h)) fun h=>fg Ic ((d.put g h).sub (fun k hk=>?_) fun _ h=>h),fun k hk=>⟨Ic _ (d.ar k hk).1,Ic _ (d.ar k hk).2⟩,fun k hk=>⟨Ic _ (d.tell k hk).1,Ic _ (d.tell k hk).2⟩,fun e e2=>?_,d.pC,fun f hf h=>?_,fun e f hf=>?_,fun a ha=>?_⟩
 ·split at hk
  ·exact(UZ.mp hk).1
  ·exact hk
 ·have:=d.hd
  rw [show r.take=[] from e,show r.keep=[] from e2] at this;cases this
 ·obtain⟨⟨k,hk,e,_⟩,_⟩:=d.take f hf
  obtain⟨j,hj,e2⟩:=Ur.mp h;obtain⟨hk,hp⟩:=UZ.mp hk;obtain⟨hj,hl⟩:=UZ.mp hj;rw [jq hG.nd hj hk (e2.trans e)] at hl;unfold l6 at hp;rw [hl] at hp;cases hp
 ·obtain⟨⟨k,hk,e1,_⟩,_⟩:=d.put f hf
  rw [if_pos (show r.take=[] from e)] at hk;rw [e1];exact UE hk
 ·have z:a∈opens (r.take++r.keep)++ws:=by
   unfold cB at ha;simp only [Uz,XG,UG,Wa,or_false] at ha;rcases ha with⟨k,hk,e|e⟩|⟨f,hf,h⟩|⟨p,hp,e|e⟩
   ·rw [e];exact(d.ar k hk).1
   ·rw [e];exact(d.ar k hk).2
   ·exact(d.put f hf).2 a h
   ·rw [e];exact(d.tell p hp).1
   ·rw [e];exact(d.tell p hp).2
  exact⟨Ic a z,fun g=>(Uz.mp z).elim id fun h=>by rw [hW a h] at g;cases g⟩
end
theorem KG.CS {ks tH:List Kd} (hG:KG ks) (p:tH.Perm ks):KG tH:=by
 refine⟨by rw [p.length_eq];exact hG.len,(p.map _).nodup_iff.mpr hG.nd,fun k hk=>hG.ok k (p.mem_iff.mp hk),?_,?_⟩
 ·obtain⟨k,hk,e⟩:=hG.yes
  exact⟨k,p.mem_iff.mpr hk,e⟩
 ·obtain⟨k,hk,e⟩:=hG.no
  exact⟨k,p.mem_iff.mpr hk,e⟩
theorem r7 {α:Type} (n:Nat) (l:List α):(l.drop n++l.take n).Perm l :=
 List.perm_append_comm.trans (by rw [Xj])
noncomputable def f9 (sm:Bool) (a b:Cs):Bool:=if sm=true then decide (a=b) else !great a && (!great b && !decide (a=b))
noncomputable def cZ (st:aY) (k:Lk):Bool:=f9 k.same (ak st k.l) (ak st k.r)
noncomputable def au (st:aY) (r:Rl):List Fc:=(r.take++r.keep).map (wr st)
noncomputable def cC (ks:List Kd) (m7 lJ hs:List Fc) (h:Fc):Bool:=if h.k∈ai ks then decide (h∈lJ) else decide (hs.countP (fun a=>decide (a=h))<=m7.countP (fun a=>decide (a=h)))
noncomputable def di (ks:List Kd) (st:aY) (r:Rl) (m7 lJ:List Fc):Bool:=(au st r).all (cC ks m7 lJ (au st r))
noncomputable def dB (st:aY) (r:Rl) (lJ:List Fc):Bool:=(r.put.any fun f=>!decide (wr st f∈lJ)) || (r.tell.any fun p=>!decide (ak st p.1=ak st p.2))
noncomputable def c7 (ks:List Kd) (st:aY) (r:Rl) (m7 lJ:List Fc) (G7:Bool):Bool:=!G7 && (r.ar.all (cZ st) && (di ks st r m7 lJ && (!decide (r.take=[]) || dB st r lJ)))
noncomputable def ao (r:Rl) (ns:List Cs):aY:=(opens (r.take++r.keep)).zip ns
noncomputable def cy (a:Cs):Prop:=ah a=true/\great a=decide (a.headD 0=78)
noncomputable def rT (i:Nat):Cs:=[114,48+i]
noncomputable def ay (rs:List Rl):List Rl:=rs.zipIdx.map fun x=>gA x.1 (rT x.2)
structure m8 (ks:List Kd) (ns ws:List Cs) (rs:List Rl):Prop where
 kg:KG ks
 n4:ns.length=4
 w2:ws.length=2
 xq:∀n∈ns++ws,cy n
 ng:∀n∈ns,great n=true
 wg:∀n∈ws,great n=false
 nd:(ns++ws).Nodup
 r2:rs.length=2
 rd:∀r∈rs,xp ks (ns.take 3) ws r
theorem kL {r:Rl} {ns:List Cs} (h:ns.length=(opens (r.take++r.keep)).length):(ao r ns).map (·.1)=opens (r.take++r.keep):=by
 unfold ao;rw [List.map_fst_zip (by omega)]
theorem Mb {st:aY} {n v:Cs} (h:gG st n=some v):v∈st.map (·.2):=by
 unfold gG at h;obtain⟨e,h1,h2⟩:=UA.mp h;rw [<- h2];exact UE (WK h1)
theorem CT {r:Rl} {ns:List Cs} {v:Cs} (h:v∈(ao r ns).map (·.2)):v∈ns:=by
 obtain⟨e,he,rfl⟩:=Ur.mp h;exact(Xf (show(e.1,e.2)∈_ from he)).2
theorem qc {rs:List Rl} {i:Nat} (h:i<rs.length):(ay rs)[i]?=some (gA rs[i] (rT i)):=by
 unfold ay;rw [UM,List.getElem?_zipIdx,Ge9 h];simp
section
variable {ks:List Kd} {ns ws:List Cs} {rs:List Rl} (h:m8 ks ns ws rs)
include h
theorem m8.nm:∀n∈ns.take 3++ws,ah n=true:=fun n hn=>(Uz.mp hn).elim (fun z=>(h.xq n (Uv _ (VW z))).1) fun z=>(h.xq n (UB _ z)).1
theorem m8.rl:∀r∈rs,∀i<2,nN ks (gA r (rT i)):=fun r hr i hi=>(h.rd r hr).Sp h.kg h.nm h.wg ((by decide +kernel:∀i<2,aK (rT i)=true) i hi)
theorem m8.N1:(ay rs).length<=2/\(∀r∈ay rs,nN ks r)/\((ay rs).map (·.title)).Nodup:=by
 have z:=h.rl
 match rs,h.r2 with
 | [a,b],_=>exact⟨UH 2,Xx.mpr ⟨z a (by simp) 0 (by decide),Xx.mpr ⟨z b (by simp) 1 (by decide),fun _ h=>nomatch h⟩⟩,show [rT 0,rT 1].Nodup by decide⟩
theorem m8.G8 {r:Rl} (hr:r∈rs):(opens (r.take++r.keep)).length<=3:=by
 have d:=h.rd r hr;have z:=oM _ (ns.take 3) (eg (r.take++r.keep)) fun x hx=>by
  obtain⟨⟨g,hg,Qf⟩,gr⟩:=jQ hx;have sO:x∈ns.take 3++ws:=(Uz.mp hg).elim (fun z=>(d.take g z).2 x Qf) fun z=>(d.keep g z).2 x Qf
  exact(Uz.mp sO).elim id fun z=>by rw [h.wg x z] at gr;cases gr
 rw [Vc] at z;omega
end
theorem vL {left bp ts:List Fc} (h:∀f,left.count f=bp.count f - ts.count f) {g:Fc} (hg:g∈left):g∈bp:=by
 have z:=h g;have z2:=Xb.mpr hg
 exact Xb.mp (by omega)
noncomputable def vM (st:aY) (p:Cs × Cs):Cs × Cs:=(ak st p.1,ak st p.2)
noncomputable def i8 (st:aY):Prop:=∀e∈st,cy e.1/\cy e.2
theorem i8.ak {st:aY} (h:i8 st) {a:Cs} (ha:cy a):cy (ak st a):=by
 unfold Bk.ak;cases Ie:gG st a with
 | none=>exact ha
 | some v =>
  unfold gG at Ie;obtain⟨e,h1,h2⟩:=UA.mp Ie;rw [<- h2];exact(h e (WK h1)).2
theorem i8.tell {st:aY} (h:i8 st) {p q:Cs} (hp:cy p) (hq:cy q):i8 (cw st p q):=by
 unfold cw;split
 ·exact h
 ·intro e he
  obtain⟨e',he',rfl⟩:=Ur.mp he;refine⟨(h e' he').1,?_⟩;unfold cu;dsimp only;split
  ·unfold Un.bK
   split
   ·exact hp
   ·split
    ·exact hq
    ·rcases Un.DZ (lt:=fw) p q with e|e
     ·rw [e];exact hp
     ·rw [e];exact hq
  ·exact(h e' he').2
theorem D0 {ks:List Kd} {st:aY} {r:Rl} {m7 lJ:List Fc} (h:di ks st r m7 lJ=true) (ht:∀f∈r.take,f.k∉ai ks):short m7 (r.take.map (wr st))=false:=by
 unfold short;rw [X3];intro f hf;unfold di at h;have sO:f∈au st r:=by
  unfold au;rw [UD];exact Uv _ hf
 have z:=Uo.mp h f sO;unfold cC at z;have hk:f.k∉ai ks:=by
  obtain⟨g,hg,rfl⟩:=Ur.mp hf;exact ht g hg
 rw [if_neg hk] at z;have z:=of_decide_eq_true z
 have e1:∀l:List Fc,l.countP (fun a=>decide (a=f))=l.count f:=fun l=>by
  unfold List.count;congr 1
 rw [e1,e1] at z;have e2:(r.take.map (wr st)).count f<=(au st r).count f:=by
  unfold au;rw [UD,VT];omega
 rw [decide_eq_true_eq];omega
theorem D3 {st:aY} {f:Fc} (h:∀a∈f.as,ak st a=a):wr st f=f:=by
 obtain⟨k,as⟩:=f;unfold wr;have e:as.map (ak st)=as:=by
  have z:=U5 (f:=ak st) (g:=id) (l:=as) h;rw [z,X8]
 show(⟨k,as.map (ak st)⟩:Fc)=_;rw [e]
theorem um {st:aY} {l:List Fc} (h:∀f∈l,wr st f=f):l.map (wr st)=l:=by
 have z:=U5 (f:=wr st) (g:=id) (l:=l) h;rw [z,X8]
end Bk
namespace M
open PySem
open Bk (Fc Kd Lk Rl)
noncomputable def kT (k:Kd):T:=.tup [.str k.n,.int k.c,.bl k.l]
noncomputable def n6 (k:Lk):T:=.tup [.str (Bk.fM k.same),.str k.l,.str k.r]
noncomputable def aR (r:Rl):T:=.obj "Rule" [("title",.str r.title),("taken",.lst (r.take.map fT)),("kept",.lst (r.keep.map fT)),("looks",.lst (r.ar.map lT)),("given",.lst (r.put.map fT)),("told",.lst (r.tell.map pT)),("names",.lst ((Bk.opens (r.take++r.keep)).map .str))]
noncomputable def lK (ks:List Kd) (rs:List Rl):T:=.obj "Book" [("kinds",.lst (ks.map kT)),("rules",.lst (rs.map aR))]
noncomputable def xT (r:Rl):T:=.tup [.lst (r.take.map fT),.lst (r.keep.map fT),.lst (r.ar.map n6),.lst (r.put.map fT),.lst (r.tell.map pT)]
noncomputable def bT (st:Bk.aY):T:=.aS (st.map fun p=>(.str p.1,.str p.2))
section
variable {L:aa} {f:Fc} {k:Kd} {p:Cs × Cs} {x y z u w:T} {r:List T}
theorem Sr:ix (fT f) (.int 0) L=.ok (.str f.k) L:=rfl
theorem Ss:ix (fT f) (.int 1) L=.ok (.tup (f.as.map .str)) L:=rfl
theorem Su:ix (kT k) (.int 0) L=.ok (.str k.n) L:=rfl
theorem Qg:ix (kT k) (.int 1) L=.ok (.int k.c) L:=rfl
theorem Sv:ix (kT k) (.int 2) L=.ok (.bl k.l) L:=rfl
theorem Sw:ix (pT p) (.int 0) L=.ok (.str p.1) L:=rfl
theorem Sx:ix (pT p) (.int 1) L=.ok (.str p.2) L:=rfl
theorem Sy {r:Rl}:ix (xT r) (.int 0) L=.ok (.lst (r.take.map fT)) L:=rfl
theorem Sz {r:Rl}:ix (xT r) (.int 1) L=.ok (.lst (r.keep.map fT)) L:=rfl
theorem SD {r:Rl}:ix (xT r) (.int 2) L=.ok (.lst (r.ar.map n6)) L:=rfl
theorem SF {r:Rl}:ix (xT r) (.int 3) L=.ok (.lst (r.put.map fT)) L:=rfl
theorem SG {r:Rl}:ix (xT r) (.int 4) L=.ok (.lst (r.tell.map pT)) L:=rfl
theorem SH {k:Lk}:ix (n6 k) (.int 0) L=.ok (.str (Bk.fM k.same)) L:=rfl
theorem SJ {k:Lk}:ix (n6 k) (.int 1) L=.ok (.str k.l) L:=rfl
theorem SK {k:Lk}:ix (n6 k) (.int 2) L=.ok (.str k.r) L:=rfl
theorem qd {xs:List T} {i:Nat} {x:T} (h:xs[i]?=some x):ix (.tup xs) (.int i) L=.ok x L:=by
 obtain⟨hi,e⟩:=UI.mp h;simp [ix,vw,place,hi,e,lift]
theorem N2:ix (.tup (x::r)) (.int 0) L=.ok x L:=qd (i:=0) rfl
theorem N3:ix (.tup (x::y::r)) (.int 1) L=.ok y L:=qd (i:=1) rfl
theorem N4:ix (.tup (x::y::z::r)) (.int 2) L=.ok z L:=qd (i:=2) rfl
theorem N5:ix (.tup (x::y::z::u::r)) (.int 3) L=.ok u L:=qd (i:=3) rfl
theorem G9:ix (.lst (x::r)) (.int 0) L=.ok x L:=dP (i:=0) rfl
theorem N6:ix (.lst (x::y::r)) (.int 1) L=.ok y L:=dP (i:=1) rfl
theorem N7:ix (.lst (x::y::z::r)) (.int 2) L=.ok z L:=dP (i:=2) rfl
theorem N8:ix (.lst (x::y::z::u::r)) (.int 3) L=.ok u L:=dP (i:=3) rfl
theorem N9:ix (.lst (x::y::z::u::w::r)) (.int 4) L=.ok w L:=dP (i:=4) rfl
theorem Oa {v:T}:ix (.lst (x::y::z::u::w::v::r)) (.int 5) L=.ok v L:=dP (i:=5) rfl
theorem SM {r:Rl}:fld "taken" (aR r) L=.ok (.lst (r.take.map fT)) L:=rfl
theorem SN {r:Rl}:fld "kept" (aR r) L=.ok (.lst (r.keep.map fT)) L:=rfl
theorem SO {r:Rl}:fld "looks" (aR r) L=.ok (.lst (r.ar.map lT)) L:=rfl
theorem SQ {r:Rl}:fld "given" (aR r) L=.ok (.lst (r.put.map fT)) L:=rfl
theorem SR {r:Rl}:fld "told" (aR r) L=.ok (.lst (r.tell.map pT)) L:=rfl
theorem SU {r:Rl}:fld "names" (aR r) L=.ok (.lst ((Bk.opens (r.take++r.keep)).map .str)) L:=rfl
theorem SV {r:Rl}:fld "title" (aR r) L=.ok (.str r.title) L:=rfl
theorem SW {k:Lk}:fld "left" (lT k) L=.ok (.str k.l) L:=by cases h:k.same <;> simp [lT,h,fld,vw,lift,Zk]
theorem SX {k:Lk}:fld "right" (lT k) L=.ok (.str k.r) L:=by
 have:(("right":Str) == "left")=false:=by decide
 cases h:k.same <;> simp [lT,h,fld,vw,lift,Zk,this]
theorem SY {ks:List Kd} {rs:List Rl}:fld "kinds" (lK ks rs) L=.ok (.lst (ks.map kT)) L:=rfl
theorem flb {ks:List Kd} {rs:List Rl}:fld "rules" (lK ks rs) L=.ok (.lst (rs.map aR)) L:=rfl
theorem vf:vw L (fT f)=fT f:=rfl
theorem vk:vw L (kT k)=kT k:=rfl
theorem vp:vw L (pT p)=pT p:=rfl
theorem vx {r:Rl}:vw L (xT r)=xT r:=rfl
theorem vr {r:Rl}:vw L (aR r)=aR r:=rfl
theorem dR {c:T}:at_ (c::L) L.length=some c:=if_pos rfl
theorem m9 {c d:T}:at_ (d::c::L) L.length=some c:=by simp [at_]
theorem Ob {c d e:T}:at_ (e::d::c::L) L.length=some c:=by
 unfold at_;rw [if_neg (by simp only [Ut];omega)];exact m9
theorem w6 {c d:T}:at_ (d::c::L) (L.length+1)=some d:=by simp [at_]
theorem Ko {c d e:T}:at_ (e::d::c::L) (L.length+1)=some d:=by
 unfold at_;rw [if_neg (by simp only [Ut];omega)];exact w6
theorem Kp {c d e:T}:at_ (e::d::c::L) (L.length+2)=some e:=if_pos rfl
theorem w7 {c d:T}:put (c::L) L.length d=d::L:=by simp [put]
theorem Kq {c d e:T}:put (d::c::L) L.length e=d::e::L:=by simp [put]
theorem Kr {c d e:T}:put (d::c::L) (L.length+1) e=e::c::L:=by simp [put]
theorem jr {n:Nat}:vw L (.ref n)=(at_ L n).getD .cm:=rfl
theorem fN {α:Type} {a b:α}:(some a).getD b=a:=rfl
end
theorem lr {α:Type} {n:Nat} {g:α->T} (h:∀x,lt n (g x)=true):∀l:List α,cK n (l.map g)=true
 | []=>rfl
 | x::l=>by rw [Uy,cK,h x,lr h l];rfl
theorem jS {n:Nat} (l:List Cs):cK n (l.map .str)=true:=lr (fun _=>rfl) l
theorem bh (n:Nat) (f:Fc):lt n (fT f)=true:=by simp [fT,lt,cK,jS]
theorem r9 (n:Nat) (f:Kd):lt n (kT f)=true:=by simp [kT,lt,cK]
theorem fy (n:Nat) (f:Cs × Cs):lt n (pT f)=true:=by simp [pT,lt,cK]
theorem oO (n:Nat) (f:Lk):lt n (lT f)=true:=by simp [lT,lt,nP]
theorem uo (n:Nat) (f:Lk):lt n (n6 f)=true:=by simp [n6,lt,cK]
theorem lt_str (n:Nat) (x:Cs):lt n (.str x)=true:=by simp [lt]
theorem lt_int (n:Nat) (x:Int):lt n (.int x)=true:=by simp [lt]
theorem av {α:Type} {n:Nat} {g:α->T} {l:List α} (h:∀n x,lt n (g x)=true):lt n (.lst (l.map g))=true:=by rw [lt];exact lr (h n) l
theorem cg {α:Type} {n:Nat} {g:α->T} {l:List α} (h:∀n x,lt n (g x)=true):lt n (.tup (l.map g))=true:=by rw [lt];exact lr (h n) l
theorem Ks (n:Nat) (r:Rl):lt n (xT r)=true:=by simp [xT,lt,cK,lr,bh,fy,uo]
theorem qe (n:Nat) (r:Rl):lt n (aR r)=true:=by simp [aR,lt,nP,lr,bh,fy,oO,jS]
theorem qg (n:Nat):∀st:Bk.aY,lt n (bT st)=true
 | []=>rfl
 | (a,b)::st=>by have:=qg n st;simp only [bT,lt,Uy,A9] at this ⊢;simp [lt,this]
theorem eB {L:aa} {c t:T} (h:lt L.length t=true):fin L t (c::L)=.ok t L:=zR (Ln:=[c]) h
theorem gC (L:aa):old L L:=fun _ _ e=>.inl e
theorem zZ {L Ln:aa} {c:T} {n:Nat} (ha:at_ (Ln++L) n=some c) (hn:L.length<=n) (h:lt L.length c=true):fin L (.ref n) (Ln++L)=.ok c L:=by
 have e:(Ln++L).drop ((Ln++L).length - L.length)=L:=by rw [Ul,YN,Ya]
 unfold fin;rw [e,if_pos (gC L)];unfold cz;have:¬ lt L.length (.ref n)=true:=by rw [lt];simp;omega
 rw [if_neg this];simp only [ha];unfold cz;rw [if_pos h];rfl
theorem fA {L:aa} {c:T} (h:lt L.length c=true):fin L (.ref L.length) (c::L)=.ok c L:=zZ (Ln:=[c]) dR (UH _) h
theorem Ha {L:aa} {c d:T} (h:lt L.length d=true):fin L (.ref (L.length+1)) (d::c::L)=.ok d L:=zZ (Ln:=[d,c]) w6 (Wv _) h
theorem Kt {a b:Cs} {L:aa}:Eo (.str a) (.str b) L=.ok (a == b) L:=rfl
theorem Ku {a b:Int} {L:aa}:Eo (.int a) (.int b) L=.ok (a == b) L:=rfl
theorem Kv {α:Type} {r:R α}:cx (0<=lim) r=r:=if_pos (U4 _)
theorem Kw {α:Type} {r:R α}:cx (0+1<=lim) r=r:=if_pos (by decide)
theorem Hb {α:Type} {r:R α}:cx (1<=lim) r=r:=if_pos (by decide)
theorem Kx {α:Type} {r:R α}:cx (2<=lim) r=r:=if_pos (by decide)
theorem Ky {α:Type} {r:R α}:cx (3<=lim) r=r:=if_pos (by decide)
theorem Kz {α:Type} {r:R α}:cx (4<=lim) r=r:=if_pos (by decide)
theorem KA {α:Type} {r:R α}:cx (5<=lim) r=r:=if_pos (by decide)
theorem KC {α:Type} {r:R α}:cx (6<=lim) r=r:=if_pos (by decide)
theorem Oc (n:Nat):(n:Int)+1=((n+1:Nat):Int):=rfl
theorem Od (n:Nat):(n:Int)+2=((n+2:Nat):Int):=rfl
theorem Oe:S ")"=[41]:=rfl
theorem Of:S "("=[40]:=rfl
theorem Og:S ","=[44]:=rfl
theorem Oh:S " "=[32]:=rfl
theorem Oi:S ":"=[58]:=rfl
theorem Oj:S ";"=[59]:=rfl
theorem Ol:S "="=[61]:=rfl
theorem Oo:S ""=[]:=rfl
theorem Oq:S "#"=[35]:=rfl
theorem KD {α:Type} {r:R α} [Decidable True]:cx True r=r:=if_pos trivial
theorem Ot {fz:Bool} {i j:Int} {L:aa}:bf fz .Add (.int i) (.int j) L=.ok (.int (i+j)) L:=rfl
theorem Ou {fz:Bool} {i j:Int} {L:aa}:bf fz .Sub (.int i) (.int j) L=.ok (.int (i - j)) L:=rfl
theorem Ov {fz:Bool} {i j:Int} {L:aa}:bf fz .Mult (.int i) (.int j) L=cx (uL i j) (.ok (.int (i * j)) L):=rfl
theorem Ow {fz:Bool} {i j:Int} {L:aa}:bf fz .FloorDiv (.int i) (.int j) L=cx (xu j) (.ok (.int (i / j)) L):=rfl
theorem Ox {fz:Bool} {i j:Int} {L:aa}:bf fz .Mod (.int i) (.int j) L=cx (0<j) (.ok (.int (i % j)) L):=rfl
theorem KH {fz:Bool} {a b:Cs} {L:aa}:bf fz .Add (.str a) (.str b) L=cx (a.length+b.length<=lim) (.ok (.str (a++b)) L):=rfl
theorem Oy {fz:Bool} {ch:Nat} {j:Int} {L:aa}:bf fz .Mult (.str [ch]) (.int j) L=cx (sS j) (.ok (.str (U3 j.toNat ch)) L):=rfl
theorem Oz {fz:Bool} {a b:List T} {L:aa}:bf fz .Add (.lst a) (.lst b) L=fF fz (a++b) L:=rfl
theorem D4 (a b:SE) (φ:Fr) (L:aa) {i j:Int} {L1 L2:aa} (ha:a φ L=.ok (.int i) L1) (hb:b φ L1=.ok (.int j) L2) (hi:sT i/\sT j):xw a b φ L=.ok (upTo i (j - i).toNat,fun _=>True) L2:=by
 unfold xw;rw [ha,aM,hb,aM];exact if_pos hi
theorem vN {n:Nat} (h:n<=1000000):sT n:=by unfold sT;constructor <;> omega
theorem OA {y:T} {xs:List T} {L:aa}:ix (.ref L.length) y (.lst xs::L)=ix (.lst xs) y (.lst xs::L):=by unfold ix;simp only [jr,dR,fN];rfl
theorem KI {fz:Bool} {a b:Option Int} {xs:List T} {L:aa}:jf fz (.ref L.length) a b (.lst xs::L)=jf fz (.lst xs) a b (.lst xs::L):=by unfold jf;simp only [jr,dR,fN];rfl
theorem OB {fz:Bool} {a b:Option Int} {xs:List T} {c:T} {L:aa}:jf fz (.ref (L.length+1)) a b (.lst xs::c::L)=jf fz (.lst xs) a b (.lst xs::c::L):=KI (L:=c::L)
theorem OC {c d e f:T} {L:aa}:put (e::d::c::L) (L.length+2) f=f::d::c::L:=w7 (L:=d::c::L)
theorem aC {α:Type} {c:Prop} {i:Decidable c} {r:R α} (h:c):@cx α c i r=r:=if_pos h
theorem KJ {a b:Cs}:(a != b) = !(a == b):=rfl
theorem OD {ch:Nat} {b:Cs} {L:aa}:nO (.str [ch]) (.str b) L=.ok (decide (ch∈b)) L:=rfl
theorem any_eq {α:Type} [DecidableEq α] {g:α->T} (hg:∀a b,eqT (g a) (g b)=decide (a=b)) (x:α):∀ys:List α,((ys.map g).any fun y=>eqT y (g x))=decide (x∈ys)
 | []=>by simp
 | y::ys=>by
  rw [Uy,List.any_cons,any_eq hg x ys,hg,<- Bool.decide_or];exact decide_eq_decide.mpr ⟨fun h=>h.elim (fun e=>by rw [e];exact Um) (Up _),fun h=>(UG.mp h).imp Eq.symm id⟩
theorem fO {α:Type} {g:α->T} {n:Nat} (h:∀a,dat n (g a)=true) (l:List α):(l.map g).all (dat n)=true:=by simp [h]
theorem D5 (a b:Cs):eqT (.str a) (.str b)=decide (a=b):=by
 show(a == b)=_;by_cases h:a=b <;> simp [h]
theorem D6 {α:Type} [DecidableEq α] {f:T->T->Bool} {g:α->T} (h:∀a b,f (g a) (g b)=decide (a=b)):∀a b:List α,nL f (a.map g) (b.map g)=decide (a=b)
 | [],[]=>by simp [nL]
 | [],_::_=>by simp [nL]
 | _::_,[]=>by simp [nL]
 | x::a,y::b=>by
  rw [Uy,Uy,nL,h,D6 h a b];by_cases h1:x=y <;> by_cases h2:a=b <;> simp [h1,h2]
theorem D7 (n:Nat) (a b:Cs):uK (n+1) (.str a) (.str b)=decide (a=b):=by
 show(a == b)=_;by_cases h:a=b <;> simp [h]
theorem se (a b:Fc):eqT (fT a) (fT b)=decide (a=b):=by
 obtain⟨k,as⟩:=a;obtain⟨k',as'⟩:=b;show(uK 7 (.str k) (.str k') && (nL (uK 6) (as.map .str) (as'.map .str) && true))=_
 rw [D7,D6 (D7 5)];by_cases h1:k=k' <;> by_cases h2:as=as' <;> simp [h1,h2]
theorem vO (n:Nat) (a:Cs):dat (n+1) (.str a)=true:=rfl
theorem jb (a:Fc):dat 8 (fT a)=true:=by
 show(dat 7 (.str a.k) && ((a.as.map .str).all (dat 6) && true))=true;rw [vO,fO (vO 5)];rfl
theorem CU {x:Cs} {ys:List Cs} {L:aa}:nO (.str x) (.lst (ys.map .str)) L=.ok (decide (x∈ys)) L:=by
 show cx _ _=_;rw [aV ⟨rfl,fO (vO 7) ys⟩,any_eq D5];exact congrArg (R.ok · L) (decide_eq_decide.mpr Iff.rfl)
theorem KL {x:Cs} {ys:List Cs} {L:aa}:nO (.str x) (.tup (ys.map .str)) L=.ok (decide (x∈ys)) L:=by
 show cx _ _=_;rw [aV ⟨rfl,fO (vO 7) ys⟩,any_eq D5];exact congrArg (R.ok · L) (decide_eq_decide.mpr Iff.rfl)
theorem OE {x:Cs} {t:T} {ys:List Cs} {L:aa} (h:vw L t=.lst (ys.map .str)):nO (.str x) t L=.ok (decide (x∈ys)) L:=by
 have:=CU (x:=x) (ys:=ys) (L:=L);unfold nO at this ⊢;rw [h];exact this
theorem KN {x:Fc} {t:T} {ys:List Fc} {L:aa} (h:vw L t=.lst (ys.map fT)):nO (fT x) t L=.ok (decide (x∈ys)) L:=by
 have:nO (fT x) (.lst (ys.map fT)) L=.ok (decide (x∈ys)) L:=by
  show cx _ _=_;rw [aV ⟨jb x,fO jb ys⟩,any_eq se]
 unfold nO at this ⊢;rw [h];exact this
theorem KO {x:Fc} {ys:List Fc} {L:aa}:nO (fT x) (.lst (ys.map fT)) L=.ok (decide (x∈ys)) L:=by
 show cx _ _=_;rw [aV ⟨jb x,fO jb ys⟩,any_eq se]
theorem KP {x:Fc} {ys:List Fc} {L:aa}:nO (fT x) (.tup (ys.map fT)) L=.ok (decide (x∈ys)) L:=by
 show cx _ _=_;rw [aV ⟨jb x,fO jb ys⟩,any_eq se]
section
variable {β:Type} {s:SI} {aZ:List (Option Nat)} {i:Nat} {ts:ST} {m:SE} {φ:Fr} {L:aa} {k:aa->Prop} {r:R T} {fz:Bool}
theorem dC (hc:comp fz s aZ (.one i) ts m φ L=r) (xs:List β) (enc:β->T) (p:β->Bool) (f:β->T) (hs:s φ L=.ok (xs.map enc,k) L) (hk:k L) (hl:xs.length<=lim)
  (ht:∀b∈xs,ts ((inner aZ φ).set i (some (enc b))) L=.ok (p b) L) (hm:∀b∈xs,p b=true->m ((inner aZ φ).set i (some (enc b))) L=.ok (f b) L):r=mk fz (.lst ((xs.filter p).map f)) L:=by
 subst hc;have key:∀(ys:List β) (acc:List T),(∀b∈ys,b∈xs)->acc.length+ys.length<=lim->compLoop k (.one i) ts m (inner aZ φ) (ys.map enc) acc L=.ok (acc++(ys.filter p).map f) L:=by
  intro ys;induction ys with
  | nil=>intro acc _ _;simp [compLoop,hk]
  | cons b ys ih =>
   intro acc hb hz;have hx:=hb b Um
   simp only [Ut] at hz;rw [Uy,compLoop,if_pos ⟨hk,by omega⟩];simp only [Tg.set,ht b hx,aM];cases hp:p b with
   | true=>rw [if_pos rfl,hm b hx hp,aM,ih _ (fun c hc=>hb c (Up _ hc)) (by simp;omega)];simp [hp]
   | false=>rw [if_neg (by simp),ih _ (fun c hc=>hb c (Up _ hc)) (by omega)];simp [hp]
 rw [comp,hs,aM,key xs [] (fun _ h=>h) (by simpa using hl),aM];rfl
theorem bj (hc:comp fz s aZ (.one i) yes m φ L=r) (xs:List β) (enc:β->T) (f:β->T) (hs:s φ L=.ok (xs.map enc,k) L) (hk:k L) (hl:xs.length<=lim)
  (hm:∀b∈xs,m ((inner aZ φ).set i (some (enc b))) L=.ok (f b) L):r=mk fz (.lst (xs.map f)) L:=by
 have:=dC hc xs enc (fun _=>true) f hs hk hl (fun _ _=>rfl) fun b hb _=>hm b hb
 rw [this,Yy.mpr (fun _ _=>rfl)]
end
noncomputable def yW (Q:Fr->aa->Prop) (R:T->aa->Prop) (B:Fr->aa->Prop):O->Prop
 | .nx φ L=>Q φ L
 | .ct φ L=>Q φ L
 | .rt t L=>R t L
 | .bk φ L=>B φ L
 | .bad=>False
theorem D8 {Q R B φ L}:yW Q R B (.nx φ L)=Q φ L:=rfl
theorem KQ {Q R B φ L}:yW Q R B (.ct φ L)=Q φ L:=rfl
theorem KR {Q R B t L}:yW Q R B (.rt t L)=R t L:=rfl
theorem KS {Q R B φ L}:yW Q R B (.bk φ L)=B φ L:=rfl
section
variable {β:Type} {k:aa->Prop} {tg:Tg} {b:SS} {φ:Fr} {L:aa} {o:O} {ts:List T}
theorem bA (ho:forL k tg b ts φ L=o) (xs:List β) (enc:β->T) (J:List β->Fr->aa->Prop) (P:O->Prop) (hx:ts=xs.map enc) (hJ:J xs φ L)
  (step:∀(J':List β->Fr->aa->Prop) (P':O->Prop),(∀{r φ L},J' r φ L=J r φ L)->(∀{o},P' o=P o)->∀x r φ L,J (x::r) φ L->k L/\∃φ1,tg.set (enc x) φ=some φ1/\yW (J' r) (fun t L=>P' (.rt t L)) (fun φ L=>P' (.nx φ L)) (b φ1 L))
  (done:∀φ L,J [] φ L->k L/\P (.nx φ L)):P o:=by
 subst ho hx
 replace step:=step J P rfl rfl
 induction xs generalizing φ L with
 | nil=>obtain⟨h1,h2⟩:=done φ L hJ;rw [Vy,forL,if_pos h1];exact h2
 | cons x r ih =>
  obtain⟨h1,φ1,h2,h3⟩:=step x r φ L hJ;rw [Uy,forL,if_pos h1];simp only [h2];cases e:b φ1 L with
  | nx φ2 L2=>rw [e] at h3;exact ih h3
  | ct φ2 L2=>rw [e] at h3;exact ih h3
  | rt t L2=>rw [e] at h3;exact h3
  | bk φ2 L2=>rw [e] at h3;exact h3
  | bad=>rw [e] at h3;exact h3.elim
theorem vP {kk:ST} {fuel:Nat} (ho:qD kk b fuel φ L=o) (J:Nat->Fr->aa->Prop) (P:O->Prop) {n:Nat} (hn:n<fuel) (hJ:J n φ L)
  (step:∀(J':Nat->Fr->aa->Prop) (P':O->Prop),(∀{r φ L},J' r φ L=J r φ L)->(∀{o},P' o=P o)->∀n φ L,J n φ L->(kk φ L=.ok false L/\P' (.nx φ L))\/(kk φ L=.ok true L/\yW (fun φ L=>∃m,m<n/\J' m φ L) (fun t L=>P' (.rt t L)) (fun φ L=>P' (.nx φ L)) (b φ L))):P o:=by
 subst ho
 replace step:=step J P rfl rfl
 induction fuel generalizing n φ L with
 | zero=>omega
 | succ fuel ih =>
  rw [qD];rcases step n φ L hJ with⟨h1,h2⟩|⟨h1,h3⟩
  ·simp only [h1,of_ok];exact h2
  ·simp only [h1,of_ok,if_true]
   cases e:b φ L with
   | nx φ2 L2=>rw [e] at h3;obtain⟨m,hm,hj⟩:=h3;exact ih (by omega) hj
   | ct φ2 L2=>rw [e] at h3;obtain⟨m,hm,hj⟩:=h3;exact ih (by omega) hj
   | rt t L2=>rw [e] at h3;exact h3
   | bk φ2 L2=>rw [e] at h3;exact h3
   | bad=>rw [e] at h3;exact h3.elim
end
theorem KU (n:Nat) (k:Int) (φ:Fr) (L:aa):vi n k φ L=(lift ((φ[n]?).join) L).bind fun x L1=>ix x (.int k) L1:=rfl
theorem ite_tt {α:Type} {a b:α}:(if true=true then a else b)=a:=rfl
theorem ite_ff {α:Type} {a b:α}:(if false=true then a else b)=b:=rfl
end M
section
open M
set_option hygiene false in
local macro_rules|`(tactic| simp_arith $[$d:discharger]? [$ls,*])=>`(tactic| simp $[$d:discharger]? only [↓ite_tt,↓ite_ff,KU,lq,ug,kC,Ib,Qc,NV,JY,GH,NW,GI,JZ,GJ,GK,Ka,GL,Kb,Kc,DW,Ke,GN,NY,zM,zN,Kf,GO,GP,GQ,Kg,Kh,Ki,zO,Kj,zP,Kk,Kl,GR,GS,GU,zQ,CM,CN,GV,GW,CO,CP,GX,GY,mW,mX,GZ,G3,G4,Du,WD,fF,_root_.M.mk,Ot,Ou,Ov,Ow,xu,sS,Ox,KH,Oy,Oz,_root_.M.cmp,Bi,LF,LG,LH,Ep,OD,CU,KL,KO,KP,_root_.M.vw,Dt,aM,of_ok,vG,CI,fk,GF,Tg.set,_root_.M.sets,bM,zL,CJ,CK,CL,GG,_root_.M.neg,ag,
 Ut,UW,Uy,Vy,Wi,Vq,U3,WW,Zv,WZ,List.set_cons_zero,List.set_cons_succ,if_true,reduceIte,UC,XY,Zw,Nat.zero_add,Sr,Ss,Su,Qg,Sv,Sw,Sx,Sy,Sz,SD,SF,SG,SH,SJ,SK,N2,N3,N4,N5,G9,N6,N7,N8,N9,Oa,SV,SM,SN,SO,SQ,SR,SU,SW,SX,SY,flb,vf,vk,vp,vx,vr,dR,m9,Ob,w6,Ko,Kp,w7,Kq,Kr,OC,OA,KI,OB,jr,fN,D8,KQ,KR,KS,_root_.M.inner,aI,cQ,iy,iR,pO,ku,lW,lV,gN,Bm,_root_.M.items,iY,Option.map_some,WD,Wm,W6,Lm9,Kt,Ku,Kv,Kw,Hb,Kx,Ky,Kz,KA,KC,Oc,Od,Oe,Of,Og,Oh,Oi,Oj,Ol,Oo,Oq,KJ,List.cons_beq_cons,Nat.reduceBEq,Xp,Zu,W3,X9,beq_self_eq_true,KD,Int.reduceLT,Int.reduceLE,Int.reduceNeg,Int.reducePow,Int.reduceToNat,uL,and_self,or_true,true_or,$ls,*])
local macro_rules|`(tactic| simp_arith)=>`(tactic| simp_arith [lq])
local macro_rules|`(tactic| simp_all_arith [$ls,*])=>`(tactic| simp_arith (disch:=first|assumption|(simp only [Ul,Ut,UW,Lm9,Vc,U9,lim] <;> omega)|omega) [aC,$ls,*])
local macro_rules|`(tactic| simp_all_arith)=>`(tactic| simp_all_arith [lq])
namespace da
open PySem M
noncomputable def jT:T:=.str (S "abcdefghijklmnopqrstuvwxyz")
noncomputable def jU:T:=.str (S "ABCDEFGHIJKLMNOPQRSTUVWXYZ")
noncomputable def kO:T:=.str (S "0123456789")
noncomputable def kU:T:=.int 12
noncomputable def bW:T:=.tup [.tup [],.tup [],.tup [],.bl true]
noncomputable def gW:T:=.str (S "(),:;=")
noncomputable def gY:T:=.tup [.str (S "passing"),.str (S "lasting")]
noncomputable def dj:T:=.str (S "rule")
noncomputable def bR:T:=.tup [.str (S "take"),.str (S "keep"),.str (S "look"),.str (S "put"),.str (S "tell")]
noncomputable def ni:T:=.tup [.str (S "0"),.str (S "1"),.str (S "2"),.str (S "3"),.str (S "4")]
noncomputable def bE:Fn:=run 2 2 (ab [iff (tv (b2 (v 1) (ae bM [v 0]) (cmp .Lt))) (ab [ret (b2 (v 0) (v 1) ix)]) (ab []),ret (c (.int 0))])
noncomputable def aH:Fn:=run 2 5 (ab [asg (.one 2) (b2 (b2 (b2 (v 0) (c (.int 2147483647)) (bf true .Mod)) (c (.int 48271)) (bf true .Mult)) (c (.int 2147483647)) (bf true .Mod)),asg (.one 3) (lst false []),cf (src (v 1)) (.one 4) (ab [gg (aU (aI) (v 3) [b2 (v 2) (v 4) (bf true .Mod)]),asg (.one 2) (b2 (v 2) (v 4) (bf true .FloorDiv))]),ret (v 3)])
noncomputable def bq:Fn:=run 2 4 (ab [asg (.one 2) (b2 (c (.int 1)) (b2 (v 0) (c (.int 5)) (bf true .Mod)) (bf true .Add)),asg (.one 3) (b2 (b2 (v 0) (c (.int 5)) (bf true .FloorDiv)) (v 2) (bf true .Mod)),ret (b2 (b2 (b2 (c (.str (S "m"))) (v 3) (bf true .Mult)) (b2 (c (.str (S "abcdefgh"))) (v 1) ix) (bf true .Add)) (b2 (c (.str (S "m"))) (b2 (b2 (v 2) (c (.int 1)) (bf true .Sub)) (v 3) (bf true .Sub)) (bf true .Mult)) (bf true .Add))])
noncomputable def eR:Fn:=run 1 3 (ab [asg (.one 1) (ae aH [v 0,lst true [c (.int 25),c (.int 2),c (.int 4),c (.int 2),c (.int 4)]]),asg (.one 2) (lst true [tup [ae bq [vi 1 0,c (.int 0)],vi 1 1,c (.bl false)],tup [ae bq [vi 1 0,c (.int 1)],b2 (tup [c (.int 0),c (.int 1),c (.int 2),c (.int 4)]) (vi 1 2) ix,c (.bl false)]]),asg (.one 2) (b2 (v 2) (lst true [tup [ae bq [vi 1 0,c (.int 2)],c (.int 2),c (.bl true)],tup [ae bq [vi 1 0,c (.int 3)],vi 1 3,c (.bl true)]]) (bf true .Add)),ret (b2 (sl true (v 2) (some (vi 1 4)) none) (sl true (v 2) none (some (vi 1 4))) (bf true .Add))])
noncomputable def aO:Fn:=run 3 6 (ab [asg (.one 3) (b2 (v 0) (b2 (v 1) (ae bM [v 0]) (bf true .Mod)) ix),asg (.one 1) (b2 (v 1) (ae bM [v 0]) (bf true .FloorDiv)),asg (.one 4) (lst false []),cf (xw (c (.int 0)) (vi 3 1)) (.one 5) (ab [gg (aU (aI) (v 4) [b2 (v 2) (b2 (v 1) (ae bM [v 2]) (bf true .Mod)) ix]),asg (.one 1) (b2 (v 1) (ae bM [v 2]) (bf true .FloorDiv))]),ret (tup [vi 3 0,ae iY [v 4]])])
noncomputable def dD:Fn:=run 3 8 (ab [asg (.one 3) (comp true (src (v 0)) [none,none] (.one 1) (eL (tv (vi 1 2))) (v 1)),asg (.one 4) (ae aH [v 1,lst true [c (.int 3),c (.int 3),c (.int 512),c (.int 512)]]),asg (.one 5) (ae aH [b2 (b2 (b2 (v 1) (c (.int 2147483629)) (bf true .Mod)) (c (.int 69621)) (bf true .Mult)) (c (.int 2147483629)) (bf true .Mod),lst true [c (.int 1024),c (.int 1024)]]),asg (.one 6) (sl true (lst true [ae aO [v 3,vi 4 2,v 2],ae aO [v 3,vi 4 3,v 2]]) none (some (vi 4 0))),asg (.one 7) (sl true (lst true [ae aO [v 0,vi 5 0,v 2],ae aO [v 0,vi 5 1,v 2]]) none (some (vi 4 1))),iff (tv (b2 (b2 (ae bM [v 6]) (ae bM [v 7]) (bf true .Add)) (c (.int 0)) (cmp .Eq))) (ab [asg (.one 7) (lst true [ae aO [v 0,vi 5 0,v 2]])]) (ab []),ret (tup [v 6,v 7])])
noncomputable def eS:Fn:=run 2 4 (ab [asg (.one 2) (ae aH [v 1,lst true [c (.int 3),c (.int 5),c (.int 5),c (.int 5),c (.int 5),c (.int 5)]]),asg (.one 3) (lst false [tup [c (.str (S "same")),b2 (v 0) (b2 (vi 2 1) (ae bM [v 0]) (bf true .Mod)) ix,b2 (v 0) (b2 (vi 2 2) (ae bM [v 0]) (bf true .Mod)) ix]]),iff (tv (b2 (vi 2 0) (c (.int 2)) (cmp .Lt))) (ab [asg (.one 3) (sl false (lst false [tup [c (.str (S "unlike")),b2 (vi 3 0) (c (.int 1)) ix,b2 (vi 3 0) (c (.int 2)) ix]]) none (some (vi 2 0)))]) (ab []),iff (tv (b2 (vi 2 3) (c (.int 2)) (cmp .Lt))) (ab [gg (aU (aI) (v 3) [tup [b2 (tup [c (.str (S "same")),c (.str (S "unlike"))]) (vi 2 3) ix,b2 (v 0) (b2 (vi 2 4) (ae bM [v 0]) (bf true .Mod)) ix,b2 (v 0) (b2 (vi 2 5) (ae bM [v 0]) (bf true .Mod)) ix]])]) (ab []),ret (v 3)])
noncomputable def cN:Fn:=run 1 4 (ab [asg (.one 1) (lst false []),cf (src (v 0)) (.one 2) (ab [cf (src (vi 2 1)) (.one 3) (ab [iff (jM [tv (b2 (vi 3 0) (c (.str (S "N"))) (cmp .Eq)),tv (b2 (v 3) (v 1) (cmp .NotIn))]) (ab [gg (aU (aI) (v 1) [v 3])]) (ab [])])]),ret (v 1)])
noncomputable def fP:Fn:=run 5 11 (ab [asg (.one 5) (ae dD [v 0,v 1,v 3]),asg (.one 6) (b2 (ae cN [b2 (vi 5 0) (vi 5 1) (bf true .Add)]) (v 4) (bf true .Add)),iff (tv (b2 (ae bM [vi 5 0]) (c (.int 0)) (cmp .Eq))) (ab [asg (.one 0) (comp true (src (v 0)) [none,none] (.one 1) (tv (vi 1 2)) (v 1))]) (ab []),asg (.one 7) (ae aH [v 2,lst true [c (.int 3),c (.int 2500),c (.int 2500)]]),asg (.one 8) (sl true (lst true [ae aO [v 0,vi 7 1,v 6],ae aO [v 0,vi 7 2,v 6]]) none (some (vi 7 0))),asg (.one 9) (ae eS [v 6,b2 (b2 (b2 (v 2) (c (.int 2147483629)) (bf true .Mod)) (c (.int 69621)) (bf true .Mult)) (c (.int 2147483629)) (bf true .Mod)]),asg (.one 7) (ae aH [b2 (b2 (b2 (v 2) (c (.int 2147483629)) (bf true .Mod)) (c (.int 40692)) (bf true .Mult)) (c (.int 2147483629)) (bf true .Mod),lst true [c (.int 2),c (.int 5),c (.int 5),c (.int 3),c (.int 5),c (.int 5)]]),asg (.one 10) (sl false (lst false [tup [b2 (v 6) (b2 (vi 7 1) (ae bM [v 6]) (bf true .Mod)) ix,b2 (v 6) (b2 (vi 7 2) (ae bM [v 6]) (bf true .Mod)) ix]]) none (some (vi 7 0))),iff (tv (b2 (vi 7 3) (c (.int 1)) (cmp .Eq))) (ab [gg (aU (aI) (v 10) [tup [b2 (v 6) (b2 (vi 7 4) (ae bM [v 6]) (bf true .Mod)) ix,b2 (v 6) (b2 (vi 7 5) (ae bM [v 6]) (bf true .Mod)) ix]])]) (ab []),ret (tup [vi 5 0,vi 5 1,v 9,v 8,v 10])])
noncomputable def eC:Fn:=run 1 9 (ab [asg (.one 1) (ae eR [ae bE [v 0,c (.int 0)]]),asg (.one 2) (b2 (ae bE [v 0,c (.int 1)]) (c (.int 25)) (bf true .Mod)),asg (.one 3) (comp true (xw (c (.int 0)) (c (.int 4))) [none,none,some 2] (.one 1) yes (b2 (c (.str (S "N"))) (ae bq [v 2,v 1]) (bf true .Add))),asg (.one 4) (lst true [ae bq [v 2,c (.int 4)],ae bq [v 2,c (.int 5)]]),asg (.one 5) (lst false []),cf (src (tup [c (.int 2),c (.int 4)])) (.one 6) (ab [asg (.one 7) (ae bE [v 0,v 6]),asg (.one 8) (ae bE [v 0,b2 (v 6) (c (.int 1)) (bf true .Add)]),gg (aU (aI) (v 5) [ae fP [v 1,v 7,v 8,b2 (sl true (v 3) none (some (c (.int 3)))) (sl true (v 4) none (some (c (.int 1)))) (bf true .Add),v 4]])]),ret (tup [v 1,v 3,v 4,v 5])])
noncomputable def fm:Fn:=run 2 2 (ab [ret (tup [vi 0 0,ae iY [comp true (src (vi 0 1)) [none,none,some 1] (.one 1) yes (aU (cQ) (v 2) [v 1,v 1])]])])
noncomputable def dS:Fn:=run 2 2 (ab [ret (aU (cQ) (v 1) [v 0,v 0])])
noncomputable def eT:Fn:=run 2 4 (ab [asg (.one 2) (ae dS [vi 0 1,v 1]),asg (.one 3) (ae dS [vi 0 2,v 1]),iff (tv (b2 (vi 0 0) (c (.str (S "same"))) (cmp .Eq))) (ab [ret (b2 (v 2) (v 3) (cmp .Eq))]) (ab []),ret (ky [b2 (vi 2 0) (c (.str (S "N"))) (cmp .NotEq),b2 (vi 3 0) (c (.str (S "N"))) (cmp .NotEq),b2 (v 2) (v 3) (cmp .NotEq)])])
noncomputable def cD:Fn:=run 4 9 (ab [asg (.one 4) (comp true (src (v 0)) [none,none] (.one 1) (tv (vi 1 2)) (vi 1 0)),asg (.one 6) (comp true (src (b2 (vi 2 0) (vi 2 1) (bf true .Add))) [none,none,some 3] (.one 1) yes (ae fm [v 1,v 2])),cf (src (v 6)) (.one 5) (ab [iff (jM [tv (b2 (vi 5 0) (v 4) (cmp .In)),tv (b2 (v 5) (vi 1 1) (cmp .NotIn))]) (ab [ret (c (.bl false))]) (ab []),iff (jM [tv (b2 (vi 5 0) (v 4) (cmp .NotIn)),tv (b2 (aU (iR) (vi 1 0) [v 5]) (aU (iR) (v 6) [v 5]) (cmp .Lt))]) (ab [ret (c (.bl false))]) (ab [])]),cf (src (vi 2 2)) (.one 7) (ab [iff (eL (tv (ae eT [v 7,v 3]))) (ab [ret (c (.bl false))]) (ab [])]),iff (vh [tv (vi 1 3),tv (b2 (ae bM [vi 2 0]) (c (.int 0)) (cmp .Gt))]) (ab [ret (mq (vi 1 3))]) (ab []),asg (.one 8) (comp true (src (vi 2 3)) [none,none,some 1,some 3] (.one 1) (tv (b2 (ae fm [v 1,v 3]) (vi 2 1) (cmp .NotIn))) (v 1)),asg (.one 8) (b2 (v 8) (comp true (src (vi 2 4)) [none,none,some 3] (.one 1) (tv (b2 (ae dS [vi 1 0,v 2]) (ae dS [vi 1 1,v 2]) (cmp .NotEq))) (v 1)) (bf true .Add)),ret (b2 (ae bM [v 8]) (c (.int 0)) (cmp .Gt))])
noncomputable def ba:Fn:=run 2 2 (ab [ret (comp true (src (b2 (vi 0 0) (vi 0 1) (bf true .Add))) [none,none,some 1] (.one 1) yes (ae fm [v 1,v 2]))])
noncomputable def bZ:Fn:=run 2 4 (ab [asg (.one 2) (ae jx [comp true (src (v 0)) [none,none] (.one 1) yes (tup [vi 1 0,vi 1 1])]),cf (src (v 1)) (.one 3) (ab [iff (tv (b2 (vi 3 0) (v 2) (cmp .NotIn))) (ab [gf]) (ab []),iff (tv (b2 (ae bM [vi 3 1]) (b2 (v 2) (vi 3 0) ix) (cmp .NotEq))) (ab [gf]) (ab [])])])
noncomputable def cb:Fn:=run 2 3 (ab [cf (src (v 1)) (.one 2) (ab [iff (tv (b2 (vi 2 0) (v 0) (cmp .In))) (ab [gf]) (ab [])])])
noncomputable def bc:Fn:=run 1 1 (ab [ret (b2 (vi 0 0) (c jU) (cmp .In))])
noncomputable def nj:Fn:=run 2 3 (ab [cf (src (v 1)) (.one 2) (ab [iff (tv (ae bc [v 2])) (ab [gg (aU (gN) (v 0) [v 2,v 2])]) (ab [])])])
noncomputable def dm:Fn:=run 2 5 (ab [iff (tv (b2 (ae bM [v 1]) (c (.int 0)) (cmp .Eq))) (ab [ret (ae (fo true) [v 0])]) (ab []),asg (.one 2) (wi false),cf (src (v 1)) (.one 3) (ab [qL (v 2) (v 3) (b2 (aU (cQ) (v 2) [v 3,c (.int 0)]) (c (.int 1)) (bf true .Add))]),asg (.one 4) (lst false []),cf (src (v 0)) (.one 3) (ab [iff (tv (b2 (aU (cQ) (v 2) [v 3,c (.int 0)]) (c (.int 0)) (cmp .Gt))) (ab [xx .Sub (v 2) (v 3) (c (.int 1))]) (ab [gg (aU (aI) (v 4) [v 3])])]),cf (src (v 1)) (.one 3) (ab [iff (tv (b2 (b2 (v 2) (v 3) ix) (c (.int 0)) (cmp .Gt))) (ab [gf]) (ab [])]),ret (v 4)])
noncomputable def jV:Fn:=run 2 2 (ab [iff (eL (tv (ae bc [v 0]))) (ab [ret (v 0)]) (ab []),iff (eL (tv (ae bc [v 1]))) (ab [ret (v 1)]) (ab []),ret (ae xy [v 0,v 1])])
noncomputable def fQ:Fn:=run 3 7 (ab [asg (.one 3) (aU (cQ) (v 0) [v 1,v 1]),asg (.one 4) (aU (cQ) (v 0) [v 2,v 2]),iff (tv (b2 (v 3) (v 4) (cmp .Eq))) (ab [ret (c (.bl true))]) (ab []),iff (jM [eL (tv (ae bc [v 3])),eL (tv (ae bc [v 4]))]) (ab [ret (c (.bl false))]) (ab []),asg (.one 5) (ae jV [v 3,v 4]),cf (src (ae (fo true) [v 0])) (.one 6) (ab [iff (tv (b2 (b2 (v 0) (v 6) ix) (tup [v 3,v 4]) (cmp .In))) (ab [qL (v 0) (v 6) (v 5)]) (ab [])]),ret (c (.bl true))])
noncomputable def bB:Fn:=run 2 2 (ab [ret (tup [vi 1 0,ae iY [comp true (src (vi 1 1)) [none,none,some 0] (.one 1) yes (aU (cQ) (v 2) [v 1,v 1])]])])
noncomputable def l9:Fn:=run 5 13 (ab [gg (ae bZ [v 0,v 2]),gg (ae bZ [v 0,v 3]),asg (.one 5) (comp true (src (v 0)) [none,none] (.one 1) (tv (vi 1 2)) (vi 1 0)),gg (ae cb [v 5,v 2]),iff (tv (vi 1 3)) (ab [ret (c bW)]) (ab []),asg (.one 6) (ae jx [vi 1 2]),asg (.one 8) (ae dm [vi 1 0,comp true (src (v 2)) [none,none,some 6] (.one 1) yes (ae bB [v 2,v 1])]),cf (src (v 3)) (.one 7) (ab [gg (ae nj [v 6,vi 7 1])]),cf (src (v 4)) (.one 9) (ab [gg (ae nj [v 6,v 9]),iff (eL (tv (ae fQ [v 6,vi 9 0,vi 9 1]))) (ab [ret (c bW)]) (ab [])]),asg (.one 10) (ae (fo true) [vi 1 1]),iff (tv (b2 (ae bM [v 4]) (c (.int 0)) (cmp .Gt))) (ab [asg (.one 8) (comp true (src (v 8)) [none,none,some 6] (.one 1) yes (ae bB [v 2,v 1])),asg (.one 10) (comp true (src (v 10)) [none,none,some 6] (.one 1) yes (ae bB [v 2,v 1]))]) (ab []),asg (.one 11) (comp true (src (v 3)) [none,none,some 6] (.one 1) yes (ae bB [v 2,v 1])),asg (.one 12) (b2 (v 8) (comp true (src (v 11)) [none,none,some 5] (.one 1) (tv (b2 (vi 1 0) (v 2) (cmp .NotIn))) (v 1)) (bf true .Add)),asg (.one 10) (b2 (v 10) (comp true (src (v 11)) [none,none,some 5] (.one 1) (tv (b2 (vi 1 0) (v 2) (cmp .In))) (v 1)) (bf true .Add)),ret (tup [ae iY [ae (iw true) [v 12]],ae iY [ae (mJ true) [v 10]],ae iY [ae (kr true) [v 6]],c (.bl false)])])
noncomputable def cE:Fn:=run 2 2 (ab [ret (tup [aU (cQ) (v 0) [vi 1 0,vi 1 0],aU (cQ) (v 0) [vi 1 1,vi 1 1]])])
noncomputable def jW:Fn:=run 3 7 (ab [asg (.one 3) (b2 (b1 (v 0) (fld "rules")) (vi 2 0) ix),asg (.one 4) (ae ia [b1 (v 3) (fld "names"),vi 2 1]),asg (.one 5) (comp true (src (b1 (v 3) (fld "taken"))) [none,none,some 4] (.one 1) yes (ae bB [v 2,v 1])),asg (.one 6) (comp true (src (b1 (v 3) (fld "given"))) [none,none,some 4] (.one 1) yes (ae bB [v 2,v 1])),ret (ae l9 [b1 (v 0) (fld "kinds"),v 1,v 5,v 6,comp true (src (b1 (v 3) (fld "told"))) [none,none,some 4] (.one 1) yes (ae cE [v 2,v 1])])])
noncomputable def iT:Fn:=run 3 4 (ab [iff (tv (ae wj [comp true (src (b1 (v 0) (fld "given"))) [none,none,some 2,some 1] (.one 1) yes (b2 (ae bB [v 3,v 1]) (v 2) (cmp .NotIn))])) (ab [ret (c (.bl true))]) (ab []),asg (.one 3) (comp true (src (b1 (v 0) (fld "told"))) [none,none,some 1] (.one 1) yes (ae cE [v 2,v 1])),ret (ae wj [comp true (src (v 3)) [none,none] (.one 1) yes (b2 (vi 1 0) (vi 1 1) (cmp .NotEq))])])
noncomputable def eU:Fn:=run 2 2 (ab [iff (vh [tv (b2 (vi 1 0) (c (.int 0)) (cmp .Lt)),tv (b2 (vi 1 0) (ae bM [b1 (v 0) (fld "rules")]) (cmp .GtE))]) (ab [gf]) (ab []),iff (tv (b2 (ae bM [vi 1 1]) (ae bM [b1 (b2 (b1 (v 0) (fld "rules")) (vi 1 0) ix) (fld "names")]) (cmp .NotEq))) (ab [gf]) (ab [])])
noncomputable def dU:Fn:=run 4 7 (ab [asg (.one 4) (comp true (src (v 0)) [none,none] (.one 1) (tv (vi 1 2)) (vi 1 0)),asg (.one 5) (comp true (src (b2 (b1 (v 1) (fld "taken")) (b1 (v 1) (fld "kept")) (bf true .Add))) [none,none,some 2] (.one 1) yes (ae bB [v 2,v 1])),cf (src (v 5)) (.one 6) (ab [iff (tv (b2 (vi 6 0) (v 4) (cmp .In))) (ab [iff (tv (b2 (v 6) (vi 3 1) (cmp .NotIn))) (ab [ret (c (.bl false))]) (ab [])]) (ab [iff (tv (b2 (aU (iR) (vi 3 0) [v 6]) (aU (iR) (v 5) [v 6]) (cmp .Lt))) (ab [ret (c (.bl false))]) (ab [])])]),ret (c (.bl true))])
noncomputable def cO:Fn:=run 3 3 (ab [ret (b2 (v 1) (v 2) (cmp .Eq))])
noncomputable def bL:Fn:=run 3 3 (ab [ret (ky [mq (ae bc [v 1]),mq (ae bc [v 2]),b2 (v 1) (v 2) (cmp .NotEq)])])
noncomputable def eV:Fn:=run 2 2 (ab [ret (ae qM [comp true (src (b1 (v 0) (fld "looks"))) [none,none,some 1] (.one 1) yes (oY "holds" (fun y=>([("Unlike",bL),("Same",cO)]:List (Str × Fn)).lookup y) (v 1) [aU (cQ) (v 2) [b1 (v 1) (fld "left"),b1 (v 1) (fld "left")],aU (cQ) (v 2) [b1 (v 1) (fld "right"),b1 (v 1) (fld "right")]])])])
noncomputable def bS:Fn:=run 1 1 (ab [ret (b2 (ae bM [b1 (v 0) (fld "taken")]) (c (.int 0)) (cmp .Eq))])
noncomputable def fB:Fn:=run 3 5 (ab [gg (ae eU [v 0,v 2]),iff (tv (vi 1 3)) (ab [ret (c (.bl false))]) (ab []),asg (.one 3) (b2 (b1 (v 0) (fld "rules")) (vi 2 0) ix),asg (.one 4) (ae ia [b1 (v 3) (fld "names"),vi 2 1]),iff (vh [eL (tv (ae eV [v 3,v 4])),eL (tv (ae dU [b1 (v 0) (fld "kinds"),v 3,v 4,v 1]))]) (ab [ret (c (.bl false))]) (ab []),ret (Bg [mq (oY "calls" (fun y=>([("Rule",bS)]:List (Str × Fn)).lookup y) (v 3) []),ae iT [v 3,v 4,vi 1 1]])])
noncomputable def dW:Fn:=run 3 3 (ab [iff (eL (tv (ae fB [v 0,v 1,v 2]))) (ab [gf]) (ab []),ret (ae jW [v 0,v 1,v 2])])
noncomputable def bF:Fn:=run 4 6 (ab [iff (tv (vi 2 3)) (ab [ret (v 2)]) (ab []),asg (.one 4) (ae jx [vi 2 2]),asg (.one 5) (tup [vi 3 0,ae iY [comp true (src (vi 3 1)) [none,none,some 4] (.one 1) yes (aU (cQ) (v 2) [v 1,v 1])]]),iff (tv (ae fB [v 0,v 2,v 5])) (ab [ret (ae dW [v 0,v 2,v 5])]) (ab []),iff (tv (b2 (ae bM [b2 (b2 (v 1) (vi 3 0) ix) (c (.int 0)) ix]) (c (.int 0)) (cmp .Gt))) (ab [ret (c .cm)]) (ab []),ret (v 2)])
noncomputable def dn:Fn:=run 3 7 (ab [asg (.one 3) (comp true (src (v 0)) [none,none] (.one 1) (tv (vi 1 2)) (vi 1 0)),asg (.one 4) (lst false []),cf (src (v 1)) (.one 5) (ab [iff (jM [tv (b2 (vi 5 0) (v 3) (cmp .In)),tv (b2 (v 5) (v 4) (cmp .NotIn))]) (ab [gg (aU (aI) (v 4) [v 5])]) (ab [])]),asg (.one 6) (ae (iw true) [comp true (src (v 1)) [none,none,some 3] (.one 1) (tv (b2 (vi 1 0) (v 2) (cmp .NotIn))) (v 1)]),ret (tup [ae iY [v 6],ae iY [ae (iw true) [v 4]],ae iY [ae (iw true) [v 2]],c (.bl false)])])
noncomputable def eD:Fn:=run 1 1 (ab [ret (comp true (src (sl true (v 0) (some (c (.int 1))) none)) [none,none] (.one 1) yes (tup [v 1,v 1]))])
noncomputable def cF:Fn:=run 3 4 (ab [asg (.one 3) (b2 (v 0) (v 1) ix),ret (tup [v 1,ae iY [comp true (src (ae cN [b2 (vi 3 0) (vi 3 1) (bf true .Add)])) [none,none,some 2] (.one 1) yes (b2 (v 2) (v 1) ix)]])])
noncomputable def cG:Fn:=run 1 1 (ab [iff (tv (b2 (ae bM [vi 0 1]) (c (.int 0)) (cmp .Eq))) (ab [ret (vi 0 0)]) (ab []),ret (b2 (b2 (b2 (vi 0 0) (c (.str (S "("))) (bf true .Add)) (aU (ku) (c (.str (S ","))) [ae (fo true) [vi 0 1]]) (bf true .Add)) (c (.str (S ")"))) (bf true .Add))])
noncomputable def aP:Fn:=run 2 2 (ab [iff (tv (b2 (ae bM [v 1]) (c (.int 0)) (cmp .Eq))) (ab [ret (lst true [])]) (ab []),ret (lst true [b2 (b2 (v 0) (c (.str (S " "))) (bf true .Add)) (aU (ku) (c (.str (S ", "))) [v 1]) (bf true .Add)])])
noncomputable def eE:Fn:=run 2 8 (ab [asg (.one 2) (lst false []),cf (src (v 0)) (.one 3) (ab [asg (.one 4) (c (.str (S "passing "))),iff (tv (vi 3 2)) (ab [asg (.one 4) (c (.str (S "lasting ")))]) (ab []),gg (aU (aI) (v 2) [b2 (b2 (b2 (v 4) (vi 3 0) (bf true .Add)) (c (.str (S " "))) (bf true .Add)) (ae sW [vi 3 1]) (bf true .Add)])]),cf (LK (v 1)) (.many [5,6]) (ab [asg (.one 7) (ae aP [c (.str (S "take")),comp true (src (vi 6 0)) [none,none] (.one 1) yes (ae cG [v 1])]),asg (.one 7) (b2 (v 7) (ae aP [c (.str (S "keep")),comp true (src (vi 6 1)) [none,none] (.one 1) yes (ae cG [v 1])]) (bf true .Add)),asg (.one 7) (b2 (v 7) (ae aP [c (.str (S "look")),comp true (src (vi 6 2)) [none,none] (.one 1) yes (b2 (b2 (b2 (b2 (vi 1 1) (c (.str (S " "))) (bf true .Add)) (vi 1 0) (bf true .Add)) (c (.str (S " "))) (bf true .Add)) (vi 1 2) (bf true .Add))]) (bf true .Add)),asg (.one 7) (b2 (v 7) (ae aP [c (.str (S "put")),comp true (src (vi 6 3)) [none,none] (.one 1) yes (ae cG [v 1])]) (bf true .Add)),asg (.one 7) (b2 (v 7) (ae aP [c (.str (S "tell")),comp true (src (vi 6 4)) [none,none] (.one 1) yes (b2 (b2 (vi 1 0) (c (.str (S " = "))) (bf true .Add)) (vi 1 1) (bf true .Add))]) (bf true .Add)),gg (aU (aI) (v 2) [b2 (b2 (b2 (c (.str (S "rule r"))) (ae sW [v 5]) (bf true .Add)) (c (.str (S ": "))) (bf true .Add)) (aU (ku) (c (.str (S "; "))) [v 7]) (bf true .Add)])]),ret (aU (ku) (c (.str (S "\n"))) [v 2])])
noncomputable def bJ:Fn:=run 3 4 (ab [asg (.one 3) (ae cN [b2 (vi 0 0) (vi 0 1) (bf true .Add)]),ret (ae ia [v 3,comp true (src (sl true (v 1) none (some (ae bM [v 3])))) [none,none,some 2] (.one 1) yes (b2 (v 2) (v 1) ix)])])
noncomputable def eW:Fn:=run 1 4 (ab [asg (.one 1) (wi false),cf (src (v 0)) (.one 2) (ab [cf (src (vi 2 1)) (.one 3) (ab [iff (tv (ae bc [v 3])) (ab [qL (v 1) (v 3) (c (.bl true))]) (ab [])])]),ret (ae (fo true) [v 1])])
noncomputable def iE:Fn:=run 3 3 (ab [jg (v 0) "title" (v 1),jg (v 0) "taken" (aU (cQ) (v 2) [c (.str (S "take")),lst true []]),jg (v 0) "kept" (aU (cQ) (v 2) [c (.str (S "keep")),lst true []]),jg (v 0) "looks" (aU (cQ) (v 2) [c (.str (S "look")),lst true []]),jg (v 0) "given" (aU (cQ) (v 2) [c (.str (S "put")),lst true []]),jg (v 0) "told" (aU (cQ) (v 2) [c (.str (S "tell")),lst true []]),jg (v 0) "names" (ae eW [b2 (b1 (v 0) (fld "taken")) (b1 (v 0) (fld "kept")) (bf true .Add)])])
noncomputable def ur:Fn:=make "Rule" iE
noncomputable def cH:Fn:=run 1 1 (ab [ret (Bg [b2 (v 0) (c jT) (cmp .In),b2 (v 0) (c jU) (cmp .In),b2 (v 0) (c kO) (cmp .In)])])
noncomputable def gZ:Fn:=run 2 3 (ab [asg (.one 2) (v 1),qD (jM [tv (b2 (v 2) (ae bM [v 0]) (cmp .Lt)),tv (ae cH [b2 (v 0) (v 2) ix])]) (ab [aug .Add 2 (c (.int 1))]) lim,ret (v 2)])
noncomputable def jX:Fn:=run 2 6 (ab [asg (.one 2) (lst false []),asg (.one 3) (c (.int 0)),qD (tv (b2 (v 3) (ae bM [v 0]) (cmp .Lt))) (ab [asg (.one 4) (ae gZ [v 0,v 3]),iff (tv (b2 (v 4) (v 3) (cmp .Gt))) (ab [gg (aU (aI) (v 2) [sl true (v 0) (some (v 3)) (some (v 4))]),asg (.one 3) (v 4),cnt]) (ab []),asg (.one 5) (b2 (v 0) (v 3) ix),iff (tv (b2 (v 5) (v 1) (cmp .In))) (ab [gg (aU (aI) (v 2) [v 5])]) (ab [iff (tv (b2 (v 5) (c (.str (S " "))) (cmp .NotEq))) (ab [gf]) (ab [])]),aug .Add 3 (c (.int 1))]) lim,ret (v 2)])
noncomputable def dX:Fn:=run 1 1 (ab [ret (ae jX [v 0,c gW])])
noncomputable def dT:Fn:=run 1 1 (ab [ret (ky [wh .LtE .LtE (c (.int 1)) (ae bM [v 0]) (c kU),ae qM [comp true (src (v 0)) [none,none] (.one 1) yes (ae cH [v 1])]])])
noncomputable def bD:Fn:=run 1 1 (ab [ret (ky [ae dT [v 0],b2 (vi 0 0) (c jT) (cmp .In)])])
noncomputable def fR:Fn:=run 1 1 (ab [iff (vh [tv (b2 (ae bM [v 0]) (c (.int 3)) (cmp .NotEq)),tv (b2 (vi 0 0) (c gY) (cmp .NotIn))]) (ab [gf]) (ab []),iff (eL (tv (ae bD [vi 0 1]))) (ab [gf]) (ab []),iff (tv (b2 (vi 0 2) (c ni) (cmp .NotIn))) (ab [gf]) (ab []),ret (tup [vi 0 1,ae wm [vi 0 2],b2 (vi 0 0) (c (.str (S "lasting"))) (cmp .Eq)])])
noncomputable def fE:Fn:=run 2 4 (ab [asg (.one 2) (lst false [lst false []]),cf (src (v 0)) (.one 3) (ab [iff (tv (b2 (v 3) (v 1) (cmp .Eq))) (ab [gg (aU (aI) (v 2) [lst false []])]) (ab [gg (aU (aI) (b2 (v 2) (b1 (c (.int 1)) neg) ix) [v 3])])]),ret (v 2)])
noncomputable def aJ:Fn:=run 2 2 (ab [iff (tv (b2 (v 1) (ae bM [v 0]) (cmp .Lt))) (ab [ret (b2 (v 0) (v 1) ix)]) (ab []),ret (c (.str (S "")))])
noncomputable def dq:Fn:=run 3 3 (ab [jg (v 0) "left" (v 1),jg (v 0) "right" (v 2)])
noncomputable def z6:Fn:=make "Same" dq
noncomputable def sf:Fn:=make "Unlike" dq
noncomputable def bG:Fn:=run 1 1 (ab [iff (vh [tv (b2 (ae bM [v 0]) (c (.int 3)) (cmp .NotEq)),eL (tv (ae dT [vi 0 0])),eL (tv (ae dT [vi 0 2]))]) (ab [gf]) (ab [])])
noncomputable def fS:Fn:=run 1 1 (ab [gg (ae bG [v 0]),iff (tv (b2 (vi 0 1) (c (.str (S "same"))) (cmp .Eq))) (ab [ret (ae z6 [vi 0 0,vi 0 2])]) (ab []),iff (tv (b2 (vi 0 1) (c (.str (S "unlike"))) (cmp .Eq))) (ab [ret (ae sf [vi 0 0,vi 0 2])]) (ab []),gf])
noncomputable def dE:Fn:=run 1 1 (ab [ret (comp true (src (ae fE [v 0,c (.str (S ","))])) [none,none] (.one 1) yes (ae fS [v 1]))])
noncomputable def fU:Fn:=run 1 1 (ab [gg (ae bG [v 0]),iff (tv (b2 (vi 0 1) (c (.str (S "="))) (cmp .NotEq))) (ab [gf]) (ab []),ret (tup [vi 0 0,vi 0 2])])
noncomputable def dF:Fn:=run 1 1 (ab [ret (comp true (src (ae fE [v 0,c (.str (S ","))])) [none,none] (.one 1) yes (ae fU [v 1]))])
noncomputable def dG:Fn:=run 2 5 (ab [asg (.one 2) (lst false []),iff (tv (b2 (ae aJ [v 0,v 1]) (c (.str (S ")"))) (cmp .Eq))) (ab [ret (tup [tup [],b2 (v 1) (c (.int 1)) (bf true .Add)])]) (ab []),qD (tv (c (.bl true))) (ab [asg (.one 3) (ae aJ [v 0,v 1]),iff (eL (tv (ae dT [v 3]))) (ab [gf]) (ab []),gg (aU (aI) (v 2) [v 3]),asg (.one 4) (ae aJ [v 0,b2 (v 1) (c (.int 1)) (bf true .Add)]),aug .Add 1 (c (.int 2)),iff (tv (b2 (v 4) (c (.str (S ")"))) (cmp .Eq))) (ab [ret (tup [ae iY [v 2],v 1])]) (ab []),iff (tv (b2 (v 4) (c (.str (S ","))) (cmp .NotEq))) (ab [gf]) (ab [])]) lim])
noncomputable def iU:Fn:=run 2 4 (ab [asg (.one 2) (ae aJ [v 0,v 1]),iff (eL (tv (ae bD [v 2]))) (ab [gf]) (ab []),iff (tv (b2 (ae aJ [v 0,b2 (v 1) (c (.int 1)) (bf true .Add)]) (c (.str (S "("))) (cmp .NotEq))) (ab [ret (tup [tup [v 2,tup []],b2 (v 1) (c (.int 1)) (bf true .Add)])]) (ab []),asg (.one 3) (ae dG [v 0,b2 (v 1) (c (.int 2)) (bf true .Add)]),ret (tup [tup [v 2,vi 3 0],vi 3 1])])
noncomputable def dH:Fn:=run 1 4 (ab [asg (.one 1) (lst false []),asg (.one 2) (c (.int 0)),qD (tv (c (.bl true))) (ab [asg (.one 3) (ae iU [v 0,v 2]),gg (aU (aI) (v 1) [vi 3 0]),asg (.one 2) (vi 3 1),iff (tv (b2 (v 2) (ae bM [v 0]) (cmp .Eq))) (ab [ret (v 1)]) (ab []),iff (tv (b2 (b2 (v 0) (v 2) ix) (c (.str (S ","))) (cmp .NotEq))) (ab [gf]) (ab []),aug .Add 2 (c (.int 1))]) lim])
noncomputable def cJ:Fn:=run 2 2 (ab [iff (tv (b2 (v 0) (c (.str (S "look"))) (cmp .Eq))) (ab [ret (ae dE [v 1])]) (ab []),iff (tv (b2 (v 0) (c (.str (S "tell"))) (cmp .Eq))) (ab [ret (ae dF [v 1])]) (ab []),ret (ae dH [v 1])])
noncomputable def fV:Fn:=run 1 6 (ab [asg (.one 1) (ae aJ [v 0,c (.int 1)]),iff (vh [tv (b2 (ae aJ [v 0,c (.int 0)]) (c dj) (cmp .NotEq)),eL (tv (ae bD [v 1])),tv (b2 (ae aJ [v 0,c (.int 2)]) (c (.str (S ":"))) (cmp .NotEq))]) (ab [gf]) (ab []),asg (.one 2) (wi false),asg (.one 3) (c (.int 0)),cf (src (ae fE [sl true (v 0) (some (c (.int 3))) none,c (.str (S ";"))])) (.one 4) (ab [asg (.one 5) (ae aJ [v 4,c (.int 0)]),iff (tv (b2 (v 5) (sl true (c bR) (some (v 3)) none) (cmp .NotIn))) (ab [gf]) (ab []),asg (.one 3) (b2 (aU (pO) (c bR) [v 5]) (c (.int 1)) (bf true .Add)),qL (v 2) (v 5) (ae cJ [v 5,sl true (v 4) (some (c (.int 1))) none])]),iff (jM [tv (b2 (c (.str (S "take"))) (v 2) (cmp .NotIn)),tv (b2 (c (.str (S "keep"))) (v 2) (cmp .NotIn))]) (ab [gf]) (ab []),ret (tup [v 1,v 2])])
noncomputable def du:Fn:=run 3 6 (ab [asg (.one 3) (ae dX [v 2]),iff (tv (b2 (vi 3 0) (c dj) (cmp .Eq))) (ab [asg (.one 4) (ae fV [v 3]),iff (tv (b2 (vi 4 0) (comp true (src (v 1)) [none,none] (.one 1) yes (b1 (v 1) (fld "title"))) (cmp .In))) (ab [gf]) (ab []),gg (aU (aI) (v 1) [ae ur [vi 4 0,vi 4 1]])]) (ab [asg (.one 5) (ae fR [v 3]),iff (tv (b2 (vi 5 0) (comp true (src (v 0)) [none,none] (.one 1) yes (vi 1 0)) (cmp .In))) (ab [gf]) (ab []),gg (aU (aI) (v 0) [v 5])])])
noncomputable def iV:Fn:=run 1 2 (ab [asg (.one 1) (aU (lW) (v 0) [c (.str (S " "))]),ret (ky [b2 (v 1) (c (.str (S ""))) (cmp .NotEq),b2 (vi 1 0) (c (.str (S "#"))) (cmp .NotEq)])])
noncomputable def eX:Fn:=run 1 1 (ab [ret (comp true (src (aU (lV true) (v 0) [c (.str (S "\n"))])) [none,none] (.one 1) (tv (ae iV [v 1])) (v 1))])
noncomputable def iF:Fn:=run 3 3 (ab [jg (v 0) "kinds" (v 1),jg (v 0) "rules" (v 2)])
noncomputable def uu:Fn:=make "Book" iF
noncomputable def dI:Fn:=run 2 3 (ab [iff (eL (tv (oY "calls" (fun y=>([("Rule",bS)]:List (Str × Fn)).lookup y) (v 1) []))) (ab [ret (c .cm)]) (ab []),cf (src (b1 (v 1) (fld "given"))) (.one 2) (ab [iff (tv (b2 (vi 2 0) (v 0) (cmp .NotIn))) (ab [gf]) (ab [])])])
noncomputable def eY:Fn:=run 1 5 (ab [asg (.one 1) (lst false []),cf (src (b1 (v 0) (fld "looks"))) (.one 2) (ab [gg (aU (iy) (v 1) [lst true [b1 (v 2) (fld "left"),b1 (v 2) (fld "right")]])]),cf (src (b1 (v 0) (fld "given"))) (.one 3) (ab [gg (aU (iy) (v 1) [vi 3 1])]),cf (src (b1 (v 0) (fld "told"))) (.one 4) (ab [gg (aU (iy) (v 1) [v 4])]),ret (v 1)])
noncomputable def dY:Fn:=run 1 2 (ab [cf (src (ae eY [v 0])) (.one 1) (ab [iff (jM [tv (ae bc [v 1]),tv (b2 (v 1) (b1 (v 0) (fld "names")) (cmp .NotIn))]) (ab [gf]) (ab [])])])
noncomputable def eZ:Fn:=run 2 4 (ab [asg (.one 2) (comp true (src (v 0)) [none,none] (.one 1) (tv (vi 1 2)) (vi 1 0)),cf (src (v 1)) (.one 3) (ab [gg (ae bZ [v 0,b2 (b2 (b1 (v 3) (fld "taken")) (b1 (v 3) (fld "kept")) (bf true .Add)) (b1 (v 3) (fld "given")) (bf true .Add)]),gg (ae cb [v 2,b1 (v 3) (fld "taken")]),gg (ae dI [v 2,v 3]),gg (ae dY [v 3])]),ret (ae uu [v 0,v 1])])
noncomputable def eF:Fn:=run 1 4 (ab [asg (.one 1) (lst false []),asg (.one 2) (lst false []),cf (src (ae eX [v 0])) (.one 3) (ab [gg (ae du [v 1,v 2,v 3])]),ret (ae eZ [v 1,v 2])])
noncomputable def si:Fn:=run 1 17 (ab [asg (.many [1,2,3,4]) (ae eC [v 0]),asg (.one 5) (ae aH [ae bE [v 0,c (.int 6)],lst true [c (.int 2),c (.int 4),c (.int 4),c (.int 4),c (.int 2),c (.int 4),c (.int 4),c (.int 4)]]),asg (.one 6) (ae eF [ae eE [v 1,v 4]]),asg (.one 7) (b2 (sl true (v 3) none (some (c (.int 1)))) (sl true (v 2) (some (c (.int 1))) none) (bf true .Add)),asg (.one 8) (ae bJ [b2 (v 4) (vi 5 0) ix,sl true (v 5) (some (c (.int 1))) (some (c (.int 4))),v 7]),asg (.one 9) (ae bJ [b2 (v 4) (vi 5 4) ix,sl true (v 5) (some (c (.int 5))) none,v 7]),asg (.one 10) (b2 (ae ba [b2 (v 4) (vi 5 0) ix,v 8]) (ae ba [b2 (v 4) (vi 5 4) ix,v 9]) (bf false .Add)),cf (src (sl true (v 0) (some (c (.int 7))) (some (c (.int 19))))) (.one 11) (ab [gg (aU (aI) (v 10) [ae aO [v 1,b2 (ae aH [v 11,lst true [c (.int 1024)]]) (c (.int 0)) ix,v 7]])]),asg (.one 12) (ae dn [v 1,v 10,ae eD [v 2]]),asg (.one 13) (ae cF [v 4,vi 5 0,v 8]),asg (.one 14) (ae cF [v 4,vi 5 4,v 9]),iff (vh [eL (tv (ae fB [v 6,v 12,v 13])),eL (tv (ae fB [v 6,v 12,v 14]))]) (ab [ret (Bg [mq (ae cD [v 1,v 12,b2 (v 4) (vi 5 0) ix,v 8]),mq (ae cD [v 1,v 12,b2 (v 4) (vi 5 4) ix,v 9])])]) (ab []),asg (.one 15) (ae bF [v 6,v 4,ae dW [v 6,v 12,v 13],v 14]),asg (.one 16) (ae bF [v 6,v 4,ae dW [v 6,v 12,v 14],v 13]),ret (ky [b2 (v 15) (c .cm) (cmp .IsNot),b2 (v 15) (v 16) (cmp .Eq)])])
end da
namespace da
open PySem M
open lZ (bV ah aQ)
open Bk (Fc Kd Lk Rl aK great aA)
theorem uw (ch:Nat) (L:aa):cH [.str [ch]] L=.ok (.bl (bV ch)) L:=by
 unfold cH jT jU kO bV;show _=R.ok (T.bl (decide (ch∈S "abcdefghijklmnopqrstuvwxyz") || (decide (ch∈S "ABCDEFGHIJKLMNOPQRSTUVWXYZ") || decide (ch∈S "0123456789")))) L
 simp_arith;cases decide (ch∈S "abcdefghijklmnopqrstuvwxyz") <;> cases decide (ch∈S "ABCDEFGHIJKLMNOPQRSTUVWXYZ") <;> simp [zL]
theorem nq (s:Cs) (hs:s.length<=100000) (L:aa):dT [.str s] L=.ok (.bl (ah s)) L:=by
 have hb:qM [.lst (s.map fun ch=>.bl (bV ch))] L=.ok (.bl (s.all bV)) L:=by
  have:=mapM_map (f:=HT) (g:=fun ch=>T.bl (bV ch)) (h:=bV) (fun _=>rfl) s;simp [qM,Es,vw,this,lift,ZS,VR]
 unfold dT kU ah;by_cases h1:1<=s.length
 ·by_cases h2:s.length<=12
  ·simp_arith [show(1:Int)<=s.length by omega,show(s.length:Int)<=12 by omega,h1,h2,decide_true]
   rw [bj rfl s (fun ch=>.str [ch]) (fun ch=>.bl (bV ch)) (by exact rfl) (by exact aq) (by exact UO hs (by decide)) (by exact fun b _=>by simp_arith [uw])];simp_arith [hb]
  ·simp_arith [show(1:Int)<=s.length by omega,show ¬ (s.length:Int)<=12 by omega,h1,h2,decide_true,decide_false]
 ·simp_arith [show ¬ (1:Int)<=s.length by omega,h1,decide_false]
theorem oP {s:Cs} (h:1<=s.length) (L:aa):ix (.str s) (.int 0) L=.ok (.str [s.headD 0]) L:=by
 cases s with
 | nil=>cases h
 | cons a r=>simp [ix,vw,place,lift]
theorem mc (s:Cs) (hs:s.length<=100000) (L:aa):bD [.str s] L=.ok (.bl (aK s)) L:=by
 unfold bD jT aK;simp_arith [nq s hs];cases h:ah s with
 | false=>simp_arith
 | true=>simp_arith [oP (aA h).1];rfl
theorem fc (s:Cs) (hs:1<=s.length) (L:aa):bc [.str s] L=.ok (.bl (great s)) L:=by
 unfold bc jU great;simp_arith [oP hs];rfl
theorem fe (ps:List Cs) (n:Nat) (L:aa):aJ [.lst (ps.map .str),.int n] L=.ok (.str (ps.getD n [])) L:=by
 unfold aJ;simp_arith;by_cases h:n<ps.length
 ·have e:(ps.map T.str)[n]?=some (.str (ps.getD n [])):=by simp [Gd9,h]
  simp only [show(n:Int)<ps.length by omega,decide_true];simp_arith [dP e]
 ·simp only [show ¬ (n:Int)<ps.length by omega,decide_false];simp_arith;simp [Gd9,h]
theorem g6 (c:Nat) (r:Cs):aQ (c::r)=if bV c=true then aQ r+1 else 0:=by
 unfold aQ;rw [aac];split <;> simp
theorem KV (p:Cs) (s:Nat) (L:aa) (hs:s<=p.length) (hl:p.length<=100000):gZ [.str p,.int s] L=.ok (.int ((s+aQ (p.drop s):Nat):Int)) L:=by
 unfold gZ;simp_arith;generalize ho:qD _ _ _ _ _=o;have h:=vP ho (fun n φ L'=>L'=L/\∃e:Nat,n=p.length - e/\e<=p.length/\e+aQ (p.drop e)=s+aQ (p.drop s)/\φ=[some (.str p),some (.int s),some (.int e)])
  (fun o=>o=.nx [some (.str p),some (.int s),some (.int ((s+aQ (p.drop s):Nat):Int))] L) (n:=p.length - s) (by unfold lim;omega) ⟨rfl,s,rfl,hs,rfl,rfl⟩ fun _ _ eJ eP n φ L' h=>by
   obtain⟨rfl,e,rfl,he,e1,rfl⟩:=h;by_cases bN:e<p.length
   ·have hd:p.drop e=p[e]::p.drop (e+1):=VZ bN
    rw [hd,g6] at e1;have hx:ix (.str p) (.int e) L'=.ok (.str [p[e]]) L':=by rw [uh (by omega) (by omega)];simp [bN]
    cases hg:bV p[e] with
    | true =>
     rw [hg,if_pos rfl] at e1;refine .inr ⟨?_,?_⟩
     ·simp_arith [eJ,eP,hx,uw,show(e:Int)<p.length by omega,decide_true,hg]
     ·simp_arith [eJ,eP];exact⟨p.length - (e+1),by omega,trivial,e+1,rfl,by omega,by omega,by simp⟩
    | false =>
     rw [hg,if_neg (by simp)] at e1;refine .inl ⟨?_,?_⟩
     ·simp_arith [eJ,eP,hx,uw,show(e:Int)<p.length by omega,decide_true,hg]
     ·rw [eP,<- e1];rfl
   ·refine .inl ⟨?_,?_⟩
    ·simp_arith [eJ,eP,show ¬ (e:Int)<p.length by omega,decide_false]
    ·rw [W9 (by omega)] at e1;rw [eP,<- e1];rfl
 subst h;simp_arith
end da
namespace da
open PySem M
open lZ (bV ah aQ)
open Bk (Fc Kd Lk Rl aK great aA W Tk DY between cY glue FG)
theorem bw {α β:Type} (f:α->β) (l:List α) (x:α):l.map f++[f x]=(l++[x]).map f:=by simp
theorem CV {p:Cs} {a n:Nat} (h:a+n<=p.length) (L:aa):jf true (.str p) (some (a:Int)) (some ((a+n:Nat):Int)) L=.ok (.str ((p.drop a).take n)) L:=by
 unfold jf vw;simp only [];rw [aV ⟨by omega,by omega,by omega⟩,show((a:Int)).toNat=a by omega,show(((a+n:Nat):Int) - (a:Int)).toNat=n by omega]
theorem z7 {p:Cs} {ts:List Cs} (L:aa) (hp:p.length<=20000) (hk:Tk DY p ts):jX [.str p,.str (S "(),:;=")] L=.ok (.lst (ts.map .str)) L:=by
 have MW:=hk.len;unfold jX;simp_arith;generalize ho:qD _ _ _ _ _=o;have h:=vP ho (fun n φ L'=>∃(e:Nat) (done rest:List Cs) (o4 o5:Option T),n=p.length - e/\e<=p.length/\Tk DY (p.drop e) rest/\done++rest=ts/\φ=[some (.str p),some (.str (S "(),:;=")),some (.ref L.length),some (.int e),o4,o5]/\L'=.lst (done.map .str)::L)
  (fun o=>∃o3 o4 o5,o=.nx [some (.str p),some (.str (S "(),:;=")),some (.ref L.length),o3,o4,o5] (.lst (ts.map .str)::L)) (n:=p.length) (by unfold lim;omega) ⟨0,[],ts,none,none,rfl,U4 _,hk,rfl,rfl,rfl⟩ fun _ _ eJ eP n φ L' h=>by
   obtain⟨e,done,rest,o4,o5,rfl,he,ht,rfl,rfl,rfl⟩:=h;have hlen:done.length<lim:=by
    rw [Ul] at MW;unfold lim;omega
   have ee:=KV p e (.lst (done.map .str)::L) he (by omega);have sg:∀{c r},p.drop e=c::r->e<p.length/\p.drop (e+1)=r/\ix (.str p) (.int e) (.lst (done.map .str)::L)=.ok (.str [c]) (.lst (done.map .str)::L):=fun {c r} hd=>by
    have bN:e<p.length:=by have:=congrArg Ww hd;simp at this;omega
    have h2:=(VZ bN).symm.trans hd;refine⟨bN,(Wo h2).2,?_⟩;rw [uh (by omega) (by omega)];simp [bN,(Wo h2).1]
   generalize hd:p.drop e=d at ht ee;cases ht with
   | nil =>
    have:=congrArg Ww hd;rw [U9] at this;refine .inl ⟨by simp_arith [eJ,eP,show ¬ (e:Int)<p.length by simp at this;omega,decide_false],?_⟩;rw [eP,UQ];exact⟨_,_,_,rfl⟩
   | sp t =>
    obtain⟨bN,hr,hx⟩:=sg hd;rw [g6,Bk.rR] at ee;refine .inr ⟨by simp_arith [eJ,eP,show(e:Int)<p.length by omega,decide_true],?_⟩;simp_arith [eJ,eP,ee,UC,if_false,YK,Zo,decide_false,hx,show(32∈S "(),:;=")=False from eq_false (by decide)];exact⟨p.length - (e+1),by omega,e+1,done,rest,_,_,rfl,bN,hr ▸ t,rfl,rfl,rfl⟩
   | @mk c _ q hc t =>
    obtain⟨bN,hr,hx⟩:=sg hd;rw [g6,show bV c=false from(by decide +kernel:∀c∈DY,bV c=false) c hc] at ee;refine .inr ⟨by simp_arith [eJ,eP,show(e:Int)<p.length by omega,decide_true],?_⟩;simp_arith [eJ,eP,ee,UC,if_false,YK,Zo,decide_false,hx,show(c∈S "(),:;=")=True from eq_true hc,decide_true,aV hlen,bw];exact⟨p.length - (e+1),by omega,e+1,done++[[c]],q,_,_,rfl,bN,hr ▸ t,by simp,rfl,rfl⟩
   | @name nm r q hn hs t =>
    have h1:=aA hn;have hl:=congrArg Ww hd
    rw [U9,Ul] at hl;have en:aQ (nm++r)=nm.length:=by
     unfold aQ;rw [List.takeWhile_append_of_pos (Bk.DX hn)];cases r with
     | nil=>simp
     | cons c r=>rw [aac,hs c rfl];simp
    rw [en] at ee;refine .inr ⟨by simp_arith [eJ,eP,show(e:Int)<p.length by omega,decide_true],?_⟩;simp_arith [eJ,eP,ee,show((e:Nat):Int)<((e+nm.length:Nat):Int) by omega,decide_true,CV (p:=p) (a:=e) (n:=nm.length) (by omega),hd,List.take_left,aV hlen,bw];exact⟨p.length - (e+nm.length),by omega,e+nm.length,done++[nm],q,_,_,rfl,by omega,by rw [<- Yb,hd,Ya];exact t,by simp,rfl,rfl⟩
 obtain⟨o3,o4,o5,rfl⟩:=h;simp_arith;exact fA (av fun _ _=>rfl)
theorem gD {ps:List Cs} {q i:Nat} {d:List Cs} (h:ps.drop q=d):ps.getD (q+i) []=d.getD i []:=by
 rw [<- h,Gd9,Gd9,List.getElem?_drop]
theorem vQ:∀as:List Cs,as.length<=(between as).length
 | []=>UH _
 | [_]=>Wv _
 | _::b::t=>Zy (Nat.le_succ_of_le (vQ (b::t)))
theorem Hc (ps as:List Cs) (p:Nat) (r:List Cs) (L:aa) (hl:ps.length<=20000) (h0:as≠[]) (hn:∀a∈as,ah a=true) (hd:ps.drop p=between as++r) :
  dG [.lst (ps.map .str),.int p] L=.ok (.tup [.tup (as.map .str),.int ((p+(between as).length:Nat):Int)]) L:=by
 have S3:(ps.getD p [] == [41])=false:=by
  obtain⟨a,t,rfl⟩:=Xu h0;rw [show ps.getD p []=a from(gD (i:=0) hd).trans (by cases t <;> rfl)];exact beq_eq_false_iff_ne.mpr fun e=>absurd (hn a Um) (by rw [e];decide +kernel)
 have ha:as.length<lim:=by
  have z:=congrArg Ww hd;have:=vQ as
  rw [U9,Ul] at z;unfold lim;omega
 unfold dG;simp_arith [fe,S3];generalize ho:qD _ _ _ _ _=o;have h:=vP ho (fun m φ L'=>∃(q:Nat) (done as':List Cs) (o3 o4:Option T),m=as'.length/\as'≠[]/\ps.drop q=between as'++r/\done++as'=as/\q+(between as').length=p+(between as).length/\φ=[some (.lst (ps.map .str)),some (.int q),some (.ref L.length),o3,o4]/\L'=.lst (done.map .str)::L)
  (fun o=>o=.rt (.tup [.tup (as.map .str),.int ((p+(between as).length:Nat):Int)]) (.lst (as.map .str)::L)) (n:=as.length) ha ⟨p,[],as,none,none,rfl,h0,hd,rfl,rfl,rfl,rfl⟩ fun _ _ eJ eP m φ L' h=>by
   obtain⟨q,done,as',o3,o4,rfl,h0,hd,e1,e2,rfl,rfl⟩:=h;obtain⟨nm,t,rfl⟩:=Xu h0;have hm:=hn nm (by rw [<- e1];simp)
   have Bh:=fe ps q (.lst (done.map .str)::L);have vR:=fe ps (q+1) (.lst ((done++[nm]).map .str)::L)
   rw [show ps.getD q []=nm from(gD (i:=0) hd).trans (by cases t <;> rfl)] at Bh;have hb:done.length<lim:=by
    rw [<- e1,Ul] at ha;omega
   refine .inr ⟨rfl,?_⟩;cases t with
   | nil =>
    rw [show ps.getD (q+1) []=[41] from gD (i:=1) hd] at vR;simp_arith [eJ,eP,Bh,nq nm (UO (aA hm).2 (by decide)),hm,aV hb,bw,vR];rw [e1,<- e2];rfl
   | cons b t =>
    rw [show ps.getD (q+1) []=[44] from gD (i:=1) hd] at vR;simp_arith [eJ,eP,Bh,nq nm (UO (aA hm).2 (by decide)),hm,aV hb,bw,vR];exact⟨(b::t).length,by simp,q+2,done++[nm],b::t,_,_,rfl,XH _ _,by rw [<- Yb,hd];rfl,by simpa using e1,by rw [<- e2];show q+2+_=q+(_+2);omega,rfl,rfl⟩
 subst h;simp_arith;exact eB (by simp [lt,cK,jS])
theorem oQ (ps:List Cs) (f:Fc) (p:Nat) (r:List Cs) (L:aa) (hl:ps.length<=20000) (hf:FG f) (hr:r.getD 0 []≠[40]) (hd:ps.drop p=cY f++r) :
  iU [.lst (ps.map .str),.int p] L=.ok (.tup [fT f,.int ((p+(cY f).length:Nat):Int)]) L:=by
 have Bh:=fe ps p L;have vR:=fe ps (p+1) L
 have hk:=aA (Bk.bu hf.k);unfold cY at hd;unfold iU cY;by_cases h0:f.as=[]
 ·rw [if_pos h0] at hd ⊢
  rw [show ps.getD p []=f.k from gD (i:=0) hd] at Bh;rw [show ps.getD (p+1) []=r.getD 0 [] from gD (i:=1) hd] at vR;simp_arith [Bh,mc f.k (UO hk.2 (by decide)),hf.k,vR,beq_eq_false_iff_ne.mpr hr,show fT f=.tup [.str f.k,.tup []] by unfold fT;rw [h0];rfl];exact fin_same (by simp [lt,cK])
 ·rw [if_neg h0] at hd ⊢
  rw [show ps.getD p []=f.k from gD (i:=0) hd] at Bh;rw [show ps.getD (p+1) []=[40] from gD (i:=1) hd] at vR;simp_arith [Bh,mc f.k (UO hk.2 (by decide)),hf.k,vR,Hc ps f.as (p+2) r L hl h0 hf.as (by rw [<- Yb,hd];rfl)];rw [show p+2+(between f.as).length=p+(f.k::[40]::between f.as).length by simp only [Ut];omega];exact fin_same (by simp [fT,lt,cK,jS])
end da
namespace da
open PySem M
open lZ (bV ah aQ)
open Bk (Fc Kd Lk Rl aK great aA cY glue FG)
theorem CW {α:Type} {m:Cs} (l:List α) (g:α->List Cs) (hg:∀x,g x≠[]):l.length<=(glue m (l.map g)).length:=by
 induction l with
 | nil=>exact UH _
 | cons a t ih =>
  have:=XJ.mpr (hg a);cases t with
  | nil=>exact this
  | cons b t =>
   show _<=(g a++m::glue m ((b::t).map g)).length;rw [Ul,Ut,Ut (as:=glue _ _)];omega
theorem KW (fs:List Fc) (L:aa) (h0:fs≠[]) (hl:(glue [44] (fs.map cY)).length<=20000) (hf:∀f∈fs,FG f):dH [.lst ((glue [44] (fs.map cY)).map .str)] L=.ok (.lst (fs.map fT)) L:=by
 generalize B1:glue [44] (fs.map cY)=ps at hl;have hn:fs.length<lim:=by
  have:=CW (m:=[44]) fs cY fun f=>by unfold cY;split <;> exact XH _ _
  rw [B1] at this;unfold lim;omega
 unfold dH;simp_arith;generalize ho:qD _ _ _ _ _=o;have h:=vP ho (fun m φ L'=>∃(q:Nat) (done rest:List Fc) (o3:Option T),m=rest.length/\rest≠[]/\ps.drop q=glue [44] (rest.map cY)/\done++rest=fs/\φ=[some (.lst (ps.map .str)),some (.ref L.length),some (.int q),o3]/\L'=.lst (done.map fT)::L)
  (fun o=>o=.rt (.ref L.length) (.lst (fs.map fT)::L)) (n:=fs.length) hn ⟨0,[],fs,none,rfl,h0,B1.symm,rfl,rfl,rfl⟩ fun _ _ eJ eP m φ L' h=>by
   obtain⟨q,done,rest,o3,rfl,h0,hd,e1,rfl,rfl⟩:=h;obtain⟨f,t,rfl⟩:=Xu h0;have hF:=hf f (by rw [<- e1];simp)
   have hb:done.length<lim:=by rw [<- e1,Ul] at hn;omega
   have hq:=congrArg Ww hd;rw [U9] at hq;have wJ:1<=(cY f).length:=by unfold cY;split <;> simp
   refine .inr ⟨rfl,?_⟩;cases t with
   | nil =>
    have hq:ps.length - q=(cY f).length:=hq;simp_arith [eJ,eP,oQ ps f q [] _ hl hF (by simp) (by rw [hd,UQ];rfl),aV hb,bw,show(((q+(cY f).length:Nat):Int) == (ps.length:Int))=true from by simp;omega,e1]
   | cons g t =>
    have hq:ps.length - q=(cY f++[44]::glue [44] ((g::t).map cY)).length:=hq;have hd:ps.drop q=cY f++[44]::glue [44] ((g::t).map cY):=hd
    rw [Ul,Ut] at hq;have hr:ps.drop (q+(cY f).length)=[44]::glue [44] ((g::t).map cY):=by rw [<- Yb,hd,Ya]
    have hg:(ps.map T.str)[q+(cY f).length]?=some (.str [44]):=by
     rw [UM,<- YK (q+(cY f).length),<- List.getElem?_drop,hr];rfl
    simp_arith [eJ,eP,oQ ps f q _ _ hl hF (by simp) hd,aV hb,bw,show(((q+(cY f).length:Nat):Int) == (ps.length:Int))=false from by simp;omega,dP hg];exact⟨(g::t).length,by simp,q+(cY f).length+1,done++[f],g::t,_,rfl,XH _ _,by rw [<- Yb,hr];rfl,by simpa using e1,rfl,rfl⟩
 subst h;simp_arith;exact fA (av bh)
noncomputable def bz (m:Cs):List Cs->List (List Cs)->List (List Cs)
 | [],rows=>rows
 | p::r,rows=>bz m r (if p=m then rows++[[]] else rows.dropLast++[rows.getLastD []++[p]])
theorem iG {m:Cs}:∀(q rest:List Cs) (done:List (List Cs)) (cur:List Cs),m∉q->bz m (q++rest) (done++[cur])=bz m rest (done++[cur++q])
 | [],rest,done,cur,_=>by rw [Vq,UQ]
 | p::q,rest,done,cur,h=>by
  have hp:p≠m:=fun e=>h (by rw [e];exact Um)
  have hq:m∉q:=fun z=>h (Up _ z)
  show bz m (q++rest) (if p=m then _ else (done++[cur]).dropLast++[(done++[cur]).getLastD []++[p]])=_;rw [if_neg hp,Z1,show(done++[cur]).getLastD []=cur by simp,iG q rest done (cur++[p]) hq,UN,Yg]
theorem jY {m:Cs}:∀(qs:List (List Cs)) (done:List (List Cs)),qs≠[]->(∀q∈qs,m∉q)->bz m (glue m qs) (done++[[]])=done++qs
 | [],_,h,_=>absurd rfl h
 | [q],done,_,h=>by
  have e:=iG q [] done [] (h q (by simp));rw [UQ] at e;show bz m q _=_
  rw [e];rfl
 | q::q2::r,done,_,h=>by
  have e:=iG q (m::glue m (q2::r)) done [] (h q (by simp));show bz m (q++m::glue m (q2::r)) _=_
  rw [e];show bz m (glue m (q2::r)) (if m=m then (done++[[]++q])++[[]] else _)=_
  rw [if_pos rfl,jY (q2::r) (done++[[]++q]) (by simp) fun x hx=>h x (Up _ hx),Vq,UN,Yg]
noncomputable def bx (r:List Cs):T:=.lst (r.map .str)
theorem Hd (n:Nat) (r:List Cs):lt n (bx r)=true:=by simp [bx,lt,jS]
noncomputable def cR (n k:Nat):List T:=.ref n::(Vp k).map fun i=>.ref (n+2+i)
noncomputable def dJ (L:aa) (r0:List Cs) (rest:List (List Cs)):aa:=(rest.map bx).reverse++(.lst (cR L.length rest.length)::bx r0::L)
theorem qh {α:Type} {L:List α}:∀(A:List α) {n:Nat},n<L.length->at_ (A++L) n=at_ L n
 | [],n,h=>rfl
 | a::A,n,h=>by rw [Wi,at_,if_neg (by simp;omega),qh A h]
theorem vS {α:Type} {L:List α} {d:α}:∀(A:List α) {n:Nat},n<L.length->put (A++L) n d=A++put L n d
 | [],n,h=>rfl
 | a::A,n,h=>by rw [Wi,put,if_neg (by simp;omega),vS A h];rfl
section
variable {L:aa} {r0:List Cs} {rest:List (List Cs)}
theorem nu:(dJ L r0 rest).length=L.length+2+rest.length:=by unfold dJ;simp;omega
theorem oR {n k:Nat}:(cR n k).length=k+1:=by simp [cR]
theorem mj:at_ (dJ L r0 rest) (L.length+1)=some (.lst (cR L.length rest.length)):=by
 unfold dJ;rw [qh _ (by simp)];exact w6
theorem ux {n k:Nat}:cR n k++[.ref (n+2+k)]=cR n (k+1):=by simp [cR,List.range_succ]
theorem w8:put (.lst []::dJ L r0 rest) (L.length+1) (.lst (cR L.length rest.length++[.ref (dJ L r0 rest).length]))=dJ L r0 (rest++[[]]):=by
 rw [nu,ux];show put ((T.lst []::(rest.map bx).reverse)++(.lst (cR L.length rest.length)::bx r0::L)) (L.length+1) _=_
 rw [vS _ (by simp),Kr];simp [dJ,bx]
theorem uy {n:Nat}:place (n+1) (-1)=some n:=by
 unfold place;rw [if_neg (by decide),if_pos (by omega)];congr 1;omega
theorem w9 (q:Cs):∃n last KY oU,ix (.ref (L.length+1)) (.int (-1)) (dJ L r0 rest)=.ok (.ref n) (dJ L r0 rest)/\at_ (dJ L r0 rest) n=some (bx last)/\put (dJ L r0 rest) n (bx (last++[q]))=dJ L KY oU /\
  (∀mk qs,q≠mk->bz mk (q::qs) (r0::rest)=bz mk qs (KY::oU))/\(KY::oU).flatten.length=(r0::rest).flatten.length+1/\last.length<=(r0::rest).flatten.length/\oU.length=rest.length:=by
 have Mc:∀n,(cR L.length rest.length)[rest.length]?=some (.ref n)->ix (.ref (L.length+1)) (.int (-1)) (dJ L r0 rest)=.ok (.ref n) (dJ L r0 rest):=fun n h=>by
  simp only [ix,vw,mj,WA,oR,uy,WD,h,lift]
 rcases List.eq_nil_or_concat rest with rfl|⟨pre,last,e⟩
 ·refine⟨L.length,r0,r0++[q],[],Mc _ rfl,?_,?_,fun mk qs h=>?_,by simp,by simp,rfl⟩
  ·exact m9
  ·show put (T.lst (cR L.length 0)::bx r0::L) L.length _=_
   rw [Kq];rfl
  ·show bz mk qs (if q=mk then _ else _)=_
   rw [if_neg h];rfl
 ·rw [List.concat_eq_append] at e
  subst e;have ec:∀z:List Cs,dJ L r0 (pre++[z])=bx z::((pre.map bx).reverse++(.lst (cR L.length (pre.length+1))::bx r0::L)):=fun z=>by simp [dJ]
  have el:((pre.map bx).reverse++(T.lst (cR L.length (pre.length+1))::bx r0::L)).length=L.length+2+pre.length:=by simp;omega
  refine⟨L.length+2+pre.length,last,r0,pre++[last++[q]],Mc _ ?_,?_,?_,fun mk qs h=>?_,by simp;omega,by simp;omega,by simp⟩
  ·simp [cR]
  ·rw [ec,<- el];exact dR
  ·rw [ec,ec,<- el];exact w7
  ·show bz mk qs (if q=mk then _ else _)=_
   rw [if_neg h,show r0::(pre++[last])=(r0::pre)++[last] from rfl,Z1,List.getLastD_concat];rfl
end
theorem sj {L L':aa}:∀(ns:List Nat) (rows:List (List Cs)),ns.length=rows.length->(∀i (h:i<ns.length) (h':i<rows.length),L.length<=ns[i]/\at_ L' ns[i]=some (bx rows[i]))->(ns.map T.ref).mapM (cz L.length L' 7)=some (rows.map bx)
 | [],[],_,_=>rfl
 | n::ns,r::rows,hl,h=>by
  obtain⟨h1,h2⟩:=h 0 (by simp) (by simp);have h1:L.length<=n:=h1
  have h2:at_ L' n=some (bx r):=h2
  have e:cz L.length L' 7 (.ref n)=some (bx r):=by
   unfold cz;rw [if_neg (by rw [lt];simp;omega)];simp only [h2];unfold cz;rw [if_pos (Hd _ _)]
  rw [Uy,Wr,e,sj ns rows (by simpa using hl) fun i a b=>h (i+1) (by simpa using a) (by simpa using b)];rfl
theorem z8 {L:aa} {r0:List Cs} {rest:List (List Cs)}:fin L (.ref (L.length+1)) (dJ L r0 rest)=.ok (.lst ((r0::rest).map bx)) L:=by
 have hd:(dJ L r0 rest).drop ((dJ L r0 rest).length - L.length)=L:=by
  rw [nu,show dJ L r0 rest=((rest.map bx).reverse++[.lst (cR L.length rest.length),bx r0])++L by simp [dJ],List.drop_left' (by simp;omega)]
 unfold fin;rw [hd,if_pos (gC L)];unfold cz;rw [if_neg (by rw [lt];simp)];simp only [mj];unfold cz;rw [if_neg (by rw [lt,cR,cK,lt];simp)];have e:cR L.length rest.length=(L.length::(Vp rest.length).map fun i=>L.length+2+i).map T.ref:=by simp [cR]
 rw [e];simp only [];rw [sj _ (r0::rest) (by simp)]
 ·rfl
 ·intro i h h'
  cases i with
  | zero =>
   refine⟨UH _,?_⟩;show at_ (dJ L r0 rest) L.length=some (bx r0)
   unfold dJ;rw [qh _ (by simp only [Ut];omega)];exact m9
  | succ i =>
   simp only [List.getElem_cons_succ,WC,List.getElem_range];refine⟨by omega,?_⟩;have hi:i<rest.length:=by simpa using h'
   have e:dJ L r0 rest=((rest.drop (i+1)).map bx).reverse++(bx rest[i]::(((rest.take i).map bx).reverse++(.lst (cR L.length rest.length)::bx r0::L))):=by
    have e0:rest.map bx=(rest.take i).map bx++(bx rest[i]::(rest.drop (i+1)).map bx):=by rw [<- Uy,<- VZ hi,<- UD,Xj]
    unfold dJ;rw [e0,List.reverse_append,List.reverse_cons,UN,UN];rfl
   rw [e,qh _ (by simp;omega),show L.length+2+i=(((rest.take i).map bx).reverse++(T.lst (cR L.length rest.length)::bx r0::L)).length by simp;omega];exact dR
theorem z9 (ps:List Cs) (mk:Cs) (L:aa) (hl:ps.length<=20000):fE [.lst (ps.map .str),.str mk] L=.ok (.lst ((bz mk ps [[]]).map bx)) L:=by
 unfold fE;simp_arith;generalize ho:forL _ _ _ _ _ _=o;have h:=bA ho ps T.str (fun qs φ L'=>∃r0 rest o3,bz mk qs (r0::rest)=bz mk ps [[]]/\(r0::rest).flatten.length+qs.length<=20000/\rest.length+qs.length<=20000/\φ=[some (.lst (ps.map .str)),some (.str mk),some (.ref (L.length+1)),o3]/\L'=dJ L r0 rest)
  (fun o=>∃r0 rest o3,r0::rest=bz mk ps [[]]/\o=.nx [some (.lst (ps.map .str)),some (.str mk),some (.ref (L.length+1)),o3] (dJ L r0 rest)) rfl ⟨[],[],none,rfl,by simpa using hl,by simpa using hl,rfl,rfl⟩ (fun _ _ eJ eP q qs φ L' h=>by
   obtain⟨r0,rest,o3,e1,e2,e3,rfl,rfl⟩:=h;refine⟨sv,_,rfl,?_⟩;simp only [Ut] at e2 e3;by_cases hq:q=mk
   ·subst hq
    simp_arith [eJ,eP];have ha:at_ (.lst []::dJ L r0 rest) (L.length+1)=some (.lst (cR L.length rest.length)):=by rw [at_,if_neg (by rw [nu];omega)];exact mj
    simp_arith [eJ,eP,mj,ha,aV (show(cR L.length rest.length).length<lim by rw [oR];unfold lim;omega),w8];refine⟨r0,rest++[[]],_,?_,by simp at e2 ⊢;omega,by simp;omega,rfl,rfl⟩;rw [<- e1];show _=bz q qs (if q=q then _ else _)
    rw [if_pos rfl];rfl
   ·obtain⟨n,last,KY,oU,i1,i2,i3,i4,i5,i6,i7⟩:=w9 (L:=L) (r0:=r0) (rest:=rest) q
    simp_arith [eJ,eP,show(q == mk)=false from beq_eq_false_iff_ne.mpr hq,i1,i2,bx,aV (show last.length<lim by unfold lim;omega),bw];refine⟨KY,oU,_,by rw [<- i4 mk qs hq];exact e1,by omega,by omega,rfl,i3⟩)
  fun φ L' h=>by
   obtain⟨r0,rest,o3,e1,e2,e3,rfl,rfl⟩:=h;exact⟨sv,r0,rest,o3,e1,rfl⟩
 obtain⟨r0,rest,o3,e,rfl⟩:=h;simp_arith;rw [z8,e]
end da
namespace da
open PySem M
open lZ (bV ah aQ)
open Bk (Fc Kd Lk Rl aK great aA cY glue iC iD wordAt fM rows gU ig nN FG Im fI lI pI)
theorem D9 {L Ln L':aa} {t:T} (hl:L'.length=L.length) (ho:old L L') (ht:lt L.length t=true):fin L t (Ln++L')=.ok t L':=by
 have e:(Ln++L').drop ((Ln++L').length - L.length)=L':=by rw [Ul,hl,YN,Ya]
 unfold fin;rw [e,if_pos ho];unfold cz;rw [if_pos ht];rfl
theorem KZ {L:aa} {c c':T} (h:lt (L.length+1) c'=true):old (c::L) (c'::L):=fun n d e=>by
 unfold at_ at e ⊢
 split at e
 ·cases e;exact .inr h
 ·rename_i z;rw [if_neg z];exact .inl e
theorem K0 {L:aa} {c c' d d':T} (h:lt (L.length+2) c'=true) (h':lt (L.length+2) d'=true):old (d::c::L) (d'::c'::L):=fun n e q=>by
 unfold at_ at q ⊢
 split at q
 ·cases q;exact .inr h'
 ·rename_i z
  rw [if_neg (show ¬ n=(c::L).length from z)];unfold at_ at q ⊢
  split at q
  ·cases q;exact .inr h
  ·rename_i z;rw [if_neg z];exact .inl q
theorem nv {L:aa} {c c' t:T} (h:lt (L.length+1) c'=true) (ht:lt (L.length+1) t=true):fin (c::L) t (c'::L)=.ok t (c'::L):=D9 (Ln:=[]) rfl (KZ h) ht
theorem bY {f:Str} {t:T}:∀{fs:List (Str × T)},(fs.map (·.1)).contains f=false->jv fs f t=fs++[(f,t)]
 | [],_=>rfl
 | (g,u)::r,h=>by
  simp only [Uy,List.contains_cons,Ym] at h;have:g≠f:=fun e=>by rw [e] at h;simp at h
  rw [jv,if_neg this,bY h.2];rfl
theorem Aa (cn:Str) (a b:Cs) (L:aa):make cn dq [.str a,.str b] L=.ok (.obj cn [("left",.str a),("right",.str b)]) L:=by
 unfold make dq;simp_arith [sU,bY (fs:=[]) (f:="left") rfl,Vq,V0,show(0:Nat)<200 by decide];simp_arith [bY (fs:=[("left",.str a)]) (f:="right") (by rfl),show(0+1:Nat)<200 by decide,show(1:Nat)<200 by decide];rw [nv (by simp [lt,nP]) rfl];simp_arith;exact fA (by simp [lt,nP])
theorem S4 {x y z:Cs}:(([x,y,z].map T.str).length:Int)=3:=rfl
theorem Ea (x y z:Cs) (hx:ah x=true) (hz:ah z=true) (L:aa):bG [.lst [.str x,.str y,.str z]] L=.ok .cm L:=by
 unfold bG;simp_arith [show(((0+1+1+1:Nat):Int) != 3)=false from rfl,show(((3:Nat):Int) != 3)=false from rfl];simp_arith [nq x (UO (aA hx).2 (by decide)),nq z (UO (aA hz).2 (by decide)),hx,hz]
theorem so (k:Lk) (h:ah k.l=true/\ah k.r=true) (L:aa):fS [bx (iC k)] L=.ok (lT k) L:=by
 unfold fS bx iC lT;simp_arith [Ea _ _ _ h.1 h.2];cases k.same with
 | true =>
  simp_arith [show(fM true == S "same")=true from rfl,z6,Aa];exact fin_same (by simp [lt,nP])
 | false =>
  simp_arith [show(fM false == S "same")=false from rfl,show(fM false == S "unlike")=true from rfl,sf,Aa];exact fin_same (by simp [lt,nP])
theorem sq (p:Cs × Cs) (h:ah p.1=true/\ah p.2=true) (L:aa):fU [bx (iD p)] L=.ok (pT p) L:=by
 unfold fU bx iD;simp_arith [Ea _ _ _ h.1 h.2];exact fin_same (by simp [lt,cK])
theorem kW {α:Type} {mk:Cs} {g:α->List Cs} {l:List α} {L:aa} (h0:l≠[]) (hq:∀x∈l,mk∉g x) (hl:(glue mk (l.map g)).length<=20000):fE [.lst ((glue mk (l.map g)).map .str),.str mk] L=.ok (.lst (l.map fun x=>bx (g x))) L:=by
 rw [z9 _ _ _ hl,show bz mk (glue mk (l.map g)) [[]]=l.map g from jY (l.map g) [] (by simpa using h0) fun q h=>by obtain⟨x,hx,rfl⟩:=Ur.mp h;exact hq x hx,UT];rfl
theorem qi (l:List Lk) (h0:l≠[]) (hl:(glue [44] (l.map iC)).length<=20000) (hn:l.length<=2) (h:∀k∈l,ah k.l=true/\ah k.r=true) (L:aa):dE [.lst ((glue [44] (l.map iC)).map .str)] L=.ok (.lst (l.map lT)) L:=by
 unfold dE;simp_arith;rw [bj (k:=stays (.lst (l.map fun k=>bx (iC k))) L) rfl l (fun k=>bx (iC k)) lT (by simp_arith [kW h0 (fun k hk=>(Bk.vJ (h k hk)).2) hl]) (by exact aq) (by exact UO hn (by decide)) (by exact fun k hk=>by simp_arith [so k (h k hk)])];simp_arith;exact fin_same (av oO)
theorem qj (l:List (Cs × Cs)) (h0:l≠[]) (hl:(glue [44] (l.map iD)).length<=20000) (hn:l.length<=2) (h:∀k∈l,ah k.1=true/\ah k.2=true) (L:aa):dF [.lst ((glue [44] (l.map iD)).map .str)] L=.ok (.lst (l.map pT)) L:=by
 unfold dF;simp_arith;rw [bj (k:=stays (.lst (l.map fun k=>bx (iD k))) L) rfl l (fun k=>bx (iD k)) pT (by simp_arith [kW h0 (fun k hk=>(Bk.vK (h k hk)).2) hl]) (by exact aq) (by exact UO hn (by decide)) (by exact fun k hk=>by simp_arith [sq k (h k hk)])];simp_arith;exact fin_same (av fy)
noncomputable def xr (x:Nat × List Im):T:=.lst (x.2.map (·.t))
theorem Eb {r:Rl} (n:Nat):∀x∈rows r,lt n (xr x)=true:=by
 refine Bk.CQ ?_ ?_ ?_ ?_ ?_ <;> (show lt n (T.lst (List.map _ (List.map _ _)))=true;rw [UT])
 ·exact av bh
 ·exact av bh
 ·exact av oO
 ·exact av bh
 ·exact av fy
theorem ny {w:Cs} (hw:(w == S "look")=false/\(w == S "tell")=false) {l:List Fc} (hf:∀f∈l,FG f) (h0:l≠[]) (hl:(glue [44] (l.map cY)).length<=20000) (L:aa):cJ [.str w,.lst ((glue [44] (l.map cY)).map .str)] L=.ok (.lst (l.map fT)) L:=by
 unfold cJ;simp_arith [hw.1,hw.2,KW l L h0 hl hf];exact fin_same (av bh)
theorem He {ks:List Kd} {r:Rl} (h:nN ks r):∀x∈rows r,x.2≠[]->(glue [44] (x.2.map (·.tp))).length<=20000->∀L,cJ [.str (wordAt x.1),.lst ((glue [44] (x.2.map (·.tp))).map .str)] L=.ok (xr x) L:=by
 obtain⟨_,_,f3,_,f5⟩:=h.pC;have hf:=fun g hg=>(h.f g hg).1
 unfold xr;refine Bk.CQ ?_ ?_ ?_ ?_ ?_ <;> (intro h0 hl L;rw [UT] at hl ⊢;rw [UT];have h0:=fun e=>h0 (Wx.mpr e))
 ·exact ny ⟨rfl,rfl⟩ (fun g hg=>hf g (Uv _ (Uv _ hg))) h0 hl L
 ·exact ny ⟨rfl,rfl⟩ (fun g hg=>hf g (Uv _ (UB _ hg))) h0 hl L
 ·unfold cJ
  simp_arith [show(wordAt 2 == S "look")=true from rfl,show dE [.lst ((glue [44] (r.ar.map ((·.tp) ∘ lI))).map .str)] L=_ from qi _ h0 hl f3 h.l L];exact fin_same (av oO)
 ·exact ny ⟨rfl,rfl⟩ (fun g hg=>hf g (UB _ hg)) h0 hl L
 ·unfold cJ
  simp_arith [show(wordAt 4 == S "look")=false from rfl,show(wordAt 4 == S "tell")=true from rfl,show dF [.lst ((glue [44] (r.tell.map ((·.tp) ∘ pI))).map .str)] L=_ from qj _ h0 hl f5 h.p L];exact fin_same (av fy)
theorem Hf (k:Kd) (h:aK k.n=true/\k.c<=4) (L:aa):fR [.lst ((Bk.rS k).map .str)] L=.ok (kT k) L:=by
 obtain⟨nm,c,la⟩:=k;obtain⟨h1,h2⟩:=h;have h1:aK nm=true:=h1
 have h2:c<=4:=h2;have hn:=aA (Bk.bu h1)
 unfold fR Bk.rS gY ni;have hc:∀c≤4,(nO (.str [48+c]) (.tup [.str (S "0"),.str (S "1"),.str (S "2"),.str (S "3"),.str (S "4")]) L=.ok true L)/\wm [.str [48+c]] L=.ok (.int c) L:=fun c h=>by
  have z:∀c≤4,PySem.intText? ⟨#[48+c]⟩=some (c:Int):=by decide +kernel
  refine⟨by rcases(by omega:c=0\/c=1\/c=2\/c=3\/c=4) with rfl|rfl|rfl|rfl|rfl <;> rfl,?_⟩;unfold wm;simp only [z c h,Ye];exact aV (by simp)
 have hw:nO (.str (if la=true then Bk.cM else Bk.cL)) (.tup [.str (S "passing"),.str (S "lasting")]) L=.ok true L/\((if la=true then Bk.cM else Bk.cL) == S "lasting")=la:=by cases la <;> exact⟨rfl,rfl⟩
 simp_arith [hw.1,hw.2,mc nm (UO hn.2 (by decide)),h1,(hc c h2).1,(hc c h2).2,show(((3:Nat):Int) != 3)=false from rfl];exact fin_same (by simp [lt,cK])
end da
namespace da
open PySem M
open lZ (bV ah aQ)
open Bk (Fc Kd Lk Rl aK great aA cW az dQ opens)
theorem K1 {k:T}:dK [] k=none:=rfl
theorem iW {a b k:T} {ks:List (T × T)}:dK ((a,b)::ks) k=(open Classical in if a=k then some b else dK ks k):=by
 unfold dK;rw [VN];by_cases h:a=k <;> simp [h]
theorem Hg {α:Type} {g:α->Cs} (l:List α) (y:Cs):gI (.str y::l.map fun x=>.str (g x))=true:=by
 unfold gI;rw [Xg];refine .inl (Uo.mpr fun x hx=>?_);rcases UG.mp hx with rfl|hx
 ·rfl
 ·obtain⟨z,_,rfl⟩:=Ur.mp hx;rfl
theorem vT {α:Type} {g:α->Cs} {h:α->T} (l:List α) (y:Cs):dZ (l.map fun x=>(.str (g x),h x)) (.str y):=by
 unfold dZ;rw [UT];exact Hg l y
theorem fu {ks:List (T × T)} {k t:T} (h:∀p∈ks,p.1≠k):dput ks k t=ks++[(k,t)]:=by
 unfold dput;rw [if_neg];intro z;obtain⟨p,hp,e⟩:=V5.mp z;exact h p hp (by simpa using e)
theorem xc (p:Cs) (hp:p.length<=20000) (hc:∃c r,p=c::r/\c≠32/\c≠35) (L:aa):iV [.str p] L=.ok (.bl true) L:=by
 obtain⟨c,p,rfl,h1,h2⟩:=hc;obtain⟨q,e,hl⟩:=Bk.zY h1 p;have hs:mw (.str (c::p)) [.str [32]] L=.ok (.str (c::q)) L:=by
  unfold mw;simp only [];rw [e,Bk.jR,aV (by simp only [Ut] at hp ⊢;unfold lim;omega)]
 unfold iV;simp_arith [lW,hs,show((c::q:Cs) == [])=false from rfl,oP (s:=c::q) (by simp),List.headD_cons,show(([c]:Cs) == [35])=false from beq_eq_false_iff_ne.mpr fun z=>h2 (Wo z).1]
theorem CX (ls:List Cs) (h0:ls≠[]) (hn:ls.length<=6) (h:∀l∈ls,10∉l/\l.length<=20000/\∃c r,l=c::r/\c≠32/\c≠35) (L:aa):eX [.str (jn [10] ls)] L=.ok (.lst (ls.map .str)) L:=by
 have hs:mr true (.str (jn [10] ls)) [.str (S "\n")] L=.ok (.lst (ls.map .str)) L:=by
  unfold mr;simp only [];have hd:((ls.map toS).all fun s=>decide (s.cps.toList.length<=lim))=true:=by
   rw [ZS];refine Uo.mpr fun l hl=>?_
   simp only [VR,Bk.jR,decide_eq_true_eq];exact UO (h l hl).2.1 (by decide)
  rw [show Xy (toS (jn [10] ls)) (toS (S "\n"))=ls.map toS from Bk.r6 h0 fun l hl=>(h l hl).1,aV ⟨by decide,hd⟩,fF,aV (by simp;unfold lim;omega),UT];simp [mk,VR,Bk.jR]
 unfold eX;simp_arith;rw [dC (k:=stays (.lst (ls.map .str)) L) rfl ls T.str (fun _=>true) T.str (by simp_arith [lV,hs]) (by exact aq) (by unfold lim;omega) (by exact fun b hb=>by simp_arith [xc b (h b hb).2.1 (h b hb).2.2]) (by exact fun b _ _=>by simp_arith),Yy.mpr fun _ _=>rfl];simp_arith;exact fin_same (av fun _ _=>rfl)
noncomputable def lx (acc:List Cs):T:=.aS (acc.map fun x=>(.str x,.bl true))
theorem Ab (acc:List Cs) (x:Cs):dput (acc.map fun x=>(T.str x,T.bl true)) (.str x) (.bl true)=(if x∈acc then acc else acc++[x]).map fun x=>(T.str x,T.bl true):=by
 by_cases h:x∈acc
 ·rw [if_pos h]
  unfold dput;rw [if_pos (V5.mpr ⟨(.str x,.bl true),Ur.mpr ⟨x,h,rfl⟩,by simp⟩)]
  conv=>rhs;rw [<- X8 (acc.map _)]
  refine U5 fun p hp=>?_
  obtain⟨y,_,rfl⟩:=Ur.mp hp;by_cases e:T.str y=T.str x
  ·rw [if_pos e];rfl
  ·rw [if_neg e];rfl
 ·rw [if_neg h,fu]
  ·simp
  ·intro p hp
   obtain⟨y,hy,rfl⟩:=Ur.mp hp;exact fun e=>h (by cases e;exact hy)
theorem CY (fs:List Fc) (hf:∀f∈fs,∀a∈f.as,ah a=true) (hl:(fs.flatMap (·.as)).length<=20000) (L:aa):eW [.lst (fs.map fT)] L=.ok (.lst ((opens fs).map .str)) L:=by
 unfold eW;simp_arith;generalize ho:forL _ _ _ _ _ _=o;have h:=bA ho fs fT (fun r φ L'=>∃done acc o2 o3,done++r=fs/\acc=az (done.flatMap (·.as)) []/\φ=[some (.lst (fs.map fT)),some (.ref L.length),o2,o3]/\L'=lx acc::L)
  (fun o=>∃o2 o3,o=.nx [some (.lst (fs.map fT)),some (.ref L.length),o2,o3] (lx (opens fs)::L)) rfl ⟨[],[],none,none,rfl,rfl,rfl,rfl⟩ (fun _ _ eJ eP f r φ L' h=>by
   obtain⟨done,acc,o2,o3,e1,rfl,rfl,rfl⟩:=h;refine⟨sv,_,rfl,?_⟩;have Ec:f∈fs:=by rw [<- e1];simp
   have hb:(done.flatMap (·.as)).length+f.as.length<=20000:=by rw [<- e1] at hl;simp at hl ⊢;omega
   simp_arith [eJ,eP];generalize ho:forL _ _ _ _ _ _=o;have h:=bA ho f.as T.str (fun r φ L'=>∃d2 o3,d2++r=f.as/\φ=[some (.lst (fs.map fT)),some (.ref L.length),some (fT f),o3]/\L'=lx (az d2 (az (done.flatMap (·.as)) []))::L)
    (fun o=>∃o3,o=.nx [some (.lst (fs.map fT)),some (.ref L.length),some (fT f),o3] (lx (az ((done++[f]).flatMap (·.as)) [])::L)) rfl ⟨[],o3,rfl,rfl,rfl⟩ (fun _ _ eJ eP a r φ L' h=>by
     obtain⟨d2,o3,e2,rfl,rfl⟩:=h;refine⟨sv,_,rfl,?_⟩;have hn:=hf f Ec a (by rw [<- e2];simp)
     have e3:az (d2++[a]) (az (done.flatMap (·.as)) [])=cW a (az d2 (az (done.flatMap (·.as)) [])):=by simp [az]
     have wu:(az d2 (az (done.flatMap (·.as)) [])).length<lim:=by
      have z1:=dQ d2 (az (done.flatMap (·.as)) []);have z2:=dQ (done.flatMap (·.as)) []
      have z3:d2.length<=f.as.length:=by rw [<- e2];simp
      simp only [UW] at z2;unfold lim;omega
     simp_arith [eJ,eP,fc a (aA hn).1];cases hg:great a with
     | false =>
      simp_arith [eJ,eP];exact⟨d2++[a],_,by simpa using e2,rfl,by rw [e3];unfold cW;rw [hg];rfl⟩
     | true =>
      have S5:dZ ((az d2 (az (done.flatMap (·.as)) [])).map fun x=>(T.str x,T.bl true)) (.str a):=vT (g:=id) _ a;simp_arith [eJ,eP,jw,lx,wu,S5,and_self,Ab];exact⟨d2++[a],_,by simpa using e2,rfl,by rw [e3];unfold cW;rw [hg];rfl⟩)
    fun φ L' h=>by
     obtain⟨d2,o3,e2,rfl,rfl⟩:=h;refine⟨sv,o3,?_⟩;rw [UQ] at e2;subst e2;rw [aad,show az (done.flatMap (·.as)++[f].flatMap (·.as)) []=az ([f].flatMap (·.as)) (az (done.flatMap (·.as)) []) from Y8];simp
   obtain⟨o3,rfl⟩:=h;simp_arith [eJ,eP];exact⟨done++[f],_,_,_,by simpa using e1,rfl,rfl,rfl⟩)
  fun φ L' h=>by
   obtain⟨done,acc,o2,o3,e1,rfl,rfl,rfl⟩:=h;rw [UQ] at e1;subst e1;exact⟨sv,o2,o3,rfl⟩
 obtain⟨o2,o3,rfl⟩:=h;have hz:(opens fs).length<=lim:=by
  have:(opens fs).length<=_:=dQ (fs.flatMap (·.as)) [];simp only [UW] at this;unfold lim;omega
 have hb:fo true [.ref L.length] (lx (opens fs)::L)=.ok (.lst ((opens fs).map .str)) (lx (opens fs)::L):=by
  have e:((opens fs).map fun x=>(T.str x,T.bl true)).map (·.1)=(opens fs).map .str:=by simp
  unfold fo lx;simp only [jr,dR,fN];rw [e,aV (by simp [j9]),fF,aV (by simpa using hz)];rfl
 simp_arith [hb];exact eB (av fun _ _=>rfl)
end da
namespace da
open PySem M
open lZ (bV ah aQ)
open Bk (Fc Kd Lk Rl aK great aA cY glue iC iD wordAt rows gU ig eK nN Im fI lI pI opens)
noncomputable def fh (x:Nat × List Im):T × T:=(.str (wordAt x.1),xr x)
theorem uz (n:Nat):∀l:List (Nat × List Im),(∀x∈l,lt n (xr x)=true)->lt n (.aS (l.map fh))=true
 | [],_=>rfl
 | x::l,h=>by
  have:=uz n l fun y hy=>h y (Up _ hy)
  simp only [lt,Uy,A9,fh] at this ⊢;simp [h x Um,lt_str,this]
theorem Hh {x:T} {r:List T} {L:aa} (h:r.length<=lim):jf true (.lst (x::r)) (some 1) none L=.ok (.lst r) L:=by
 unfold jf vw cut clip;simp [fF,aV h,mk]
theorem K2 {x y z:T} {r:List T} {L:aa} (h:r.length<=lim):jf true (.lst (x::y::z::r)) (some 3) none L=.ok (.lst r) L:=by
 have e:cut (x::y::z::r) (some 3) none=r:=by
  unfold cut clip;simp only [Ut];rw [if_neg (by decide),show min (3:Int).toNat (r.length+1+1+1)=3 by omega];simp
 unfold jf vw;simp [e,fF,aV h,mk]
noncomputable def OG:List T:=[.str (S "take"),.str (S "keep"),.str (S "look"),.str (S "put"),.str (S "tell")]
theorem K3 {m n:Nat} {L:aa} (h:m<=n) (hn:n<5):∃t,jf true bR (some (m:Int)) none L=.ok t L/\nO (.str (wordAt n)) t L=.ok true L:=by
 obtain⟨a,b,c⟩:=(by decide +kernel:∀n<5,∀m≤n,dat 8 (.str (wordAt n))=true/\(cut OG (some (m:Int)) none).all (dat 8)=true/\((cut OG (some (m:Int)) none).any fun y=>eqT y (.str (wordAt n)))=true) n hn m h;refine⟨_,rfl,?_⟩;show cx _ (R.ok ((cut OG (some (m:Int)) none).any fun y=>eqT y (.str (wordAt n))) L)=_
 rw [aV ⟨a,b⟩,c]
theorem K4 {n:Nat} {L:aa} (hn:n<5):Bn bR [.str (wordAt n)] L=.ok (.int n) L:=by
 rcases(by omega:n=0\/n=1\/n=2\/n=3\/n=4) with rfl|rfl|rfl|rfl|rfl <;> rfl
theorem Ac {L:aa} {a c:T} (ha:lt L.length a=true) (hc:lt L.length c=true):fin L (.tup [a,.ref L.length]) (c::L)=.ok (.tup [a,c]) L:=by
 unfold fin;have e:(c::L).drop ((c::L).length - L.length)=L:=by simp
 rw [e,if_pos (gC L)];unfold cz;rw [if_neg (by simp [lt,cK,ha])];have e1:cz L.length (c::L) 8 a=some a:=by unfold cz;rw [if_pos ha]
 have e2:cz L.length (c::L) 8 (.ref L.length)=some c:=by
  unfold cz;rw [if_neg (by simp [lt])];simp only [dR];unfold cz;rw [if_pos hc]
 simp [Wr,e1,e2,lift]
theorem Hi {α:Type} {g:α->Cs} {l:List α} (h:(l.map g).Nodup):(l.map fun x=>T.str (g x)).Nodup:=by
 rw [show(l.map fun x=>T.str (g x))=(l.map g).map T.str by simp];exact List.Pairwise.map T.str (fun a b hab e=>hab (T.str.inj e)) h
theorem Ad {α:Type} {g:α->Cs} {h:α->T} {l:List α} {x:α} (hn:(l.map g).Nodup) (hx:x∈l):dK (l.map fun x=>(.str (g x),h x)) (.str (g x))=some (h x):=by
 induction l with
 | nil=>cases hx
 | cons y l ih =>
  rw [Uy,Vd] at hn;rw [Uy,iW];rcases UG.mp hx with rfl|hx
  ·rw [if_pos rfl]
  ·rw [if_neg (fun e=>hn.1 (by rw [T.str.inj e];exact UE hx)),ih hn.2 hx]
theorem CZ {l:List (T × T)} {k:T} (h:∀p∈l,p.1≠k):dK l k=none:=by
 induction l with
 | nil=>rfl
 | cons p l ih=>rw [iW,if_neg (h p Um),ih fun q hq=>h q (Up _ hq)]
theorem qk (l:List (Nat × List Im)) (y:Cs):dZ (l.map fh) (.str y):=vT (g:=fun x:Nat × List Im=>wordAt x.1) (h:=xr) l y
theorem Ae {r:Rl}:∀x∈rows r,x.1<5:=Bk.CQ (show 0<5 by decide) (show 1<5 by decide) (show 2<5 by decide) (show 3<5 by decide) (show 4<5 by decide)
theorem iH {r:Rl} {x:Nat × List Im} (h:x∈gU r):x∈rows r/\x.1<5/\x.2≠[]:=by
 obtain⟨h1,h2⟩:=UZ.mp h;exact⟨h1,Ae x h1,fun e=>by unfold Bk.ne at h2;rw [e] at h2;cases h2⟩
theorem Af (r:Rl):((gU r).map (·.1)).Pairwise (· < ·):=List.Pairwise.sublist (List.filter_sublist.map _) (show [0,1,2,3,4].Pairwise (· < ·) by decide)
theorem sr {r:Rl} {x:Nat × List Im} (hx:x∈rows r):dK ((gU r).map fh) (.str (wordAt x.1))=if x.2=[] then none else some (xr x):=by
 by_cases h0:x.2=[]
 ·rw [if_pos h0]
  refine CZ fun p hp e=>?_
  obtain⟨y,hy,rfl⟩:=Ur.mp hp;obtain⟨h1,h2,h3⟩:=iH hy;have e:=Bk.jq (f:=fun z:Nat × List Im=>z.1) (show((rows r).map (·.1)).Nodup from(by decide:[0,1,2,3,4].Nodup)) h1 hx (Bk.jo h2 (Ae x hx) (T.str.inj (show T.str (wordAt y.1)=T.str (wordAt x.1) from e)))
  exact h3 (e ▸ h0)
 ·rw [if_neg h0]
  refine Ad (g:=fun x:Nat × List Im=>wordAt x.1) (h:=xr) (l:=gU r) ?_ (UZ.mpr ⟨hx,?_⟩)
  ·refine Xq.mpr ((Xq.mp (Af r)).imp_of_mem fun ha hb h e=>?_)
   exact V0 _ (Bk.jo (iH ha).2.1 (iH hb).2.1 e ▸ h)
  ·unfold Bk.ne
   simpa using h0
theorem Ag {r:Rl} {x:Nat × List Im} (hx:x∈rows r) (L:aa):nO (.str (wordAt x.1)) (.ref L.length) (.aS ((gU r).map fh)::L)=.ok (!decide (x.2=[])) (.aS ((gU r).map fh)::L):=by
 unfold nO;simp only [jr,dR,fN];rw [aV (qk _ _),sr hx];by_cases h:x.2=[] <;> simp [h]
theorem nz {r:Rl} {x:Nat × List Im} (hx:x∈rows r) (L:aa):iZ (.aS ((gU r).map fh)) [.str (wordAt x.1),.lst []] L=.ok (xr x) L:=by
 unfold iZ vw;simp only [];rw [aV (qk _ _),sr hx];by_cases h:x.2=[]
 ·rw [if_pos h];unfold xr;rw [h];rfl
 ·rw [if_neg h];rfl
theorem uA {ks:List Kd} {r:Rl} (h:nN ks r) (L:aa):ur [.str r.title,.aS ((gU r).map fh)] L=.ok (aR r) L:=by
 have m:∀{α:Type} (i:α->Im) (l:List α),(l.map i).map (·.t)=l.map fun a=>(i a).t:=fun i l=>by rw [UT];rfl
 have g0:=nz (r:=r) (x:=(0,r.take.map fI)) (by simp [rows]);have g1:=nz (r:=r) (x:=(1,r.keep.map fI)) (by simp [rows])
 have g2:=nz (r:=r) (x:=(2,r.ar.map lI)) (by simp [rows]);have g3:=nz (r:=r) (x:=(3,r.put.map fI)) (by simp [rows])
 have g4:=nz (r:=r) (x:=(4,r.tell.map pI)) (by simp [rows]);unfold xr at g0 g1 g2 g3 g4;rw [m] at g0 g1 g2 g3 g4;have g0:∀L,iZ (.aS ((gU r).map fh)) [.str (wordAt 0),.lst []] L=.ok (.lst (r.take.map fT)) L:=g0
 have g1:∀L,iZ (.aS ((gU r).map fh)) [.str (wordAt 1),.lst []] L=.ok (.lst (r.keep.map fT)) L:=g1;have g2:∀L,iZ (.aS ((gU r).map fh)) [.str (wordAt 2),.lst []] L=.ok (.lst (r.ar.map lT)) L:=g2
 have g3:∀L,iZ (.aS ((gU r).map fh)) [.str (wordAt 3),.lst []] L=.ok (.lst (r.put.map fT)) L:=g3;have g4:∀L,iZ (.aS ((gU r).map fh)) [.str (wordAt 4),.lst []] L=.ok (.lst (r.tell.map pT)) L:=g4
 obtain⟨f1,f2,_⟩:=h.pC;have hl:r.take.length+r.keep.length<=lim:=by unfold lim;omega
 have hf:=fun f hf=>(h.f f (Uv r.put hf)).1
 have ho:=CY (r.take++r.keep) (fun f h=>(hf f h).as) (by
  have:=Bk.gz (l:=r.take++r.keep) (g:=(·.as)) (B:=4) fun f h=>(hf f h).n
  rw [Ul] at this;omega)
 rw [UD] at ho;unfold ur make iE aR;simp_arith [sU,show S "take"=wordAt 0 from rfl,show S "keep"=wordAt 1 from rfl,show S "look"=wordAt 2 from rfl,show S "put"=wordAt 3 from rfl,show S "tell"=wordAt 4 from rfl,g0,g1,g2,g3,g4,Vq,Nat.reduceLT,bY (fs:=[]) (f:="title") (by rfl),bY (fs:=[("title",.str r.title)]) (f:="taken") (by rfl),bY (fs:=[("title",.str r.title),("taken",.lst (r.take.map fT))]) (f:="kept") (by rfl),bY (fs:=[("title",.str r.title),("taken",.lst (r.take.map fT)),("kept",.lst (r.keep.map fT))]) (f:="looks") (by rfl),bY (fs:=[("title",.str r.title),("taken",.lst (r.take.map fT)),("kept",.lst (r.keep.map fT)),("looks",.lst (r.ar.map lT))]) (f:="given") (by rfl),bY (fs:=[("title",.str r.title),("taken",.lst (r.take.map fT)),("kept",.lst (r.keep.map fT)),("looks",.lst (r.ar.map lT)),("given",.lst (r.put.map fT))]) (f:="told") (by rfl),bY (fs:=[("title",.str r.title),("taken",.lst (r.take.map fT)),("kept",.lst (r.keep.map fT)),("looks",.lst (r.ar.map lT)),("given",.lst (r.put.map fT)),("told",.lst (r.tell.map pT))]) (f:="names") (by rfl),Wi,fld,US,show(("taken":Str) == "title")=false by decide,show(("kept":Str) == "title")=false by decide,show(("kept":Str) == "taken")=false by decide,Ul,aV hl,ho];rw [nv]
 ·simp_arith
  refine(fA ?_).trans ?_
  ·simp [lt,nP,lr,bh,fy,oO,jS]
  ·rfl
 ·simp [lt,nP,lr,bh,fy,oO,jS]
 ·rfl
end da
namespace da
open PySem M
open lZ (bV ah aQ)
open Bk (Fc Kd Lk Rl aK great aA glue wordAt rows gU ig eK nN Im fI W DY rS)
theorem su {m:Cs}:∀(qs:List (List Cs)) (q:List Cs),q∈qs->q.length<=(glue m qs).length
 | [a],q,h=>by rw [UR.mp h];exact UH _
 | a::b::r,q,h=>by
  show q.length<=(a++m::glue m (b::r)).length;rw [Ul,Ut];rcases UG.mp h with e|h
  ·rw [e];omega
  ·have:=su (m:=m) (b::r) q h;omega
theorem sx {ks:List Kd} {r:Rl} (h:nN ks r) (hl:(eK r).length<=20000) (L:aa) :
  fV [.lst ((eK r).map .str)] L=.ok (.tup [.str r.title,.aS ((gU r).map fh)]) L:=by
 have ht:=aA (Bk.bu h.t);have Bh:∀L,aJ [.lst ((eK r).map .str),.int 0] L=.ok (.str Bk.gT) L:=fun L=>fe (eK r) 0 L
 have vR:∀L,aJ [.lst ((eK r).map .str),.int 1] L=.ok (.str r.title) L:=fun L=>fe (eK r) 1 L
 have sQ:∀L,aJ [.lst ((eK r).map .str),.int 2] L=.ok (.str [58]) L:=fun L=>fe (eK r) 2 L
 have Qh:(glue [59] ((gU r).map ig)).length<=20000:=UO (W2 _ 3) hl;have hne:gU r≠[]:=fun e=>by
  have z:∀x∈rows r,x.2=[]:=fun x hx=>by
   have:=ZP.mp e x hx;unfold Bk.ne at this;simpa using this
  have z0:=z (0,r.take.map fI) (by simp [rows]);have z1:=z (1,r.keep.map fI) (by simp [rows])
  exact h.hd (Wx.mp z0) (Wx.mp z1)
 have MH:=fun L=>kW (L:=L) (mk:=[59]) hne (fun x hx=>(W.no (by decide +kernel) (by decide) (h.part (iH hx).1).1).1) Qh
 unfold fV bR;simp_arith [Bh,vR,sQ,dj,show S "rule"=Bk.gT from rfl,mc r.title (UO ht.2 (by decide)),h.t];rw [show jf true (.lst ((eK r).map .str)) (some 3) none (.aS []::L)=.ok (.lst ((glue [59] ((gU r).map ig)).map .str)) (.aS []::L) from K2 (by simp;unfold lim;omega)];simp_arith [MH];generalize ho:forL _ _ _ _ _ _=o;have h2:=bA ho (gU r) (fun x=>bx (ig x)) (fun q φ L'=>∃done m o4 o5,done++q=gU r/\(∀y∈q,m<=y.1)/\φ=[some (.lst ((eK r).map .str)),some (.str r.title),some (.ref L.length),some (.int (m:Nat)),o4,o5]/\L'=.aS (done.map fh)::L)
  (fun o=>∃o3 o4 o5,o=.nx [some (.lst ((eK r).map .str)),some (.str r.title),some (.ref L.length),o3,o4,o5] (.aS ((gU r).map fh)::L)) rfl ⟨[],0,none,none,rfl,fun _ _=>U4 _,rfl,rfl⟩ (fun _ _ eJ eP x q φ L' hh=>by
   obtain⟨done,m,o4,o5,e1,hm,rfl,rfl⟩:=hh;refine⟨sv,_,rfl,?_⟩;have Qi:x∈gU r:=by rw [<- e1];simp
   obtain⟨x1,x2,x3⟩:=iH Qi;have hs:=Af r
   rw [<- e1,UD,Uy,List.pairwise_append,Wh] at hs;obtain⟨_,⟨hq,_⟩,hd⟩:=hs;obtain⟨t,w1,w2⟩:=K3 (L:=.aS (done.map fh)::L) (hm x Um) x2;have w3:=K4 (L:=.aS (done.map fh)::L) x2
   unfold bR at w1 w3;have S6:aJ [bx (ig x),.int 0] (.aS (done.map fh)::L)=.ok (.str (wordAt x.1)) (.aS (done.map fh)::L):=fe (ig x) 0 _
   have hlen:=UO (su (m:=[59]) ((gU r).map ig) _ (Ur.mpr ⟨x,Qi,rfl⟩)) Qh;have hlen:(glue [44] (x.2.map (·.tp))).length<=20000:=Nat.le_of_succ_le hlen
   have Dw:jf true (bx (ig x)) (some 1) none (.aS (done.map fh)::L)=.ok (.lst ((glue [44] (x.2.map (·.tp))).map .str)) (.aS (done.map fh)::L):=Hh (by simp;unfold lim;omega);have MX:done.length<lim:=by
    have z:done.length<=(gU r).length:=by rw [<- e1];simp
    have:(gU r).length<=5:=WI _ _;unfold lim;omega
   have tL:dput (done.map fh) (.str (wordAt x.1)) (xr x)=(done++[x]).map fh:=by
    rw [fu,UD];rfl;intro p hp e;obtain⟨y,hy,rfl⟩:=Ur.mp hp;have:=Bk.jo (iH (by rw [<- e1];exact Uv _ hy)).2.1 x2 (T.str.inj (show T.str (wordAt y.1)=T.str (wordAt x.1) from e))
    have:=hd y.1 (UE hy) x.1 Um;omega
   simp_arith [eJ,eP,S6,w1,w2,w3,Dw,He h x x1 x3 hlen,jw,MX,qk,and_self,tL];exact⟨done++[x],x.1+1,_,_,by simpa using e1,fun y hy=>hq y.1 (UE hy),rfl,rfl⟩)
  fun φ L' hh=>by
   obtain⟨done,m,o4,o5,e1,hm,rfl,rfl⟩:=hh;rw [UQ] at e1;rw [e1];exact⟨sv,_,_,_,rfl⟩
 obtain⟨o3,o4,o5,rfl⟩:=h2;have n0:=Ag (r:=r) (x:=(0,r.take.map fI)) (by simp [rows]) L
 have n1:=Ag (r:=r) (x:=(1,r.keep.map fI)) (by simp [rows]) L;simp only [Wx] at n0 n1;simp_arith [show S "take"=wordAt 0 from rfl,show S "keep"=wordAt 1 from rfl,n0,n1];by_cases h0:r.take=[]
 ·simp_arith [h0,h.hd h0,decide_true,decide_false,Wm,W6,if_true,if_false]
  exact Ac rfl (uz _ _ fun x hx=>Eb _ x (iH hx).1)
 ·simp_arith [h0,decide_false,Wm,W6,if_true,if_false]
  exact Ac rfl (uz _ _ fun x hx=>Eb _ x (iH hx).1)
theorem jc {p:Cs} {ts:List Cs} (h:W DY p ts) (L:aa) (hp:p.length<=20000):dX [.str p] L=.ok (.lst (ts.map .str)) L:=by
 have z:=h.tk (by decide +kernel) (r:=[]) (fun c h=>nomatch h) .nil;rw [UQ,UQ] at z;unfold dX gW;simp_arith [z7 L hp z];exact fin_same (av fun _ _=>rfl)
theorem Ah {L:aa} {c c' d d' t:T} (h:lt (L.length+2) c'=true) (h':lt (L.length+2) d'=true) (ht:lt (L.length+2) t=true):fin (d::c::L) t (d'::c'::L)=.ok t (d'::c'::L):=D9 (Ln:=[]) rfl (K0 h h') ht
theorem sy (ks:List Kd) (rs:List Rl) (k:Kd) (ok:aK k.n=true/\k.c<=4) (hn:k.n∉ks.map (·.n)) (hz:ks.length<20000) (L:aa) :
  du [.ref L.length,.ref (L.length+1),.str (Bk.ax k)] (.lst (rs.map aR) :: .lst (ks.map kT)::L)=.ok .cm (.lst (rs.map aR) :: .lst ((ks++[k]).map kT)::L):=by
 obtain⟨w,hl⟩:=Bk.kH ok;have h0:((if k.l=true then Bk.cM else Bk.cL) == Bk.gT)=false:=by cases k.l <;> rfl
 unfold du dj;simp_arith [jc w _ (UO hl (by decide)),show ∀L,ix (.lst ((rS k).map .str)) (.int 0) L=.ok (.str (if k.l=true then Bk.cM else Bk.cL)) L from fun _=>G9,show S "rule"=Bk.gT from rfl,h0,Hf k ok];rw [bj (k:=stays (.ref L.length) (.lst (rs.map aR) :: .lst (ks.map kT)::L)) rfl ks kT (fun k=>.str k.n) (by simp_arith) (by exact aq) (by unfold lim;omega) (by exact fun b _=>by simp_arith)];have sO:=CU (x:=k.n) (ys:=ks.map (·.n)) (L:=.lst (rs.map aR) :: .lst (ks.map kT)::L)
 rw [UT,decide_eq_false hn] at sO;simp_arith [show(T.lst (ks.map fun k=>.str k.n))=.lst (ks.map (T.str ∘ fun k=>k.n)) from rfl,sO,aV (show ks.length<lim by unfold lim;omega),bw];exact Ah (av r9) (av qe) rfl
theorem sA (ks:List Kd) (rs:List Rl) {r:Rl} (h:nN ks r) (hn:r.title∉rs.map (·.title)) (hz:rs.length<20000) (L:aa) :
  du [.ref L.length,.ref (L.length+1),.str (Bk.cq r)] (.lst (rs.map aR) :: .lst (ks.map kT)::L)=.ok .cm (.lst ((rs++[r]).map aR) :: .lst (ks.map kT)::L):=by
 obtain⟨w,hl⟩:=h.line;have j8:(eK r).length<=20000:=by
  have z:=(w.tk (by decide +kernel) (r:=[]) (fun c h=>nomatch h) .nil).len;rw [UQ,UQ] at z;omega
 unfold du dj;simp_arith [jc w _ (UO hl (by decide)),show ∀L,ix (.lst ((eK r).map .str)) (.int 0) L=.ok (.str Bk.gT) L from fun _=>G9,show S "rule"=Bk.gT from rfl,sx h j8];rw [bj (k:=stays (.ref (L.length+1)) (.lst (rs.map aR) :: .lst (ks.map kT)::L)) rfl rs aR (fun k=>.str k.title) (by simp_arith) (by exact aq) (by unfold lim;omega) (by exact fun b _=>by simp_arith)];have sO:=CU (x:=r.title) (ys:=rs.map (·.title)) (L:=.lst (rs.map aR) :: .lst (ks.map kT)::L)
 rw [UT,decide_eq_false hn] at sO;simp_arith [show(T.lst (rs.map fun k=>.str k.title))=.lst (rs.map (T.str ∘ fun k=>k.title)) from rfl,sO,uA h,aV (show rs.length<lim by unfold lim;omega),bw];exact Ah (av r9) (av qe) rfl
end da
namespace da
open PySem M
open lZ (bV ah aQ)
open Bk (Fc Kd Lk Rl aK great aA opens cB aj nN KG ai ax cq)
theorem Hj {ps:List (T × T)} (h:(ps.map (·.1)).Nodup):qE ps=ps:=by
 have key:∀(r d:List (T × T)),((d++r).map (·.1)).Nodup->r.foldl (fun acc p=>dput acc p.1 p.2) d=d++r:=by
  intro r;induction r with
  | nil=>intro d _;simp
  | cons p r ih =>
   intro d hn;rw [Yu,fu,ih,UN];rfl
   ·rw [UN];exact hn
   ·intro q hq e
    rw [UD,VS] at hn;exact hn.2.2 _ (UE hq) _ (UE Um) e
 exact key ps [] h
theorem K5 {α:Type} {g h:α->T} (l:List α):prsOf (l.map fun x=>.tup [g x,h x])=some (l.map fun x=>(g x,h x)):=by
 induction l with
 | nil=>rfl
 | cons x l ih=>simp only [Uy,prsOf,ih]
theorem qm {α:Type} {g:α->Cs} {h:α->T} (l:List α) (hn:(l.map g).Nodup) (hl:l.length<=100000) (L:aa):xC (l.map fun x=>.tup [.str (g x),h x]) L=.ok (.ref L.length) (.aS (l.map fun x=>(.str (g x),h x))::L):=by
 have e:(l.map fun x=>(T.str (g x),h x)).map (·.1)=l.map fun x=>T.str (g x):=by simp
 have hm:gI (l.map fun x=>T.str (g x))=true:=by
  unfold gI;rw [Xg];exact .inl (by simp [j9])
 unfold xC;rw [K5];simp only [];rw [Hj (by rw [e];exact Hi hn),e,aV ⟨hm,by simpa using hl⟩]
theorem gc (ks:List Kd) (fs:List Fc) (x:T) (L:aa) (hx:vw L x=.lst (ks.map kT)) (hn:(ks.map (·.n)).Nodup) (hk:ks.length<=20000) (hf:∀f∈fs,aj ks f) :
  bZ [x,.lst (fs.map fT)] L=.ok .cm L:=by
 unfold bZ;simp_arith;rw [bj (k:=stays x L) rfl ks kT (fun k=>.tup [.str k.n,.int k.c]) (by simp only [zN,Ib,WW,WZ,fk,aM,items,hx]) (by exact aq) (by unfold lim;omega) (by exact fun b _=>by simp_arith)];simp_arith [jx,qm (g:=fun k:Kd=>k.n) (h:=fun k=>.int k.c) ks hn (by omega)];generalize ho:forL _ _ _ _ _ _=o;have h2:=bA ho fs fT (fun r φ L'=>∃o3,(∀f∈r,aj ks f)/\φ=[some x,some (.lst (fs.map fT)),some (.ref L.length),o3]/\L'=.aS (ks.map fun k=>(.str k.n,.int k.c))::L)
  (fun o=>∃φ,o=.nx φ (.aS (ks.map fun k=>(.str k.n,.int k.c))::L)) rfl ⟨none,hf,rfl,rfl⟩ (fun _ _ eJ eP f r φ L' hh=>by
   obtain⟨o3,hr,rfl,rfl⟩:=hh;obtain⟨k,hk,e1,e2⟩:=hr f Um;refine⟨sv,_,rfl,?_⟩;have hg:=Ad (g:=fun k:Kd=>k.n) (h:=fun k=>T.int k.c) hn hk
   rw [e1] at hg;have hfit:dZ (ks.map fun k=>(T.str k.n,T.int k.c)) (.str f.k):=vT (g:=fun k:Kd=>k.n) (h:=fun k=>T.int k.c) ks f.k
   have i1:nO (.str f.k) (.ref L.length) (.aS (ks.map fun k=>(.str k.n,.int k.c))::L)=.ok true (.aS (ks.map fun k=>(.str k.n,.int k.c))::L):=by
    unfold nO;simp only [jr,dR,fN];rw [aV hfit,hg];rfl
   have i2:ix (.ref L.length) (.str f.k) (.aS (ks.map fun k=>(.str k.n,.int k.c))::L)=.ok (.int k.c) (.aS (ks.map fun k=>(.str k.n,.int k.c))::L):=by
    unfold ix;simp only [jr,dR,fN];rw [aV hfit,hg];rfl
   simp_arith [eJ,eP,i1,i2,show((f.as.length:Int) != (k.c:Int))=false by simp;omega];exact⟨_,fun g hg=>hr g (Up _ hg),rfl,by trivial⟩)
  fun φ L' hh=>by
   obtain⟨o3,hr,rfl,rfl⟩:=hh;exact⟨sv,_,rfl⟩
 obtain⟨φ,rfl⟩:=h2;simp_arith;exact eB rfl
theorem jd (ls:List Cs) (fs:List Fc) (hf:∀f∈fs,f.k∉ls) (L:aa):cb [.lst (ls.map .str),.lst (fs.map fT)] L=.ok .cm L:=by
 unfold cb;simp_arith;generalize ho:forL _ _ _ _ _ _=o;have h2:=bA ho fs fT (fun r φ L'=>∃o3,(∀f∈r,f.k∉ls)/\φ=[some (.lst (ls.map .str)),some (.lst (fs.map fT)),o3]/\L'=L)
  (fun o=>∃φ,o=.nx φ L) rfl ⟨none,hf,rfl,rfl⟩ (fun _ _ eJ eP f r φ L' hh=>by
   obtain⟨o3,hr,rfl,rfl⟩:=hh;refine⟨sv,_,rfl,?_⟩;simp_arith [eJ,eP,decide_eq_false (hr f Um)];exact⟨_,fun g hg=>hr g (Up _ hg),rfl,by trivial⟩)
  fun φ L' hh=>by
   obtain⟨o3,hr,rfl,rfl⟩:=hh;exact⟨sv,_,rfl⟩
 obtain⟨φ,rfl⟩:=h2;simp_arith
theorem sC {f:Str->Option Fn} {F:Fn} {a:SE} {φ:Fr} {L:aa} {r:Rl} (ha:a φ L=.ok (aR r) L) (hf:f "Rule"=some F):oY "calls" f a [] φ L=F [aR r] L:=by
 unfold oY;rw [ha,aM,vr];unfold aR;simp only [hf];rfl
theorem vU (r:Rl) (L:aa):bS [aR r] L=.ok (.bl (decide (r.take=[]))) L:=by
 unfold bS;simp_arith;cases r.take with
 | nil=>rfl
 | cons a l=>rw [show(((a::l).length:Int) == 0)=false by simp;omega];simp
theorem qo (ls:List Cs) (r:Rl) (hc:r.take=[]->∀f∈r.put,f.k∈ls) (L:aa):dI [.lst (ls.map .str),aR r] L=.ok .cm L:=by
 unfold dI;simp only [lq,Ut,UW,XY,if_true];simp_arith;rw [sC (r:=r) (F:=bS) rfl rfl];simp_arith [vU];cases ht:r.take with
 | cons a l=>simp only [reduceCtorEq,decide_false];simp_arith
 | nil =>
  simp only [decide_true];simp_arith;generalize ho:forL _ _ _ _ _ _=o;have h2:=bA ho r.put fT (fun q φ L'=>∃o3,(∀f∈q,f.k∈ls)/\φ=[some (.lst (ls.map .str)),some (aR r),o3]/\L'=L)
   (fun o=>∃φ,o=.nx φ L) rfl ⟨none,hc ht,rfl,rfl⟩ (fun _ _ eJ eP f q φ L' hh=>by
    obtain⟨o3,hr,rfl,rfl⟩:=hh;refine⟨sv,_,rfl,?_⟩;simp_arith [eJ,eP,decide_eq_true (hr f Um)];exact⟨_,fun g hg=>hr g (Up _ hg),rfl,by trivial⟩)
   fun φ L' hh=>by
    obtain⟨o3,hr,rfl,rfl⟩:=hh;exact⟨sv,_,rfl⟩
  obtain⟨φ,rfl⟩:=h2;simp_arith
theorem Ai {L:aa} {xs ys:List T} {t:T} (ht:vw (.lst xs::L) t=.lst ys\/vw (.lst xs::L) t=.tup ys) (h:xs.length+ys.length<=lim):xA (.ref L.length) [t] (.lst xs::L)=.ok .cm (.lst (xs++ys)::L):=by
 unfold xA;simp only [dR];rcases ht with ht|ht <;> · simp only [ht];rw [aV h,w7]
theorem qp {α:Type} {k:aa->Prop} {b:SS} {o:O} {L:aa} {acc:List Cs} (xs:List α) (enc:α->T) (g:α->List Cs) (i:Nat) (F:Option T->Fr) (z:Option T)
  (ho:forL k (.one i) b (xs.map enc) (F z) (.lst (acc.map .str)::L)=o) (hl:acc.length+(xs.flatMap g).length<=20000) (hk:∀L',k L') (hF:∀z x,(F z).set i (some x)=F (some x))
  (hb:∀x∈xs,∀acc:List Cs,acc.length+(g x).length<=20000->b (F (some (enc x))) (.lst (acc.map .str)::L)=.nx (F (some (enc x))) (.lst ((acc++g x).map .str)::L)) :
  ∃z,o=.nx (F z) (.lst ((acc++xs.flatMap g).map .str)::L) :=
 bA ho xs enc (fun r φ L'=>∃z eM,φ=F z/\L'=.lst (eM.map .str)::L/\eM++r.flatMap g=acc++xs.flatMap g/\∀x∈r,x∈xs) (fun o=>∃z,o=.nx (F z) (.lst ((acc++xs.flatMap g).map .str)::L)) rfl ⟨z,acc,rfl,rfl,rfl,fun _ h=>h⟩ (fun _ _ eJ eP x r φ L' hh=>by
  obtain⟨z,eM,rfl,rfl,e,hx⟩:=hh;refine⟨hk _,_,rfl,?_⟩;rw [hF,hb x (hx x Um) eM (by have:=congrArg Ww e;simp at this hl ⊢;omega),D8,eJ];exact⟨_,eM++g x,rfl,rfl,by rw [<- e];simp,fun y hy=>hx y (Up _ hy)⟩)
 fun φ L' hh=>by
  obtain⟨z,eM,rfl,rfl,e,_⟩:=hh;exact⟨hk _,z,by simp at e;rw [<- e]⟩
theorem Hk (r:Rl) (hl:(cB r).length<=20000) (L:aa):eY [aR r] L=.ok (.lst ((cB r).map .str)) L:=by
 have hs:cB r=(r.ar.flatMap fun k=>[k.l,k.r])++((r.put.flatMap (·.as))++(r.tell.flatMap fun p=>[p.1,p.2])):=rfl;rw [hs] at hl;simp only [Ul] at hl;unfold eY;simp_arith;generalize ho:forL _ _ _ _ _ _=o;obtain⟨z1,rfl⟩:=qp (acc:=[]) r.ar lT (fun k=>[k.l,k.r]) 2 (fun z=>[some (aR r),some (.ref L.length),z,none,none]) none ho (by simp only [UW,Vq,Ul];omega) (fun _=>sv) (fun _ _=>rfl) (fun k _ acc h=>by
  simp_arith [show vw (.lst (acc.map .str)::L) (.lst [.str k.l,.str k.r])=.lst ([k.l,k.r].map .str) from rfl,Ai (L:=L) (xs:=acc.map .str) (t:=.lst [.str k.l,.str k.r]) (ys:=[k.l,k.r].map .str) (.inl rfl) (by simp at h ⊢;unfold lim;omega)];rw [UD];rfl)
 simp_arith;generalize ho:forL _ _ _ _ _ _=o;obtain⟨z2,rfl⟩:=qp (acc:=[]++r.ar.flatMap fun k=>[k.l,k.r]) r.put fT (·.as) 3 (fun z=>[some (aR r),some (.ref L.length),z1,z,none]) none ho (by simp only [UW,Vq,Ul];omega) (fun _=>sv) (fun _ _=>rfl) (fun f _ acc h=>by
  simp_arith [Ai (L:=L) (xs:=acc.map .str) (t:=.tup (f.as.map .str)) (.inr rfl) (by simp at h ⊢;unfold lim;omega),<- UD])
 simp_arith;generalize ho:forL _ _ _ _ _ _=o;obtain⟨z3,rfl⟩:=qp (acc:=([]++r.ar.flatMap fun k=>[k.l,k.r])++r.put.flatMap (·.as)) r.tell pT (fun p=>[p.1,p.2]) 4 (fun z=>[some (aR r),some (.ref L.length),z1,z2,z]) none ho (by simp only [UW,Vq,Ul];omega) (fun _=>sv) (fun _ _=>rfl) (fun p _ acc h=>by
  simp_arith [Ai (L:=L) (xs:=acc.map .str) (t:=pT p) (ys:=[p.1,p.2].map .str) (.inr rfl) (by simp at h ⊢;unfold lim;omega)];rw [UD];rfl)
 simp_arith;rw [hs];simp only [Vq,UN];exact fA (av fun _ _=>rfl)
theorem n7 (r:Rl) (hl:(cB r).length<=20000) (hs:∀a∈cB r,ah a=true/\(great a=true->a∈opens (r.take++r.keep))) (L:aa):dY [aR r] L=.ok .cm L:=by
 unfold dY;simp_arith [Hk r hl];generalize ho:forL _ _ _ _ _ _=o;have h2:=bA ho (cB r) T.str (fun q φ L'=>∃o3,(∀a∈q,a∈cB r)/\φ=[some (aR r),o3]/\L'=L)
  (fun o=>∃φ,o=.nx φ L) rfl ⟨none,fun _ h=>h,rfl,rfl⟩ (fun _ _ eJ eP f q φ L' hh=>by
   obtain⟨o3,hr,rfl,rfl⟩:=hh;have hm:=hr f Um
   refine⟨sv,_,rfl,?_⟩;simp_arith [eJ,eP,fc f (aA (hs f hm).1).1];cases hg:great f with
   | true=>simp_arith [eJ,eP,decide_eq_true ((hs f hm).2 hg)];exact⟨_,fun g hg=>hr g (Up _ hg),rfl,by trivial⟩
   | false=>simp_arith [eJ,eP];exact⟨_,fun g hg=>hr g (Up _ hg),rfl,by trivial⟩)
  fun φ L' hh=>by
   obtain⟨o3,hr,rfl,rfl⟩:=hh;exact⟨sv,_,rfl⟩
 obtain⟨φ,rfl⟩:=h2;simp_arith
mutual
theorem sD {n m:Nat} (h:n<=m):∀{t:T},lt n t=true->lt m t=true
 | .ref k,e=>by rw [lt] at e ⊢;exact decide_eq_true (by have:=of_decide_eq_true e;omega)
 | .tup xs,e=>by rw [lt] at e ⊢;exact uB h e
 | .lst xs,e=>by rw [lt] at e ⊢;exact uB h e
 | .aS ks,e=>by rw [lt] at e ⊢;exact Aj h e
 | .obj _ fs,e=>by rw [lt] at e ⊢;exact Ak h e
 | .cm,_=>rfl
 | .bl _,_=>rfl
 | .int _,_=>rfl
 | .str _,_=>rfl
 | .cl _,_=>rfl
theorem uB {n m:Nat} (h:n<=m):∀{t:List T},cK n t=true->cK m t=true
 | [],_=>rfl
 | x::xs,e=>by rw [cK,Uw] at e ⊢;exact⟨sD h e.1,uB h e.2⟩
theorem Aj {n m:Nat} (h:n<=m):∀{t:List (T × T)},A9 n t=true->A9 m t=true
 | [],_=>rfl
 | (x,y)::xs,e=>by rw [A9,Uw,Uw] at e ⊢;exact⟨⟨sD h e.1.1,sD h e.1.2⟩,Aj h e.2⟩
theorem Ak {n m:Nat} (h:n<=m):∀{t:List (Str × T)},nP n t=true->nP m t=true
 | [],_=>rfl
 | (x,y)::xs,e=>by rw [nP,Uw] at e ⊢;exact⟨sD h e.1,Ak h e.2⟩
end
theorem uC (a b:T) (L:aa) (ha:lt L.length a=true) (hb:lt L.length b=true):uu [a,b] L=.ok (.obj "Book" [("kinds",a),("rules",b)]) L:=by
 have up:∀{t:T},lt L.length t=true->lt (L.length+1) t=true:=sD (Wv _);unfold uu make iF;simp_arith [sU,bY (fs:=[]) (f:="kinds") (by rfl),bY (fs:=[("kinds",a)]) (f:="rules") (by rfl),Vq,Nat.reduceLT];rw [nv (by simp [lt,nP,up ha,up hb]) rfl];simp_arith;exact fA (by simp [lt,nP,ha,hb])
theorem C0 {ks:List Kd} {rs:List Rl} (hG:KG ks) (hg:∀r∈rs,nN ks r) (L:aa) :
  eZ [.ref L.length,.ref (L.length+1)] (.lst (rs.map aR) :: .lst (ks.map kT)::L)=.ok (.obj "Book" [("kinds",.ref L.length),("rules",.ref (L.length+1))]) (.lst (rs.map aR) :: .lst (ks.map kT)::L):=by
 have hk:ks.length<=20000:=by rw [hG.len];decide
 unfold eZ;simp_arith;rw [dC (k:=stays (.ref L.length) (.lst (rs.map aR) :: .lst (ks.map kT)::L)) rfl ks kT (·.l) (fun k=>.str k.n) (by simp_arith) (by exact aq) (by unfold lim;omega) (by exact fun b _=>by simp_arith) (by exact fun b _ _=>by simp_arith)];simp_arith;generalize ho:forL _ _ _ _ _ _=o;have C1:((ks.filter (·.l)).map fun k=>T.str k.n)=((ks.filter (·.l)).map (·.n)).map T.str:=by simp
 rw [C1] at ho;have h2:=bA ho rs aR (fun q φ L'=>∃o3,(∀r∈q,r∈rs)/\φ=[some (.ref L.length),some (.ref (L.length+1)),some (.lst (((ks.filter (·.l)).map (·.n)).map T.str)),o3]/\L'=.lst (rs.map aR) :: .lst (ks.map kT)::L)
  (fun o=>∃o2 o3,o=.nx [some (.ref L.length),some (.ref (L.length+1)),o2,o3] (.lst (rs.map aR) :: .lst (ks.map kT)::L)) rfl ⟨none,fun _ h=>h,rfl,rfl⟩ (fun _ _ eJ eP r q φ L' hh=>by
   obtain⟨o3,hq,rfl,rfl⟩:=hh;have g:=hg r (hq r Um)
   refine⟨aq,_,rfl,?_⟩;obtain⟨f1,f2,f3,f4,f5⟩:=g.pC;have hs:(cB r).length<=20000:=by
    have z1:=Bk.gz (l:=r.ar) (g:=fun k=>[k.l,k.r]) (B:=2) fun _ _=>UH 2
    have z2:=Bk.gz (l:=r.put) (g:=(·.as)) (B:=4) fun f hf=>(g.f f (UB _ hf)).1.n
    have z3:=Bk.gz (l:=r.tell) (g:=fun p=>[p.1,p.2]) (B:=2) fun _ _=>UH 2
    unfold cB;rw [Ul,Ul];omega
   have ct:∀L,cb [.lst (((ks.filter (·.l)).map (·.n)).map T.str),_] L=_:=jd _ _ g.takes;have cc:∀L,dI [.lst (((ks.filter (·.l)).map (·.n)).map T.str),_] L=_:=qo _ r g.calls
   have Qj:=gc ks (r.take++r.keep++r.put) (.ref L.length) (.lst (rs.map aR) :: .lst (ks.map kT)::L) (by simp_arith [eJ,eP]) hG.nd hk fun f hf=>(g.f f hf).2
   rw [UD,UD] at Qj;simp_arith [eJ,eP,Ul,aV (show r.take.length+r.keep.length<=lim by unfold lim;omega),aV (show r.take.length+r.keep.length+r.put.length<=lim by unfold lim;omega),Qj,ct,cc,n7 r hs g.uj];exact⟨_,fun r hr=>hq r (Up _ hr),rfl,by trivial⟩)
  fun φ L' hh=>by
   obtain⟨o3,hq,rfl,rfl⟩:=hh;exact⟨aq,_,_,rfl⟩
 obtain⟨o2,o3,rfl⟩:=h2;simp_arith [uC (.ref L.length) (.ref (L.length+1)) (.lst (rs.map aR) :: .lst (ks.map kT)::L) (by simp [lt];omega) (by simp [lt])];exact fin_same (by simp [lt,nP];omega)
theorem Al {ks:List Kd} {rs:List Rl} {L:aa}:fin L (.obj "Book" [("kinds",.ref L.length),("rules",.ref (L.length+1))]) (.lst (rs.map aR) :: .lst (ks.map kT)::L)=.ok (lK ks rs) L:=by
 unfold fin;have e:(T.lst (rs.map aR) :: .lst (ks.map kT)::L).drop ((T.lst (rs.map aR) :: .lst (ks.map kT)::L).length - L.length)=L:=by
  rw [show(T.lst (rs.map aR) :: .lst (ks.map kT)::L).length - L.length=2 by simp only [Ut];omega];rfl
 rw [e,if_pos (gC L)];unfold cz;rw [if_neg (by simp [lt,nP])];have e1:cz L.length (.lst (rs.map aR) :: .lst (ks.map kT)::L) 8 (.ref L.length)=some (.lst (ks.map kT)):=by
  unfold cz;rw [if_neg (by simp [lt])];simp only [m9];unfold cz;rw [if_pos (av r9)]
 have e2:cz L.length (.lst (rs.map aR) :: .lst (ks.map kT)::L) 8 (.ref (L.length+1))=some (.lst (rs.map aR)):=by
  unfold cz;rw [if_neg (by simp [lt])];simp only [w6];unfold cz;rw [if_pos (av qe)]
 simp [Wr,e1,e2,lift,lK]
theorem sE {ks:List Kd} {rs:List Rl} (hG:KG ks) (hr:rs.length<=2) (hg:∀r∈rs,nN ks r) (hn:(rs.map (·.title)).Nodup) (L:aa) :
  eF [.str (jn [10] (ks.map ax++rs.map cq))] L=.ok (lK ks rs) L:=by
 have h4:=hG.len;have hl:∀l∈ks.map ax++rs.map cq,10∉l/\l.length<=20000/\∃c r,l=c::r/\c≠32/\c≠35:=fun l hl=>by
  rcases Uz.mp hl with h|h
  ·obtain⟨k,hk,rfl⟩:=Ur.mp h
   obtain⟨w,hz⟩:=Bk.kH (hG.ok k hk);refine⟨(w.no (by decide +kernel) (by decide)).2 (by decide),UO hz (by decide),?_⟩;unfold ax;cases k.l
   ·exact⟨112,_,rfl,by decide,by decide⟩
   ·exact⟨108,_,rfl,by decide,by decide⟩
  ·obtain⟨r,hr,rfl⟩:=Ur.mp h
   obtain⟨w,hz⟩:=(hg r hr).line;exact⟨(w.no (by decide +kernel) (by decide)).2 (by decide),UO hz (by decide),114,_,rfl,by decide,by decide⟩
 have ne:ks.map ax++rs.map cq≠[]:=fun e=>by
  have:=congrArg Ww e;simp [h4] at this
 have en:(ks.map ax++rs.map cq).map T.str=(ks.map Sum.inl++rs.map Sum.inr).map fun x:Kd ⊕ Rl=>.str (x.elim ax cq):=by
  rw [UD,UD,UT,UT,UT,UT];rfl
 unfold eF;simp_arith [CX _ ne (by rw [Ul,Lm9,Lm9];omega) hl,en];generalize hT:jn [10] (ks.map ax++rs.map cq)=tx;generalize ho:forL _ _ _ _ _ _=o;have h2:=bA ho (ks.map Sum.inl++rs.map Sum.inr) _ (fun q φ L'=>∃dk k' dr r' o3,q=k'.map Sum.inl++r'.map Sum.inr/\dk++k'=ks/\dr++r'=rs/\φ=[some (.str tx),some (.ref L.length),some (.ref (L.length+1)),o3]/\L'=.lst (dr.map aR) :: .lst (dk.map kT)::L)
  (fun o=>∃o3,o=.nx [some (.str tx),some (.ref L.length),some (.ref (L.length+1)),o3] (.lst (rs.map aR) :: .lst (ks.map kT)::L)) rfl ⟨[],ks,[],rs,none,rfl,rfl,rfl,rfl,rfl⟩ (fun _ _ eJ eP x q φ L' hh=>by
   obtain⟨dk,k',dr,r',o3,e0,e1,e2,rfl,rfl⟩:=hh;refine⟨sv,_,rfl,?_⟩;cases k' with
   | cons k k' =>
    obtain⟨rfl,e9⟩:=Wo e0;have nn:=hG.nd
    rw [<- e1,UD,Uy,VS] at nn;rw [<- e1,Ul] at h4;simp_arith [eJ,eP,Sum.elim_inl,sy dk dr k (hG.ok k (by rw [<- e1];simp)) (fun z=>nn.2.2 _ z _ Um rfl) (by omega) L];exact⟨dk++[k],k',dr,r',_,e9,by simpa using e1,e2,rfl,rfl⟩
   | nil =>
    cases r' with
    | nil=>cases e0
    | cons r r' =>
     obtain⟨rfl,e9⟩:=Wo e0;rw [UQ] at e1;subst e1;rw [<- e2,UD,Uy,VS] at hn;rw [<- e2,Ul] at hr;simp_arith [eJ,eP,Sum.elim_inr,sA dk dr (hg r (by rw [<- e2];simp)) (fun z=>hn.2.2 _ z _ Um rfl) (by omega) L];exact⟨dk,[],dr++[r],r',_,e9,UQ _,by simpa using e2,rfl,rfl⟩)
  fun φ L' hh=>by
   obtain⟨dk,k',dr,r',o3,e0,e1,e2,rfl,rfl⟩:=hh;obtain⟨z1,z2⟩:=List.append_eq_nil_iff.mp e0.symm;rw [Wx.mp z1,UQ] at e1;rw [Wx.mp z2,UQ] at e2;rw [e1,e2];exact⟨sv,_,rfl⟩
 obtain⟨o3,rfl⟩:=h2;simp_arith [C0 hG hg L];exact Al
end da
namespace da
open PySem M
open lZ (bV ah aQ)
open Bk (Fc Kd Lk Rl aK great opens cB aj ai KG i0 nameOf l6 xp zW cy)
theorem qq (ns:List Int) (k:Int) (hk:0<=k) (L:aa):bE [.lst (ns.map .int),.int k] L=.ok (.int (ns.getD k.toNat 0)) L:=by
 unfold bE;simp_arith;by_cases h:k<ns.length
 ·have e:(ns.map T.int)[k.toNat]?=some (.int (ns.getD k.toNat 0)):=by
   have:k.toNat<ns.length:=by omega
   simp [Gd9,this]
  simp_arith [h,decide_true,vH hk e]
 ·simp_arith [h,decide_false]
  simp [Gd9,Wf (show ns.length<=k.toNat by omega)]
noncomputable def dg:Int->List Int->List Nat
 | _,[]=>[]
 | n,m::ms=>(n % m).toNat::dg (n / m) ms
theorem oV:∀(n:Int) (ms:List Int),(∀m∈ms,0<m/\m<1073741824)->Paired (fun(m:Int) (d:Nat)=>(d:Int)<m) ms (dg n ms)
 | _,[],_=>.nil
 | n,m::ms,h=>.cons (by
   have:=h m Um;have h1:=WS n (show m≠0 by omega)
   have h2:=WH n this.1;omega) (oV (n / m) ms fun x hx=>h x (Up _ hx))
theorem ly (c:Int) (ms:List Int) (hm:∀m∈ms,0<m/\m<1073741824) (hl:ms.length<=100):∃ds:List Nat,Paired (fun(m:Int) (d:Nat)=>(d:Int)<m) ms ds/\∀L,aH [.int c,.lst (ms.map .int)] L=.ok (.lst (ds.map fun d=>.int (d:Nat))) L:=by
 refine⟨dg (c % 2147483647 * 48271 % 2147483647) ms,oV _ _ hm,fun L=>?_⟩;unfold aH;simp_arith;generalize ho:forL _ _ _ _ _ _=o;have h:=bA ho ms T.int (fun r φ L'=>∃(n:Int) (done:List Nat) (o4:Option T),done++dg n r=dg (c % 2147483647 * 48271 % 2147483647) ms/\(∀m∈r,0<m/\m<1073741824)/\done.length+r.length<=100/\φ=[some (.int c),some (.lst (ms.map .int)),some (.int n),some (.ref L.length),o4]/\L'=.lst (done.map fun d=>.int (d:Nat))::L)
  (fun o=>∃o2 o4,o=.nx [some (.int c),some (.lst (ms.map .int)),o2,some (.ref L.length),o4] (.lst ((dg (c % 2147483647 * 48271 % 2147483647) ms).map fun d=>.int (d:Nat))::L)) rfl ⟨_,[],none,rfl,hm,by simpa using hl,rfl,rfl⟩ (fun _ _ eJ eP m r φ L' hh=>by
   obtain⟨n,done,o4,e1,h1,h2,rfl,rfl⟩:=hh;obtain⟨m1,m2⟩:=h1 m Um;have h0:=WS n (show m≠0 by omega)
   refine⟨sv,_,rfl,?_⟩;simp only [Ut] at h2;simp_arith [eJ,eP,m1,m2,aV (show done.length<lim by unfold lim;omega),show T.int (n % m)=(fun d:Nat=>T.int (d:Int)) (n % m).toNat by simp only [Int.toNat_of_nonneg h0],bw (fun d:Nat=>T.int (d:Int))];exact⟨n / m,done++[(n % m).toNat],_,by rw [<- e1];simp [dg],fun x hx=>h1 x (Up _ hx),by simp;omega,rfl,rfl⟩)
  fun φ L' hh=>by
   obtain⟨n,done,o4,e1,h1,h2,rfl,rfl⟩:=hh;have e:dg (c % 2147483647 * 48271 % 2147483647) ms=done:=by rw [<- e1];simp [dg]
   rw [e];exact⟨sv,_,_,rfl⟩
 obtain⟨o2,o4,rfl⟩:=h;simp_arith;exact fA (av fun _ _=>rfl)
theorem K6 (s:Int):∃a b:Nat,a+b<=4/\∀k:Int,0<=k->k<8->∀L,bq [.int s,.int k] L=.ok (.str (nameOf a b k.toNat)) L:=by
 have h1:=WS s (show(5:Int)≠0 by decide);have h2:=WH s (show(0:Int)<5 by decide)
 have h3:=WS (s / 5) (show 1+s % 5≠0 by omega);have h4:=WH (s / 5) (show 0<1+s % 5 by omega)
 refine⟨(s / 5 % (1+s % 5)).toNat,(1+s % 5 - 1 - s / 5 % (1+s % 5)).toNat,by omega,fun k k1 k2 L=>?_⟩;have hx:ix (.str (S "abcdefgh")) (.int k) L=.ok (.str [Bk.kJ.getD k.toNat 0]) L:=by
  rw [uh k1 (show k<((S "abcdefgh").length:Int) from k2)];rfl
 unfold bq;simp_arith [show 0<1+s % 5 by omega,hx,show S "m"=[109] from rfl];generalize s / 5 % (1+s % 5)=a at *
 generalize s % 5=q at *
 simp_arith [hx,show(-4611686018427387904:Int)<=a by omega,show a<=1000000 by omega,show(-4611686018427387904:Int)<=1+q - 1 - a by omega,show 1+q - 1 - a<=1000000 by omega];rw [aC (by simp;unfold lim;omega)];simp_arith;rw [aC (by simp;unfold lim;omega)];simp_arith;simp [nameOf]
noncomputable def dw:Int->Nat->List Cs->List Cs
 | _,0,_=>[]
 | n,m+1,as=>as.getD (n % as.length).toNat []::dw (n / as.length) m as
theorem Am:∀(m:Nat) (n:Int) (as:List Cs),(dw n m as).length=m
 | 0,_,_=>rfl
 | m+1,n,as=>by simp [dw,Am m]
theorem md {n:Int} {l:Nat} (h:1<=l):0<=n % (l:Int)/\(n % (l:Int)).toNat<l:=by
 have h1:=WS n (show(l:Int)≠0 by omega);have h2:=WH n (show(0:Int)<l by omega)
 omega
theorem Ed:∀(m:Nat) (n:Int) (as:List Cs),1<=as.length->∀a∈dw n m as,a∈as
 | 0,_,_,_,a,h=>by cases h
 | m+1,n,as,hl,a,h=>by
  rcases UG.mp h with rfl|h
  ·have:=(md (n:=n) hl).2
   rw [Gd9,Ge9 this];exact UJ _
  ·exact Ed m _ as hl a h
theorem An {α:Type} {g:α->T} {l:List α} {n:Int} {d:α} (h:1<=l.length) (L:aa):ix (.lst (l.map g)) (.int (n % (l.length:Int))) L=.ok (g (l.getD (n % l.length).toNat d)) L:=by
 have:=md (n:=n) h;exact vH this.1 (by rw [UM,Gd9,Ge9 this.2];rfl)
theorem g9 (ks:List Kd) (as:List Cs) (n:Int) (hk:1<=ks.length) (qF:ks.length<=100) (hc:∀k∈ks,k.c<=4) (ha:1<=as.length) (Ig:as.length<=100) :
  ∃f,i0 ks as f/\∀L,aO [.lst (ks.map kT),.int n,.lst (as.map .str)] L=.ok (fT f) L:=by
 have hi:=(md (n:=n) hk).2;have OH:ks.getD (n % ks.length).toNat ⟨[],0,false⟩∈ks:=by
  rw [Gd9,Ge9 hi];exact UJ _
 have hx:=fun L=>An (g:=kT) (n:=n) (d:=⟨[],0,false⟩) hk L
 generalize ks.getD (n % ks.length).toNat ⟨[],0,false⟩=k at OH hx;refine⟨⟨k.n,dw (n / ks.length) k.c as⟩,⟨⟨k,OH,rfl,Am _ _ _⟩,Ed _ _ _ ha⟩,fun L=>?_⟩;have S7:=hc k OH
 have S8:sT 0/\sT (k.c:Int):=⟨vN (n:=0) (by decide),vN (by omega)⟩;have hr:∀(φ:Fr) (L':aa),φ[3]?=some (some (kT k))->xw (c (.int 0)) (vi 3 1) φ L'=.ok (M.upTo 0 ((k.c:Int) - 0).toNat,fun _=>True) L':=fun φ L' h=>D4 _ _ _ _ rfl (by simp only [KU,JY,Ib,h,WZ,fk,aM,Qc,Qg]) S8
 have hy:=fun n' L=>An (g:=T.str) (l:=as) (n:=n') (d:=[]) ha L
 have S9:∀n' m,dw n' (m+1) as=as.getD (n' % as.length).toNat []::dw (n' / as.length) m as:=fun _ _=>rfl
 unfold aO;simp_arith [show(0:Int)<ks.length by omega,show(ks.length:Int)<1073741824 by omega,hx,hr];generalize ho:forL _ _ _ _ _ _=o;have h:=bA ho (Vp k.c) (fun j:Nat=>T.int (0+(j:Int))) (fun r φ L'=>∃(n':Int) (done:List Cs) (o5:Option T),done++dw n' r.length as=dw (n / ks.length) k.c as/\done.length+r.length<=4/\φ=[some (.lst (ks.map kT)),some (.int n'),some (.lst (as.map .str)),some (kT k),some (.ref L.length),o5]/\L'=.lst (done.map .str)::L)
  (fun o=>∃o1 o5,o=.nx [some (.lst (ks.map kT)),o1,some (.lst (as.map .str)),some (kT k),some (.ref L.length),o5] (.lst ((dw (n / ks.length) k.c as).map .str)::L)) (by simp [M.upTo]) ⟨n / ks.length,[],none,by simp,by simpa using S7,rfl,rfl⟩ (fun _ _ eJ eP j r φ L' hh=>by
   obtain⟨n',done,o5,e1,e2,rfl,rfl⟩:=hh;refine⟨trivial,_,rfl,?_⟩;simp only [Ut] at e1 e2;simp_arith [eJ,eP,show(0:Int)<as.length by omega,show(as.length:Int)<1073741824 by omega,hy,aV (show done.length<lim by unfold lim;omega),bw];exact⟨n' / as.length,done++[as.getD (n' % as.length).toNat []],_,by rw [<- e1,S9];simp,by simp;omega,rfl,rfl⟩)
  fun φ L' hh=>by
   obtain⟨n',done,o5,e1,e2,rfl,rfl⟩:=hh;have e:dw (n / ks.length) k.c as=done:=by rw [<- e1];simp [dw]
   rw [e];exact⟨trivial,_,_,rfl⟩
 obtain⟨o1,o5,rfl⟩:=h;simp_arith;exact eB (by simp [lt,cK,jS])
theorem K7 {α:Type} {xs:List α} {n:Nat}:cut xs (some (n:Int)) none=xs.drop n:=by
 unfold cut clip;simp only [];rw [if_neg (by omega),show((n:Int)).toNat=n by omega];by_cases h:n<=xs.length
 ·rw [Nat.min_eq_left h,Vm (by simp)]
 ·rw [Nat.min_eq_right (by omega),W9 (UH _),W9 (show xs.length<=n by omega)];simp
theorem Ee {α:Type} {xs:List α} {n:Nat}:cut xs none (some (n:Int))=xs.take n:=by
 unfold cut clip;simp only [Z3,Nat.sub_zero];rw [if_neg (by omega),show((n:Int)).toNat=n by omega];by_cases h:n<=xs.length
 ·rw [Nat.min_eq_left h]
 ·rw [Nat.min_eq_right (by omega),Vm (UH _),Vm (by omega)]
theorem K8 {xs:List T} {n:Nat} {L:aa} (h:xs.length<=lim):jf true (.lst xs) (some (n:Int)) none L=.ok (.lst (xs.drop n)) L:=by
 show fF true (cut xs (some (n:Int)) none) L=_;rw [K7,fF,aC (by simp;omega)];rfl
theorem nA {xs:List T} {n:Nat} {L:aa} (h:xs.length<=lim):jf true (.lst xs) none (some (n:Int)) L=.ok (.lst (xs.take n)) L:=by
 show fF true (cut xs none (some (n:Int))) L=_;rw [Ee,fF,aC (by simp;omega)];rfl
theorem qr {xs:List T} {n:Nat} {L:aa} (h:xs.length<=lim):jf false (.lst xs) none (some (n:Int)) L=.ok (.ref L.length) (.lst (xs.take n)::L):=by
 show fF false (cut xs none (some (n:Int))) L=_;rw [Ee,fF,aC (by simp;omega)];rfl
theorem P0 {α β:Type} {R:α->β->Prop} {ds:List β} (h:Paired R [] ds):ds=[]:=by cases h;rfl
theorem P1 {α β:Type} {R:α->β->Prop} {m:α} {ms:List α} {ds:List β} (h:Paired R (m::ms) ds):∃d r,ds=d::r/\R m d/\Paired R ms r:=by cases h with|cons a b=>exact⟨_,_,rfl,a,b⟩
theorem K9:∀d:Nat,d<4->∃c:Nat,c<=4/\∀L,ix (.tup [.int 0,.int 1,.int 2,.int 4]) (.int (d:Nat)) L=.ok (.int (c:Nat)) L
 | 0,_=>⟨0,by decide,fun _=>rfl⟩
 | 1,_=>⟨1,by decide,fun _=>rfl⟩
 | 2,_=>⟨2,by decide,fun _=>rfl⟩
 | 3,_=>⟨4,by decide,fun _=>rfl⟩
theorem C2 (c:Int):∃ks,KG ks/\(ks.filter l6).length=2/\∀L,eR [.int c] L=.ok (.lst (ks.map kT)) L:=by
 refine sL fun G n9=>?_
 obtain⟨_,p,e⟩:=ly c [25,2,4,2,4] (by decide) (by decide);obtain⟨d0,_,rfl,h0,p⟩:=P1 p;obtain⟨d1,_,rfl,h1,p⟩:=P1 p;obtain⟨d2,_,rfl,h2,p⟩:=P1 p;obtain⟨d3,_,rfl,h3,p⟩:=P1 p;obtain⟨d4,_,rfl,h4,p⟩:=P1 p;obtain rfl:=P0 p;simp only [Uy,Vy] at e;obtain⟨a,b,hab,hn⟩:=K6 (d0:Int);have n0:=hn 0 (by decide) (by decide)
 have n1:=hn 1 (by decide) (by decide);have n2:=hn 2 (by decide) (by decide)
 have n3:=hn 3 (by decide) (by decide);obtain⟨c2,DC,Ta⟩:=K9 d2 (by omega);have G:KG [⟨nameOf a b 0,d1,false⟩,⟨nameOf a b 1,c2,false⟩,⟨nameOf a b 2,2,true⟩,⟨nameOf a b 3,d3,true⟩]:=by
  refine⟨rfl,?_,?_,⟨_,Up _ (Up _ Um),rfl⟩,⟨_,Um,rfl⟩⟩
  ·simp only [Uy,Vy,Vd,UG,Wa,or_false,not_or,not_false_eq_true,and_true,W5]
   have ne:∀i j,i<8->j<8->i≠j->nameOf a b i≠nameOf a b j:=fun i j h1 h2 h e=>h (Bk.m6 h1 h2 e)
   exact⟨⟨ne 0 1 (by decide) (by decide) (by decide),ne 0 2 (by decide) (by decide) (by decide),ne 0 3 (by decide) (by decide) (by decide)⟩,⟨ne 1 2 (by decide) (by decide) (by decide),ne 1 3 (by decide) (by decide) (by decide)⟩,ne 2 3 (by decide) (by decide) (by decide)⟩
  ·intro k hk
   simp only [UG,Wa,or_false] at hk;rcases hk with rfl|rfl|rfl|rfl
   ·exact⟨Bk.dh (by decide) hab,by show d1<=4;omega⟩
   ·exact⟨Bk.dh (by decide) hab,DC⟩
   ·exact⟨Bk.dh (by decide) hab,by show 2<=4;omega⟩
   ·exact⟨Bk.dh (by decide) hab,by show d3<=4;omega⟩
 refine n9 ?_;clear n9;refine⟨_,G.CS (Bk.r7 d4 _),?_,fun L=>?_⟩
 ·rw [((Bk.r7 d4 _).filter l6).length_eq];rfl
 ·unfold eR
  simp_arith [e,n0,n1,n2,n3,Ta];rw [K8 (by simp;decide),aM,nA (by simp;decide)];simp_arith;rw [aC (by rw [Ul,U9,Vc];simp only [Ut,UW];unfold lim;omega)];simp_arith;rw [UD,List.map_drop,Wq];refine fin_same ?_;rw [lt,gJ];intro i x hx;have hm:=U7 hx
  have:x∈[kT ⟨nameOf a b 0,d1,false⟩,kT ⟨nameOf a b 1,c2,false⟩,kT ⟨nameOf a b 2,2,true⟩,kT ⟨nameOf a b 3,d3,true⟩]:=by
   rcases Uz.mp hm with h|h
   ·exact List.mem_of_mem_drop h
   ·exact VW h
  simp only [UG,Wa,or_false] at this;rcases this with rfl|rfl|rfl|rfl <;> exact r9 _ _
end da
namespace da
open PySem M
open lZ (bV ah aQ)
open Bk (Fc Kd Lk Rl aK great opens cB aj ai KG i0 nameOf l6 xp zW cy az cW aA)
theorem C3 {α β:Type} (f:α->β) (a b:α):[f a,f b]=[a,b].map f:=rfl
theorem OI {α β:Type} (f:α->β) (a:α):[f a]=[a].map f:=rfl
theorem KG.pass {ks:List Kd} (h:KG ks):1<=(ks.filter l6).length:=by
 obtain⟨k,hk,e⟩:=h.no;exact Xa (UZ.mpr ⟨hk,by simp [l6,e]⟩)
theorem KG.last {ks:List Kd} (h:KG ks):1<=(ks.filter (·.l)).length:=by
 obtain⟨k,hk,e⟩:=h.yes;exact Xa (UZ.mpr ⟨hk,by simp [e]⟩)
theorem fj {α:Type} {p:α->Bool} {l:List α} {n:Nat} (h:l.length<=n):(l.filter p).length<=n:=UO (WI _ _) h
theorem all2 {α:Type} {P:α->Prop} {a b f:α} (ha:P a) (hb:P b) (h:f∈[a,b]):P f:=by
 rcases UG.mp h with rfl|h
 ·exact ha
 ·rw [UR.mp h];exact hb
theorem Hl {α:Type} {P:α->Prop} {a b f:α} {n:Nat} (ha:P a) (hb:P b) (h:f∈[a,b].take n):P f:=all2 ha hb (VW h)
theorem C4 (ks:List Kd) (hG:KG ks) (c:Int) (as:List Cs) (ha:1<=as.length) (Ig:as.length<=100) :
  ∃tk kp:List Fc,tk.length<=2/\kp.length<=2/\1<=tk.length+kp.length/\(∀f∈tk,i0 (ks.filter l6) as f)/\(∀f∈kp,i0 ks as f)/\∀L,dD [.lst (ks.map kT),.int c,.lst (as.map .str)] L=.ok (.tup [.lst (tk.map fT),.lst (kp.map fT)]) L:=by
 have h4:ks.length<=100:=by rw [hG.len];decide
 have Hm:∀k∈ks,k.c<=4:=fun k hk=>(hG.ok k hk).2
 have Qk:∀k∈ks.filter l6,k.c<=4:=fun k hk=>Hm k (UZ.mp hk).1
 refine sL fun G n9=>?_
 obtain⟨_,p,e⟩:=ly c [3,3,512,512] (by decide) (by decide);obtain⟨d0,_,rfl,h0,p⟩:=P1 p;obtain⟨d1,_,rfl,h1,p⟩:=P1 p;obtain⟨d2,_,rfl,h2,p⟩:=P1 p;obtain⟨d3,_,rfl,h3,p⟩:=P1 p;obtain rfl:=P0 p;obtain⟨_,p,e'⟩:=ly (c % 2147483629 * 69621 % 2147483629) [1024,1024] (by decide) (by decide);obtain⟨e0,_,rfl,_,p⟩:=P1 p;obtain⟨e1,_,rfl,_,p⟩:=P1 p;obtain rfl:=P0 p;simp only [Uy,Vy] at e e';obtain⟨f1,F1,x1⟩:=g9 (ks.filter l6) as d2 (KG.pass hG) (fj h4) Qk ha Ig;obtain⟨f2,F2,x2⟩:=g9 (ks.filter l6) as d3 (KG.pass hG) (fj h4) Qk ha Ig;obtain⟨g1,G1,y1⟩:=g9 ks as e0 (by rw [hG.len];decide) h4 Hm ha Ig;obtain⟨g2,G2,y2⟩:=g9 ks as e1 (by rw [hG.len];decide) h4 Hm ha Ig;have mT:∀f∈[f1,f2].take d0,i0 (ks.filter l6) as f:=fun f hf=>Hl F1 F2 hf
 have mK:∀f∈[g1,g2].take d1,i0 ks as f:=fun f hf=>Hl G1 G2 hf
 have run:∀L,dD [.lst (ks.map kT),.int c,.lst (as.map .str)] L=.ok (.tup [.lst (([f1,f2].take d0).map fT),.lst ((if ([f1,f2].take d0).length+([g1,g2].take d1).length=0 then [g1] else [g1,g2].take d1).map fT)]) L:=fun L=>by
  unfold dD;simp_arith;rw [dC rfl ks kT l6 kT (by exact rfl) (by exact aq) (by exact UO h4 (by decide)) (by exact fun b _=>by simp_arith;rfl) (by exact fun b _ _=>by simp_arith)];simp_arith [e,e',x1,x2,y1,y2];rw [C3 fT,nA (by simp;decide)];simp_arith [y1,y2];rw [C3 fT,nA (by simp;decide),<- Wq,C3 fT f1 f2,<- Wq];simp_arith [<- Int.natCast_add];by_cases hz:([f1,f2].take d0).length+([g1,g2].take d1).length=0
  ·rw [if_pos hz,hz]
   simp_arith [show(((0:Nat):Int) == 0)=true from rfl,y1];exact fin_same (by rw [lt,cK,cK,cK,av bh,OI fT,av bh];rfl)
  ·rw [if_neg hz,show((((([f1,f2].take d0).length+([g1,g2].take d1).length:Nat)):Int) == 0)=false by simp only [beq_eq_false_iff_ne];omega]
   simp_arith;exact fin_same (by rw [lt,cK,cK,cK,av bh,av bh];rfl)
 have t2:([f1,f2].take d0).length<=2:=by simp [Vc];omega
 have k2:([g1,g2].take d1).length<=2:=by simp [Vc];omega
 refine n9 ?_;clear n9;by_cases hz:([f1,f2].take d0).length+([g1,g2].take d1).length=0
 ·rw [if_pos hz] at run
  exact⟨_,_,t2,by simp,by simp,mT,fun f hf=>by rw [UR.mp hf];exact G1,run⟩
 ·rw [if_neg hz] at run
  exact⟨_,_,t2,k2,by omega,mT,mK,run⟩
theorem gd {a:Cs} (h:cy a):1<=a.length/\a.length<=12:=aA h.1
theorem La {a:Cs} (h:cy a):([a.headD 0] == [78])=great a:=by
 rw [h.2];by_cases e:a.headD 0=78
 ·rw [e];rfl
 ·rw [decide_eq_false e];simpa using e
theorem qt (fs:List Fc) (hf:∀f∈fs,∀a∈f.as,cy a) (hl:(fs.flatMap (·.as)).length<=32) (L:aa):cN [.lst (fs.map fT)] L=.ok (.lst ((opens fs).map .str)) L:=by
 unfold cN;simp_arith;generalize ho:forL _ _ _ _ _ _=o;have h:=bA ho fs fT (fun r φ L'=>∃done acc o2 o3,done++r=fs/\acc=az (done.flatMap (·.as)) []/\φ=[some (.lst (fs.map fT)),some (.ref L.length),o2,o3]/\L'=.lst (acc.map .str)::L)
  (fun o=>∃o2 o3,o=.nx [some (.lst (fs.map fT)),some (.ref L.length),o2,o3] (.lst ((opens fs).map .str)::L)) rfl ⟨[],[],none,none,rfl,rfl,rfl,rfl⟩ (fun _ _ eJ eP f r φ L' h=>by
   obtain⟨done,acc,o2,o3,e1,rfl,rfl,rfl⟩:=h;refine⟨sv,_,rfl,?_⟩;have Ec:f∈fs:=by rw [<- e1];simp
   have hb:(done.flatMap (·.as)).length+f.as.length<=20000:=by rw [<- e1] at hl;simp at hl ⊢;omega
   simp_arith [eJ,eP];generalize ho:forL _ _ _ _ _ _=o;have h:=bA ho f.as T.str (fun r φ L'=>∃d2 o3,d2++r=f.as/\φ=[some (.lst (fs.map fT)),some (.ref L.length),some (fT f),o3]/\L'=.lst ((az d2 (az (done.flatMap (·.as)) [])).map .str)::L)
    (fun o=>∃o3,o=.nx [some (.lst (fs.map fT)),some (.ref L.length),some (fT f),o3] (.lst ((az ((done++[f]).flatMap (·.as)) []).map .str)::L)) rfl ⟨[],o3,rfl,rfl,rfl⟩ (fun _ _ eJ eP a r φ L' h=>by
     obtain⟨d2,o3,e2,rfl,rfl⟩:=h;refine⟨sv,_,rfl,?_⟩;have hn:=hf f Ec a (by rw [<- e2];simp)
     have e3:az (d2++[a]) (az (done.flatMap (·.as)) [])=cW a (az d2 (az (done.flatMap (·.as)) [])):=by simp [az]
     have wu:(az d2 (az (done.flatMap (·.as)) [])).length<lim:=by
      have z1:=Bk.dQ d2 (az (done.flatMap (·.as)) []);have z2:=Bk.dQ (done.flatMap (·.as)) []
      have z3:d2.length<=f.as.length:=by rw [<- e2];simp
      simp only [UW] at z2;unfold lim;omega
     simp_arith [eJ,eP,oP (gd hn).1,show S "N"=[78] from rfl,La hn];cases hg:great a with
     | false =>
      simp_arith [eJ,eP];exact⟨d2++[a],_,by simpa using e2,rfl,by rw [e3];unfold cW;rw [hg];rfl⟩
     | true =>
      simp_arith [eJ,eP,OE (x:=a) (t:=.ref L.length) (ys:=az d2 (az (done.flatMap (·.as)) [])) (L:=.lst ((az d2 (az (done.flatMap (·.as)) [])).map .str)::L) (by simp_arith [eJ,eP])];by_cases hm:a∈az d2 (az (done.flatMap (·.as)) [])
      ·simp_arith [eJ,eP,hm,decide_true]
       exact⟨d2++[a],_,by simpa using e2,rfl,by rw [e3];unfold cW;rw [hg,if_pos rfl,if_pos hm]⟩
      ·simp_arith [eJ,eP,hm,decide_false,aV wu,bw]
       exact⟨d2++[a],_,by simpa using e2,rfl,by rw [e3];unfold cW;rw [hg,if_pos rfl,if_neg hm]⟩)
    fun φ L' h=>by
     obtain⟨d2,o3,e2,rfl,rfl⟩:=h;refine⟨sv,o3,?_⟩;rw [UQ] at e2;subst e2;rw [aad,show az (done.flatMap (·.as)++[f].flatMap (·.as)) []=az ([f].flatMap (·.as)) (az (done.flatMap (·.as)) []) from Y8];simp
   obtain⟨o3,rfl⟩:=h;simp_arith [eJ,eP];exact⟨done++[f],_,_,_,by simpa using e1,rfl,rfl,rfl⟩)
  fun φ L' h=>by
   obtain⟨done,acc,o2,o3,e1,rfl,rfl,rfl⟩:=h;rw [UQ] at e1;subst e1;exact⟨sv,o2,o3,rfl⟩
 obtain⟨o2,o3,rfl⟩:=h;simp_arith;exact fA (av fun _ _=>rfl)
end da
namespace da
open PySem M
open lZ (bV ah aQ)
open Bk (Fc Kd Lk Rl aK great opens cB aj ai KG i0 nameOf l6 xp zW cy az cW)
theorem Ql {x:T} {xs:List T} {n:Nat} {L:aa} (hx:vw L x=.lst xs) (h:xs.length<=lim):jf false x none (some (n:Int)) L=.ok (.ref L.length) (.lst (xs.take n)::L):=by
 unfold jf;rw [hx];exact qr h
theorem lz (ns:List Cs) (h:1<=ns.length) (d:Nat):∃a∈ns,∀L,ix (.lst (ns.map .str)) (.int ((d:Int) % (ns.length:Int))) L=.ok (.str a) L:=by
 have:=md (n:=(d:Int)) h;refine⟨ns.getD ((d:Int) % ns.length).toNat [],?_,fun L=>An h L⟩;rw [Gd9,Ge9 this.2];exact UJ _
theorem Ao {L:aa} {a b c:T} (h:lt L.length c=true):fin L (.ref (L.length+2)) (c::b::a::L)=.ok c L:=zZ (Ln:=[c,b,a]) Kp (by omega) h
theorem Lb:∀d:Nat,∃b:Bool,d<2->∀L,ix (.tup [.str (S "same"),.str (S "unlike")]) (.int (d:Nat)) L=.ok (.str (Bk.fM b)) L
 | 0=>⟨true,fun _ _=>rfl⟩
 | 1=>⟨false,fun _ _=>rfl⟩
 | d+2=>⟨true,fun z=>absurd z (by omega)⟩
theorem C5 (ns:List Cs) (hn:1<=ns.length) (wx:ns.length<=100) (c:Int):∃ks:List Lk,ks.length<=2/\(∀k∈ks,k.l∈ns/\k.r∈ns)/\∀L,eS [.lst (ns.map .str),.int c] L=.ok (.lst (ks.map n6)) L:=by
 refine sL fun G n9=>?_
 obtain⟨_,p,e⟩:=ly c [3,5,5,5,5,5] (by decide) (by decide);obtain⟨d0,_,rfl,h0,p⟩:=P1 p;obtain⟨d1,_,rfl,h1,p⟩:=P1 p;obtain⟨d2,_,rfl,h2,p⟩:=P1 p;obtain⟨d3,_,rfl,h3,p⟩:=P1 p;obtain⟨d4,_,rfl,h4,p⟩:=P1 p;obtain⟨d5,_,rfl,h5,p⟩:=P1 p;obtain rfl:=P0 p;simp only [Uy,Vy] at e;obtain⟨a1,A1,x1⟩:=lz ns hn d1;obtain⟨a2,A2,x2⟩:=lz ns hn d2;obtain⟨a4,A4,x4⟩:=lz ns hn d4;obtain⟨a5,A5,x5⟩:=lz ns hn d5;have l1:n6 ⟨true,a1,a2⟩=.tup [.str (S "same"),.str a1,.str a2]:=rfl
 have l2:n6 ⟨false,a1,a2⟩=.tup [.str (S "unlike"),.str a1,.str a2]:=rfl;obtain⟨b3,Qm⟩:=Lb d3;have l3:n6 ⟨b3,a4,a5⟩=.tup [.str (Bk.fM b3),.str a4,.str a5]:=rfl
 refine n9 ?_;clear n9;refine⟨(if d0<2 then [(⟨false,a1,a2⟩:Lk)].take d0 else [⟨true,a1,a2⟩])++(if d3<2 then [⟨b3,a4,a5⟩] else []),?_,?_,fun L=>?_⟩
 ·have:([(⟨false,a1,a2⟩:Lk)].take d0).length<=1:=by rw [Vc];exact Yh _ _
  split <;> split <;> simp at this ⊢ <;> omega
 ·intro k hk
  rcases Uz.mp hk with hk|hk
  ·split at hk
   ·have:=VW hk
    rw [UR.mp this];exact⟨A1,A2⟩
   ·rw [UR.mp hk];exact⟨A1,A2⟩
  ·split at hk
   ·rw [UR.mp hk];exact⟨A4,A5⟩
   ·cases hk
 ·have hp:(0:Int)<ns.length:=by omega
  have tl:∀ks:List Lk,lt L.length (.lst (ks.map n6))=true:=fun ks=>av uo
  unfold eS;simp_arith [e,hp,x1,x2,<- l1];by_cases z0:d0<2
  ·simp_arith [show((d0:Nat):Int)<2 by omega,decide_true,l1,<- l2]
   rw [qr (by simp;decide)];simp_arith;rw [if_pos z0];by_cases z3:d3<2
   ·simp_arith [show((d3:Nat):Int)<2 by omega,decide_true,Qm z3,x4,x5,<- l3,hp]
    rw [aC (show _<_ by rw [Vc];simp;unfold lim;omega),if_pos z3];simp_arith;rw [show [n6 ⟨false,a1,a2⟩].take d0++[n6 ⟨b3,a4,a5⟩]=([(⟨false,a1,a2⟩:Lk)].take d0++[(⟨b3,a4,a5⟩:Lk)]).map n6 by rw [UD,Wq];rfl];exact Ao (tl _)
   ·simp_arith [show ¬ ((d3:Nat):Int)<2 by omega,decide_false]
    rw [if_neg z3,UQ,show [n6 ⟨false,a1,a2⟩].take d0=([(⟨false,a1,a2⟩:Lk)].take d0).map n6 by rw [Wq];rfl];exact Ao (tl _)
  ·simp_arith [show ¬ ((d0:Nat):Int)<2 by omega,decide_false]
   rw [if_neg z0];by_cases z3:d3<2
   ·simp_arith [show((d3:Nat):Int)<2 by omega,decide_true,Qm z3,x4,x5,<- l3,hp]
    rw [aC (show _<_ by decide),if_pos z3];simp_arith;exact fA (tl [⟨true,a1,a2⟩,⟨b3,a4,a5⟩])
   ·simp_arith [show ¬ ((d3:Nat):Int)<2 by omega,decide_false]
    rw [if_neg z3];exact fA (tl [⟨true,a1,a2⟩])
theorem oW {fs:List Fc} {ks:List Kd} {as:List Cs} (hc:∀k∈ks,k.c<=4) (h:∀f∈fs,i0 ks as f) (hl:fs.length<=8):(fs.flatMap (·.as)).length<=32:=by
 have:=Bk.gz (l:=fs) (g:=(·.as)) (B:=4) fun f hf=>by
  obtain⟨⟨k,hk,_,e⟩,_⟩:=h f hf;rw [e];exact hc k hk
 omega
theorem Me {xs:List T} {n:Nat} {L:aa} (h:xs.length<=lim):jf false (.lst xs) none (some (n:Int)) L=.ok (.ref L.length) (.lst (xs.take n)::L):=qr h
theorem Hn {L:aa} {a b c d:T} {x y:T} (h:lt L.length a=true/\lt L.length b=true/\lt L.length c=true/\lt L.length d=true) (hy:lt L.length y=true):fin L (.tup [a,b,c,d,.ref (L.length+1)]) (y::x::L)=.ok (.tup [a,b,c,d,y]) L:=by
 unfold fin;have e:(y::x::L).drop ((y::x::L).length - L.length)=L:=by
  rw [show(y::x::L).length - L.length=2 by simp only [Ut];omega];rfl
 rw [e,if_pos (gC L)];unfold cz;rw [if_neg (by simp [lt,cK,h])];have f:∀{t:T},lt L.length t=true->cz L.length (y::x::L) 8 t=some t:=fun h=>by unfold cz;rw [if_pos h]
 have e2:cz L.length (y::x::L) 8 (.ref (L.length+1))=some y:=by
  unfold cz;rw [if_neg (by simp [lt])];simp only [w6];unfold cz;rw [if_pos hy]
 simp [Wr,f h.1,f h.2.1,f h.2.2.1,f h.2.2.2,e2,lift]
theorem twice {T g:Prop} (a:T->g) (b:T):g:=a b
theorem Ap (ks:List Kd) (hG:KG ks) (c1 c2:Int) (as os ws:List Cs) (ha:1<=as.length) (Ig:as.length<=10) (hw:1<=ws.length) (Ub:ws.length<=10) (sO:∀a∈as,a∈os++ws) (hok:∀a∈as,cy a) :
  ∃r:Rl,xp ks os ws r/\∀L,fP [.lst (ks.map kT),.int c1,.int c2,.lst (as.map .str),.lst (ws.map .str)] L=.ok (xT r) L:=by
 refine sL fun G n9=>?_
 obtain⟨tk,kp,t2,k2,B2,FT,FK,eh⟩:=C4 ks hG c1 as ha (by omega);have Hm:∀k∈ks,k.c<=4:=fun k hk=>(hG.ok k hk).2
 have FA:∀f∈tk++kp,i0 ks as f:=fun f hf=>by
  rcases Uz.mp hf with h|h
  ·obtain⟨⟨k,hk,e⟩,h2⟩:=FT f h
   exact⟨⟨k,(UZ.mp hk).1,e⟩,h2⟩
  ·exact FK f h
 have IT:=oW Hm FA (by simp;omega);have en:=fun L=>qt (tk++kp) (fun f hf a h=>hok a ((FA f hf).2 a h)) IT L
 have ho:(opens (tk++kp)).length<=0+_:=Bk.dQ _ [];obtain⟨ns,DU⟩:∃ns,ns=opens (tk++kp)++ws:=⟨_,rfl⟩;have Ho:1<=ns.length:=by rw [DU,Ul];omega
 have wx:ns.length<=100:=by rw [DU,Ul];omega
 obtain⟨kk,B0⟩:∃kk,kk=if tk=[] then ks.filter (·.l) else ks:=⟨_,rfl⟩
 have tf:1<=kk.length:=by rw [B0];split;exact KG.last hG;rw [hG.len];decide
 have qF:kk.length<=100:=by rw [B0];split;exact fj (by rw [hG.len];decide);rw [hG.len];decide
 have H8:∀k∈kk,k.c<=4:=fun k hk=>by
  rw [B0] at hk;split at hk
  ·exact Hm k (UZ.mp hk).1
  ·exact Hm k hk
 obtain⟨_,p,e⟩:=ly c2 [3,2500,2500] (by decide) (by decide);obtain⟨d0,_,rfl,h0,p⟩:=P1 p;obtain⟨d1,_,rfl,h1,p⟩:=P1 p;obtain⟨d2,_,rfl,h2,p⟩:=P1 p;obtain rfl:=P0 p;obtain⟨_,p,e'⟩:=ly (c2 % 2147483629 * 40692 % 2147483629) [2,5,5,3,5,5] (by decide) (by decide);obtain⟨b0,_,rfl,q0,p⟩:=P1 p;obtain⟨b1,_,rfl,_,p⟩:=P1 p;obtain⟨b2,_,rfl,_,p⟩:=P1 p;obtain⟨b3,_,rfl,_,p⟩:=P1 p;obtain⟨b4,_,rfl,_,p⟩:=P1 p;obtain⟨b5,_,rfl,_,p⟩:=P1 p;obtain rfl:=P0 p;simp only [Uy,Vy] at e e';obtain⟨f1,F1,x1⟩:=g9 kk ns d1 tf qF H8 Ho wx;obtain⟨f2,F2,x2⟩:=g9 kk ns d2 tf qF H8 Ho wx;obtain⟨lk,l2,Tc,el⟩:=C5 ns Ho wx (c2 % 2147483629 * 69621 % 2147483629);obtain⟨a1,A1,y1⟩:=lz ns Ho b1;obtain⟨a2,A2,y2⟩:=lz ns Ho b2;obtain⟨a4,A4,y4⟩:=lz ns Ho b4;obtain⟨a5,A5,y5⟩:=lz ns Ho b5;have hp:(0:Int)<ns.length:=by omega
 have tT:∀f∈tk,i0 (ks.filter l6) (os++ws) f:=fun f hf=>⟨(FT f hf).1,fun a h=>sO a ((FT f hf).2 a h)⟩
 have tK:∀f∈kp,i0 ks (os++ws) f:=fun f hf=>⟨(FK f hf).1,fun a h=>sO a ((FK f hf).2 a h)⟩
 have tP:∀f∈[f1,f2].take d0,i0 kk ns f:=fun f hf=>Hl F1 F2 hf
 obtain⟨tl,Td,OJ,tell⟩:∃tl:List (Cs × Cs),(∀p∈tl,p.1∈ns/\p.2∈ns)/\tl.length<=2/\tl=[(a1,a2)].take b0++(if b3=1 then [(a4,a5)] else []):=by
  refine⟨_,fun p hp=>?_,?_,rfl⟩
  ·rcases Uz.mp hp with h|h
   ·rw [UR.mp (VW h)];exact⟨A1,A2⟩
   ·split at h
    ·rw [UR.mp h];exact⟨A4,A5⟩
    ·cases h
  ·have:([(a1,a2)].take b0).length<=1:=by rw [Vc];exact Yh _ _
   rw [Ul];split <;> simp at this ⊢ <;> omega
 have p2:([f1,f2].take d0).length<=2:=by rw [Vc];exact Yh _ _
 refine n9 ?_;clear n9;refine⟨⟨[],tk,kp,lk,[f1,f2].take d0,tl⟩,⟨tT,tK,?_,?_,?_,B2,t2,k2,l2,p2,OJ⟩,fun L=>?_⟩
 ·rw [<- B0,<- DU];exact tP
 ·rw [<- DU];exact Tc
 ·rw [<- DU];exact Td
 ·unfold fP
  simp_arith [eh,Ul,aC (show tk.length+kp.length<=lim by unfold lim;omega),en,aC (show(opens (tk++kp)).length+ws.length<=lim by unfold lim;omega),<- UD,<- DU,aC (show ns.length<=lim by unfold lim;omega)];have fin:∀L,fin L (.tup [.lst (tk.map fT),.lst (kp.map fT),.lst (lk.map n6),.lst (([f1,f2].take d0).map fT),.ref (L.length+1)]) (.lst (tl.map pT) :: .lst [pT (a1,a2)]::L)=.ok (xT ⟨[],tk,kp,lk,[f1,f2].take d0,tl⟩) L:=fun L=>Hn ⟨av bh,av bh,av uo,av bh⟩ (av fy)
  apply twice
  ·intro key
   by_cases ht:tk=[]
   ·rw [if_pos ht] at B0
    simp_arith [show((tk.length:Int) == 0)=true by rw [ht];rfl];rw [dC rfl ks kT (·.l) kT (by exact rfl) (by exact aq) (by rw [hG.len];decide) (by exact fun b _=>by simp_arith) (by exact fun b _ _=>by simp_arith)];simp_arith [<- B0];exact key
   ·rw [if_neg ht] at B0
    simp_arith [show((tk.length:Int) == 0)=false by simpa using ht,<- B0];exact key
  simp_arith [e,x1,x2];rw [C3 fT f1 f2,nA (by simp;decide),<- Wq];simp_arith [el,e',hp,y1,y2];rw [show T.tup [.str a1,.str a2]=pT (a1,a2) from rfl,qr (by simp;decide)];simp_arith;by_cases h3:b3=1
  ·rw [if_pos h3] at tell
   simp_arith [show((b3:Int) == 1)=true by rw [h3];rfl,hp,y4,y5];rw [aC (show _<_ by rw [Vc];simp;unfold lim;omega)];simp_arith;rw [show [pT (a1,a2)].take b0++[.tup [.str a4,.str a5]]=tl.map pT by rw [tell,UD,Wq];rfl];exact fin L
  ·rw [if_neg h3,UQ] at tell
   simp_arith [show((b3:Int) == 1)=false by simp;omega];rw [show [pT (a1,a2)].take b0=tl.map pT by rw [tell,Wq];rfl];exact fin L
end da
namespace da
open PySem M
open lZ (bV ah aQ)
open Bk (Im rV wordAt ie gU rows fI lI pI FG nN Fc Kd Lk Rl aK great opens cB aj ai KG i0 nameOf l6 xp zW cy az cW iB oL cq ax ay m4 m5 FG nN m8 aA)
theorem Aq {B:Nat}:∀{ls:List Cs},(∀l∈ls,l.length<=B)->(ls.map (·.length)).sum<=ls.length * B
 | [],_=>by simp
 | a::r,h=>by
  have h1:=Aq (fun l hl=>h l (Up _ hl));have h2:=h a Um
  rw [Uy,List.sum_cons,Ut,aam];have h1:(r.map (·.length)).sum<=r.length * B:=h1
  omega
theorem qv {sep:Cs} {zs:List Cs} {t:T} {L:aa} {n B:Nat} (ht:t=.lst (zs.map .str)) (hz:zs.length<=n) (hB:∀z∈zs,z.length<=B) (h:n * B+n * sep.length<=16777216):kZ (.str sep) [t] L=.ok (.str (jn sep zs)) L:=by
 subst ht;refine G5 ?_;have:=Aq hB
 have h1:=Yn B hz;have h2:=Yn sep.length hz
 omega
theorem Ar (f:Fc):iB f=if f.as=[] then f.k else ((f.k++[40])++jn [44] f.as)++[41]:=rfl
theorem C6 (f:Fc) (h:FG f) (L:aa):cG [fT f] L=.ok (.str (iB f)) L:=by
 have ha:∀a∈f.as,a.length<=12:=fun a h2=>(aA (h.as a h2)).2
 have hn:=h.n;have hf:(iB f).length<=70:=h.im.1
 unfold cG;simp_arith;by_cases h0:f.as=[]
 ·simp_arith [show((f.as.length:Int) == 0)=true by rw [h0];rfl]
  rw [Ar,if_pos h0]
 ·have hb:fo true [.tup (f.as.map .str)] L=.ok (.lst (f.as.map .str)) L:=by
   show fF true (f.as.map .str) L=_;rw [fF,aC (by rw [Lm9];unfold lim;omega)];rfl
  rw [Ar,if_neg h0] at hf;simp only [Ul,Vx] at hf;simp_arith [show((f.as.length:Int) == 0)=false by simpa using h0,Vx];rw [aC (by unfold lim;omega)];simp_arith [hb,qv (sep:=[44]) rfl hn ha (by decide)];simp only [Ul,Ut,UW];rw [aC (by unfold lim;omega)];simp_arith;rw [aC (by simp only [Ul,Ut,UW];unfold lim;omega),Ar,if_neg h0];simp_arith
theorem jZ {α:Type} (n:Nat) (l:List α) (g:α->Im) (h:n<5/\(l.map g).length<=2/\∀i∈l.map g,rV i) (L:aa):aP [.str (wordAt n),.lst (l.map fun a=>.str (g a).tx)] L=.ok (.lst ((oL (wordAt n) ((l.map g).map (·.tx))).map .str)) L:=by
 have hw:=(Bk.zU h.1).2;have hl:∀m∈(l.map g).map (·.tx),m.length<=70:=fun m hm=>by
  obtain⟨i,hi,rfl⟩:=Ur.mp hm;exact(h.2.2 i hi).1
 have hr:=Bk.kE (sep:=[44,32]) hl;have hm:((l.map g).map (·.tx)).length<=2:=by rw [Lm9];exact h.2.1
 rw [show(l.map fun a=>T.str (g a).tx)=((l.map g).map (·.tx)).map .str by rw [UT,UT];rfl];generalize (l.map g).map (·.tx)=ms at hr hm hl;unfold aP oL;simp_arith;by_cases h0:ms=[]
 ·simp_arith [show((ms.length:Int) == 0)=true by rw [h0];rfl]
  rw [if_pos h0];exact fin_same rfl
 ·simp_arith [show((ms.length:Int) == 0)=false by simpa using h0,Vx]
  rw [aC (by unfold lim;omega)];simp_arith [show S ", "=[44,32] from rfl,qv (sep:=[44,32]) rfl hm hl (by decide)];rw [aC (by simp only [Ul,Ut,UW] at hr ⊢;unfold lim;omega)];simp_arith;rw [if_neg h0,UN];exact fin_same rfl
theorem vV {α:Type} {g:α->T}:∀(l:List α) (n:Nat),num n (l.map g)=(l.zipIdx n).map fun p=>.tup [.int (p.2:Nat),g p.1]
 | [],_=>rfl
 | a::l,n=>by rw [Uy,num,vV l (n+1)];rfl
theorem vW:∀c≤4,(VX (toString ((c:Nat):Int))).cps.toList=[48+c]/\((c:Nat):Int).natAbs.log2<1920:=by decide +kernel
theorem vX (c:Nat) (h:c<=4) (L:aa):sW [.int (c:Nat)] L=.ok (.str [48+c]) L:=by
 unfold sW;simp only [(vW c h).1];exact aC ⟨(vW c h).2,by simp;decide⟩
theorem qw (fs:List Fc) (h:∀f∈fs,FG f) (hl:fs.length<=10) {s:SI} {aZ:List (Option Nat)} {φ:Fr} {L:aa} {k:aa->Prop} {r:R T} (hc:comp true s aZ (.one 1) yes (ae cG [v 1]) φ L=r) (hs:s φ L=.ok (fs.map fT,k) L) (hk:k L) (hv:∀x,((inner aZ φ).set 1 (some x))[1]?=some (some x)) :
  r=.ok (.lst (fs.map fun f=>.str (iB f))) L:=by
 rw [bj hc fs fT (fun f=>.str (iB f)) hs hk (by unfold lim;omega) fun f hf=>by simp only [zM,mX,mW,Ib,hv,WZ,fk,aM];exact C6 f (h f hf) L];rfl
theorem OK {a b:Cs} {L:aa} (h:a.length+b.length<=lim):bf true .Add (.str a) (.str b) L=.ok (.str (a++b)) L:=KH.trans (if_pos h)
theorem iJ (w:Cs) (m:List Cs):(oL w m).length<=1:=by
 unfold oL;split <;> simp
theorem Hq (ks:List Kd) (hG:KG ks) (rs:List Rl) (h2:rs.length=2) (hT:∀r∈rs,∀i<2,nN ks (Bk.gA r (Bk.rT i))) (L:aa) :
  eE [.lst (ks.map kT),.lst (rs.map xT)] L=.ok (.str (jn [10] (ks.map ax++(ay rs).map cq))) L:=by
 unfold eE;simp_arith;generalize ho:forL _ _ _ _ _ _=o;have h:=bA ho ks kT (fun r φ L'=>∃done o3 o4,done++r=ks/\φ=[some (.lst (ks.map kT)),some (.lst (rs.map xT)),some (.ref L.length),o3,o4,none,none,none]/\L'=.lst ((done.map ax).map .str)::L)
  (fun o=>∃o3 o4,o=.nx [some (.lst (ks.map kT)),some (.lst (rs.map xT)),some (.ref L.length),o3,o4,none,none,none] (.lst ((ks.map ax).map .str)::L)) rfl ⟨[],none,none,rfl,rfl,rfl⟩ (fun _ _ eJ eP k r φ L' hh=>by
   obtain⟨done,o3,o4,e1,rfl,rfl⟩:=hh;have hk:=hG.ok k (by rw [<- e1];simp)
   have hl:=(aA (Bk.bu hk.1)).2;have hd:done.length<lim:=by
    have h4:=hG.len;rw [<- e1] at h4;simp at h4;unfold lim;omega
   refine⟨sv,_,rfl,?_⟩;simp_all_arith [eJ,eP,vX k.c hk.2,show S "lasting "=Bk.cM++[32] from rfl,show S "passing "=Bk.cL++[32] from rfl];cases Qn:k.l with
   | true =>
    simp_all_arith [eJ,eP,vX k.c hk.2];exact⟨done++[k],_,_,by simpa using e1,rfl,by simp [ax,Qn]⟩
   | false =>
    simp_all_arith [eJ,eP,vX k.c hk.2];exact⟨done++[k],_,_,by simpa using e1,rfl,by simp [ax,Qn]⟩)
  fun φ L' hh=>by
   obtain⟨done,o3,o4,e1,rfl,rfl⟩:=hh;rw [UQ] at e1;subst e1;exact⟨sv,_,_,rfl⟩
 obtain⟨o3,o4,rfl⟩:=h;simp_arith;rw [vV rs 0];generalize ho:forL _ _ _ _ _ _=o;have h:=bA ho rs.zipIdx (fun p=>.tup [.int (p.2:Nat),xT p.1]) (fun q φ L'=>∃done o5 o6 o7,done++q=rs.zipIdx/\φ=[some (.lst (ks.map kT)),some (.lst (rs.map xT)),some (.ref L.length),o3,o4,o5,o6,o7]/\L'=.lst ((ks.map ax++done.map fun p=>cq (Bk.gA p.1 (Bk.rT p.2))).map .str)::L)
  (fun o=>∃φ,o=.nx (some (.lst (ks.map kT))::some (.lst (rs.map xT))::some (.ref L.length)::φ) (.lst ((ks.map ax++(ay rs).map cq).map .str)::L)) rfl ⟨[],none,none,none,rfl,rfl,by simp⟩ (fun _ _ eJ eP p q φ L' hh=>by
   obtain⟨done,o5,o6,o7,e1,rfl,rfl⟩:=hh;obtain⟨r,i⟩:=p;have hm:(r,i)∈rs.zipIdx:=by rw [<- e1];simp
   have hi:i<2:=by have:=List.mem_zipIdx hm;omega
   have hr:r∈rs:=(List.mem_zipIdx' hm).2 ▸ UJ _;refine sL fun G n9=>?_
   have H:=hT r hr i hi;have hf:∀f∈r.take++r.keep++r.put,FG f:=fun f hf=>(H.f f hf).1
   have gt:∀f∈r.take,FG f:=fun f h=>hf f (Uv _ (Uv _ h))
   have gk:∀f∈r.keep,FG f:=fun f h=>hf f (Uv _ (UB _ h))
   have gp:∀f∈r.put,FG f:=fun f h=>hf f (UB _ h)
   have g2:∀k∈r.ar,ah k.l=true/\ah k.r=true:=H.l;have g3:∀k∈r.tell,ah k.1=true/\ah k.2=true:=H.p
   obtain⟨f1,f2,f3,f4,f5⟩:zW 2 r:=H.pC;have c1:=iJ (wordAt 0) ((r.take.map fI).map (·.tx))
   have c2:=iJ (wordAt 1) ((r.keep.map fI).map (·.tx));have c3:=iJ (wordAt 2) ((r.ar.map lI).map (·.tx))
   have c4:=iJ (wordAt 3) ((r.put.map fI).map (·.tx));have c5:=iJ (wordAt 4) ((r.tell.map pI).map (·.tx))
   have row:=H.row;have q0:∀L,aP [.str (wordAt 0),.lst (r.take.map fun f=>.str (iB f))] L=_:=jZ 0 r.take fI (row _ (.head _))
   have q1:∀L,aP [.str (wordAt 1),.lst (r.keep.map fun f=>.str (iB f))] L=_:=jZ 1 r.keep fI (row _ (.tail _ (.head _)));have q2:∀L,aP [.str (wordAt 2),.lst (r.ar.map fun f=>.str (m4 f))] L=_:=jZ 2 r.ar lI (row _ (.tail _ (.tail _ (.head _))))
   have q3:∀L,aP [.str (wordAt 3),.lst (r.put.map fun f=>.str (iB f))] L=_:=jZ 3 r.put fI (row _ (.tail _ (.tail _ (.tail _ (.head _)))));have q4:∀L,aP [.str (wordAt 4),.lst (r.tell.map fun f=>.str (m5 f))] L=_:=jZ 4 r.tell pI (row _ (.tail _ (.tail _ (.tail _ (.tail _ (.head _))))))
   have hdn:done.length<=2:=by
    have:=congrArg Ww e1;simp [h2] at this;omega
   have h4:=hG.len;refine n9 ?_;clear n9;refine⟨sv,_,rfl,?_⟩;simp_arith [eJ,eP];rw [qw r.take gt (by omega) rfl (by exact rfl) (by exact sv) (by exact fun _=>rfl)];simp_arith [eJ,eP,show S "take"=wordAt 0 from rfl,q0];rw [qw r.keep gk (by omega) rfl (by exact rfl) (by exact sv) (by exact fun _=>rfl)];simp_all_arith [eJ,eP,show S "keep"=wordAt 1 from rfl,q1];rw [bj rfl r.ar n6 (fun k=>.str (m4 k)) (by exact rfl) (by exact sv) (by unfold lim;omega) (fun k hk=>by
    have z:=g2 k hk;have z1:=(aA z.1).2
    have z2:=(aA z.2).2;have z3:=(Bk.zV k.same).2
    simp_all_arith [eJ,eP];simp [m4])]
   simp_all_arith [eJ,eP,show S "look"=wordAt 2 from rfl,q2];rw [qw r.put gp (by omega) rfl (by exact rfl) (by exact sv) (by exact fun _=>rfl)];simp_all_arith [eJ,eP,show S "put"=wordAt 3 from rfl,q3];rw [bj rfl r.tell pT (fun k=>.str (m5 k)) (by exact rfl) (by exact sv) (by unfold lim;omega) (fun k hk=>by
    have z:=g3 k hk;have z1:=(aA z.1).2
    have z2:=(aA z.2).2;simp_all_arith [eJ,eP,show S " = "=[32,61,32] from rfl];simp [m5])]
   simp_all_arith [eJ,eP,show S "tell"=wordAt 4 from rfl,q4];have hz:_++(_++(_++(_++(_++[]))))=(gU r).map ie:=Bk.rU (rows r)
   obtain⟨zl,zb⟩:((gU r).map ie).length<=5/\∀l∈(gU r).map ie,l.length<=150:=H.parts;have zj:=UO (Bk.kE (sep:=[59,32]) zb) (Yn 152 zl)
   have hj:=fun L=>qv (sep:=S "; ") (zs:=(gU r).map ie) (L:=L) rfl zl zb (by decide)
   rw [<- hz] at hj;simp only [UQ,UD,<- UN] at hj;simp only [UQ,<- UN] at hz;rw [hz,show S "; "=[59,32] from rfl] at hj;simp_all_arith [eJ,eP,vX i (by omega),show S "rule r"=[114,117,108,101,32,114] from rfl,show S ": "=[58,32] from rfl,show S "; "=[59,32] from rfl,hj];exact⟨done++[(r,i)],_,_,_,by simpa using e1,rfl,by simp [cq,Bk.gA,Bk.rT,gU,rows]⟩)
  fun φ L' hh=>by
   obtain⟨done,o5,o6,o7,e1,rfl,rfl⟩:=hh;rw [UQ] at e1;subst e1;rw [show(ay rs).map cq=rs.zipIdx.map fun p=>cq (Bk.gA p.1 (Bk.rT p.2)) by unfold ay;rw [UT];rfl];exact⟨sv,_,rfl⟩
 obtain⟨φ,rfl⟩:=h;have Te:(ks.map ax++(ay rs).map cq).length<=6:=by simp [ay,hG.len,h2]
 have Tf:kZ (.str (S "\n")) [.ref L.length] (.lst ((ks.map ax++(ay rs).map cq).map .str)::L)=.ok (.str (jn [10] (ks.map ax++(ay rs).map cq))) (.lst ((ks.map ax++(ay rs).map cq).map .str)::L):=by
  have:=qv (sep:=S "\n") (zs:=ks.map ax++(ay rs).map cq) (L:=.lst ((ks.map ax++(ay rs).map cq).map .str)::L) (B:=800) rfl Te (fun l h=>by
   rcases Uz.mp h with h|h
   ·obtain⟨k,hk,rfl⟩:=Ur.mp h
    exact(Bk.kH (hG.ok k hk)).2
   ·obtain⟨r,hr,rfl⟩:=Ur.mp h
    obtain⟨x,hx,rfl⟩:=Ur.mp hr;have:=List.mem_zipIdx hx
    exact(hT x.1 ((List.mem_zipIdx' hx).2 ▸ UJ _) x.2 (by omega)).line.2) (by decide)
  rw [show S "\n"=[10] from rfl] at this ⊢;rw [<- this];unfold kZ;simp only [items,jr,dR,fN];rfl
 simp_arith [Tf];exact eB rfl
end da
namespace da
open PySem M
open lZ (bV ah aQ)
open Bk (Fc Kd Lk Rl aK great opens KG i0 nameOf l6 xp zW cy ay nN m8)
noncomputable def oN (a b k:Nat):Cs:=78::nameOf a b k
theorem Hr {a b k:Nat} (hk:k<8) (hab:a+b<=4):(nameOf a b k).all bV=true:=by
 have h:=Bk.bu (Bk.dh hk hab);unfold ah at h;simp only [Uw] at h;exact h.2.2
theorem Ef (a b k:Nat):(nameOf a b k).length=a+b+1:=by simp [nameOf];omega
theorem gE (a b k:Nat):great (oN a b k)=true:=by
 show decide ((78:Nat)∈lZ.qb.cps.toList)=true;decide +kernel
theorem iK {a b k:Nat} (hk:k<8) (hab:a+b<=4):great (nameOf a b k)=false:=by
 have h:=Bk.dh hk hab;unfold aK at h;rw [Uw] at h;have h:=of_decide_eq_true h.2
 unfold great;refine decide_eq_false fun z=>?_
 generalize (nameOf a b k).headD 0=c at h z;exact(by decide +kernel:∀c∈lZ.ui.cps.toList,c∉lZ.qb.cps.toList) c h z
theorem jt {a b k:Nat} (hk:k<8) (hab:a+b<=4):cy (oN a b k):=by
 refine⟨?_,by rw [gE];rfl⟩;unfold ah oN;rw [Vf,Hr hk hab,show bV 78=true by decide +kernel,Ut,Ef,decide_eq_true (by omega),decide_eq_true (by omega)];rfl
theorem uD {a b k:Nat} (hk:k<8) (hab:a+b<=4):cy (nameOf a b k):=by
 refine⟨Bk.bu (Bk.dh hk hab),?_⟩;rw [iK hk hab];refine(decide_eq_false fun z=>?_).symm;have:great (nameOf a b k)=true:=by unfold great;rw [z];decide +kernel
 rw [iK hk hab] at this;cases this
theorem Hs {L:aa} {a b c x:T} (ha:lt L.length a=true) (hb:lt L.length b=true) (hc:lt L.length c=true) (hx:lt L.length x=true):fin L (.tup [a,b,c,.ref L.length]) (x::L)=.ok (.tup [a,b,c,x]) L:=by
 unfold fin;have e:(x::L).drop ((x::L).length - L.length)=L:=by simp
 rw [e,if_pos (gC L)];unfold cz;rw [if_neg (by simp [lt,cK,ha,hb,hc])];have f:∀{t:T},lt L.length t=true->cz L.length (x::L) 8 t=some t:=fun h=>by unfold cz;rw [if_pos h]
 have e2:cz L.length (x::L) 8 (.ref L.length)=some x:=by
  unfold cz;rw [if_neg (by simp [lt])];simp only [dR];unfold cz;rw [if_pos hx]
 simp [Wr,f ha,f hb,f hc,e2,lift]
theorem al {α:Type} {p:α->Prop} {a:α} {l:List α} (h:p a) (t:∀x∈l,p x):∀x∈a::l,p x:=Xx.mpr ⟨h,t⟩
theorem As {α:Type} {p:α->Prop}:∀x∈([]:List α),p x:=fun _ h=>nomatch h
theorem OL (cs:List Int):∃ks ns ws rs,m8 ks ns ws rs/\(ks.filter l6).length=2/\∀L,eC [.lst (cs.map .int)] L=.ok (.tup [.lst (ks.map kT),.lst (ns.map .str),.lst (ws.map .str),.lst (rs.map xT)]) L:=by
 refine sL fun G n9=>?_
 obtain⟨ks,hG,hP,ek⟩:=C2 (cs.getD 0 0);obtain⟨a,b,hab,hn⟩:=K6 (cs.getD 1 0 % 25);have n4:=hn 4 (by decide) (by decide)
 have n5:=hn 5 (by decide) (by decide);have Qo:∀x∈[oN a b 0,oN a b 1,oN a b 2,nameOf a b 4],cy x:=al (jt (by decide) hab) (al (jt (by decide) hab) (al (jt (by decide) hab) (al (uD (by decide) hab) As)))
 have Qp:∀x∈[oN a b 0,oN a b 1,oN a b 2,nameOf a b 4],x∈[oN a b 0,oN a b 1,oN a b 2]++[nameOf a b 4,nameOf a b 5]:=fun x hx=>(Uz.mp (show x∈[oN a b 0,oN a b 1,oN a b 2]++[nameOf a b 4] from hx)).elim (Uv _) fun h=>UB _ (Uv [nameOf a b 5] h)
 obtain⟨r1,D1,x1⟩:=Ap ks hG (cs.getD 2 0) (cs.getD 3 0) [oN a b 0,oN a b 1,oN a b 2,nameOf a b 4] [oN a b 0,oN a b 1,oN a b 2] [nameOf a b 4,nameOf a b 5] (by simp) (by simp) (by simp) (by simp) Qp Qo;obtain⟨r2,D2,x2⟩:=Ap ks hG (cs.getD 4 0) (cs.getD 5 0) [oN a b 0,oN a b 1,oN a b 2,nameOf a b 4] [oN a b 0,oN a b 1,oN a b 2] [nameOf a b 4,nameOf a b 5] (by simp) (by simp) (by simp) (by simp) Qp Qo;have neN:∀i j,i<8->j<8->i≠j->oN a b i≠oN a b j:=fun i j h1 h2 h e=>h (Bk.m6 h1 h2 (Wo e).2)
 have Th:nameOf a b 4≠nameOf a b 5:=fun e=>absurd (Bk.m6 (by decide) (by decide) e) (by decide)
 have Eg:∀i j,j<8->oN a b i≠nameOf a b j:=fun i j h e=>by have:=gE a b i;rw [e,iK h hab] at this;cases this
 refine n9 ?_;clear n9;refine⟨ks,[oN a b 0,oN a b 1,oN a b 2,oN a b 3],[nameOf a b 4,nameOf a b 5],[r1,r2],⟨hG,rfl,rfl,?_,?_,?_,?_,rfl,?_⟩,hP,fun L=>?_⟩
 ·exact al (jt (by decide) hab) (al (jt (by decide) hab) (al (jt (by decide) hab) (al (jt (by decide) hab) (al (uD (by decide) hab) (al (uD (by decide) hab) As)))))
 ·exact al (gE _ _ _) (al (gE _ _ _) (al (gE _ _ _) (al (gE _ _ _) As)))
 ·exact al (iK (by decide) hab) (al (iK (by decide) hab) As)
 ·exact .cons (al (neN 0 1 (by decide) (by decide) (by decide)) (al (neN 0 2 (by decide) (by decide) (by decide)) (al (neN 0 3 (by decide) (by decide) (by decide)) (al (Eg 0 4 (by decide)) (al (Eg 0 5 (by decide)) As))))) (.cons (al (neN 1 2 (by decide) (by decide) (by decide)) (al (neN 1 3 (by decide) (by decide) (by decide)) (al (Eg 1 4 (by decide)) (al (Eg 1 5 (by decide)) As)))) (.cons (al (neN 2 3 (by decide) (by decide) (by decide)) (al (Eg 2 4 (by decide)) (al (Eg 2 5 (by decide)) As))) (.cons (al (Eg 3 4 (by decide)) (al (Eg 3 5 (by decide)) As)) (.cons (al Th As) (.cons As .nil)))))
 ·exact al (by assumption) (al (by assumption) As)
 ·have Ti:∀k,k<8->(nameOf a b k).length<=5:=fun k _=>by rw [Ef];omega
  unfold eC;simp_all_arith [qq,ek];rw [bj rfl (Vp 4) (fun j:Nat=>T.int (0+(j:Int))) (fun j=>.str (oN a b j)) (by exact D4 _ _ _ _ rfl rfl ⟨vN (n:=0) (by decide),vN (n:=4) (by decide)⟩) (by exact trivial) (by decide) (fun j hj=>by
   have hj:j<4:=Vn.mp hj;have:=Ti j (by omega)
   have e:=fun L=>hn (0+(j:Int)) (by omega) (by omega) L
   simp only [show(0+(j:Int)).toNat=j by omega] at e;simp_all_arith [e,show S "N"=[78] from rfl];rfl)]
  simp_all_arith [n4,n5];rw [show(Vp 4).map (fun j=>T.str (oN a b j))=[.str (oN a b 0),.str (oN a b 1),.str (oN a b 2),.str (oN a b 3)] from rfl];simp only [Uy,Vy] at x1 x2;have s3:∀L,jf true (.lst [.str (oN a b 0),.str (oN a b 1),.str (oN a b 2),.str (oN a b 3)]) none (some 3) L=.ok (.lst [.str (oN a b 0),.str (oN a b 1),.str (oN a b 2)]) L:=fun L=>nA (n:=3) (by simp;decide)
  have s1:∀L,jf true (.lst [.str (nameOf a b 4),.str (nameOf a b 5)]) none (some 1) L=.ok (.lst [.str (nameOf a b 4)]) L:=fun L=>nA (n:=1) (by simp;decide)
  generalize ho:forL _ _ _ _ _ _=o;have h:=bA ho [2,4] T.int (fun q φ L'=>∃done o6 o7 o8,φ=[some (.lst (cs.map .int)),some (.lst (ks.map kT)),some (.int (cs.getD 1 0 % 25)),some (.lst [.str (oN a b 0),.str (oN a b 1),.str (oN a b 2),.str (oN a b 3)]),some (.lst [.str (nameOf a b 4),.str (nameOf a b 5)]),some (.ref L.length),o6,o7,o8]/\L'=.lst done::L/\((q=[2,4]/\done=[])\/(q=[4]/\done=[xT r1])\/(q=[]/\done=[xT r1,xT r2])))
   (fun o=>∃o2 o6 o7 o8,o=.nx [some (.lst (cs.map .int)),some (.lst (ks.map kT)),o2,some (.lst [.str (oN a b 0),.str (oN a b 1),.str (oN a b 2),.str (oN a b 3)]),some (.lst [.str (nameOf a b 4),.str (nameOf a b 5)]),some (.ref L.length),o6,o7,o8] (.lst [xT r1,xT r2]::L)) rfl ⟨[],none,none,none,rfl,rfl,.inl ⟨rfl,rfl⟩⟩ (fun _ _ eJ eP x q φ L' hh=>by
    obtain⟨done,o6,o7,o8,rfl,rfl,hh⟩:=hh;refine⟨sv,_,rfl,?_⟩;rcases hh with⟨hq,rfl⟩|⟨hq,rfl⟩|⟨hq,_⟩
    ·obtain⟨rfl,rfl⟩:=Wo hq
     simp_all_arith [eJ,eP,qq,s3,s1,Int.reduceAdd,x1];exact⟨_,_,_,_,rfl,rfl,.inr (.inl ⟨by trivial,by trivial⟩)⟩
    ·obtain⟨rfl,rfl⟩:=Wo hq
     simp_all_arith [eJ,eP,qq,s3,s1,Int.reduceAdd,x2];exact⟨_,_,_,_,rfl,rfl,.inr (.inr ⟨by trivial,by trivial⟩)⟩
    ·cases hq)
   fun φ L' hh=>by
    obtain⟨done,o6,o7,o8,rfl,rfl,hh⟩:=hh;rcases hh with⟨hq,_⟩|⟨hq,_⟩|⟨_,rfl⟩
    ·cases hq
    ·cases hq
    ·exact⟨sv,_,_,_,_,rfl⟩
  obtain⟨o2,o6,o7,o8,rfl⟩:=h;simp_arith;refine(Hs (av r9) ?_ ?_ ?_).trans rfl
  ·exact av (g:=T.str) (l:=[oN a b 0,oN a b 1,oN a b 2,oN a b 3]) fun _ _=>rfl
  ·exact av (g:=T.str) (l:=[nameOf a b 4,nameOf a b 5]) fun _ _=>rfl
  ·exact av (g:=xT) (l:=[r1,r2]) Ks
end da
namespace da
open PySem M
open lZ (bV ah)
open Bk (Fc Kd Lk Rl aK great opens KG cy ak gG wr fG eI cw cu cv aY)
theorem j0:∀(st:aY) (n:Cs),dK (st.map fun p=>(T.str p.1,T.str p.2)) (.str n)=(gG st n).map .str
 | [],n=>rfl
 | (a,b)::st,n=>by
  rw [Uy,iW,j0 st n];unfold gG;rw [VN];by_cases h:a=n
  ·rw [if_pos (by rw [h]),decide_eq_true h];rfl
  ·rw [if_neg (fun e=>h (T.str.inj e)),decide_eq_false h]
theorem nB (st:aY) (n:Cs):dZ (st.map fun p=>(T.str p.1,T.str p.2)) (.str n):=vT (g:=fun p:Cs × Cs=>p.1) (h:=fun p=>T.str p.2) st n
theorem Eh (st:aY) (n:Cs) (L:aa):iZ (.aS (st.map fun p=>(T.str p.1,T.str p.2))) [.str n,.str n] L=.ok (.str (ak st n)) L:=by
 unfold iZ vw;simp only [];rw [aC (nB st n),j0];unfold ak;cases gG st n <;> rfl
theorem Lc {st:aY} {m:Nat} {n:Cs} {L:aa} (h:at_ L m=some (bT st)):iZ (.ref m) [.str n,.str n] L=.ok (.str (ak st n)) L:=by
 have:=Eh st n L;unfold iZ at this ⊢;rw [jr,h];exact this
noncomputable def kY (L:aa) (x:T) (st:aY):Prop:=x=bT st\/∃n,x=.ref n/\at_ L n=some (bT st)
theorem n8 {L:aa} {x:T} {st:aY} (h:kY L x st) {a:SE} {ms:List SE} {φ:Fr} {n:Cs} (ha:a φ L=.ok x L) (hm:iM ms φ L=.ok [.str n,.str n] L):aU cQ a ms φ L=.ok (.str (ak st n)) L:=by
 unfold aU;rw [ha,aM];rcases h with rfl|⟨m,rfl,h⟩
 ·simp only [Du,vw,bT,WD,cQ,hm,aM,Eh]
 ·simp only [Du,jr,h,fN,bT,WD,cQ,hm,aM]
  exact Lc h
theorem oX {L:aa} {x:T} {st:aY} (h:kY L x st) (f:Fc) (hf:f.as.length<=1000):bB [x,fT f] L=.ok (fT (wr st f)) L:=by
 unfold bB;simp_arith;rw [bj rfl f.as T.str (fun n=>.str (ak st n)) (by exact rfl) (by exact aq) (by unfold lim;omega) (by exact fun b _=>n8 h rfl rfl)];simp_arith;rw [show((f.as.map fun n=>T.str (ak st n)))=(f.as.map (ak st)).map .str by simp];exact fin_same (bh _ (wr st f))
theorem Ht {L:aa} {x:T} {st:aY} (h:kY L x st) (f:Fc) (hf:f.as.length<=1000):fm [fT f,x] L=.ok (fT (wr st f)) L:=by
 unfold fm;simp_arith;rw [bj rfl f.as T.str (fun n=>.str (ak st n)) (by exact rfl) (by exact aq) (by unfold lim;omega) (by exact fun b _=>n8 h rfl rfl)];simp_arith;rw [show((f.as.map fun n=>T.str (ak st n)))=(f.as.map (ak st)).map .str by simp];exact fin_same (bh _ (wr st f))
theorem vY {L:aa} {x:T} {st:aY} (h:kY L x st) (p:Cs × Cs):cE [x,pT p] L=.ok (pT (ak st p.1,ak st p.2)) L:=by
 unfold cE;simp only [lq,Ut,UW,XY,if_true,kC,ug,zP,DW,mX,mW,Uy,Vy,Wi,Vq];rw [n8 (n:=p.1) h rfl rfl];simp only [aM];rw [n8 (n:=p.2) h rfl rfl];simp_arith;exact fin_same (fy _ (ak st p.1,ak st p.2))
theorem vZ (st:aY) (n v:Cs):dput (st.map fun p=>(T.str p.1,T.str p.2)) (.str n) (.str v)=(if n∈st.map (·.1) then st.map (fun e=>if e.1=n then (e.1,v) else e) else st++[(n,v)]).map fun p=>(T.str p.1,T.str p.2):=by
 by_cases h:n∈st.map (·.1)
 ·obtain⟨e,he,rfl⟩:=Ur.mp h
  rw [if_pos h];unfold dput;rw [if_pos (V5.mpr ⟨(.str e.1,.str e.2),Ur.mpr ⟨e,he,rfl⟩,by simp⟩),UT,UT];refine U5 fun p hp=>?_
  simp only [VR];by_cases z:p.1=e.1
  ·rw [if_pos (by rw [z]),if_pos z]
  ·rw [if_neg (fun q=>z (T.str.inj q)),if_neg z]
 ·rw [if_neg h,fu]
  ·simp
  ·intro p hp
   obtain⟨y,hy,rfl⟩:=Ur.mp hp;exact fun e=>h (by rw [<- T.str.inj e];exact UE hy)
theorem Hu {st:aY} {n:Cs} {L:aa} (hl:st.length<lim) (hg:great n=true):∃t,xB (.ref L.length) [.str n,.str n] (bT st::L)=.ok t (bT (eI st n)::L):=by
 unfold xB;simp only [dR,bT];rw [aC ⟨by simpa using hl,nB st n⟩,j0];cases e:gG st n with
 | some v =>
  refine⟨.str v,?_⟩;have hm:n∈st.map (·.1):=by
   unfold gG at e;obtain⟨p,hp,_⟩:=UA.mp e;have:=List.find?_some hp
   exact Ur.mpr ⟨p,WK hp,by simpa using this⟩
  unfold eI;rw [if_pos hg,if_pos hm];rfl
 | none =>
  refine⟨.str n,?_⟩;have hm:n∉st.map (·.1):=fun h=>by
   obtain⟨p,hp,rfl⟩:=Ur.mp h;unfold gG at e;have:=VY.mp (ZQ.mp e) p hp
   simp at this
  unfold eI;rw [if_pos hg,if_neg hm];simp only [Option.map_none];rw [vZ,if_neg hm,w7]
theorem Au (st:aY) (n:Cs):(eI st n).length<=st.length+1:=by unfold eI;split <;> (try split) <;> simp
theorem j4 (ns:List Cs):∀st:aY,(fG st ns).length<=st.length+ns.length:=by
 induction ns with
 | nil=>intro st;simp [fG]
 | cons n ns ih =>
  intro st;have h1:=ih (eI st n)
  have h2:=Au st n;have:fG st (n::ns)=fG (eI st n) ns:=rfl
  rw [this,Ut];omega
theorem Av (st:aY) (ns:List Cs) (x:T) (hx:items x (bT st::L)=some (ns.map .str)) (hv:∀k,x≠.ref k) (hn:∀n∈ns,1<=n.length) (hl:st.length+ns.length<1000):nj [.ref L.length,x] (bT st::L)=.ok .cm (bT (fG st ns)::L):=by
 have hs:src (v 1) [some (.ref L.length),some x,none] (bT st::L)=.ok (ns.map .str,stays x (bT st::L)) (bT st::L):=by
  simp only [zN,Ib,Zv,WW,WZ,fk,aM,hx]
 unfold nj;simp only [lq,Ut,UW,XY,if_true,kC,ug,Uy,Vy,Wi,Vq,Zw,U3,zQ,hs,of_ok];generalize ho:forL _ _ _ _ _ _=o;have h:=bA ho ns T.str (fun r φ L'=>∃done o2,done++r=ns/\φ=[some (.ref L.length),some x,o2]/\L'=bT (fG st done)::L)
  (fun o=>∃φ,o=.nx φ (bT (fG st ns)::L)) rfl ⟨[],none,rfl,rfl,rfl⟩ (fun _ _ eJ eP n r φ L' hh=>by
   obtain⟨done,o2,e1,rfl,rfl⟩:=hh;refine⟨vI hv _,_,rfl,?_⟩;have hk:=j4 done st
   have hd:done.length<=ns.length:=by rw [<- e1];simp
   have e3:fG st (done++[n])=eI (fG st done) n:=by simp [fG]
   simp_arith [eJ,eP,fc n (hn n (by rw [<- e1];simp))];cases hg:great n with
   | false=>simp_arith [eJ,eP];exact⟨done++[n],_,by simpa using e1,rfl,by rw [e3];unfold eI;rw [hg];rfl⟩
   | true =>
    obtain⟨t,ht⟩:=Hu (L:=L) (st:=fG st done) (n:=n) (by unfold lim;omega) hg;simp only [bT] at ht ⊢;simp_arith [eJ,eP,ht];exact⟨done++[n],_,by simpa using e1,rfl,by rw [e3];rfl⟩)
  fun φ L' hh=>by
   obtain⟨done,o2,e1,rfl,rfl⟩:=hh;rw [UQ] at e1;subst e1;exact⟨vI hv _,_,rfl⟩
 obtain⟨φ,rfl⟩:=h;simp_arith;exact nv (qg _ _) rfl
end da
namespace da
open PySem M
open lZ (bV ah)
open Bk (Fc Kd Lk Rl aK great opens KG cy ak gG wr fG eI cw cu cv aY fw)
theorem nC (a b:Cs):fw a b=decide (a<b):=rfl
theorem Aw (p q:Cs) (hp:1<=p.length) (hq:1<=q.length) (L:aa):jV [.str p,.str q] L=.ok (.str (Un.bK great fw p q)) L:=by
 unfold jV Un.bK;simp_arith [fc p hp];cases h1:great p with
 | false=>simp_arith
 | true =>
  simp_arith [fc q hq];cases h2:great q with
  | false=>simp_arith;simp
  | true=>simp_arith [xy,Un.mn,nC,decide_eq_true_eq];simp
theorem Hv (st:aY) (a b:Cs) (nd:(st.map (·.1)).Nodup) (hl:st.length<=1000) (hp:1<=(ak st a).length) (hq:1<=(ak st b).length) (L:aa) :
  fQ [.ref L.length,.str a,.str b] (bT st::L)=if cv (ak st a) (ak st b) then .ok (.bl false) (bT st::L) else .ok (.bl true) (bT (cw st (ak st a) (ak st b))::L):=by
 have lN:kY (bT st::L) (.ref L.length) st:=.inr ⟨_,rfl,dR⟩;unfold fQ;simp only [lq,Ut,UW,XY,if_true,kC,Uy,Vy,Wi,Vq,Zw,U3,zO];rw [n8 (n:=a) lN rfl rfl];simp only [of_ok,Tg.set,vG,List.set_cons_succ,List.set_cons_zero,kC,zO];rw [n8 (n:=b) lN rfl rfl];generalize ak st a=p at *
 generalize ak st b=q at *
 simp_arith;by_cases e:p=q
 ·subst e
  rw [if_neg (show ¬ cv p p from fun z=>z.1 rfl),show cw st p p=st by unfold cw;rw [if_pos rfl]];simp_arith
 ·simp_arith [show(p == q)=false from beq_eq_false_iff_ne.mpr e,fc p hp,fc q hq]
  by_cases ht:cv p q
  ·rw [if_pos ht]
   simp_arith [ht.2.1,ht.2.2]
  ·rw [if_neg ht]
   have hg:(if (!great p)=true then !great q else false)=false:=by
    cases h1:great p with
    | true=>rfl
    | false =>
     cases h2:great q with
     | true=>rfl
     | false=>exact absurd ⟨e,h1,h2⟩ ht
   have hk:fo true [.ref L.length] (bT st::L)=.ok (.lst ((st.map (·.1)).map .str)) (bT st::L):=by
    have e:(st.map fun p=>(T.str p.1,T.str p.2)).map (·.1)=(st.map (·.1)).map .str:=by simp
    unfold fo bT;simp only [jr,dR,fN];rw [e,aC (by simp [j9]),fF,aC (by simp;unfold lim;omega)];rfl
   simp_arith [hg,Aw p q hp hq,hk];generalize qG:Un.bK great fw p q=ch;generalize ho:forL _ _ _ _ _ _=o;have h:=bA ho st (fun e=>T.str e.1) (fun r φ L'=>∃done o6,done++r=st/\φ=[some (.ref L.length),some (.str a),some (.str b),some (.str p),some (.str q),some (.str ch),o6]/\L'=bT (done.map (cu p q)++r)::L)
    (fun o=>∃φ,o=.nx φ (bT (st.map (cu p q))::L)) (by simp) ⟨[],none,rfl,rfl,rfl⟩ (fun _ _ eJ eP x r φ L' hh=>by
     obtain⟨done,o6,e1,rfl,rfl⟩:=hh;refine⟨sv,_,rfl,?_⟩;have nk:((done.map (cu p q)++x::r).map (·.1)).Nodup:=by
      rw [UD,Bk.gV,<- UD,e1];exact nd
     have hx:gG (done.map (cu p q)++x::r) x.1=some x.2:=by
      unfold gG;rw [List.find?_append,VY.mpr,Option.none_or,VN,decide_eq_true rfl];rfl;intro y hy;rw [UD,VS] at nk;exact fun z=>nk.2.2 _ (UE hy) _ (UE Um) (by simpa using z)
     have Mc:ix (.ref L.length) (.str x.1) (bT (done.map (cu p q)++x::r)::L)=.ok (.str x.2) (bT (done.map (cu p q)++x::r)::L):=by
      unfold ix;simp only [jr,dR,fN,bT];rw [aC (nB _ _),j0,hx];rfl
     have sO:=KL (x:=x.2) (ys:=[p,q]) (L:=bT (done.map (cu p q)++x::r)::L);simp only [Uy,Vy] at sO;simp_arith [eJ,eP,Mc,sO];have tg:cu p q x=(x.1,if x.2=p\/x.2=q then ch else x.2):=by rw [<- qG];rfl
     have e4:∀y,done.map (cu p q)++[y]++r=done.map (cu p q)++y::r:=fun y=>by simp
     by_cases hm:x.2∈[p,q]
     ·have hm':x.2=p\/x.2=q:=by simpa using hm
      have OM:jw (.ref L.length) (.str x.1) (.str ch) (bT (done.map (cu p q)++x::r)::L)=some (bT (done.map (cu p q)++(x.1,ch)::r)::L):=by
       unfold jw bT;simp only [dR];rw [if_pos ⟨by
        have:=congrArg Ww e1;simp at this ⊢;unfold lim;omega,nB _ _⟩,vZ,if_pos (by simp),w7]
       congr 4;rw [UD,Uy,if_pos rfl];rw [UD,VS] at nk;have Qq:∀l:List (Cs × Cs),(∀e∈l,e.1≠x.1)->l.map (fun e=>if e.1=x.1 then (e.1,ch) else e)=l:=fun l h=>by
        conv=>rhs;rw [<- X8 l]
        exact U5 fun e he=>by rw [if_neg (h e he)];rfl
       rw [Qq _ fun e he z=>nk.2.2 _ (UE he) _ (UE Um) z,Qq r fun e he z=>by
        have:=nk.2.1;rw [Uy,Vd] at this;exact this.1 (by rw [<- z];exact UE he)]
      simp_arith [eJ,eP,hm,decide_true,OM];exact⟨done++[x],_,by simpa using e1,rfl,by simp [tg,hm']⟩
     ·have hm':¬ (x.2=p\/x.2=q):=by simpa using hm
      simp_arith [eJ,eP,hm,decide_false];exact⟨done++[x],_,by simpa using e1,rfl,by simp [tg,hm']⟩)
    fun φ L' hh=>by
     obtain⟨done,o6,e1,rfl,rfl⟩:=hh;rw [UQ] at e1;subst e1;rw [UQ];exact⟨sv,_,rfl⟩
   obtain⟨φ,rfl⟩:=h;simp_arith;unfold cw;rw [if_neg e];exact nv (qg _ _) rfl
end da
namespace da
open PySem M
open Bk (Fc Kd Lk Rl great opens KG cy ak gG wr aY)
theorem qx {f g:Fc} (h:fT f=fT g):f=g:=by
 have:=congrArg (fun t=>eqT t (fT g)) h;simp only [se,decide_true,decide_eq_true_eq] at this;exact this
abbrev Wn:=List (Fc × Int)
noncomputable def wD (W:Wn):List (T × T):=W.map fun p=>(fT p.1,.int p.2)
noncomputable def wV (W:Wn) (f:Fc):Int:=((W.find? fun p=>decide (p.1=f)).map (·.2)).getD 0
noncomputable def wS (W:Wn) (f:Fc) (n:Int):Wn:=if f∈W.map (·.1) then W.map (fun p=>if p.1=f then (p.1,n) else p) else W++[(f,n)]
theorem Hw (n:Nat) (l:List Cs):(l.map T.str).all (kd (n+1))=true:=by simp [kd,j9]
theorem Ax (f:Fc):En (fT f)=true:=by
 show(kd 6 (.str f.k) && (kd 6 (.tup (f.as.map .str)) && true))=true;rw [show kd 6 (.tup (f.as.map .str))=(f.as.map T.str).all (kd 5) from rfl,Hw 4];rfl
theorem Ay (W:Wn) (f:Fc):dZ (wD W) (fT f):=by
 unfold dZ gI wD;rw [Xg];refine .inr (Uo.mpr fun x hx=>?_);rcases UG.mp hx with rfl|hx
 ·exact Ax f
 ·obtain⟨p,hp,rfl⟩:=Ur.mp hx
  obtain⟨q,_,rfl⟩:=Ur.mp hp;exact Ax q.1
theorem uE:∀(W:Wn) (f:Fc),dK (wD W) (fT f)=(W.find? fun p=>decide (p.1=f)).map fun p=>.int p.2
 | [],f=>rfl
 | (a,b)::W,f=>by
  have ih:=uE W f;unfold wD at ih ⊢;rw [Uy,iW,ih,VN];by_cases h:a=f
  ·rw [if_pos (by rw [h]),decide_eq_true h];rfl
  ·rw [if_neg (fun e=>h (qx e)),decide_eq_false h]
theorem Hx (W:Wn) (f:Fc) (n:Int):dput (wD W) (fT f) (.int n)=wD (wS W f n):=by
 unfold wS;by_cases h:f∈W.map (·.1)
 ·obtain⟨e,he,rfl⟩:=Ur.mp h
  rw [if_pos h];unfold dput wD;rw [if_pos (V5.mpr ⟨(fT e.1,.int e.2),Ur.mpr ⟨e,he,rfl⟩,by simp⟩),UT,UT];refine U5 fun p hp=>?_
  simp only [VR];by_cases z:p.1=e.1
  ·rw [if_pos (by rw [z]),if_pos z]
  ·rw [if_neg (fun q=>z (qx q)),if_neg z]
 ·rw [if_neg h,fu]
  ·simp [wD]
  ·intro p hp
   obtain⟨y,hy,rfl⟩:=Ur.mp hp;exact fun e=>h (by rw [<- qx e];exact UE hy)
theorem Ld (W:Wn) (f g:Fc) (n:Int):wV (wS W f n) g=if g=f then n else wV W g:=by
 unfold wV wS;by_cases h:f∈W.map (·.1)
 ·rw [if_pos h]
  induction W with
  | nil=>cases h
  | cons p W ih =>
   rw [Uy,VN,VN];by_cases e:p.1=f
   ·rw [if_pos e]
    by_cases q:g=f
    ·rw [if_pos q,decide_eq_true (by rw [e,q])];rfl
    ·rw [if_neg q,decide_eq_false (by rw [e];exact VU q)]
     simp only [];by_cases h':f∈W.map (·.1)
     ·rw [ih h',if_neg q]
     ·rw [show W.map (fun p=>if p.1=f then (p.1,n) else p)=W from ?_]
      conv=>rhs;rw [<- X8 W]
      refine U5 fun y hy=>?_
      rw [if_neg (fun z=>h' (by rw [<- z];exact UE hy))];rfl
   ·rw [if_neg e]
    have h':f∈W.map (·.1):=(UG.mp h).resolve_left (VU e);by_cases z:p.1=g
    ·rw [decide_eq_true z]
     simp only [];rw [if_neg (fun q=>e (z.trans q))]
    ·rw [decide_eq_false z]
     exact ih h'
 ·rw [if_neg h,List.find?_append]
  by_cases q:g=f
  ·subst q
   rw [VY.mpr]
   ·simp
   ·intro y hy z
    exact h (Ur.mpr ⟨y,hy,by simpa using z⟩)
  ·rw [if_neg q]
   cases W.find? fun p=>decide (p.1=g) with
   | some y=>rfl
   | none=>simp [VU q]
theorem uF {W:Wn} {f:Fc} {n:Int}:f∈(wS W f n).map (·.1)/\∀g∈W.map (·.1),g∈(wS W f n).map (·.1):=by
 unfold wS;by_cases h:f∈W.map (·.1)
 ·have e:(W.map fun p=>if p.1=f then (p.1,n) else p).map (·.1)=W.map (·.1):=by
   rw [UT];refine U5 fun p _=>?_
   simp only [VR];split <;> rfl
  rw [if_pos h,e];exact⟨h,fun _ z=>z⟩
 ·rw [if_neg h]
  exact⟨by simp,fun g hg=>by rw [UD];exact Uv _ hg⟩
theorem Hy {W:Wn} {f:Fc} (h:f∈W.map (·.1)):∃p,W.find? (fun p=>decide (p.1=f))=some p/\p.2=wV W f:=by
 obtain⟨q,hq,rfl⟩:=Ur.mp h;unfold wV;cases e:W.find? fun p=>decide (p.1=q.1) with
 | none=>exact absurd (VY.mp e q hq) (by simp)
 | some p=>exact⟨p,rfl,rfl⟩
theorem Az (W:Wn) (f:Fc) (n:Int):(wS W f n).length<=W.length+1:=by unfold wS;split <;> simp
section
variable {L:aa} {W:Wn} {c:T} {f:Fc}
theorem Lf (h:at_ L n=some (.aS (wD W))):iZ (.ref n) [fT f,.int 0] L=.ok (.int (wV W f)) L:=by
 unfold iZ;simp only [jr,h,fN];rw [aC (Ay W f),uE];unfold wV;cases W.find? fun p=>decide (p.1=f) <;> rfl
theorem Lg (h:at_ L n=some (.aS (wD W))) (hl:W.length<lim) (i:Int):jw (.ref n) (fT f) (.int i) L=some (put L n (.aS (wD (wS W f i)))):=by
 unfold jw;simp only [h];rw [if_pos ⟨by unfold wD;simpa using hl,Ay W f⟩,Hx]
end
theorem Qr {L:aa} {W:Wn} {f:Fc} {n:Nat} (h:at_ L n=some (.aS (wD W))) (hf:f∈W.map (·.1)):ix (.ref n) (fT f) L=.ok (.int (wV W f)) L/\Iy (.ref n) (fT f) L=.ok (.int (wV W f)) L:=by
 obtain⟨p,hp,e⟩:=Hy hf;unfold ix Iy;simp only [jr,h,fN];rw [aC (Ay W f),uE,hp,<- e];exact⟨rfl,rfl⟩
theorem Lh (bp ts:List Fc) (hb:bp.length<=1000) (ht:ts.length<=1000) (hs:∀f,ts.count f<=bp.count f) (L:aa):∃left:List Fc,(∀f,left.count f=bp.count f - ts.count f)/\dm [.tup (bp.map fT),.lst (ts.map fT)] L=.ok (.lst (left.map fT)) L:=by
 by_cases h0:ts=[]
 ·subst h0
  refine⟨bp,fun f=>by simp,?_⟩;have ON:fo true [.tup (bp.map fT)] L=.ok (.lst (bp.map fT)) L:=by
   show fF true (bp.map fT) L=_;rw [fF,aC (by simp;unfold lim;omega)];rfl
  unfold dm;simp_arith [show(((([]:List Fc).map fT).length:Int) == 0)=true from rfl,ON];exact fin_same (av bh)
 have main:∃left:List Fc,(∀f,left.count f=bp.count f - ts.count f)/\∃W,dm [.tup (bp.map fT),.lst (ts.map fT)] L=fin L (.ref (L.length+1)) (.lst (left.map fT) :: .aS (wD W)::L):=by
  unfold dm;simp_arith [show((ts.length:Int) == 0)=false by simpa using h0];generalize ho:forL _ _ _ _ _ _=o;have h:=bA ho ts fT (fun r φ L'=>∃(done:List Fc) (W:Wn) (o3:Option T),done++r=ts/\(∀f,wV W f=done.count f)/\W.length<=done.length/\(∀f∈done,f∈W.map (·.1))/\φ=[some (.tup (bp.map fT)),some (.lst (ts.map fT)),some (.ref L.length),o3,none]/\L'=.aS (wD W)::L)
   (fun o=>∃(W:Wn) (o3:Option T),(∀f,wV W f=ts.count f)/\W.length<=ts.length/\(∀f∈ts,f∈W.map (·.1))/\o=.nx [some (.tup (bp.map fT)),some (.lst (ts.map fT)),some (.ref L.length),o3,none] (.aS (wD W)::L)) rfl ⟨[],[],none,rfl,fun f=>rfl,UH _,(by simp),rfl,rfl⟩ (fun _ _ eJ eP f r φ L' hh=>by
    obtain⟨done,W,o3,e1,h1,h2,h3,rfl,rfl⟩:=hh;have hd:done.length<=ts.length:=by rw [<- e1];simp
    refine⟨sv,_,rfl,?_⟩;simp_arith [eJ,eP,Lf (f:=f) (W:=W) (L:=.aS (wD W)::L) dR,Lg (f:=f) (W:=W) (L:=.aS (wD W)::L) dR (by unfold lim;omega)];refine⟨done++[f],wS W f (wV W f+1),_,by simpa using e1,fun g=>?_,?_,fun g hg=>?_,rfl,rfl⟩
    ·rw [Ld,h1,VT,Yo]
     by_cases z:g=f
     ·subst z;simp [h1]
     ·rw [if_neg z,if_neg (by simpa using VU z),h1];simp
    ·have:=Az W f (wV W f+1);simp;omega
    ·rcases Uz.mp hg with hg|hg
     ·exact uF.2 g (h3 g hg)
     ·rw [UR.mp hg];exact uF.1)
   fun φ L' hh=>by
    obtain⟨done,W,o3,e1,h1,h2,h3,rfl,rfl⟩:=hh;rw [UQ] at e1;subst e1;exact⟨sv,W,o3,h1,h2,h3,rfl⟩
  obtain⟨W0,o3,Qs,Tj,Tn,rfl⟩:=h;simp_arith;generalize ho:forL _ _ _ _ _ _=o;have h:=bA ho bp fT (fun r φ L'=>∃(done:List Fc) (W:Wn) (left:List Fc) (o3:Option T),done++r=bp/\W.length<=ts.length+done.length/\left.length<=done.length/\(∀f∈ts,f∈W.map (·.1))/\(∀f,0<=wV W f/\(left.count f:Int)+(ts.count f - wV W f)=done.count f/\(0<wV W f->left.count f=0))/\φ=[some (.tup (bp.map fT)),some (.lst (ts.map fT)),some (.ref L.length),o3,some (.ref (L.length+1))]/\L'=.lst (left.map fT) :: .aS (wD W)::L)
   (fun o=>∃(W:Wn) (left:List Fc) (o3:Option T),(∀f∈ts,f∈W.map (·.1))/\(∀f,wV W f=0/\left.count f=bp.count f - ts.count f)/\o=.nx [some (.tup (bp.map fT)),some (.lst (ts.map fT)),some (.ref L.length),o3,some (.ref (L.length+1))] (.lst (left.map fT) :: .aS (wD W)::L)) rfl
   ⟨[],W0,[],o3,rfl,by simpa using Tj,UH _,Tn,fun f=>⟨by rw [Qs];omega,by rw [Qs];simp,fun _=>rfl⟩,rfl,rfl⟩ (fun _ _ eJ eP f r φ L' hh=>by
    obtain⟨done,W,left,o3,e1,h1,h2,h3,h4,rfl,rfl⟩:=hh;have hd:done.length<=bp.length:=by rw [<- e1];simp
    refine⟨sv,_,rfl,?_⟩;have Ie:at_ (.lst (left.map fT) :: .aS (wD W)::L) L.length=some (.aS (wD W)):=m9
    simp_arith [eJ,eP,Lf (f:=f) Ie];have cd:∀g:Fc,(done++[f]).count g=done.count g+if g=f then 1 else 0:=fun g=>by
     rw [VT,Yo];by_cases z:g=f
     ·subst z;simp
     ·rw [if_neg (by simpa using VU z),if_neg z]
    by_cases hp:0<wV W f
    ·have hmem:f∈W.map (·.1):=by
      refine Decidable.byContradiction fun z=>?_
      have:wV W f=0:=by
       unfold wV;rw [VY.mpr fun p hp q=>z (Ur.mpr ⟨p,hp,by simpa using q⟩)];rfl
      omega
     simp_arith [eJ,eP,hp,decide_true,(Qr Ie hmem).2,Lg (f:=f) Ie (by unfold lim;omega)];refine⟨done++[f],wS W f (wV W f - 1),left,_,by simpa using e1,?_,?_,fun g hg=>uF.2 g (h3 g hg),fun g=>?_,rfl,rfl⟩
     ·have:=Az W f (wV W f - 1);simp;omega
     ·simp;omega
     ·rw [Ld,cd]
      obtain⟨a1,a2,a3⟩:=h4 g;by_cases z:g=f
      ·subst z
       rw [if_pos rfl,if_pos rfl];exact⟨by omega,by omega,fun _=>a3 hp⟩
      ·rw [if_neg z,if_neg z]
       exact⟨a1,by omega,a3⟩
    ·simp_arith [eJ,eP,hp,decide_false,aC (show left.length<lim by unfold lim;omega),bw]
     refine⟨done++[f],W,left++[f],_,by simpa using e1,?_,by simp;omega,h3,fun g=>?_,rfl,rfl⟩
     ·simp;omega
     ·rw [cd]
      obtain⟨a1,a2,a3⟩:=h4 g;have cl:(left++[f]).count g=left.count g+if g=f then 1 else 0:=by
       rw [VT,Yo];by_cases z:g=f
       ·subst z;simp
       ·rw [if_neg (by simpa using VU z),if_neg z]
      rw [cl];by_cases z:g=f
      ·subst z
       rw [if_pos rfl];exact⟨a1,by omega,fun q=>absurd q hp⟩
      ·rw [if_neg z]
       exact⟨a1,by omega,fun q=>by have:=a3 q;omega⟩)
   fun φ L' hh=>by
    obtain⟨done,W,left,o3,e1,h1,h2,h3,h4,rfl,rfl⟩:=hh;rw [UQ] at e1;subst e1;refine⟨sv,W,left,o3,h3,fun f=>?_,rfl⟩;obtain⟨a1,a2,a3⟩:=h4 f;have:=hs f
    by_cases q:0<wV W f
    ·have:=a3 q;omega
    ·omega
  obtain⟨W,left,o3,hm,hw,rfl⟩:=h;simp_arith;generalize ho:forL _ _ _ _ _ _=o;have h:=bA ho ts fT (fun r φ L'=>∃o3,(∀f∈r,f∈ts)/\φ=[some (.tup (bp.map fT)),some (.lst (ts.map fT)),some (.ref L.length),o3,some (.ref (L.length+1))]/\L'=.lst (left.map fT) :: .aS (wD W)::L)
   (fun o=>∃o3,o=.nx [some (.tup (bp.map fT)),some (.lst (ts.map fT)),some (.ref L.length),o3,some (.ref (L.length+1))] (.lst (left.map fT) :: .aS (wD W)::L)) rfl ⟨o3,fun _ h=>h,rfl,rfl⟩ (fun _ _ eJ eP f r φ L' hh=>by
    obtain⟨o3,h1,rfl,rfl⟩:=hh;refine⟨sv,_,rfl,?_⟩;simp_arith [eJ,eP,(Qr (L:=.lst (left.map fT) :: .aS (wD W)::L) m9 (hm f (h1 f Um))).1,(hw f).1,Zo,decide_false];exact⟨_,fun g hg=>h1 g (Up _ hg),rfl,by trivial⟩)
   fun φ L' hh=>by
    obtain⟨o3,h1,rfl,rfl⟩:=hh;exact⟨sv,_,rfl⟩
  obtain⟨o3,rfl⟩:=h;simp_arith;exact⟨left,fun f=>(hw f).2,W,rfl⟩
 obtain⟨left,hc,W,e⟩:=main;exact⟨left,hc,e.trans (Ha (av bh))⟩
end da
namespace da
open PySem M
open Bk (Fc Kd Lk Rl great opens KG cy ak gG wr aY fG eI cw cv aN i8 aj ai lw)
theorem Hz {x y:T} (hx:kd 8 x=true) (hy:kd 8 y=true) (h:ltN 8 y x=false):x=y\/ltN 8 x y=true:=by
 by_cases e:x=y
 ·exact .inl e
 ·rcases jJ 8 _ _ hx hy e with q|q
  ·exact .inr q
  ·rw [h] at q;cases q
theorem sF (x:T) (hx:kd 8 x=true):∀l:List T,(∀y∈l,kd 8 y=true)->ik l->∃l',l'.Perm (x::l)/\ik l'
 | [],_,_=>⟨[x],.refl _,by simp [ik]⟩
 | y::l,hk,hr=>by
  have hy:=hk y Um;have hr':=Wh.mp hr
  cases e:ltN 8 y x with
  | false =>
   refine⟨x::y::l,.refl _,Wh.mpr ⟨fun z hz=>?_,hr⟩⟩;rcases UG.mp hz with rfl|hz
   ·exact e
   ·have h1:=hr'.1 z hz
    rcases Hz hx hy e with rfl|q
    ·exact h1
    ·cases e2:ltN 8 z x with
     | false=>rfl
     | true=>rw [dN 8 _ _ _ e2 q] at h1;cases h1
  | true =>
   obtain⟨l',p,r⟩:=sF x hx l (fun z hz=>hk z (Up _ hz)) hr'.2;refine⟨y::l',(p.cons y).trans (.swap _ _ _),Wh.mpr ⟨fun z hz=>?_,r⟩⟩;rcases UG.mp (p.mem_iff.mp hz) with rfl|hz
   ·cases e2:ltN 8 z y with
    | false=>rfl
    | true=>have:=dN 8 _ _ _ e e2;rw [lU] at this;cases this
   ·exact hr'.1 z hz
theorem v5:∀l:List T,(∀y∈l,kd 8 y=true)->∃l',l'.Perm l/\ik l'
 | [],_=>⟨[],.refl _,Zg⟩
 | x::l,h=>by
  obtain⟨l1,p1,r1⟩:=v5 l fun y hy=>h y (Up _ hy)
  obtain⟨l2,p2,r2⟩:=sF x (h x Um) l1 (fun y hy=>h y (Up _ (p1.mem_iff.mp hy))) r1;exact⟨l2,p2.trans (p1.cons x),r2⟩
theorem gF {l:List T} (h:∀y∈l,kd 8 y=true):(jL l).Perm l/\ik (jL l):=by
 obtain⟨l',p,r⟩:=v5 l h;rw [pN (Uo.mpr h) p r];exact⟨p,r⟩
theorem sG {α:Type} {g:α->T} {l l2:List T} (p:l.Perm l2):∀fs:List α,l2=fs.map g->∃gs:List α,gs.Perm fs/\l=gs.map g:=by
 induction p with
 | nil =>
  intro fs e;cases fs with
  | nil=>exact⟨[],.refl _,rfl⟩
  | cons f fs=>cases e
 | cons x p ih =>
  intro fs e;cases fs with
  | nil=>cases e
  | cons f fs =>
   cases e;obtain⟨gs,q,e⟩:=ih fs rfl;exact⟨f::gs,q.cons f,by rw [e];rfl⟩
 | swap x y l =>
  intro fs e
  match fs,e with
  | a::b::fs,e=>cases e;exact⟨b::a::fs,.swap _ _ _,rfl⟩
 | trans p q Nm Nn =>
  intro fs e;obtain⟨gs,r1,e1⟩:=Nn fs e;obtain⟨hs,r2,e2⟩:=Nm gs e1;exact⟨hs,r2.trans r1,e2⟩
theorem AA (f:Fc):kd 8 (fT f)=true:=by
 show(kd 7 (.str f.k) && (kd 7 (.tup (f.as.map .str)) && true))=true;rw [show kd 7 (.tup (f.as.map .str))=(f.as.map T.str).all (kd 6) from rfl,Hw 5];rfl
theorem Li (f:Fc):kd 6 (fT f)=true:=by
 show(kd 5 (.str f.k) && (kd 5 (.tup (f.as.map .str)) && true))=true;rw [show kd 5 (.tup (f.as.map .str))=(f.as.map T.str).all (kd 4) from rfl,Hw 3];rfl
theorem Lj (n:Nat):∀a b:List Cs,shl (q9 (n+1)) (a.map .str) (b.map .str)=true
 | [],_=>by simp [shl]
 | _::_,[]=>by simp [shl]
 | x::a,y::b=>by rw [Uy,Uy,shl,Lj n a b];rfl
theorem OO (f g:Fc):q9 8 (fT f) (fT g)=true:=by
 show(q9 7 (.str f.k) (.str g.k) && (shl (q9 6) (f.as.map .str) (g.as.map .str) && true))=true;rw [Lj 5];rfl
theorem w4 {fs:List Fc} (h:fs.length<64):cS (fs.map fT) :=
 ⟨by simpa using h,by simp [AA],.inl (by simp [qH,fT]),by simp [OO]⟩
theorem kd_p (p:Cs × Cs):kd 8 (pT p)=true:=rfl
theorem Ll {fs:List (Cs × Cs)} (h:fs.length<64):cS (fs.map pT) :=
 ⟨by simpa using h,by simp [kd_p],.inl (by simp [qH,pT]),by simp [show ∀a b,q9 8 (pT a) (pT b)=true from fun _ _=>rfl]⟩
theorem v7 (fs:List Fc):∃gs:List Fc,gs.Perm fs/\jL (fs.map fT)=gs.map fT :=
 sG (gF fun y hy=>by obtain⟨f,_,rfl⟩:=Ur.mp hy;exact AA f).1 fs rfl
theorem Ei (fs:List (Cs × Cs)):∃gs:List (Cs × Cs),gs.Perm fs/\jL (fs.map pT)=gs.map pT :=
 sG (gF fun y hy=>by obtain⟨f,_,rfl⟩:=Ur.mp hy;exact kd_p f).1 fs rfl
theorem HA {x:T} {ys:List T} {L:aa} (hx:vw L x=.lst ys) (h:cS ys) (hl:(jL ys).length<=lim):iw true [x] L=.ok (.lst (jL ys)) L:=by
 unfold iw;simp only [hx];unfold cS at h;rw [aC h,fF,aC hl];rfl
theorem C7 {ys:List T} (h:cS ys):(jL ys).length<=lim:=by
 rw [(gF (Uo.mp h.2.1)).1.length_eq];have:=h.1;unfold lim;omega
theorem qy {x:T} {ys:List T} {L:aa} (hx:vw L x=.lst ys) (h:cS ys):iw true [x] L=.ok (.lst (jL ys)) L:=HA hx h (C7 h)
theorem Ej (fs:List Fc):∃gs:List Fc,gs.Nodup/\(∀f,f∈gs↔f∈fs)/\gs.length<=fs.length/\rf (fs.map fT)=gs.map fT:=by
 induction fs with
 | nil=>exact⟨[],W5,fun _=>Iff.rfl,UH _,rfl⟩
 | cons f fs ih =>
  obtain⟨gs,h1,h2,h3,h4⟩:=ih;rw [Uy,rf];by_cases h:f∈fs
  ·rw [if_pos (UE h)]
   exact⟨gs,h1,fun g=>by rw [h2,UG];exact⟨.inr,fun z=>z.elim (fun e=>by rw [e];exact h) id⟩,by simp;omega,h4⟩
  ·rw [if_neg fun z=>by obtain⟨g,hg,e⟩:=Ur.mp z;exact h (by rw [<- qx e];exact hg)]
   exact⟨f::gs,Vd.mpr ⟨fun z=>h ((h2 f).mp z),h1⟩,fun g=>by rw [UG,UG,h2],by simp;omega,by rw [h4];rfl⟩
theorem C8 (fs:List Fc) (h:fs.length<64) (L:aa):∃gs:List Fc,gs.Nodup/\(∀f,f∈gs↔f∈fs)/\jL (rf (fs.map fT))=gs.map fT/\mJ true [.lst (fs.map fT)] L=.ok (.lst (gs.map fT)) L:=by
 refine sL fun G n9=>?_
 obtain⟨g1,a1,a2,a3,a4⟩:=Ej fs;obtain⟨g2,b1,b2⟩:=v7 g1;refine n9 ?_;clear n9;refine⟨g2,b1.nodup_iff.mpr a1,fun f=>(b1.mem_iff).trans (a2 f),by rw [a4];exact b2,?_⟩;show cx _ _=_
 rw [aC ⟨w4 h,by simp [Li],Uo.mpr fun x hx=>by obtain⟨f,_,rfl⟩:=Ur.mp hx;rfl⟩,a4,b2,fF,aC (by rw [Lm9,b1.length_eq];unfold lim;omega)];rfl
theorem C9 (st:aY) (h:st.length<64) (L:aa):∃gs:List (Cs × Cs),gs.Perm st/\jL (st.map pT)=gs.map pT/\kr true [.ref L.length] (bT st::L)=.ok (.lst (gs.map pT)) (bT st::L):=by
 obtain⟨gs,b1,b2⟩:=Ei st;refine⟨gs,b1,b2,?_⟩;have e:br (st.map fun p=>(T.str p.1,T.str p.2))=st.map pT:=by unfold br;rw [UT];rfl
 unfold kr bT;simp only [jr,dR,fN];rw [e,aC (Ll h),b2,fF,aC (by rw [Lm9,b1.length_eq];unfold lim;omega)];rfl
theorem HB {st:aY} {n:Cs} (h:(st.map (·.1)).Nodup):((eI st n).map (·.1)).Nodup:=by
 unfold eI;split
 ·split
  ·exact h
  ·rename_i hn
   rw [UD,VS];exact⟨h,by simp,fun a ha b hb e=>hn (by simp at hb;rw [<- hb,<- e];exact ha)⟩
 ·exact h
theorem AB:∀(ns:List Cs) {st:aY},(st.map (·.1)).Nodup->((fG st ns).map (·.1)).Nodup
 | [],_,h=>h
 | n::ns,_,h=>AB ns (HB h)
theorem Dc {st:aY} {p q:Cs} (h:(st.map (·.1)).Nodup):((cw st p q).map (·.1)).Nodup:=by
 unfold cw;split
 ·exact h
 ·rw [Bk.gV];exact h
theorem HC {st:aY} {n:Cs} (h:i8 st) (hn:cy n):i8 (eI st n):=by
 unfold eI;split
 ·split
  ·exact h
  ·intro e he
   rcases Uz.mp he with he|he
   ·exact h e he
   ·rw [UR.mp he];exact⟨hn,hn⟩
 ·exact h
theorem AD:∀(ns:List Cs) {st:aY},i8 st->(∀n∈ns,cy n)->i8 (fG st ns)
 | [],_,h,_=>h
 | n::ns,_,h,hn=>AD ns (HC h (hn n Um)) fun m hm=>hn m (Up _ hm)
theorem nE (st:aY) (p q:Cs):(cw st p q).length=st.length:=by unfold cw;split <;> simp
theorem AE:∀(br:List (Cs × Cs)) {st bH:aY},aN st br=some bH->bH.length<=st.length+2 * br.length
 | [],st,bH,h=>by cases h;simp
 | (a,b)::r,st,bH,h=>by
  unfold aN at h;split at h
  ·cases h
  ·have:=AE r h
   rw [nE] at this;have z:=j4 [a,b] st
   simp at z ⊢;omega
noncomputable def aW (bp bl:List Fc) (st:aY):T:=.tup [.tup (bp.map fT),.tup (bl.map fT),.tup (st.map pT),.bl false]
theorem ju {st:aY} {x:T} {L:aa} (hx:kY L x st) {fs:List Fc} (hf:∀f∈fs,f.as.length<=1000) (hl:fs.length<=1000) {s:SI} {aZ:List (Option Nat)} {φ:Fr} {k:aa->Prop} {r:R T} (hc:comp true s aZ (.one 1) yes (ae bB [v 2,v 1]) φ L=r) (hs:s φ L=.ok (fs.map fT,k) L) (hk:k L)
  (h1:∀y,((inner aZ φ).set 1 (some y))[1]?=some (some y)) (h2:∀y,((inner aZ φ).set 1 (some y))[2]?=some (some x)):r=.ok (.lst ((fs.map (wr st)).map fT)) L:=by
 rw [bj hc fs fT (fun f=>fT (wr st f)) hs hk (by unfold lim;omega) fun f Ec=>by
  simp only [zM,mX,mW,Ib,h1,h2,WZ,fk,aM];exact oX hx f (hf f Ec),UT]
 rfl
noncomputable def il (ks:List Kd) (fs:List Fc):List Fc:=fs.filter fun f=>!decide (f.k∈(ks.filter (·.l)).map (·.n))
noncomputable def j5 (ks:List Kd) (fs:List Fc):List Fc:=fs.filter fun f=>decide (f.k∈(ks.filter (·.l)).map (·.n))
structure Mv (ks:List Kd) (bp bl:List Fc) (st:aY) (ts fs:List Fc) (br:List (Cs × Cs)):Prop where
 hn:(ks.map (·.n)).Nodup
 hk:ks.length<=100
 ft:∀f∈ts,aj ks f
 ff:∀f∈fs,aj ks f
 tl:∀f∈ts,f.k∉(ks.filter (·.l)).map (·.n)
 nd:(st.map (·.1)).Nodup
 sm:i8 st
 To:st.length<=10
 z1:bp.length+fs.length<64
 z2:bl.length+fs.length<64
 z3:ts.length<=10
 z4:fs.length<=4
 z5:br.length<=4
 a4:∀f∈(bp++bl)++(ts++fs),f.as.length<=4
 nf:∀f∈fs,∀a∈f.as,cy a
 np:∀p∈br,cy p.1/\cy p.2
 cnt:∀f,(ts.map (wr st)).count f<=bp.count f
noncomputable def je (ks:List Kd) (bp bl:List Fc) (st:aY) (ts fs:List Fc) (br:List (Cs × Cs)) (r:T):Prop :=
 (aN (fG st (fs.flatMap (·.as))) br=none/\r=bW) \/
 ∃bH left P Q S,aN (fG st (fs.flatMap (·.as))) br=some bH/\(∀f,left.count f=bp.count f - (ts.map (wr st)).count f)/\P.Perm (lw br bH left++il ks (fs.map (wr bH)))/\jL ((lw br bH left++il ks (fs.map (wr bH))).map fT)=P.map fT /\
  Q.Nodup/\(∀f,f∈Q↔f∈lw br bH bl++j5 ks (fs.map (wr bH)))/\jL (rf ((lw br bH bl++j5 ks (fs.map (wr bH))).map fT))=Q.map fT/\S.Perm bH/\jL (bH.map pT)=S.map pT/\r=aW P Q S
theorem Ek {l:List Fc} (h:∀g∈l,g.as.length<=4):(l.flatMap (·.as)).length<=4 * l.length:=by
 induction l with
 | nil=>exact UH _
 | cons a l ih =>
  have h1:=h a Um;have h2:=ih fun g hg=>h g (Up _ hg)
  rw [Zj,Ul,Ut];omega
theorem AF {br:List (Cs × Cs)} {st:aY} {l:List Fc}:(lw br st l).length=l.length:=by
 unfold lw;split
 ·rfl
 ·rw [Lm9]
theorem Dd (ks:List Kd) (bp bl:List Fc) (st:aY) (ts fs:List Fc) (br:List (Cs × Cs)) (M:Mv ks bp bl st ts fs br) (L:aa) :
  ∃r,je ks bp bl st ts fs br r/\l9 [.lst (ks.map kT),aW bp bl st,.lst (ts.map fT),.lst (fs.map fT),.lst (br.map pT)] L=.ok r L:=by
 have hk':=M.hk;have h3:=M.z3
 have h4:=M.z4;have h5:=M.z5
 have Uc:=M.To;have aB:∀f∈bp,f.as.length<=4:=fun f hf=>M.a4 f (Uv _ (Uv _ hf))
 have aL:∀f∈bl,f.as.length<=4:=fun f hf=>M.a4 f (Uv _ (UB _ hf))
 have aT:∀f∈ts,f.as.length<=4:=fun f hf=>M.a4 f (UB _ (Uv _ hf))
 have aF:∀f∈fs,f.as.length<=4:=fun f hf=>M.a4 f (UB _ (UB _ hf))
 have z1:=M.z1;have z2:=M.z2
 unfold l9 aW;simp_arith [gc ks ts (.lst (ks.map kT)) L rfl M.hn (by omega) M.ft,gc ks fs (.lst (ks.map kT)) L rfl M.hn (by omega) M.ff];rw [dC rfl ks kT (·.l) (fun k=>.str k.n) (by exact rfl) (by exact aq) (by unfold lim;omega) (by exact fun b _=>by simp_arith) (by exact fun b _ _=>by simp_arith)];have C1:((ks.filter (·.l)).map fun k=>T.str k.n)=((ks.filter (·.l)).map (·.n)).map T.str:=by simp
 have hd:jx [.tup (st.map pT)] L=.ok (.ref L.length) (bT st::L):=qm (g:=fun p:Cs × Cs=>p.1) (h:=fun p=>.str p.2) st M.nd (by omega) L;simp_arith [C1,jd _ ts M.tl,hd];rw [ju (fs:=ts) (st:=st) (x:=.ref L.length) (.inr ⟨_,rfl,dR⟩) (fun f hf=>UO (aT f hf) (by decide)) (by omega) rfl (by exact rfl) (by exact aq) (by exact fun _=>rfl) (by exact fun _=>rfl)];obtain⟨left,OP,ho⟩:=Lh bp (ts.map (wr st)) (by omega) (by rw [Lm9];omega) M.cnt (bT st::L);have Ud:left.length<=bp.length:=Bk.iS left bp fun f=>by rw [OP];exact Nat.sub_le _ _
 have hle:∀f∈left,f.as.length<=4:=fun f hf=>aB f (Bk.vL OP hf)
 simp_arith [ho];generalize ho:forL _ _ _ _ _ _=o;have h:=bA ho fs fT (fun q φ L'=>∃done o7,done++q=fs/\φ=[some (.lst (ks.map kT)),some (.tup [.tup (bp.map fT),.tup (bl.map fT),.tup (st.map pT),.bl false]),some (.lst (ts.map fT)),some (.lst (fs.map fT)),some (.lst (br.map pT)),some (.lst (((ks.filter (·.l)).map (·.n)).map T.str)),some (.ref L.length),o7,some (.lst (left.map fT)),none,none,none,none]/\L'=bT (fG st (done.flatMap (·.as)))::L)
  (fun o=>∃o7,o=.nx [some (.lst (ks.map kT)),some (.tup [.tup (bp.map fT),.tup (bl.map fT),.tup (st.map pT),.bl false]),some (.lst (ts.map fT)),some (.lst (fs.map fT)),some (.lst (br.map pT)),some (.lst (((ks.filter (·.l)).map (·.n)).map T.str)),some (.ref L.length),o7,some (.lst (left.map fT)),none,none,none,none] (bT (fG st (fs.flatMap (·.as)))::L)) rfl ⟨[],none,rfl,rfl,rfl⟩ (fun _ _ eJ eP f q φ L' hh=>by
   obtain⟨done,o7,e1,rfl,rfl⟩:=hh;refine⟨sv,_,rfl,?_⟩;have Ec:f∈fs:=e1 ▸ UB _ Um
   have hle:=j4 (done.flatMap (·.as)) st;have h1:=Ek (l:=done) fun g hg=>aF g (e1 ▸ Uv _ hg)
   have h2:done.length<=fs.length:=by rw [<- e1,Ul];exact W2 _ _
   have h3:=aF f Ec;simp_arith [eJ,eP,Av (L:=L) (fG st (done.flatMap (·.as))) f.as (.tup (f.as.map .str)) rfl (fun _ z=>by cases z) (fun n hn=>(gd (M.nf f Ec n hn)).1) (by omega)];exact⟨done++[f],_,by rw [UN];exact e1,rfl,by simp [fG]⟩)
  fun φ L' hh=>by
   obtain⟨done,o7,e1,rfl,rfl⟩:=hh;rw [UQ] at e1;subst e1;exact⟨sv,_,rfl⟩
 obtain⟨o7,rfl⟩:=h;have hz:=Ek aF
 have LP:=j4 (fs.flatMap (·.as)) st;have n0:=AB (fs.flatMap (·.as)) M.nd
 have m0:=AD (fs.flatMap (·.as)) M.sm fun n hn=>by obtain⟨f,hf,h⟩:=XG.mp hn;exact M.nf f hf n h
 unfold je;generalize fG st (fs.flatMap (·.as))=S0 at *
 simp_arith;generalize ho:forL _ _ _ _ _ _=o;have h:=bA ho br pT (fun q φ L'=>∃done eG o9,done++q=br/\aN eG q=aN S0 br/\(eG.map (·.1)).Nodup/\i8 eG/\eG.length<=26+2 * done.length/\φ=[some (.lst (ks.map kT)),some (.tup [.tup (bp.map fT),.tup (bl.map fT),.tup (st.map pT),.bl false]),some (.lst (ts.map fT)),some (.lst (fs.map fT)),some (.lst (br.map pT)),some (.lst (((ks.filter (·.l)).map (·.n)).map T.str)),some (.ref L.length),o7,some (.lst (left.map fT)),o9,none,none,none]/\L'=bT eG::L)
  (fun o=>(aN S0 br=none/\∃c,o=.rt bW (c::L))\/∃bH o9,aN S0 br=some bH/\(bH.map (·.1)).Nodup/\i8 bH/\bH.length<=40/\o=.nx [some (.lst (ks.map kT)),some (.tup [.tup (bp.map fT),.tup (bl.map fT),.tup (st.map pT),.bl false]),some (.lst (ts.map fT)),some (.lst (fs.map fT)),some (.lst (br.map pT)),some (.lst (((ks.filter (·.l)).map (·.n)).map T.str)),some (.ref L.length),o7,some (.lst (left.map fT)),o9,none,none,none] (bT bH::L)) rfl ⟨[],S0,none,rfl,rfl,n0,m0,by omega,rfl,rfl⟩ (fun _ _ eJ eP p q φ L' hh=>by
   obtain⟨done,eG,o9,e1,e2,n1,m1,l1,rfl,rfl⟩:=hh;obtain⟨pa,pb⟩:=p;refine⟨sv,_,rfl,?_⟩;have hp:=M.np (pa,pb) (e1 ▸ UB _ Um)
   have hd:done.length+1<=br.length:=by rw [<- e1,Ul,Ut];omega
   have n2:=AB [pa,pb] n1;have m2:=AD [pa,pb] m1 fun n hn=>all2 (P:=cy) hp.1 hp.2 hn
   have l2:=j4 [pa,pb] eG;simp only [Ut,UW] at l2;have k1:=Av (L:=L) eG [pa,pb] (pT (pa,pb)) rfl (fun _ z=>by cases z) (fun n hn=>all2 (P:=fun n=>1<=n.length) (gd hp.1).1 (gd hp.2).1 hn) (by simp only [Ut,UW];omega)
   have k2:=Hv (fG eG [pa,pb]) pa pb n2 (by omega) (gd (m2.ak hp.1)).1 (gd (m2.ak hp.2)).1 L;have e3:aN eG ((pa,pb)::q)=if cv (ak (fG eG [pa,pb]) pa) (ak (fG eG [pa,pb]) pb) then none else aN (cw (fG eG [pa,pb]) (ak (fG eG [pa,pb]) pa) (ak (fG eG [pa,pb]) pb)) q:=rfl
   rw [e3] at e2;by_cases ht:cv (ak (fG eG [pa,pb]) pa) (ak (fG eG [pa,pb]) pb)
   ·rw [if_pos ht] at k2 e2
    simp_arith [eJ,eP,k1,k2];exact .inl ⟨e2.symm,_,rfl⟩
   ·rw [if_neg ht] at k2 e2
    simp_arith [eJ,eP,k1,k2];exact⟨done++[(pa,pb)],_,_,by rw [UN];exact e1,e2,Dc n2,m2.tell (m2.ak hp.1) (m2.ak hp.2),by rw [nE,Ul,Vx];omega,rfl,rfl⟩)
  fun φ L' hh=>by
   obtain⟨done,eG,o9,e1,e2,n1,m1,l1,rfl,rfl⟩:=hh;rw [UQ] at e1;subst e1;exact⟨sv,.inr ⟨eG,o9,e2.symm,n1,m1,by omega,rfl⟩⟩
 rcases h with⟨hN,c,rfl⟩|⟨bH,o9,hS,n2,m2,l2,rfl⟩
 ·simp_arith
  exact⟨bW,.inl ⟨hN,rfl⟩,eB rfl⟩
 have ON:fo true [.tup (bl.map fT)] (bT bH::L)=.ok (.lst (bl.map fT)) (bT bH::L):=by
  show fF true (bl.map fT) _=_;rw [fF,aC (by simp;unfold lim;omega)];rfl
 have lN:kY (bT bH::L) (.ref L.length) bH:=.inr ⟨_,rfl,dR⟩;refine sL fun G n9=>?_
 obtain⟨sH,j8⟩:∃x,x=lw br bH left:=⟨_,rfl⟩;obtain⟨OQ,wu⟩:∃x,x=lw br bH bl:=⟨_,rfl⟩;have w1:sH.length=left.length:=j8 ▸ AF
 have w2:OQ.length=bl.length:=wu ▸ AF;have Ue:=fj (p:=fun f:Fc=>!decide (f.k∈(ks.filter (·.l)).map (·.n))) (l:=fs.map (wr bH)) (n:=fs.length) (by simp)
 have Ug:=fj (p:=fun f:Fc=>decide (f.k∈(ks.filter (·.l)).map (·.n))) (l:=fs.map (wr bH)) (n:=fs.length) (by simp);obtain⟨P,De,Lm⟩:=v7 (sH++il ks (fs.map (wr bH)));obtain⟨Q,OR,Ih,Tp,Qt⟩:=C8 (OQ++j5 ks (fs.map (wr bH))) (by rw [Ul];unfold j5;omega) (bT bH::L);obtain⟨S,hS1,hS2,Tq⟩:=C9 bH (by omega) L;have Qu:iw true [.lst ((sH++il ks (fs.map (wr bH))).map fT)] (bT bH::L)=.ok (.lst (P.map fT)) (bT bH::L):=by
  rw [qy (ys:=(sH++il ks (fs.map (wr bH))).map fT) rfl (w4 (by rw [Ul];unfold il;omega)),Lm]
 refine n9 ?_;clear n9;refine⟨aW P Q S,.inr ⟨bH,left,P,Q,S,hS,OP,j8 ▸ De,j8 ▸ Lm,OR,wu ▸ Ih,wu ▸ Tp,hS1,hS2,rfl⟩,?_⟩;have fin:fin L (aW P Q S) (bT bH::L)=.ok (aW P Q S) L:=eB (by unfold aW;rw [lt,cK,cK,cK,cK,cK,cg bh,cg bh,cg fy];rfl)
 simp_arith [ON];apply twice
 ·intro key
  by_cases Ii:br=[]
  ·have e1:lw br bH left=left:=if_pos Ii
   have e2:lw br bH bl=bl:=if_pos Ii;simp_arith [show decide ((0:Int)<(br.length:Int))=false by rw [Ii];rfl];rw [show T.lst (left.map fT)=.lst (sH.map fT) by rw [j8,e1],show T.lst (bl.map fT)=.lst (OQ.map fT) by rw [wu,e2]];exact key
  ·have e1:lw br bH left=left.map (wr bH):=if_neg Ii
   have e2:lw br bH bl=bl.map (wr bH):=if_neg Ii;have hpl:(0:Int)<(br.length:Int):=by
    have:=XJ.mpr Ii;omega
   simp_arith [hpl,decide_true];rw [ju (fs:=left) lN (fun f hf=>UO (hle f hf) (by decide)) (by omega) rfl (by exact rfl) (by exact sv) (by exact fun _=>rfl) (by exact fun _=>rfl)];simp_arith;rw [ju (fs:=bl) lN (fun f hf=>UO (aL f hf) (by decide)) (by omega) rfl (by exact rfl) (by exact sv) (by exact fun _=>rfl) (by exact fun _=>rfl)];simp_arith;rw [<- e1,<- e2,<- j8,<- wu];exact key
 rw [ju (fs:=fs) lN (fun f hf=>UO (aF f hf) (by decide)) (by omega) rfl (by exact rfl) (by exact sv) (by exact fun _=>rfl) (by exact fun _=>rfl)];simp_arith;rw [dC rfl (fs.map (wr bH)) fT (fun f=>!decide (f.k∈(ks.filter (·.l)).map (·.n))) fT (by exact rfl) (by exact sv) (by simp;unfold lim;omega) (by exact fun b _=>by simp_arith) (by exact fun b _ _=>by simp_arith)];simp_all_arith [<- UD];rw [dC rfl (fs.map (wr bH)) fT (fun f=>decide (f.k∈(ks.filter (·.l)).map (·.n))) fT (by exact rfl) (by exact sv) (by simp;unfold lim;omega) (by exact fun b _=>by simp_arith) (by exact fun b _ _=>by simp_arith)];simp_all_arith [<- UD];unfold il at Qu;unfold j5 at Qt;simp_arith [Qu,Qt,Tq];exact fin
end da
namespace da
open PySem M
open Bk (Fc Kd Lk Rl great opens KG cy ak gG wr aY i8 ai cZ f9 au cC di dB c7 ao)
theorem OS {α β:Type} {g:α->T} {h:β->T} (a:List α) (b:List β):zp (a.map g) (b.map h)=(a.zip b).map fun p=>.tup [g p.1,h p.2]:=by
 unfold zp;rw [List.zip_map,UT];rfl
theorem AG {α β:Type} {a:List α} {b:List β} (h:a.length<=b.length):(a.zip b).map (·.1)=a:=by
 induction a generalizing b with
 | nil=>rfl
 | cons x a ih =>
  cases b with
  | nil=>simp at h
  | cons y b=>rw [VI,Uy,ih (by simpa using h)]
theorem OT {α:Type} {h:α->T} {x y:T} {ns:List Cs} {vs:List α} {L:aa} (hx:vw L x=.lst (ns.map .str)) (hy:vw L y=.lst (vs.map h)\/vw L y=.tup (vs.map h)) (hn:ns.Nodup) (hl:ns.length<=vs.length) (h1:ns.length<=1000):ia [x,y] L=.ok (.ref L.length) (.aS ((ns.zip vs).map fun p=>(.str p.1,h p.2))::L):=by
 have e:ia [x,y] L=xC (zp (ns.map .str) (vs.map h)) L:=by
  unfold ia;rcases hy with hy|hy
  ·simp only [hx,hy]
   exact aC (by simpa using hl)
  ·simp only [hx,hy]
   exact aC (by simpa using hl)
 rw [e,OS];exact qm (g:=fun p:Cs × α=>p.1) (h:=fun p=>h p.2) (ns.zip vs) (by rw [AG hl];exact hn) (by rw [List.length_zip];omega) L
theorem uG {x y:T} {ns vs:List Cs} {L:aa} (hx:vw L x=.lst (ns.map .str)) (hy:vw L y=.lst (vs.map .str)\/vw L y=.tup (vs.map .str)) (hn:ns.Nodup) (hl:ns.length<=vs.length) (h1:ns.length<=1000):ia [x,y] L=.ok (.ref L.length) (bT (ns.zip vs)::L):=OT hx hy hn hl h1
noncomputable def stepT (i:Nat) (vs:List Cs):T:=.tup [.int (i:Nat),.tup (vs.map .str)]
theorem AH {rs:List Rl} {i:Nat} {r:Rl} (h:rs[i]?=some r) (L:aa):ix (.lst (rs.map aR)) (.int (i:Nat)) L=.ok (aR r) L:=dP (by rw [UM,h];rfl)
theorem qz (ks:List Kd) (rs:List Rl) (i:Nat) (vs:List Cs) (r:Rl) (hr:rs[i]?=some r) (hv:vs.length=(opens (r.take++r.keep)).length) (L:aa):eU [lK ks rs,stepT i vs] L=.ok .cm L:=by
 have hi:=(UI.mp hr).1;unfold eU stepT;simp_arith [show ¬ ((i:Nat):Int)<0 by omega,decide_false,show ¬ (rs.length:Int)<=(i:Nat) by omega,AH hr,show((vs.length:Int) != ((opens (r.take++r.keep)).length:Int))=false by simp [hv]]
theorem AI {f:Str->Option Fn} {a:SE} {ms:List SE} {φ:Fr} {L:aa} {k:Lk} (ha:a φ L=.ok (lT k) L) (h1:f "Same"=some cO) (h2:f "Unlike"=some bL):oY "holds" f a ms φ L=(iM ms φ L).bind fun ts L2=>(if k.same=true then cO else bL) (lT k::ts) L2:=by
 unfold oY;rw [ha,aM];cases hs:k.same with
 | true =>
  have e:vw L (lT k)=.obj "Same" [("left",.str k.l),("right",.str k.r)]:=by unfold lT;rw [hs];rfl
  rw [e];simp only [h1];rfl
 | false =>
  have e:vw L (lT k)=.obj "Unlike" [("left",.str k.l),("right",.str k.r)]:=by unfold lT;rw [hs];rfl
  rw [e];simp only [h2];rfl
theorem Dg (k:Lk) (a b:Cs) (ha:1<=a.length) (hb:1<=b.length) (L:aa):(if k.same=true then cO else bL) [lT k,.str a,.str b] L=.ok (.bl (f9 k.same a b)) L:=by
 cases hs:k.same with
 | true =>
  rw [if_pos rfl];unfold cO f9;simp_arith;rw [show(a == b)=decide (a=b) by by_cases h:a=b <;> simp [h]]
 | false =>
  rw [if_neg (by simp)];unfold bL f9;simp_arith [fc a ha,fc b hb,if_false];cases great a <;> cases great b <;> simp_arith;rw [show(a == b)=decide (a=b) by by_cases h:a=b <;> simp [h]]
theorem HD {α:Type} {p:α->Bool} (l:List α) (L:aa):qM [.lst (l.map fun x=>.bl (p x))] L=.ok (.bl (l.all p)) L:=by
 have:=mapM_map (f:=HT) (g:=fun x=>T.bl (p x)) (h:=p) (fun _=>rfl) l;simp [qM,Es,vw,this,lift,ZS,VR]
theorem AJ {α:Type} {p:α->Bool} (l:List α) (L:aa):wj [.lst (l.map fun x=>.bl (p x))] L=.ok (.bl (l.any p)) L:=by
 have:=mapM_map (f:=HT) (g:=fun x=>T.bl (p x)) (h:=p) (fun _=>rfl) l;simp [wj,Es,vw,this,lift,List.any_map,VR]
theorem qA {L:aa} {x:T} {st:aY} (h:kY L x st) (r:Rl) (sm:i8 st) (hn:∀k∈r.ar,cy k.l/\cy k.r) (hl:r.ar.length<=1000):eV [aR r,x] L=.ok (.bl (r.ar.all (cZ st))) L:=by
 unfold eV;simp_arith;generalize hc:comp _ _ _ _ _ _ _ _=r';obtain rfl:=bj hc r.ar lT (fun k=>.bl (cZ st k)) rfl sv (by unfold lim;omega) (fun k hk=>by
  obtain⟨h1,h2⟩:=hn k hk;rw [AI (k:=k) rfl rfl rfl];simp only [mX,mW];rw [n8 (n:=k.l) h rfl (by simp_arith),aM,n8 (n:=k.r) h rfl (by simp_arith),aM,aM,aM,aM];exact Dg k _ _ (gd (sm.ak h1)).1 (gd (sm.ak h2)).1 L)
 simp_arith [HD]
theorem El (ys:List Fc) (f:Fc):(ys.map fT).countP (fun y=>eqT y (fT f))=ys.countP fun a=>decide (a=f):=by
 rw [ZX];exact List.countP_congr fun a _=>by simp [se]
theorem Lq (ys:List Fc) (f:Fc) (L:aa):uN (.tup (ys.map fT)) [fT f] L=.ok (.int (ys.countP fun a=>decide (a=f):Nat)) L:=by
 show cx _ _=_;rw [aC ⟨jb f,fO jb ys⟩,El]
theorem Lr (ys:List Fc) (f:Fc) (L:aa):uM (.lst (ys.map fT)) [fT f] L=.ok (.int (ys.countP fun a=>decide (a=f):Nat)) L:=by
 show cx _ _=_;rw [aC ⟨jb f,fO jb ys⟩,El]
theorem og {L:aa} {x:T} {st:aY} (h:kY L x st) (ks:List Kd) (hk:ks.length<=1000) (r:Rl) (ha:∀f∈r.take++r.keep,f.as.length<=4) (hl:r.take.length+r.keep.length<=1000) (bp bl:List Fc) (s3:T) :
  dU [.lst (ks.map kT),aR r,x,.tup [.tup (bp.map fT),.tup (bl.map fT),s3,.bl false]] L=.ok (.bl (di ks st r bp bl)) L:=by
 unfold dU;simp_arith;rw [dC rfl ks kT (·.l) (fun k=>.str k.n) (by exact rfl) (by exact aq) (by unfold lim;omega) (by exact fun b _=>by simp_arith) (by exact fun b _ _=>by simp_arith)];have C1:((ks.filter (·.l)).map fun k=>T.str k.n)=(ai ks).map T.str:=by simp [ai]
 simp_arith [C1];rw [ju (fs:=r.take++r.keep) h (fun f hf=>by have:=ha f hf;omega) (by simp;omega) rfl (k:=stays (.lst ((r.take++r.keep).map fT)) L) (by simp_all_arith [<- UD]) (by exact sv) (by exact fun _=>rfl) (by exact fun _=>rfl)];rw [show(r.take++r.keep).map (wr st)=au st r from rfl];simp_arith;unfold di;generalize au st r=hs;generalize ho:forL _ _ _ _ _ _=o;have h:=bA ho hs fT (fun q φ L'=>∃o6,q.all (cC ks bp bl hs)=hs.all (cC ks bp bl hs)/\φ=[some (.lst (ks.map kT)),some (aR r),some x,some (.tup [.tup (bp.map fT),.tup (bl.map fT),s3,.bl false]),some (.lst ((ai ks).map .str)),some (.lst (hs.map fT)),o6]/\L'=L)
  (fun o=>(hs.all (cC ks bp bl hs)=false/\o=.rt (.bl false) L)\/(hs.all (cC ks bp bl hs)=true/\∃φ,o=.nx φ L)) rfl ⟨none,rfl,rfl,rfl⟩ (fun _ _ eJ eP f q φ L' hh=>by
   obtain⟨o6,e1,rfl,rfl⟩:=hh;refine⟨sv,_,rfl,?_⟩;rw [Vf] at e1;simp_arith [eJ,eP];by_cases hm:f.k∈ai ks
   ·have hb:cC ks bp bl hs f=decide (f∈bl):=by unfold cC;rw [if_pos hm]
    rw [hb] at e1;simp_arith [eJ,eP,hm,decide_true];by_cases hi:f∈bl
    ·simp_arith [eJ,eP,hi,decide_true]
     rw [decide_eq_true hi,Xp] at e1;exact⟨_,e1,rfl,by trivial⟩
    ·simp_arith [eJ,eP,hi,decide_false]
     rw [decide_eq_false hi,W3] at e1;exact .inl ⟨e1.symm,by trivial⟩
   ·have hb:cC ks bp bl hs f=decide (hs.countP (fun a=>decide (a=f))<=bp.countP fun a=>decide (a=f)):=by unfold cC;rw [if_neg hm]
    rw [hb] at e1;simp_arith [eJ,eP,hm,decide_false,Lq,Lr];by_cases hi:hs.countP (fun a=>decide (a=f))<=bp.countP fun a=>decide (a=f)
    ·rw [decide_eq_true hi,Xp] at e1
     rw [decide_eq_false (show ¬ (((bp.countP fun a=>decide (a=f):Nat)):Int)<((hs.countP fun a=>decide (a=f):Nat):Int) by omega)];simp_arith [eJ,eP];exact⟨_,e1,rfl,by trivial⟩
    ·rw [decide_eq_false hi,W3] at e1
     rw [decide_eq_true (show(((bp.countP fun a=>decide (a=f):Nat)):Int)<((hs.countP fun a=>decide (a=f):Nat):Int) by omega)];simp_arith [eJ,eP];exact .inl ⟨e1.symm,by trivial⟩)
  fun φ L' hh=>by
   obtain⟨o6,e1,rfl,rfl⟩:=hh;exact⟨sv,.inr ⟨e1.symm,_,rfl⟩⟩
 rcases h with⟨e,rfl⟩|⟨e,φ,rfl⟩
 ·rw [e];simp_arith
 ·rw [e];simp_arith
theorem xd {L:aa} {x:T} {st:aY} (h:kY L x st) (r:Rl) (ha:∀f∈r.put,f.as.length<=4) (hl:r.put.length<=1000) (j8:r.tell.length<=1000) (bl:List Fc):iT [aR r,x,.tup (bl.map fT)] L=.ok (.bl (dB st r bl)) L:=by
 unfold iT dB;simp_arith;generalize hc:comp _ _ _ _ _ _ _ _=r';obtain rfl:=bj hc r.put fT (fun f=>.bl (!decide (wr st f∈bl))) rfl sv (by unfold lim;omega) (fun f hf=>by
  simp_arith [oX h f (by have:=ha f hf;omega)])
 simp_arith [AJ];cases h1:r.put.any fun f=>!decide (wr st f∈bl) with
 | true=>simp_arith;simp
 | false =>
  simp_arith;rw [bj rfl r.tell pT (fun p=>pT (ak st p.1,ak st p.2)) (by exact rfl) (by exact sv) (by unfold lim;omega) (by exact fun p hp=>by simp_arith [vY h p])];simp_arith;generalize hc:comp _ _ _ _ _ _ _ _=r';obtain rfl:=bj (xs:=r.tell) (enc:=fun p=>pT (ak st p.1,ak st p.2)) (f:=fun p=>.bl (!decide (ak st p.1=ak st p.2))) hc rfl sv (by unfold lim;omega) (fun p hp=>by
   simp_arith;rw [show(ak st p.1 == ak st p.2)=decide (ak st p.1=ak st p.2) by by_cases h:ak st p.1=ak st p.2 <;> simp [h]])
  simp_arith [AJ];simp
theorem AK (ks:List Kd) (hk:ks.length<=1000) (rs:List Rl) (i:Nat) (vs:List Cs) (r:Rl) (hr:rs[i]?=some r) (hv:vs.length=(opens (r.take++r.keep)).length) (Ij:vs.length<=100) (bp bl:List Fc) (xt:aY) (sm:i8 (ao r vs)) (hn:∀k∈r.ar,cy k.l/\cy k.r) (ha:∀f∈r.take++r.keep++r.put,f.as.length<=4) (pC:r.take.length<=4/\r.keep.length<=4/\r.ar.length<=4/\r.put.length<=4/\r.tell.length<=4) (L:aa) :
  fB [lK ks rs,aW bp bl xt,stepT i vs] L=.ok (.bl (c7 ks (ao r vs) r bp bl false)) L:=by
 have hx:=fun L=>uG (x:=.lst ((opens (r.take++r.keep)).map .str)) (y:=.tup (vs.map .str)) (L:=L) rfl (.inr rfl) (Bk.eg _) (by omega) (by omega)
 have lN:kY (bT (ao r vs)::L) (.ref L.length) (ao r vs):=.inr ⟨_,rfl,dR⟩;have hx:∀L,ia [.lst ((opens (r.take++r.keep)).map .str),.tup (vs.map .str)] L=.ok (.ref L.length) (bT (ao r vs)::L):=hx
 unfold fB;simp_arith [qz ks rs i vs r hr hv];unfold aW stepT;simp_arith [AH hr,hx,qA lN r sm hn (by omega),og lN ks hk r (fun f hf=>ha f (Uv _ hf)) (by omega)];unfold c7;cases h1:r.ar.all (cZ (ao r vs)) with
 | false=>simp_arith;exact eB rfl
 | true =>
  simp_arith;cases h2:di ks (ao r vs) r bp bl with
  | false=>simp_arith;exact eB rfl
  | true =>
   simp_arith;rw [sC (r:=r) (F:=bS) rfl rfl];simp_arith [vU];cases h3:decide (r.take=[]) with
   | false=>simp_arith;exact eB rfl
   | true =>
    simp_arith [xd lN r (fun f hf=>ha f (UB _ hf)) (by omega) (by omega)];exact eB rfl
open Bk (vM aj aN)
theorem AL (ks:List Kd) (rs:List Rl) (i:Nat) (vs:List Cs) (r:Rl) (hr:rs[i]?=some r) (hv:vs.length=(opens (r.take++r.keep)).length) (Ij:vs.length<=100) (bp bl:List Fc) (xt:aY) (M:Mv ks bp bl xt (r.take.map (wr (ao r vs))) (r.put.map (wr (ao r vs))) (r.tell.map (vM (ao r vs)))) (ha:∀f∈r.take++r.keep++r.put,f.as.length<=4) (pC:r.take.length<=4/\r.keep.length<=4/\r.ar.length<=4/\r.put.length<=4/\r.tell.length<=4) (L:aa) :
  ∃x,je ks bp bl xt (r.take.map (wr (ao r vs))) (r.put.map (wr (ao r vs))) (r.tell.map (vM (ao r vs))) x/\jW [lK ks rs,aW bp bl xt,stepT i vs] L=.ok x L:=by
 have hx:∀L,ia [.lst ((opens (r.take++r.keep)).map .str),.tup (vs.map .str)] L=.ok (.ref L.length) (bT (ao r vs)::L):=fun L=>uG rfl (.inr rfl) (Bk.eg _) (by omega) (by omega)
 have lN:kY (bT (ao r vs)::L) (.ref L.length) (ao r vs):=.inr ⟨_,rfl,dR⟩;obtain⟨x,hR,he⟩:=Dd ks bp bl xt _ _ _ M (bT (ao r vs)::L);refine⟨x,hR,?_⟩;have bN:lt L.length x=true:=by
  rcases hR with⟨_,rfl⟩|⟨bH,left,P,Q,S,_,_,_,_,_,_,_,_,_,rfl⟩
  ·rfl
  ·unfold aW;rw [lt,cK,cK,cK,cK,cK,cg bh,cg bh,cg fy];rfl
 unfold jW;unfold stepT;simp_arith [AH hr,hx];rw [ju lN (fun f hf=>by have:=ha f (Uv _ (Uv _ hf));omega) (by omega) rfl (by exact rfl) (by exact sv) (by exact fun _=>rfl) (by exact fun _=>rfl)];simp_arith;rw [ju lN (fun f hf=>by have:=ha f (UB _ hf);omega) (by omega) rfl (by exact rfl) (by exact sv) (by exact fun _=>rfl) (by exact fun _=>rfl)];simp_arith;rw [bj rfl r.tell pT (fun p=>pT (vM (ao r vs) p)) (by exact rfl) (by exact sv) (by unfold lim;omega) (by exact fun p hp=>by simp_arith [vY lN p];rfl)];rw [show(r.tell.map fun p=>pT (vM (ao r vs) p))=(r.tell.map (vM (ao r vs))).map pT by rw [UT];rfl];simp_arith [he];exact eB bN
theorem Dh (ks:List Kd) (hk:ks.length<=1000) (rs:List Rl) (i:Nat) (vs:List Cs) (r:Rl) (hr:rs[i]?=some r) (hv:vs.length=(opens (r.take++r.keep)).length) (Ij:vs.length<=100) (bp bl:List Fc) (xt:aY) (sm:i8 (ao r vs)) (hn:∀k∈r.ar,cy k.l/\cy k.r) (M:Mv ks bp bl xt (r.take.map (wr (ao r vs))) (r.put.map (wr (ao r vs))) (r.tell.map (vM (ao r vs)))) (ha:∀f∈r.take++r.keep++r.put,f.as.length<=4) (pC:r.take.length<=4/\r.keep.length<=4/\r.ar.length<=4/\r.put.length<=4/\r.tell.length<=4) (hF:c7 ks (ao r vs) r bp bl false=true) (L:aa) :
  ∃x,je ks bp bl xt (r.take.map (wr (ao r vs))) (r.put.map (wr (ao r vs))) (r.tell.map (vM (ao r vs))) x/\lt L.length x=true/\dW [lK ks rs,aW bp bl xt,stepT i vs] L=.ok x L:=by
 obtain⟨x,hR,he⟩:=AL ks rs i vs r hr hv Ij bp bl xt M ha pC L;have bN:lt L.length x=true:=by
  rcases hR with⟨_,rfl⟩|⟨bH,left,P,Q,S,_,_,_,_,_,_,_,_,_,rfl⟩
  ·rfl
  ·unfold aW;rw [lt,cK,cK,cK,cK,cK,cg bh,cg bh,cg fy];rfl
 refine⟨x,hR,bN,?_⟩;unfold dW;simp_arith [AK ks hk rs i vs r hr hv Ij bp bl xt sm hn ha pC,hF,he];exact fin_same bN
end da
namespace da
open PySem M
open Bk (Fc Kd Lk Rl great opens KG cy ak gG wr fG eI cw cu cv aY fw aN)
open Un (bK told mn)
theorem HE {a b:Cs} (h:fw a b=false) (h2:fw b a=false):a=b:=by
 rw [nC,decide_eq_false_iff_not] at h h2;by_cases e:a=b
 ·exact e
 ·exact((pM e).elim h h2).elim
theorem HF {a b c:Cs} (h:fw b a=false) (h2:fw c b=false):fw c a=false:=by
 rw [nC,decide_eq_false_iff_not] at h h2 ⊢;intro z;by_cases e:a=b
 ·exact h2 (e ▸ z)
 ·exact(pM e).elim (fun q=>h2 (aah z q)) h
noncomputable def qK (ρ:Cs->Cs):Prop:=(∀x,ρ (ρ x)=ρ x)/\∀x y,ρ x=ρ y->(great y=false->ρ x=y)/\(great (ρ x)=true->fw y (ρ x)=false)
theorem qK.wd {ρ:Cs->Cs} (s:qK ρ) {x:Cs} (h:great x=false):ρ x=x:=(s.2 x x rfl).1 h
theorem j6 (p q:Cs):bK great fw p q=p\/bK great fw p q=q:=by
 unfold bK;split
 ·exact .inl rfl
 ·split
  ·exact .inr rfl
  ·exact Un.DZ p q
theorem xe {p q:Cs} (h:great (bK great fw p q)=true):fw p (bK great fw p q)=false/\fw q (bK great fw p q)=false:=by
 unfold bK at h ⊢;split at h
 ·simp_all
 ·rw [if_neg (by assumption)]
  split at h
  ·simp_all
  ·rw [if_neg (by assumption)]
   unfold mn;have ir:∀a:Cs,fw a a=false:=fun a=>by rw [nC];simp [YU]
   split
   ·rename_i z
    refine⟨?_,ir q⟩;rw [nC,decide_eq_true_eq] at z;rw [nC,decide_eq_false_iff_not];exact fun y=>YU _ (aah z y)
   ·rename_i z
    exact⟨ir p,by simpa using z⟩
theorem j7 {ρ:Cs->Cs} (s:qK ρ) (a b:Cs) {x y:Cs}:told great fw ρ a b x=told great fw ρ a b y↔ρ x=ρ y\/((ρ x=ρ a\/ρ x=ρ b)/\(ρ y=ρ a\/ρ y=ρ b)):=by
 have hc:ρ (bK great fw (ρ a) (ρ b))=bK great fw (ρ a) (ρ b):=by rcases j6 (ρ a) (ρ b) with e|e <;> rw [e] <;> exact s.1 _
 have hm:∀z,ρ z=bK great fw (ρ a) (ρ b)->ρ z=ρ a\/ρ z=ρ b:=fun z e=>by rcases j6 (ρ a) (ρ b) with q|q <;> rw [q] at e <;> simp [e]
 unfold told;grind
theorem AM {ρ:Cs->Cs} (s:qK ρ) {a b:Cs} (h:¬ cv (ρ a) (ρ b)):qK (told great fw ρ a b):=by
 obtain⟨s1,s2⟩:=s;have hc:=j6 (ρ a) (ρ b)
 have hl:=xe (p:=ρ a) (q:=ρ b);have hw:∀y,(ρ y=ρ a\/ρ y=ρ b)->great y=false->bK great fw (ρ a) (ρ b)=y:=fun y hy g=>by
  have e:=(s2 y y rfl).1 g;unfold cv at h;unfold bK;grind
 refine⟨fun x=>?_,fun x y e=>?_⟩
 ·unfold told
  have:=s1 x;have:=s1 a
  have:=s1 b;grind
 ·rw [j7 ⟨s1,s2⟩] at e
  have k:(ρ x=ρ a\/ρ x=ρ b)->(ρ y=ρ a\/ρ y=ρ b)->(great y=false->bK great fw (ρ a) (ρ b)=y)/\(great (bK great fw (ρ a) (ρ b))=true->fw y (bK great fw (ρ a) (ρ b))=false):=fun _ hy=>⟨hw y hy,fun g=>by
   have hl:=hl g;have q:=(s2 y y rfl).2
   by_cases gy:great y=true
   ·by_cases gr:great (ρ y)=true
    ·exact HF (hy.elim (fun e=>e ▸ hl.1) fun e=>e ▸ hl.2) (q gr)
    ·have:bK great fw (ρ a) (ρ b)=ρ y:=hw (ρ y) (by rw [s1];exact hy) (by simpa using gr)
     rw [this] at g;exact absurd g gr
   ·rw [hw y hy (by simpa using gy)] at g
    exact absurd g gy⟩
  show(_->told great fw ρ a b x=y)/\(great (told great fw ρ a b x)=true->fw y (told great fw ρ a b x)=false);by_cases hx:ρ x=ρ a\/ρ x=ρ b
  ·have e1:told great fw ρ a b x=bK great fw (ρ a) (ρ b):=by unfold told;rw [if_pos hx]
   rw [e1];exact k hx (by grind)
  ·have e1:told great fw ρ a b x=ρ x:=by unfold told;rw [if_neg hx]
   rw [e1];exact s2 x y (by grind)
noncomputable def sR (ρ:Cs->Cs) (br:List (Cs × Cs)) (σ:Cs->Cs):Prop:=qK σ/\(∀x y,ρ x=ρ y->σ x=σ y)/\∀p∈br,σ p.1=σ p.2
noncomputable def HG (ρ:Cs->Cs) (br:List (Cs × Cs)) (τ:Cs->Cs):Prop:=sR ρ br τ/\∀σ,sR ρ br σ->∀x y,τ x=τ y->σ x=σ y
theorem HG.uniq {ρ ρ' τ τ':Cs->Cs} {p p':List (Cs × Cs)} (h:HG ρ p τ) (h':HG ρ' p' τ') (e:∀σ,sR ρ p σ↔sR ρ' p' σ):τ=τ':=funext fun x=>by
 have a:=(h.2 _ ((e _).mpr h'.1) x (τ x) (h.1.1.1 x).symm);have b:=(h'.2 _ ((e _).mp h.1) x (τ' x) (h'.1.1.1 x).symm)
 have q:=h.1.1.2 x (τ' x) b;have q':=h'.1.1.2 x (τ x) a
 cases g:great (τ' x) with
 | false=>exact q.1 g
 | true =>
  cases g2:great (τ x) with
  | false=>exact(q'.1 g2).symm
  | true=>exact HE (q'.2 g) (q.2 g2)
noncomputable def nF:(Cs->Cs)->List (Cs × Cs)->Option (Cs->Cs)
 | ρ,[]=>some ρ
 | ρ,(a,b)::r=>if cv (ρ a) (ρ b) then none else nF (told great fw ρ a b) r
theorem nG {ρ σ:Cs->Cs} (s:qK ρ) {a b:Cs} {r:List (Cs × Cs)}:sR ρ ((a,b)::r) σ↔sR (told great fw ρ a b) r σ:=by
 unfold sR;refine and_congr_right fun hs=>?_
 constructor
 ·rintro⟨h1,h2⟩
  have hab:=h2 (a,b) (by simp);refine⟨fun x y e=>?_,fun p hp=>h2 p (by simp [hp])⟩;rw [j7 s] at e;rcases e with e|⟨e1,e2⟩
  ·exact h1 x y e
  ·have u:σ x=σ a:=e1.elim (h1 x a) fun e=>(h1 x b e).trans hab.symm
   have w:σ y=σ a:=e2.elim (h1 y a) fun e=>(h1 y b e).trans hab.symm
   exact u.trans w.symm
 ·rintro⟨h1,h2⟩
  refine⟨fun x y e=>h1 x y ((j7 s a b).mpr (.inl e)),fun p hp=>?_⟩;rcases UG.mp hp with rfl|hp
  ·exact h1 _ _ ((j7 s _ _).mpr (.inr ⟨.inl rfl,.inr rfl⟩))
  ·exact h2 p hp
theorem Di {ρ σ:Cs->Cs} (s:qK ρ) {a b:Cs} {r:List (Cs × Cs)} (h:cv (ρ a) (ρ b)) (q:sR ρ ((a,b)::r) σ):False:=by
 obtain⟨hs,h1,h2⟩:=q;have e:=h2 (a,b) (by simp)
 have ea:=h1 (ρ a) a (s.1 a);have eb:=h1 (ρ b) b (s.1 b)
 rw [hs.wd h.2.1] at ea;rw [hs.wd h.2.2] at eb;exact h.1 (ea.trans (e.trans eb.symm))
theorem nH:∀(br:List (Cs × Cs)) {ρ:Cs->Cs},qK ρ->(nF ρ br=none->∀σ,¬ sR ρ br σ)/\∀τ,nF ρ br=some τ->HG ρ br τ
 | [],ρ,s=>⟨fun h=>(by cases h),fun τ h=>by
  cases h;exact⟨⟨s,fun _ _ e=>e,fun p hp=>by cases hp⟩,fun σ h=>h.2.1⟩⟩
 | (a,b)::r,ρ,s=>by
  unfold nF;by_cases h:cv (ρ a) (ρ b)
  ·rw [if_pos h]
   exact⟨fun _ σ q=>Di s h q,fun τ z=>by cases z⟩
  ·rw [if_neg h]
   obtain⟨i1,i2⟩:=nH r (AM s h);refine⟨fun z σ q=>i1 z σ ((nG s).mp q),fun τ z=>?_⟩;obtain⟨j1,j2⟩:=i2 τ z;exact⟨(nG s).mpr j1,fun σ q=>j2 σ ((nG s).mp q)⟩
structure Sk (K:List Cs) (st:aY):Prop where
 nd:(st.map (·.1)).Nodup
 ks:∀x,x∈st.map (·.1)↔x∈K
 gv:∀e∈st,great e.2=true->e.2∈K
 kg:∀x∈K,great x=true
theorem v8 {st:aY}:∀(ns:List Cs),(∀n∈ns,great n=true->n∈st.map (·.1))->fG st ns=st
 | [],_=>rfl
 | n::ns,h=>by
  have e:eI st n=st:=by
   unfold eI;split
   ·rw [if_pos (h n (by simp) (by assumption))]
   ·rfl
  show fG (eI st n) ns=st;rw [e];exact v8 ns fun m hm=>h m (by simp [hm])
theorem nJ (p q:Cs) (x:Cs):∀st:aY,gG (st.map (cu p q)) x=(gG st x).map fun v=>if v=p\/v=q then bK great fw p q else v
 | []=>rfl
 | e::st=>by
  have ih:=nJ p q x st;unfold gG at ih ⊢;rw [Uy,VN,VN];show Option.map _ (match decide (e.1=x) with|true=>some (cu p q e)|false=>_)=_
  cases decide (e.1=x) with
  | true=>rfl
  | false=>exact ih
theorem lA {st:aY} {x:Cs}:(∃v,gG st x=some v/\(x,v)∈st/\ak st x=v)\/(gG st x=none/\x∉st.map (·.1)/\ak st x=x):=by
 unfold ak;cases e:gG st x with
 | none =>
  unfold gG at e;refine .inr ⟨rfl,fun h=>?_,rfl⟩;obtain⟨y,hy,rfl⟩:=Ur.mp h;exact absurd (VY.mp (ZQ.mp e) y hy) (by simp)
 | some v =>
  unfold gG at e;obtain⟨y,h1,h2⟩:=UA.mp e;have h3:y.1=x:=by simpa using List.find?_some h1
  exact .inl ⟨v,rfl,by rw [<- h3,<- h2];exact WK h1,rfl⟩
theorem Sk.tell {K:List Cs} {st:aY} (s:Sk K st) {a b:Cs} (ha:great a=true->a∈K) (hb:great b=true->b∈K) (ht:¬ cv (ak st a) (ak st b)):Sk K (cw st (ak st a) (ak st b))/\ak (cw st (ak st a) (ak st b))=told great fw (ak st) a b:=by
 have gr:∀{a:Cs},(great a=true->a∈K)->great (ak st a)=true->ak st a∈K:=fun {a} ha g=>by
  rcases lA (st:=st) (x:=a) with⟨v,_,h2,h3⟩|⟨_,_,h3⟩
  ·rw [h3] at g ⊢;exact s.gv _ h2 g
  ·rw [h3] at g ⊢;exact ha g
 have ga:=gr ha;have gb:=gr hb
 have ck:=j6 (ak st a) (ak st b);refine⟨?_,funext fun x=>?_⟩
 ·unfold cw
  split
  ·exact s
  ·refine⟨by rw [Bk.gV];exact s.nd,fun x=>by rw [Bk.gV];exact s.ks x,fun e he g=>?_,s.kg⟩
   obtain⟨e',he',rfl⟩:=Ur.mp he;unfold cu at g ⊢;dsimp only at g ⊢;split at g
   ·rename_i z
    rw [if_pos z];rcases ck with e|e <;> rw [e] at g ⊢
    ·exact ga g
    ·exact gb g
   ·rename_i z
    rw [if_neg z];exact s.gv _ he' g
 ·unfold cw
  split
  ·rename_i e
   unfold told;rw [<- e];split
   ·rename_i z
    rw [show ak st x=ak st a by simpa using z];unfold bK mn;simp
   ·rfl
  ·rename_i hne
   rcases lA (st:=st) (x:=x) with⟨v,h1,h2,h3⟩|⟨h1,h2,h3⟩
   ·unfold told
    rw [h3]
    conv=>lhs;unfold ak
    rw [nJ,h1];rfl
   ·unfold told
    rw [h3]
    conv=>lhs;unfold ak
    rw [nJ,h1];show x=_
    have hx:great x=true->x∉K:=fun _ h=>h2 ((s.ks x).mpr h)
    unfold cv at ht;unfold bK;grind
theorem Sk.rep {K:List Cs} {st:aY} (s:Sk K st) {a:Cs} (ha:great a=true->a∈K) (g:great (ak st a)=true):ak st a∈K:=by
 rcases lA (st:=st) (x:=a) with⟨v,_,h2,h3⟩|⟨_,_,h3⟩
 ·rw [h3] at g ⊢;exact s.gv _ h2 g
 ·rw [h3] at g ⊢;exact ha g
theorem v9 {K:List Cs}:∀(br:List (Cs × Cs)) {st:aY},Sk K st->(∀p∈br,(great p.1=true->p.1∈K)/\(great p.2=true->p.2∈K))->(aN st br=none->nF (ak st) br=none)/\∀eG,aN st br=some eG->nF (ak st) br=some (ak eG)/\Sk K eG
 | [],st,s,_=>⟨fun h=>(by cases h),fun eG h=>by cases h;exact⟨rfl,s⟩⟩
 | (a,b)::r,st,s,h=>by
  obtain⟨ha,hb⟩:=h (a,b) (by simp);have e:fG st [a,b]=st:=v8 _ fun n hn g=>(s.ks n).mpr (all2 (P:=fun n=>great n=true->_) ha hb hn g)
  unfold aN nF;rw [e];by_cases ht:cv (ak st a) (ak st b)
  ·rw [if_pos ht,if_pos ht]
   exact⟨fun _=>rfl,fun _ z=>by cases z⟩
  ·rw [if_neg ht,if_neg ht]
   obtain⟨s',e'⟩:=s.tell ha hb ht;rw [<- e'];exact v9 r s' fun p hp=>h p (by simp [hp])
end da
namespace da
open PySem M
open Bk (Fc Kd Lk Rl great opens KG cy ak gG wr fG eI cw cu cv aY fw aN i8 aj ai lw vM)
noncomputable def wf (τ:Cs->Cs) (f:Fc):Fc:=⟨f.k,f.as.map τ⟩
theorem nK {τ ρ:Cs->Cs} (h:∀x,τ (ρ x)=τ x) (f:Fc):wf τ (wf ρ f)=wf τ f:=by
 unfold wf;simp [h,VR]
theorem AO {τ ρ:Cs->Cs} (h:∀x,τ (ρ x)=τ x) (l:List Fc):(l.map (wf ρ)).map (wf τ)=l.map (wf τ):=by
 rw [UT];exact U5 fun f _=>nK h f
theorem AQ (ks:List Kd) (τ:Cs->Cs) (l:List Fc):il ks (l.map (wf τ))=(il ks l).map (wf τ):=by unfold il;rw [List.filter_map];rfl
theorem AR (ks:List Kd) (τ:Cs->Cs) (l:List Fc):j5 ks (l.map (wf τ))=(j5 ks l).map (wf τ):=by unfold j5;rw [List.filter_map];rfl
theorem jq {a b c:Cs}:∀{st:aY},(st.map (·.1)).Nodup->(a,b)∈st->(a,c)∈st->b=c
 | y::st,nd,h,h2=>by
  rw [Uy,Vd] at nd;rcases UG.mp h with z|z <;> rcases UG.mp h2 with z2|z2
  ·rw [<- z] at z2;cases z2;rfl
  ·exact absurd (Ur.mpr ⟨_,z2,by rw [<- z]⟩) nd.1
  ·exact absurd (Ur.mpr ⟨_,z,by rw [<- z2]⟩) nd.1
  ·exact jq nd.2 z z2
theorem sJ {st eG:aY} (nd:(st.map (·.1)).Nodup) (h:eG.Perm st):ak eG=ak st:=funext fun n=>by
 rcases lA (st:=eG) (x:=n) with⟨v,_,h2,h3⟩|⟨_,h2,h3⟩ <;> rcases lA (st:=st) (x:=n) with⟨u,_,q2,q3⟩|⟨_,q2,q3⟩
 ·rw [h3,q3,jq nd (h.mem_iff.mp h2) q2]
 ·exact absurd (Ur.mpr ⟨_,h.mem_iff.mp h2,rfl⟩) q2
 ·exact absurd (Ur.mpr ⟨_,h.mem_iff.mpr q2,rfl⟩) h2
 ·rw [h3,q3]
theorem Sk.perm {K:List Cs} {st eG:aY} (s:Sk K st) (h:eG.Perm st):Sk K eG :=
 ⟨((h.map (·.1)).nodup_iff).mpr s.nd,fun x=>((h.map (·.1)).mem_iff).trans (s.ks x),fun e he=>s.gv e (h.mem_iff.mp he),s.kg⟩
theorem Sk.all {K:List Cs} {st:aY} (s:Sk K st) (hK:K.Nodup):st.Perm (K.map fun n=>(n,ak st n)):=by
 have e:st=(st.map (·.1)).map fun n=>(n,ak st n):=by
  rw [UT]
  conv=>lhs;rw [<- X8 st]
  refine U5 fun q hq=>?_
  rcases lA (st:=st) (x:=q.1) with⟨v,_,h2,h3⟩|⟨_,h2,_⟩
  ·show q=(q.1,ak st q.1)
   rw [h3,<- jq s.nd (show(q.1,q.2)∈st from hq) h2]
  ·exact absurd (UE hq) h2
 conv=>lhs;rw [e]
 exact((Wz s.nd hK).mpr s.ks).map _
structure Pl (K:List Cs) (τ:Cs->Cs) (m7 lJ:List Fc) (P Q:List Fc) (S:aY):Prop where
 sk:Sk K S
 ro:ak S=τ
 sd:qK τ
 p:P.Perm (m7.map (wf τ))
 rp:ik (P.map fT)
 qn:Q.Nodup
 q:∀f,f∈Q↔f∈lJ.map (wf τ)
 rq:ik (Q.map fT)
 rs:ik (S.map pT)
theorem Pl.one {K:List Cs} (hK:K.Nodup) {τ:Cs->Cs} {m7 lJ AS AU P Q P' Q':List Fc} {S S':aY} (h:Pl K τ m7 lJ P Q S) (h':Pl K τ AS AU P' Q' S') (hb:m7.Perm AS) (hl:∀f,f∈lJ↔f∈AU):aW P Q S=aW P' Q' S':=by
 have kf:∀l:List Fc,(l.map fT).all (kd 8)=true:=fun l=>Uo.mpr fun y hy=>by obtain⟨f,_,rfl⟩:=Ur.mp hy;exact AA f
 have e1:P.map fT=P'.map fT:=jK (kf _) (((h.p.trans (hb.map _)).trans h'.p.symm).map _) h.rp h'.rp;have e2:Q.map fT=Q'.map fT:=jK (kf _) (((Wz h.qn h'.qn).mpr fun f=>by
  rw [h.q,h'.q,Ur,Ur];simp only [hl]).map _) h.rq h'.rq
 have e3:S.map pT=S'.map pT:=jK (Uo.mpr fun y hy=>by obtain⟨p,_,rfl⟩:=Ur.mp hy;exact kd_p p) (((h.sk.all hK).trans (by rw [h.ro,<- h'.ro];exact(h'.sk.all hK).symm)).map _) h.rs h'.rs;unfold aW;rw [e1,e2,e3]
noncomputable def Kn (K:List Cs) (a:Cs):Prop:=great a=true->a∈K
theorem uH {K:List Cs}:∀(br:List (Cs × Cs)) {st bH:aY},Sk K st->(∀p∈br,Kn K p.1/\Kn K p.2)->aN st br=some bH->bH.length=st.length/\(i8 st->(∀p∈br,cy p.1/\cy p.2)->i8 bH)
 | [],st,bH,_,_,e=>by cases e;exact⟨rfl,fun m _=>m⟩
 | (a,b)::r,st,bH,s,hp,e=>by
  obtain⟨ka,kb⟩:=hp (a,b) (by simp);have e0:fG st [a,b]=st:=v8 _ fun n hn g=>(s.ks n).mpr (all2 (P:=fun n=>great n=true->_) ka kb hn g)
  unfold aN at e;rw [e0] at e;split at e
  ·cases e
  ·rename_i ht
   obtain⟨i1,i2⟩:=uH r (s.tell ka kb ht).1 (fun q hq=>hp q (by simp [hq])) e;refine⟨by rw [i1,nE],fun m np=>i2 ?_ fun q hq=>np q (by simp [hq])⟩;obtain⟨na,nb⟩:=np (a,b) (by simp);exact m.tell (m.ak na) (m.ak nb)
theorem AV {K:List Cs} {ks:List Kd} {bp bl ts fs rest:List Fc} {st:aY} {br:List (Cs × Cs)} {x:T} (s:Sk K st) (sd:qK (ak st)) (hx:je ks bp bl st ts fs br x) (hf:∀f∈fs,∀a∈f.as,Kn K a) (hp:∀p∈br,Kn K p.1/\Kn K p.2)
  (hb:∀f∈bp++bl,wr st f=f) (hr:bp.Perm (ts.map (wr st)++rest)) :
  ((∀σ,¬ sR (ak st) br σ)/\x=bW)\/∃τ P Q S,HG (ak st) br τ/\x=aW P Q S/\Pl K τ (rest++il ks fs) (bl++j5 ks fs) P Q S/\(i8 st->(∀p∈br,cy p.1/\cy p.2)->i8 S)/\S.length=st.length:=by
 have ek:fG st (fs.flatMap (·.as))=st:=v8 _ fun n hn g=>by
  obtain⟨f,h1,h2⟩:=XG.mp hn;exact(s.ks n).mpr (hf f h1 n h2 g)
 obtain⟨t1,t2⟩:=v9 br s hp;obtain⟨f1,f2⟩:=nH br sd;unfold je at hx;rw [ek] at hx;rcases hx with⟨h1,h2⟩|⟨bH,left,P,Q,S,h1,h2,h3,h4,h5,h6,h7,h8,h9,rfl⟩
 ·exact .inl ⟨f1 (t1 h1),h2⟩
 ·obtain⟨e2,s2⟩:=t2 bH h1
  have ls:=f2 _ e2;have hw:∀l:List Fc,(∀f∈l,wr st f=f)->lw br bH l=l.map (wf (ak bH)):=fun l hl=>by
   unfold lw;split
   ·rename_i q
    subst q;cases h1;exact(Bk.um hl).symm
   ·rfl
  have lp:left.Perm rest:=Yz.mpr fun f=>by
   rw [h2,hr.count_eq,VT];omega
  have ll:∀f∈left,wr st f=f:=fun f hf=>hb f (Uv _ (Bk.vL h2 hf))
  have sp:=(sJ s2.nd h8);have nb:=Ej (lw br bH bl++j5 ks (fs.map (wr bH)))
  obtain⟨gs,_,_,_,hg⟩:=nb;refine .inr ⟨ak bH,P,Q,S,ls,rfl,⟨s2.perm h8,sp,ls.1.1,?_,?_,h5,fun f=>?_,?_,?_⟩,fun m np=>?_,?_⟩
  ·rw [hw left ll,show fs.map (wr bH)=fs.map (wf (ak bH)) from rfl,AQ,<- UD] at h3
   exact h3.trans ((lp.append_right _).map _)
  ·rw [<- h4]
   exact(gF fun y hy=>by obtain⟨f,_,rfl⟩:=Ur.mp hy;exact AA f).2
  ·rw [h6,hw bl fun f hf=>hb f (UB _ hf),show fs.map (wr bH)=fs.map (wf (ak bH)) from rfl,AR,<- UD]
  ·rw [<- h7,hg]
   exact(gF fun y hy=>by obtain⟨f,_,rfl⟩:=Ur.mp hy;exact AA f).2
  ·rw [<- h9]
   exact(gF fun y hy=>by obtain⟨p,_,rfl⟩:=Ur.mp hy;exact kd_p p).2
  ·exact fun e he=>(uH br s hp h1).2 m np e (h8.mem_iff.mp he)
  ·rw [h8.length_eq]
   exact(uH br s hp h1).1
noncomputable def xf (K:List Cs) (m7 lJ:List Fc) (br:List (Cs × Cs)) (x:T):Prop:=((∀σ,¬ sR id br σ)/\x=bW)\/∃τ P Q S,HG id br τ/\x=aW P Q S/\Pl K τ m7 lJ P Q S
theorem xf.one {K:List Cs} (hK:K.Nodup) {m7 lJ AS AU:List Fc} {br HH:List (Cs × Cs)} {x x':T} (h:xf K m7 lJ br x) (h':xf K AS AU HH x') (hb:m7.Perm AS) (hl:∀f,f∈lJ↔f∈AU) (hp:∀p,p∈br↔p∈HH):x=x':=by
 have e:∀σ,sR id br σ↔sR id HH σ:=fun σ=>by
  unfold sR;refine and_congr_right fun _=>and_congr_right fun _=>?_
  simp only [hp]
 rcases h with⟨h1,rfl⟩|⟨τ,P,Q,S,h1,rfl,h2⟩ <;> rcases h' with⟨q1,rfl⟩|⟨τ',P',Q',S',q1,rfl,q2⟩
 ·rfl
 ·exact absurd ((e _).mpr q1.1) (h1 _)
 ·exact absurd ((e _).mp h1.1) (q1 _)
 ·obtain rfl:=h1.uniq q1 e
  exact h2.one hK q2 hb hl
theorem qB {ρ σ:Cs->Cs} {p1 p2:List (Cs × Cs)} (l:HG id p1 ρ):sR ρ (p2.map fun p=>(ρ p.1,ρ p.2)) σ↔sR id (p1++p2) σ:=by
 obtain⟨⟨s,_,h1⟩,h2⟩:=l;constructor
 ·rintro⟨a,b,c⟩
  refine⟨a,fun x y e=>by rw [show x=y from e],fun p hp=>?_⟩;rcases Uz.mp hp with h|h
  ·exact b _ _ (h1 p h)
  ·have:=c _ (UE h)
   rw [b _ _ (s.1 p.1),b _ _ (s.1 p.2)] at this;exact this
 ·rintro⟨a,b,c⟩
  have k:=h2 σ ⟨a,b,fun p hp=>c p (Uv _ hp)⟩;refine⟨a,k,fun p hp=>?_⟩;obtain⟨q,hq,rfl⟩:=Ur.mp hp;show σ (ρ q.1)=σ (ρ q.2)
  rw [k _ _ (s.1 q.1),k _ _ (s.1 q.2)];exact c q (UB _ hq)
theorem HI:qK id:=⟨fun _=>rfl,fun x y e=>by
 have e:x=y:=e;subst e;exact⟨fun _=>rfl,fun _=>by rw [nC];simp [YU]⟩⟩
end da
namespace da
open PySem M
open Bk (Fc Kd Lk Rl great opens KG cy ak gG wr aY i8 ai ao i0 l6)
theorem AW (r:Rl) (ds:List Nat) (uI:List Cs) (hn:∀f∈r.take++r.keep,∀a∈f.as,cy a) (hf:((r.take++r.keep).flatMap (·.as)).length<=32) (hl:r.take.length+r.keep.length<=100) (ho:(opens (r.take++r.keep)).length<=ds.length) (hd:ds.length<=100) (hr:∀d∈ds,d<uI.length) :
  ∃vs:List Cs,vs.length=(opens (r.take++r.keep)).length/\(∀v∈vs,v∈uI)/\∀L,bJ [xT r,.lst (ds.map fun d=>.int (d:Nat)),.lst (uI.map .str)] L=.ok (bT (ao r vs)) L:=by
 refine⟨(ds.take (opens (r.take++r.keep)).length).map fun d=>uI.getD d [],by simp;omega,fun v hv=>?_,fun L=>?_⟩
 ·obtain⟨d,hm,rfl⟩:=Ur.mp hv
  have:=hr d (VW hm);rw [Gd9,Ge9 this];exact UJ _
 ·have en:=fun L=>qt (r.take++r.keep) hn hf L
  unfold bJ;simp_all_arith [<- UD,en];generalize hc:comp _ _ _ _ _ _ _ _=r';obtain rfl:=bj hc (ds.take (opens (r.take++r.keep)).length) (fun d:Nat=>T.int (d:Nat)) (fun d=>.str (uI.getD d [])) (k:=stays (.lst ((ds.take (opens (r.take++r.keep)).length).map fun d=>.int (d:Nat))) L) (by
   simp_arith;rw [nA (by simp;unfold lim;omega),aM,<- Wq]) aq (by simp;unfold lim;omega) (fun d hd=>by
    have:=hr d (VW hd);simp_arith;exact dP (by rw [UM,Gd9,Ge9 this];rfl))
  have hx:=uG (x:=.lst ((opens (r.take++r.keep)).map .str)) (y:=.lst ((ds.take (opens (r.take++r.keep)).length).map fun d=>.str (uI.getD d []))) (vs:=(ds.take (opens (r.take++r.keep)).length).map fun d=>uI.getD d []) (L:=L) rfl (.inl (by rw [UT];rfl)) (Bk.eg _) (by simp;omega) (by omega);simp_arith [hx];exact fA (qg _ _)
theorem wa:∀(ns vs:List Cs),ns.Nodup->vs.length=ns.length->ns.map (ak (ns.zip vs))=vs
 | [],[],_,_=>rfl
 | [],_::_,_,h=>by simp at h
 | _::_,[],_,h=>by simp at h
 | n::ns,v::vs,hn,hl=>by
  rw [Vd] at hn;have ih:=wa ns vs hn.2 (by simpa using hl)
  rw [Uy,VI];have e1:ak ((n,v)::ns.zip vs) n=v:=by unfold ak gG;rw [VN,decide_eq_true rfl];rfl
  have e2:ns.map (ak ((n,v)::ns.zip vs))=ns.map (ak (ns.zip vs)):=U5 fun m hm=>by
   unfold ak gG;rw [VN,decide_eq_false (fun e=>hn.1 (by have e:n=m:=e;rw [e];exact hm))]
  rw [e1,e2,ih]
theorem HJ (rs:List Rl) (i:Nat) (r:Rl) (hi:rs[i]?=some r) (vs:List Cs) (hv:vs.length=(opens (r.take++r.keep)).length) (hn:∀f∈r.take++r.keep,∀a∈f.as,cy a) (hf:((r.take++r.keep).flatMap (·.as)).length<=32) (hl:r.take.length+r.keep.length<=100) (h3:vs.length<=100) (L:aa) :
  cF [.lst (rs.map xT),.int (i:Nat),bT (ao r vs)] L=.ok (stepT i vs) L:=by
 have en:=fun L=>qt (r.take++r.keep) hn hf L
 have hx:∀L,ix (.lst (rs.map xT)) (.int (i:Nat)) L=.ok (xT r) L:=fun L=>dP (by rw [UM,hi];rfl)
 unfold cF;simp_arith [hx];generalize hc:comp _ _ _ _ _ _ _ _=r';obtain rfl:=bj hc (opens (r.take++r.keep)) T.str (fun n=>.str (ak (ao r vs) n)) (k:=stays (.lst ((opens (r.take++r.keep)).map .str)) L) (by simp_all_arith [<- UD,en]) aq (by unfold lim;omega) (fun n hm=>by
  simp_arith;have Ls:=Bk.kL hv
  have ha:∃w,gG (ao r vs) n=some w:=by
   rw [<- Ls] at hm;obtain⟨e,he,rfl⟩:=Ur.mp hm;unfold gG;cases q:(ao r vs).find? fun p=>decide (p.1=e.1) with
   | none=>exact absurd (VY.mp q e he) (by simp)
   | some y=>exact⟨_,rfl⟩
  obtain⟨w,hw⟩:=ha;unfold ix bT vw;simp only [];rw [aC (nB _ _),j0,hw];unfold ak;rw [hw];rfl)
 simp_arith;rw [show((opens (r.take++r.keep)).map fun n=>T.str (ak (ao r vs) n))=((opens (r.take++r.keep)).map (ak (ao r vs))).map .str by rw [UT];rfl,show(opens (r.take++r.keep)).map (ak (ao r vs))=vs from wa _ _ (Bk.eg _) hv];exact fin_same (by simp [lt,cK,jS])
theorem HK (r:Rl) (st:aY) (ha:∀f∈r.take++r.keep,f.as.length<=1000) (hl:r.take.length+r.keep.length<=100) (L:aa):ba [xT r,bT st] L=.ok (.lst (((r.take++r.keep).map (wr st)).map fT)) L:=by
 unfold ba;simp_arith;rw [bj rfl (r.take++r.keep) fT (fun f=>fT (wr st f)) (k:=stays (.lst ((r.take++r.keep).map fT)) L) (by simp_all_arith [<- UD]) (by exact aq) (by simp;unfold lim;omega) (by exact fun f hf=>by simp_arith;exact Ht (.inl rfl) f (ha f hf))];rw [show((r.take++r.keep).map fun f=>fT (wr st f))=((r.take++r.keep).map (wr st)).map fT by rw [UT];rfl];simp_arith;exact fin_same (av bh)
theorem HL (n0 n1 n2 n3:Cs) (L:aa):eD [.lst [.str n0,.str n1,.str n2,.str n3]] L=.ok (.lst ([(n1,n1),(n2,n2),(n3,n3)].map pT)) L:=by
 unfold eD;simp_arith;rw [bj rfl [n1,n2,n3] T.str (fun n=>pT (n,n)) (by exact rfl) (by exact sv) (by unfold lim;simp) (by exact fun n _=>by simp_arith;rfl)];simp_arith;exact fin_same (by simp [lt,cK,pT])
theorem HM (ks:List Kd) (hk:ks.length<=1000) (fs:List Fc) (hf:fs.length<64) (st:aY) (hs:st.length<64) (L:aa):∃P Q S,P.Perm (fs.filter fun f=>!decide (f.k∈ai ks))/\Q.Nodup/\(∀f,f∈Q↔f∈fs/\f.k∈ai ks)/\S.Perm st/\jL ((fs.filter fun f=>!decide (f.k∈ai ks)).map fT)=P.map fT/\jL (st.map pT)=S.map pT /\
  dn [.lst (ks.map kT),.ref L.length,.lst (st.map pT)] (.lst (fs.map fT)::L)=.ok (aW P Q S) (.lst (fs.map fT)::L):=by
 have C1:((ks.filter (·.l)).map fun k=>T.str k.n)=(ai ks).map T.str:=by simp [ai]
 refine sL fun G n9=>?_
 obtain⟨P,De,Lm⟩:=v7 (fs.filter fun f=>!decide (f.k∈ai ks));obtain⟨S,hS1,hS2⟩:=Ei st;have main:∃kp:List Fc,kp.Nodup/\(∀f,f∈kp↔f∈fs/\f.k∈ai ks)/\∀Q,jL (kp.map fT)=Q.map fT->dn [.lst (ks.map kT),.ref L.length,.lst (st.map pT)] (.lst (fs.map fT)::L)=.ok (aW P Q S) (.lst (fs.map fT)::L):=by
  unfold dn;simp_arith;rw [dC rfl ks kT (·.l) (fun k=>.str k.n) (by exact rfl) (by exact sv) (by unfold lim;omega) (by exact fun b _=>by simp_arith) (by exact fun b _ _=>by simp_arith)];simp_arith [C1];generalize ho:forL _ _ _ _ _ _=o;have h:=bA ho fs fT (fun q φ L'=>∃(done kp:List Fc) (o5:Option T),done++q=fs/\kp.Nodup/\kp.length<=done.length/\(∀f,f∈kp↔f∈done/\f.k∈ai ks)/\φ=[some (.lst (ks.map kT)),some (.ref L.length),some (.lst (st.map pT)),some (.lst ((ai ks).map .str)),some (.ref (L.length+1)),o5,none]/\L'=.lst (kp.map fT) :: .lst (fs.map fT)::L)
   (fun o=>∃(kp:List Fc) (o5:Option T),kp.Nodup/\kp.length<=fs.length/\(∀f,f∈kp↔f∈fs/\f.k∈ai ks)/\o=.nx [some (.lst (ks.map kT)),some (.ref L.length),some (.lst (st.map pT)),some (.lst ((ai ks).map .str)),some (.ref (L.length+1)),o5,none] (.lst (kp.map fT) :: .lst (fs.map fT)::L)) rfl
   ⟨[],[],none,rfl,W5,UH _,(by simp),rfl,rfl⟩ (fun _ _ eJ eP f q φ L' hh=>by
    obtain⟨done,kp,o5,e1,h1,h2,h3,rfl,rfl⟩:=hh;refine⟨fun n e=>by cases e;rw [m9];exact m9.symm,_,rfl,?_⟩;have hd:done.length<=fs.length:=by rw [<- e1];simp
    simp_arith [eJ,eP];have Em:(f.k∉ai ks\/f∈kp)->(∀g,g∈kp↔g∈done++[f]/\g.k∈ai ks):=fun hz g=>by
     rw [h3,Uz,UR];refine⟨fun z=>⟨.inl z.1,z.2⟩,fun z=>⟨z.1.elim id fun e=>?_,z.2⟩⟩;subst e;rcases hz with hz|hz
     ·exact absurd z.2 hz
     ·exact((h3 g).mp hz).1
    by_cases hm:f.k∈ai ks
    ·simp_arith [eJ,eP,hm,decide_true,KN (x:=f) (t:=.ref (L.length+1)) (ys:=kp) (L:=.lst (kp.map fT) :: .lst (fs.map fT)::L) (by simp_arith [eJ,eP])]
     by_cases hi:f∈kp
     ·simp_arith [eJ,eP,hi,decide_true]
      exact⟨done++[f],kp,_,by simpa using e1,h1,by simp;omega,Em (.inr hi),rfl,rfl⟩
     ·simp_arith [eJ,eP,hi,decide_false,aC (show kp.length<lim by unfold lim;omega),bw]
      refine⟨done++[f],kp++[f],_,by simpa using e1,?_,by simp;omega,fun g=>?_,rfl,rfl⟩
      ·rw [VS]
       exact⟨h1,by simp,fun a ha b hb e=>hi (by simp at hb;rw [<- hb,<- e];exact ha)⟩
      ·rw [Uz,UR,Uz,UR,h3]
       refine⟨fun z=>z.elim (fun z=>⟨.inl z.1,z.2⟩) fun e=>⟨.inr e,by rw [e];exact hm⟩,fun z=>z.1.elim (fun y=>.inl ⟨y,z.2⟩) .inr⟩
    ·simp_arith [eJ,eP,hm,decide_false]
     exact⟨done++[f],kp,_,by simpa using e1,h1,by simp;omega,Em (.inl hm),rfl,rfl⟩)
   fun φ L' hh=>by
    obtain⟨done,kp,o5,e1,h1,h2,h3,rfl,rfl⟩:=hh;rw [UQ] at e1;subst e1;exact⟨fun n e=>by cases e;rw [m9];exact m9.symm,kp,o5,h1,h2,h3,rfl⟩
  obtain⟨kp,o5,k1,k2,k3,rfl⟩:=h;refine⟨kp,k1,k3,fun Q hQ=>?_⟩;simp_arith;rw [dC rfl fs fT (fun f=>!decide (f.k∈ai ks)) fT (k:=stays (.ref L.length) (.lst (kp.map fT) :: .lst (fs.map fT)::L)) (by simp_arith) (by exact aq) (by unfold lim;omega) (by exact fun b _=>by simp_arith) (by exact fun b _ _=>by simp_arith)];have s1:=qy (x:=.lst ((fs.filter fun f=>!decide (f.k∈ai ks)).map fT)) (L:=.lst (kp.map fT) :: .lst (fs.map fT)::L) rfl (w4 (by have:=fj (p:=fun f:Fc=>!decide (f.k∈ai ks)) (l:=fs) (n:=63) (by omega);omega))
  have s2:=qy (x:=.ref (L.length+1)) (ys:=kp.map fT) (L:=.lst (kp.map fT) :: .lst (fs.map fT)::L) (by simp_arith) (w4 (by omega));have s3:=qy (x:=.lst (st.map pT)) (L:=.lst (kp.map fT) :: .lst (fs.map fT)::L) rfl (Ll hs)
  rw [Lm] at s1;rw [hQ] at s2;rw [hS2] at s3;simp_arith [s1,s2,s3];exact eB (L:=.lst (fs.map fT)::L) (by rw [lt,cK,cK,cK,cK,cK,cg bh,cg bh,cg fy];rfl)
 obtain⟨kp,k1,k2,k3⟩:=main;obtain⟨Q,q1,q2⟩:=v7 kp;refine n9 ?_;clear n9;exact⟨P,Q,S,De,q1.nodup_iff.mpr k1,fun f=>(q1.mem_iff).trans (k2 f),hS1,Lm,hS2,k3 Q q2⟩
theorem Lu (st:aY) (n:Cs) (L:aa):dS [.str n,bT st] L=.ok (.str (ak st n)) L:=by
 unfold dS;simp only [lq,Ut,UW,XY,if_true,kC,Uy,Vy,Wi,Vq,Zw,U3,zP];rw [n8 (n:=n) (.inl rfl) rfl rfl];simp_arith
open Bk (cZ f9 c7 di cC au dB)
theorem AX (st:aY) (sm:i8 st) (k:Lk) (h1:cy k.l) (h2:cy k.r) (L:aa):eT [n6 k,bT st] L=.ok (.bl (cZ st k)) L:=by
 unfold eT cZ f9;have a1:=sm.ak h1
 have a2:=sm.ak h2;simp_arith [Lu];cases hs:k.same with
 | true =>
  simp_arith [show(Bk.fM true == S "same")=true by decide +kernel];rw [show(ak st k.l == ak st k.r)=decide (ak st k.l=ak st k.r) by by_cases h:ak st k.l=ak st k.r <;> simp [h]]
 | false =>
  simp_arith [show(Bk.fM false == S "same")=false by decide +kernel,oP (gd a1).1,oP (gd a2).1,show S "N"=[78] from rfl];rw [a1.2,a2.2,show(ak st k.l == ak st k.r)=decide (ak st k.l=ak st k.r) by by_cases h:ak st k.l=ak st k.r <;> simp [h]];have e:∀x:Nat,(x == 78)=decide (x=78):=fun x=>by by_cases h:x=78 <;> simp [h]
  rw [e,e];cases decide ((ak st k.l).headD 0=78) <;> cases decide ((ak st k.r).headD 0=78) <;> exact fin_same rfl
theorem Dj {α β:Type} (p:α->Bool) (q:β->Bool) (a:List α) (b:List β):decide ((0:Int)<((a.filter p).length:Int)+((b.filter q).length:Int))=(a.any p || b.any q):=by
 have k:∀{γ:Type} (p:γ->Bool) (a:List γ),a.any p=decide (0<(a.filter p).length):=fun p a=>by
  induction a with
  | nil=>rfl
  | cons x a ih=>rw [List.any_cons,ih,List.filter_cons];cases p x <;> simp
 rw [k,k,<- Bool.decide_or];congr 1;simp only [eq_iff_iff];omega
theorem Dk (ks:List Kd) (hk:ks.length<=1000) (r:Rl) (st:aY) (sm:i8 st) (hn:∀k∈r.ar,cy k.l/\cy k.r) (ha:∀f∈r.take++r.keep++r.put,f.as.length<=4) (pC:r.take.length<=4/\r.keep.length<=4/\r.ar.length<=4/\r.put.length<=4/\r.tell.length<=4) (bp bl:List Fc) (s0:aY) (L:aa) :
  cD [.lst (ks.map kT),aW bp bl s0,xT r,bT st] L=.ok (.bl (c7 ks st r bp bl false)) L:=by
 have C1:((ks.filter (·.l)).map fun k=>T.str k.n)=(ai ks).map T.str:=by simp [ai]
 unfold cD aW;simp_arith;rw [dC rfl ks kT (·.l) (fun k=>.str k.n) (by exact rfl) (by exact sv) (by unfold lim;omega) (by exact fun b _=>by simp_arith) (by exact fun b _ _=>by simp_arith)];simp_arith [C1];rw [bj rfl (r.take++r.keep) fT (fun f=>fT (wr st f)) (k:=stays (.lst ((r.take++r.keep).map fT)) L) (by simp_all_arith [<- UD]) (by exact aq) (by simp;unfold lim;omega) (by exact fun f hf=>by simp_arith;exact Ht (.inl rfl) f (by have:=ha f (Uv _ hf);omega))];rw [show((r.take++r.keep).map fun f=>fT (wr st f))=(au st r).map fT by unfold au;rw [UT];rfl];simp_arith;unfold c7 di;generalize Uh:au st r=hs;generalize ho:forL _ _ _ _ _ _=o;have h:=bA ho hs fT (fun q φ L'=>∃o5,q.all (cC ks bp bl hs)=hs.all (cC ks bp bl hs)/\φ=[some (.lst (ks.map kT)),some (.tup [.tup (bp.map fT),.tup (bl.map fT),.tup (s0.map pT),.bl false]),some (xT r),some (bT st),some (.lst ((ai ks).map .str)),o5,some (.lst (hs.map fT)),none,none]/\L'=L)
  (fun o=>(hs.all (cC ks bp bl hs)=false/\o=.rt (.bl false) L)\/(hs.all (cC ks bp bl hs)=true/\∃o5,o=.nx [some (.lst (ks.map kT)),some (.tup [.tup (bp.map fT),.tup (bl.map fT),.tup (s0.map pT),.bl false]),some (xT r),some (bT st),some (.lst ((ai ks).map .str)),o5,some (.lst (hs.map fT)),none,none] L)) rfl ⟨none,rfl,rfl,rfl⟩ (fun _ _ eJ eP f q φ L' hh=>by
   obtain⟨o5,e1,rfl,rfl⟩:=hh;refine⟨sv,_,rfl,?_⟩;rw [Vf] at e1;simp_arith [eJ,eP];by_cases hm:f.k∈ai ks
   ·have hb:cC ks bp bl hs f=decide (f∈bl):=by unfold cC;rw [if_pos hm]
    rw [hb] at e1;by_cases hi:f∈bl
    ·simp_arith [eJ,eP,hm,hi,decide_true]
     rw [decide_eq_true hi,Xp] at e1;exact⟨_,e1,rfl,by trivial⟩
    ·simp_arith [eJ,eP,hm,hi,decide_false,decide_true]
     rw [decide_eq_false hi,W3] at e1;exact .inl ⟨e1.symm,by trivial⟩
   ·have hb:cC ks bp bl hs f=decide (hs.countP (fun a=>decide (a=f))<=bp.countP fun a=>decide (a=f)):=by unfold cC;rw [if_neg hm]
    rw [hb] at e1;simp_arith [eJ,eP,hm,decide_false,Lq,Lr];by_cases hi:hs.countP (fun a=>decide (a=f))<=bp.countP fun a=>decide (a=f)
    ·rw [decide_eq_true hi,Xp] at e1
     rw [decide_eq_false (show ¬ (((bp.countP fun a=>decide (a=f):Nat)):Int)<((hs.countP fun a=>decide (a=f):Nat):Int) by omega)];simp_arith [eJ,eP];exact⟨_,e1,rfl,by trivial⟩
    ·rw [decide_eq_false hi,W3] at e1
     rw [decide_eq_true (show(((bp.countP fun a=>decide (a=f):Nat)):Int)<((hs.countP fun a=>decide (a=f):Nat):Int) by omega)];simp_arith [eJ,eP];exact .inl ⟨e1.symm,by trivial⟩)
  fun φ L' hh=>by
   obtain⟨o5,e1,rfl,rfl⟩:=hh;exact⟨sv,.inr ⟨e1.symm,_,rfl⟩⟩
 rcases h with⟨e,rfl⟩|⟨e,o5,rfl⟩
 ·rw [e]
  simp_arith
 ·rw [e]
  simp_arith;generalize ho:forL _ _ _ _ _ _=o;have h:=bA ho r.ar n6 (fun q φ L'=>(∀k∈q,k∈r.ar)/\q.all (cZ st)=r.ar.all (cZ st)/\(∃o7,φ=[some (.lst (ks.map kT)),some (.tup [.tup (bp.map fT),.tup (bl.map fT),.tup (s0.map pT),.bl false]),some (xT r),some (bT st),some (.lst ((ai ks).map .str)),o5,some (.lst (hs.map fT)),o7,none])/\L'=L)
   (fun o=>(r.ar.all (cZ st)=false/\o=.rt (.bl false) L)\/(r.ar.all (cZ st)=true/\∃o7,o=.nx [some (.lst (ks.map kT)),some (.tup [.tup (bp.map fT),.tup (bl.map fT),.tup (s0.map pT),.bl false]),some (xT r),some (bT st),some (.lst ((ai ks).map .str)),o5,some (.lst (hs.map fT)),o7,none] L)) rfl ⟨fun _ h=>h,rfl,⟨none,rfl⟩,rfl⟩ (fun _ _ eJ eP k q φ L' hh=>by
    obtain⟨hq,e1,⟨o7,rfl⟩,rfl⟩:=hh;refine⟨sv,_,rfl,?_⟩;rw [Vf] at e1;obtain⟨q1,q2⟩:=hn k (hq k (by simp));simp_arith [eJ,eP,AX st sm k q1 q2];cases hb:cZ st k with
    | true =>
     rw [hb,Xp] at e1;simp_arith [eJ,eP];exact⟨fun j hj=>hq j (by simp [hj]),e1,⟨_,rfl⟩,by trivial⟩
    | false =>
     rw [hb,W3] at e1;simp_arith [eJ,eP];exact .inl ⟨e1.symm,by trivial⟩)
   fun φ L' hh=>by
    obtain⟨_,e1,⟨o7,rfl⟩,rfl⟩:=hh;exact⟨sv,.inr ⟨e1.symm,_,rfl⟩⟩
  rcases h with⟨e2,rfl⟩|⟨e2,o7,rfl⟩
  ·rw [e2]
   simp_arith
  ·rw [e2]
   simp_arith;by_cases ht:r.take=[]
   ·simp_arith [show decide ((0:Int)<(r.take.length:Int))=false by rw [ht];rfl,decide_eq_true ht]
    generalize hc:comp _ _ _ _ _ _ _ _=r';obtain rfl:=dC hc r.put fT (fun f=>!decide (wr st f∈bl)) fT rfl sv (by unfold lim;omega) (fun f hf=>by
     simp_arith [Ht (x:=bT st) (.inl rfl) f (by have:=ha f (UB _ hf);omega)]) fun f _ _=>by simp_arith
    simp_arith;generalize hc:comp _ _ _ _ _ _ _ _=r';obtain rfl:=dC hc r.tell pT (fun p=>!decide (ak st p.1=ak st p.2)) pT rfl sv (by unfold lim;omega) (fun p hp=>by
     simp_arith [Lu];rw [show(ak st p.1 == ak st p.2)=decide (ak st p.1=ak st p.2) by by_cases h:ak st p.1=ak st p.2 <;> simp [h]]) fun p _ _=>by simp_arith
    have q:∀(p:Fc->Bool) (q:Cs × Cs->Bool),((r.put.filter p).map fT++(r.tell.filter q).map pT).length<=lim:=fun p q=>by
     simp only [Ul,Lm9];exact UO (Nat.add_le_add (WI _ _) (WI _ _)) (by unfold lim;omega)
    simp_arith [aC (q _ _)];simp only [Ul,Lm9,Int.natCast_add,Dj,Bool.false_or];rfl
   ·simp_arith [show decide ((0:Int)<(r.take.length:Int))=true by rw [decide_eq_true_eq];have:=XJ.mpr ht;omega,decide_eq_false ht]
    rw [Bool.true_or]
end da
namespace da
open PySem M
open Bk (Fc Kd Lk Rl great opens KG cy ak gG wr fG eI cw cu cv aY fw aN i8 aj ai lw vM ao cZ f9 c7 di cC au dB)
theorem Dl (bk rl sp:T) (L:aa):bF [bk,rl,bW,sp] L=.ok bW L:=by
 unfold bF bW;simp_arith;exact fin_same rfl
theorem AY (bk rl x:T) (P Q:List Fc) (S:aY) (r:Rl) (i:Nat) (vs:List Cs) (b:Bool) (hS:(S.map (·.1)).Nodup) (hl:S.length<=100) (hv:vs.length<=100) (hx:∀L,ix rl (.int (i:Nat)) L=.ok (xT r) L)
  (hf:∀L,fB [bk,aW P Q S,stepT i (vs.map (ak S))] L=.ok (.bl b) L) (L:aa) (ha:b=true->dW [bk,aW P Q S,stepT i (vs.map (ak S))] (bT S::L)=.ok x (bT S::L)) (bN:lt L.length x=true) :
  bF [bk,rl,aW P Q S,stepT i vs] L=.ok (if b=true then x else if r.take=[] then aW P Q S else .cm) L:=by
 have hd:jx [.tup (S.map pT)] L=.ok (.ref L.length) (bT S::L):=qm (g:=fun p:Cs × Cs=>p.1) (h:=fun p=>.str p.2) S hS (by omega) L;have lN:kY (bT S::L) (.ref L.length) S:=.inr ⟨_,rfl,dR⟩
 have hp:lt L.length (aW P Q S)=true:=by unfold aW;rw [lt,cK,cK,cK,cK,cK,cg bh,cg bh,cg fy];rfl
 unfold bF;unfold aW stepT at *
 simp_arith [hd];generalize hc:comp _ _ _ _ _ _ _ _=r';obtain rfl:=bj hc vs T.str (fun n=>.str (ak S n)) rfl sv (by unfold lim;omega) (fun n _=>by
  rw [n8 (n:=n) lN rfl (by simp_arith)])
 rw [show(vs.map fun n=>T.str (ak S n))=(vs.map (ak S)).map .str by rw [UT];rfl];simp_arith [hf];cases b with
 | true =>
  simp_arith [ha rfl];exact eB bN
 | false =>
  simp_arith [hx];by_cases ht:r.take=[]
  ·simp_arith [show decide ((0:Int)<(r.take.length:Int))=false by rw [ht];rfl]
   rw [if_pos ht];exact eB hp
  ·simp_arith [show decide ((0:Int)<(r.take.length:Int))=true by rw [decide_eq_true_eq];have:=XJ.mpr ht;omega]
   rw [if_neg ht];exact eB rfl
theorem AZ {ns vs:List Cs} {g:Cs->Cs} (hl:vs.length=ns.length) {a:Cs} (h:a∉ns->g a=a):ak (ns.zip (vs.map g)) a=g (ak (ns.zip vs) a):=by
 induction ns generalizing vs with
 | nil=>simpa [ak,gG] using (h (by simp)).symm
 | cons n ns ih =>
  cases vs with
  | nil=>simp at hl
  | cons v vs =>
   unfold ak gG at ih ⊢;rw [Uy,VI,VI,VN,VN];by_cases e:n=a
   ·rw [decide_eq_true (show(n,g v).1=a from e)];rfl
   ·rw [decide_eq_false (show ¬ (n,g v).1=a from e)]
    exact ih (by simpa using hl) fun z=>h (by simp [z,VU e])
structure Rv (ks:List Kd) (K:List Cs) (r:Rl) (vs:List Cs):Prop where
 hv:vs.length=(opens (r.take++r.keep)).length
 A0:vs.length<=100
 kv:∀v∈vs,Kn K v/\cy v
 nh:∀f∈r.take++r.keep,∀a∈f.as,cy a/\(a∈opens (r.take++r.keep)\/great a=false)
 np:∀f∈r.put,∀a∈f.as,cy a/\(a∈opens (r.take++r.keep)\/great a=false)
 nl:∀k∈r.ar,(cy k.l/\(k.l∈opens (r.take++r.keep)\/great k.l=false))/\cy k.r/\(k.r∈opens (r.take++r.keep)\/great k.r=false)
 nt:∀p∈r.tell,(cy p.1/\(p.1∈opens (r.take++r.keep)\/great p.1=false))/\cy p.2/\(p.2∈opens (r.take++r.keep)\/great p.2=false)
 pC:r.take.length<=4/\r.keep.length<=4/\r.ar.length<=4/\r.put.length<=4/\r.tell.length<=4
 ff:∀f∈r.take++r.keep++r.put,aj ks f/\f.as.length<=4
 tl:∀f∈r.take,f.k∉ai ks
 cl:r.take=[]->∀f∈r.put,f.k∈ai ks
section
variable {ks:List Kd} {K:List Cs} {r:Rl} {vs:List Cs}
theorem Rv.ak (h:Rv ks K r vs) {a:Cs} (ha:cy a/\(a∈opens (r.take++r.keep)\/great a=false)):Kn K (Bk.ak (ao r vs) a)/\cy (Bk.ak (ao r vs) a):=by
 rcases lA (st:=ao r vs) (x:=a) with⟨v,_,h2,h3⟩|⟨_,h2,h3⟩
 ·rw [h3]
  exact h.kv v (Xf h2).2
 ·rw [h3]
  rw [Bk.kL h.hv] at h2;exact⟨fun g=>(by rw [ha.2.resolve_left h2] at g;cases g),ha.1⟩
theorem Rv.turn (h:Rv ks K r vs) {g:Cs->Cs} (sd:qK g) {a:Cs} (ha:cy a/\(a∈opens (r.take++r.keep)\/great a=false)):Bk.ak (ao r (vs.map g)) a=g (Bk.ak (ao r vs) a) :=
 AZ h.hv fun z=>sd.wd (ha.2.resolve_left z)
theorem Rv.wr (h:Rv ks K r vs) {g:Cs->Cs} (sd:qK g) {f:Fc} (hf:∀a∈f.as,cy a/\(a∈opens (r.take++r.keep)\/great a=false)):Bk.wr (ao r (vs.map g)) f=wf g (Bk.wr (ao r vs) f):=by
 unfold Bk.wr wf;simp only [UT];congr 1;exact U5 fun a ha=>h.turn sd (hf a ha)
theorem Rv.rv (h:Rv ks K r vs) {S:aY} (s:Sk K S) (sm:i8 S):Rv ks K r (vs.map (Bk.ak S)) :=
 ⟨by rw [Lm9];exact h.hv,by rw [Lm9];exact h.A0,fun v hv=>by
  obtain⟨u,hu,rfl⟩:=Ur.mp hv;exact⟨s.rep (h.kv u hu).1,sm.ak (h.kv u hu).2⟩,h.nh,h.np,h.nl,h.nt,h.pC,h.ff,h.tl,h.cl⟩
theorem Rv.sm (h:Rv ks K r vs):i8 (ao r vs):=fun e he=>by
 have e1:e.1∈opens (r.take++r.keep):=by rw [<- Bk.kL h.hv];exact UE he
 obtain⟨⟨g,hg,hx⟩,_⟩:=Bk.jQ e1;exact⟨(h.nh g hg _ hx).1,(h.kv _ (Bk.CT (UE he))).2⟩
theorem Dm {p:Fc->Bool} {g:Fc->Fc} {y:Fc} (l:List Fc) (h:∀x∈l,g x=y->p x=true):(l.map g).countP (fun a=>decide (a=y))=((l.filter p).map g).countP fun a=>decide (a=y):=by
 rw [ZX,ZX,List.countP_filter];refine List.countP_congr fun x hx=>?_
 simp only [Function.comp_apply,Uw,decide_eq_true_eq];exact⟨fun e=>⟨e,h x hx e⟩,fun e=>e.1⟩
theorem uJ (h:Rv ks K r vs) {g:Cs->Cs} (sd:qK g):au (ao r (vs.map g)) r=(au (ao r vs) r).map (wf g):=by
 unfold au;rw [UT];exact U5 fun f hf=>h.wr sd (h.nh f hf)
theorem xg (h:Rv ks K r vs) {τ:Cs->Cs} {m7 lJ P Q E:List Fc} {S:aY} (pl:Pl K τ m7 lJ P Q S) (hl:r.ar.all (cZ (ao r vs))=true) (hq:∀f∈au (ao r vs) r,f.k∈ai ks->f∈lJ) (hb:m7.Perm ((au (ao r vs) r).filter (fun f=>!decide (f.k∈ai ks))++E)) :
  r.ar.all (cZ (ao r (vs.map τ)))=true/\di ks (ao r (vs.map τ)) r P Q=true:=by
 constructor
 ·rw [Uo] at hl ⊢
  intro k hk;have z:=hl k hk
  obtain⟨n1,n2⟩:=h.nl k hk;unfold cZ f9 at z ⊢;rw [h.turn pl.sd n1,h.turn pl.sd n2];split
  ·rename_i e
   rw [if_pos e] at z;rw [of_decide_eq_true z];simp
  ·rename_i e
   rw [if_neg e] at z;simp only [Uw,Zi] at z;rw [pl.sd.wd z.1,pl.sd.wd z.2.1];simpa using z
 ·unfold di
  rw [uJ h pl.sd,Uo];intro y hy;obtain⟨f,hf,rfl⟩:=Ur.mp hy;unfold cC;split
  ·rename_i e
   exact decide_eq_true ((pl.q _).mpr (UE (hq f hf e)))
  ·rename_i e
   rw [decide_eq_true_eq,pl.p.countP_eq,(hb.map _).countP_eq,UD,List.countP_append,Dm (p:=fun f=>!decide (f.k∈ai ks)) (au (ao r vs) r) fun x _ q=>?_]
   ·exact W2 _ _
   ·have:x.k=f.k:=by
     have:=congrArg Fc.k q;exact this
    rw [this];simpa using (show ¬ f.k∈ai ks from e)
noncomputable def tk (r:Rl) (vs:List Cs):List Fc:=r.take.map (Bk.wr (ao r vs))
noncomputable def pu (r:Rl) (vs:List Cs):List Fc:=r.put.map (Bk.wr (ao r vs))
noncomputable def te (r:Rl) (vs:List Cs):List (Cs × Cs):=r.tell.map (vM (ao r vs))
end
section
variable {ks:List Kd} {K:List Cs} {r:Rl} {vs:List Cs}
theorem Rv.kt (h:Rv ks K r vs):∀p∈te r vs,(Kn K p.1/\Kn K p.2)/\cy p.1/\cy p.2:=fun p hp=>by
 obtain⟨q,hq,rfl⟩:=Ur.mp hp;obtain⟨a,b⟩:=h.nt q hq;exact⟨⟨(h.ak a).1,(h.ak b).1⟩,(h.ak a).2,(h.ak b).2⟩
theorem Rv.kp (h:Rv ks K r vs):∀f∈pu r vs,∀a∈f.as,Kn K a/\cy a:=fun f hf a ha=>by
 obtain⟨g,hg,rfl⟩:=Ur.mp hf;obtain⟨b,hb,rfl⟩:=Ur.mp ha;exact h.ak (h.np g hg b hb)
theorem qC {st:aY} {f:Fc} (h:aj ks f/\f.as.length<=4):aj ks (wr st f)/\(wr st f).as.length<=4:=by
 obtain⟨⟨k,h1,h2,h3⟩,h4⟩:=h;exact⟨⟨k,h1,h2,by simpa [wr] using h3⟩,by simpa [wr] using h4⟩
theorem wb (h:Rv ks K r vs) {g:Cs->Cs} (sd:qK g):te r (vs.map g)=(te r vs).map fun p=>(g p.1,g p.2):=by
 unfold te;rw [UT];refine U5 fun p hp=>?_
 obtain⟨a,b⟩:=h.nt p hp;show(_,_)=(_,_)
 rw [h.turn sd a,h.turn sd b];rfl
theorem wc (h:Rv ks K r vs) {g:Cs->Cs} (sd:qK g):tk r (vs.map g)=(tk r vs).map (wf g):=by
 unfold tk;rw [UT];exact U5 fun f hf=>h.wr sd (h.nh f (Uv _ hf))
theorem we (h:Rv ks K r vs) {g:Cs->Cs} (sd:qK g):pu r (vs.map g)=(pu r vs).map (wf g):=by
 unfold pu;rw [UT];exact U5 fun f hf=>h.wr sd (h.np f hf)
structure Rm (ks:List Kd) (P Q:List Fc) (S:aY) (n:Nat):Prop where
 nd:(ks.map (·.n)).Nodup
 kl:ks.length<=100
 sm:i8 S
 sl:S.length<=10
 pl:P.length<=n
 ql:Q.length<=n
 a4:∀f∈P++Q,f.as.length<=4
theorem Rv.mv (h:Rv ks K r vs) {P Q:List Fc} {S:aY} {n:Nat} (hn:n<=40) (m:Rm ks P Q S n) (nd:(S.map (·.1)).Nodup) (hc:∀f,((tk r vs).map (Bk.wr S)).count f<=P.count f):Mv ks P Q S (tk r vs) (pu r vs) (te r vs):=by
 obtain⟨f1,f2,f3,f4,f5⟩:=h.pC;have m1:=m.pl
 have m2:=m.ql;have l1:(tk r vs).length=r.take.length:=by simp [tk]
 have l2:(pu r vs).length=r.put.length:=by simp [pu]
 have l3:(te r vs).length=r.tell.length:=by simp [te]
 have ft:∀f∈tk r vs,aj ks f/\f.as.length<=4:=fun f hf=>by
  obtain⟨g,hg,rfl⟩:=Ur.mp hf;exact qC (h.ff g (Uv _ (Uv _ hg)))
 have fp:∀f∈pu r vs,aj ks f/\f.as.length<=4:=fun f hf=>by
  obtain⟨g,hg,rfl⟩:=Ur.mp hf;exact qC (h.ff g (UB _ hg))
 refine⟨m.nd,m.kl,fun f hf=>(ft f hf).1,fun f hf=>(fp f hf).1,fun f hf=>?_,nd,m.sm,m.sl,by omega,by omega,by omega,by omega,by omega,fun f hf=>?_,fun f hf a ha=>(h.kp f hf a ha).2,fun p hp=>(h.kt p hp).2,hc⟩
 ·obtain⟨g,hg,rfl⟩:=Ur.mp hf
  exact h.tl g hg
 ·rcases Uz.mp hf with h|h
  ·exact m.a4 f h
  ·rcases Uz.mp h with h|h
   ·exact(ft f h).2
   ·exact(fp f h).2
end
theorem HN {ks:List Kd} {bp bl ts fs:List Fc} {st:aY} {br:List (Cs × Cs)} {x:T} (n:Nat) (h:je ks bp bl st ts fs br x):lt n x=true:=by
 rcases h with⟨_,rfl⟩|⟨bH,left,P,Q,S,_,_,_,_,_,_,_,_,_,rfl⟩
 ·rfl
 ·unfold aW;rw [lt,cK,cK,cK,cK,cK,cg bh,cg bh,cg fy];rfl
theorem half {ks:List Kd} {K:List Cs} {r1 r2:Rl} {v1 v2:List Cs} {P Q E C:List Fc} {S:aY} {i:Nat} {bk rl x1:T} (V1:Rv ks K r1 v1) (V2:Rv ks K r2 v2) (s:Sk K S) (ro:ak S=id) (m:Rm ks P Q S 24) (hr:je ks P Q S (tk r1 v1) (pu r1 v1) (te r1 v1) x1)
  (hp:P.Perm (tk r1 v1++((au (ao r2 v2) r2).filter (fun f=>!decide (f.k∈ai ks))++E))) (hc:((au (ao r2 v2) r2).filter (fun f=>!decide (f.k∈ai ks))++E).Perm (tk r2 v2++C))
  (hl:r2.ar.all (cZ (ao r2 v2))=true) (hq:∀f∈au (ao r2 v2) r2,f.k∈ai ks->f∈Q)
  (hx:∀L,ix rl (.int (i:Nat)) L=.ok (xT r2) L)
  (qf:∀vs,Rv ks K r2 vs->∀bp bl st L,fB [bk,aW bp bl st,stepT i vs] L=.ok (.bl (c7 ks (ao r2 vs) r2 bp bl false)) L)
  (qa:∀vs,Rv ks K r2 vs->∀bp bl st,Mv ks bp bl st (tk r2 vs) (pu r2 vs) (te r2 vs)->c7 ks (ao r2 vs) r2 bp bl false=true->∀L,∃x,je ks bp bl st (tk r2 vs) (pu r2 vs) (te r2 vs) x/\dW [bk,aW bp bl st,stepT i vs] L=.ok x L) (L:aa) :
  ∃x,bF [bk,rl,x1,stepT i v2] L=.ok x L/\xf K (C++(il ks (pu r1 v1)++il ks (pu r2 v2))) (Q++(j5 ks (pu r1 v1)++j5 ks (pu r2 v2))) (te r1 v1++te r2 v2) x:=by
 have Qv:∀f,wr S f=f:=fun f=>Bk.D3 fun a _=>by rw [ro];rfl
 have tid:(tk r1 v1).map (wr S)=tk r1 v1:=Bk.um fun f _=>Qv f
 rcases AV (rest:=(au (ao r2 v2) r2).filter (fun f=>!decide (f.k∈ai ks))++E) s (by rw [ro];exact HI) hr (fun f hf a ha=>(V1.kp f hf a ha).1) (fun p hp=>(V1.kt p hp).1) (fun f _=>Qv f) (by rw [tid];exact hp) with⟨no,rfl⟩|⟨τ,P1,Q1,S1,ls,rfl,pl,Tr,len⟩
 ·refine⟨bW,Dl _ _ _ L,.inl ⟨fun σ h=>no σ ?_,rfl⟩⟩
  rw [ro];exact⟨h.1,h.2.1,fun p hp=>h.2.2 p (Uv _ hp)⟩
 ·rw [ro] at ls
  have Qw:=Tr m.sm fun p hp=>(V1.kt p hp).2
  have Ts:=pl.ro;subst Ts;have sd:=pl.sd
  have idem:∀x,ak S1 (ak S1 x)=ak S1 x:=sd.1;obtain⟨g1,g2⟩:=xg V2 pl hl (fun f hf hk=>Uv _ (hq f hf hk)) (E:=E++il ks (pu r1 v1)) (by rw [UN]);have Ik:=V2.rv pl.sk Qw
  have fb:c7 ks (ao r2 (v2.map (ak S1))) r2 P1 Q1 false=(!decide (r2.take=[]) || dB (ao r2 (v2.map (ak S1))) r2 Q1):=by
   unfold c7;rw [g1,g2];simp
  have hb:P1.Perm (tk r2 (v2.map (ak S1))++(C++il ks (pu r1 v1)).map (wf (ak S1))):=by
   rw [wc V2 sd,<- UD,<- UN];exact pl.p.trans ((hc.append_right _).map _)
  have fixed:∀f∈P1++Q1,wr S1 f=f:=fun f hf=>by
   obtain⟨g,rfl⟩:∃g,f=wf (ak S1) g:=by
    rcases Uz.mp hf with h|h
    ·obtain⟨g,_,e⟩:=Ur.mp (pl.p.mem_iff.mp h)
     exact⟨g,e.symm⟩
    ·obtain⟨g,_,e⟩:=Ur.mp ((pl.q f).mp h)
     exact⟨g,e.symm⟩
   exact nK idem g
  have Lv:(tk r2 (v2.map (ak S1))).map (wr S1)=tk r2 (v2.map (ak S1)):=by
   rw [wc V2 sd];exact AO idem _
  have Qx:∀f∈pu r1 v1,f.as.length<=4:=fun f hf=>by
   obtain⟨g,hg,rfl⟩:=Ur.mp hf;exact(qC (V1.ff g (UB _ hg))).2
  have lp:(pu r1 v1).length<=4:=by simpa [pu] using V1.pC.2.2.2.1
  have m1:Rm ks P1 Q1 S1 28:=by
   refine⟨m.nd,m.kl,Qw,by rw [len];exact m.sl,?_,?_,fun f hf=>?_⟩
   ·rw [pl.p.length_eq,Lm9,Ul]
    have h1:(il ks (pu r1 v1)).length<=4:=fj lp;have h2:=hp.length_eq
    rw [Ul] at h2;have:=m.pl
    omega
   ·have h1:(j5 ks (pu r1 v1)).length<=4:=fj lp
    have h2:=m.ql;have h3:=Bk.iS Q1 ((Q++j5 ks (pu r1 v1)).map (wf (ak S1))) fun f=>by
     by_cases h:f∈Q1
     ·have h1:=Z2.mp pl.qn f
      have h2:=Xb.mpr ((pl.q f).mp h);omega
     ·rw [List.count_eq_zero.mpr h];exact U4 _
    rw [Lm9,Ul] at h3;omega
   ·rcases Uz.mp hf with h|h
    ·obtain⟨g,hg,rfl⟩:=Ur.mp (pl.p.mem_iff.mp h)
     have:g.as.length<=4:=by
      rcases Uz.mp hg with z|z
      ·exact m.a4 g (Uv _ (hp.mem_iff.mpr (UB _ z)))
      ·exact Qx g (UZ.mp z).1
     simpa [wf] using this
    ·obtain⟨g,hg,rfl⟩:=Ur.mp ((pl.q f).mp h)
     have:g.as.length<=4:=by
      rcases Uz.mp hg with z|z
      ·exact m.a4 g (UB _ z)
      ·exact Qx g (UZ.mp z).1
     simpa [wf] using this
  cases hF:c7 ks (ao r2 (v2.map (ak S1))) r2 P1 Q1 false with
  | true =>
   have M:=Ik.mv (by omega) m1 pl.sk.nd fun f=>by
    rw [Lv,hb.count_eq,VT];exact W2 _ _
   obtain⟨x,hR,ex⟩:=qa _ Ik P1 Q1 S1 M hF (bT S1::L);have e:=AY bk rl x P1 Q1 S1 r2 i v2 true pl.sk.nd (by rw [len];have:=m.sl;omega) V2.A0 hx (fun L=>by rw [qf _ Ik,hF]) L (fun _=>ex) (HN _ hR)
   rw [if_pos rfl] at e;refine⟨x,e,?_⟩;rcases AV pl.sk sd hR (fun f hf a ha=>(Ik.kp f hf a ha).1) (fun p hp=>(Ik.kt p hp).1) fixed (by rw [Lv];exact hb) with⟨no,rfl⟩|⟨τ,P2,Q2,S2,Mf,rfl,Dp,_,_⟩
   ·refine .inl ⟨fun σ h=>no σ ?_,rfl⟩
    rw [wb V2 sd];exact(qB ls).mpr h
   ·rw [wb V2 sd] at Mf
    have le:∀x,τ (ak S1 x)=τ x:=fun x=>Mf.1.2.1 _ _ (idem x)
    refine .inr ⟨τ,P2,Q2,S2,⟨(qB ls).mp Mf.1,fun σ h=>Mf.2 σ ((qB ls).mpr h)⟩,rfl,⟨Dp.sk,Dp.ro,Dp.sd,?_,Dp.rp,Dp.qn,fun f=>?_,Dp.rq,Dp.rs⟩⟩
    ·have:=Dp.p
     rw [we V2 sd,AQ,<- UD,AO le,UN] at this;exact this
    ·rw [Dp.q,we V2 sd,AR]
     simp only [Ur,Uz];constructor
     ·rintro⟨g,hg|⟨g',hg',rfl⟩,rfl⟩
      ·obtain⟨g',hg',rfl⟩:=Ur.mp ((pl.q g).mp hg)
       refine⟨g',?_,(nK le g').symm⟩;rcases Uz.mp hg' with z|z
       ·exact .inl z
       ·exact .inr (.inl z)
      ·exact⟨g',.inr (.inr hg'),(nK le g').symm⟩
     ·rintro⟨g,hg,rfl⟩
      rcases hg with z|z|z
      ·exact⟨wf (ak S1) g,.inl ((pl.q _).mpr (UE (Uv _ z))),nK le g⟩
      ·exact⟨wf (ak S1) g,.inl ((pl.q _).mpr (UE (UB _ z))),nK le g⟩
      ·exact⟨wf (ak S1) g,.inr ⟨g,z,rfl⟩,nK le g⟩
  | false =>
   rw [fb] at hF;simp only [Ym,Bool.not_eq_false',decide_eq_true_eq] at hF;obtain⟨h0,qG⟩:=hF;have e:=AY bk rl .cm P1 Q1 S1 r2 i v2 false pl.sk.nd (by rw [len];have:=m.sl;omega) V2.A0 hx (fun L=>by rw [qf _ Ik,fb,h0,qG];rfl) L (fun z=>by cases z) rfl
   rw [if_neg (by simp),if_pos h0] at e;refine⟨_,e,.inr ⟨ak S1,P1,Q1,S1,?_,rfl,⟨pl.sk,rfl,sd,?_,pl.rp,pl.qn,fun f=>?_,pl.rq,pl.rs⟩⟩⟩;all_goals
    unfold dB at qG;rw [Ym,X3,X3] at qG
   ·refine⟨⟨sd,ls.1.2.1,fun p hp=>?_⟩,fun σ h=>ls.2 σ ⟨h.1,h.2.1,fun p hp=>h.2.2 p (Uv _ hp)⟩⟩
    rcases Uz.mp hp with z|z
    ·exact ls.1.2.2 p z
    ·obtain⟨q,hq,rfl⟩:=Ur.mp z
     have:=qG.2 q hq;obtain⟨n1,n2⟩:=V2.nt q hq;rw [V2.turn sd n1,V2.turn sd n2] at this;have this:ak S1 (ak (ao r2 v2) q.1)=ak S1 (ak (ao r2 v2) q.2):=by simpa using this
     exact this
   ·have t0:tk r2 v2=[]:=by unfold tk;rw [h0];rfl
    have b0:il ks (pu r2 v2)=[]:=by
     unfold il;rw [ZP];intro f hf;obtain⟨g,hg,rfl⟩:=Ur.mp hf;have z:=V2.cl h0 g hg
     show ¬ (!decide (g.k∈ai ks))=true;simp [z]
    rw [b0,UQ];rw [t0,Vq] at hc;exact pl.p.trans ((hc.append_right _).map _)
   ·rw [pl.q]
    simp only [Ur,Uz];constructor
    ·rintro⟨g,hg,rfl⟩
     exact⟨g,hg.elim .inl fun z=>.inr (.inl z),rfl⟩
    ·rintro⟨g,hg,rfl⟩
     rcases hg with z|z|z
     ·exact⟨g,.inl z,rfl⟩
     ·exact⟨g,.inr z,rfl⟩
     ·obtain⟨g',hg',rfl⟩:=Ur.mp (UZ.mp z).1
      have:=qG.1 g' hg';rw [V2.wr sd (V2.np g' hg')] at this;have hm:wf (ak S1) (wr (ao r2 v2) g')∈Q1:=by simpa using this
      obtain⟨a,ha,e⟩:=Ur.mp ((pl.q _).mp hm);exact⟨a,Uz.mp ha,e⟩
end da
namespace da
open PySem M
open Bk (Fc Kd Lk Rl)
theorem Lw (cs:List Int) (L:aa) (h:cs.length<=63):∃Mg:List Int,Mg.length<=12/\jf true (.lst (cs.map .int)) (some 7) (some 19) L=.ok (.lst (Mg.map .int)) L:=by
 have e:cut (cs.map T.int) (some 7) (some 19)=(cut cs (some 7) (some 19)).map T.int:=by
  unfold cut;rw [Lm9,Wq,List.map_drop]
 have hl:(cut cs (some (7:Int)) (some 19)).length<=12:=by
  unfold cut clip;rw [Vc];simp only [];rw [if_neg (by decide),if_neg (by decide)];omega
 refine⟨cut cs (some 7) (some 19),hl,?_⟩;show fF true (cut (cs.map .int) (some 7) (some 19)) L=_
 rw [e,fF,aC (by rw [Lm9];unfold lim;omega)];rfl
noncomputable def HO (F1 F2 F3 F4 F5 F6 F7 F8 F9 Mh Il Io Ip Iq Ir:Fn):Fn:=run 1 17 (ab [asg (.many [1,2,3,4]) (ae F1 [v 0]),asg (.one 5) (ae F2 [ae F3 [v 0,c (.int 6)],lst true [c (.int 2),c (.int 4),c (.int 4),c (.int 4),c (.int 2),c (.int 4),c (.int 4),c (.int 4)]]),asg (.one 6) (ae F4 [ae F5 [v 1,v 4]]),asg (.one 7) (b2 (sl true (v 3) none (some (c (.int 1)))) (sl true (v 2) (some (c (.int 1))) none) (bf true .Add)),asg (.one 8) (ae F6 [b2 (v 4) (vi 5 0) ix,sl true (v 5) (some (c (.int 1))) (some (c (.int 4))),v 7]),asg (.one 9) (ae F6 [b2 (v 4) (vi 5 4) ix,sl true (v 5) (some (c (.int 5))) none,v 7]),asg (.one 10) (b2 (ae F7 [b2 (v 4) (vi 5 0) ix,v 8]) (ae F7 [b2 (v 4) (vi 5 4) ix,v 9]) (bf false .Add)),cf (src (sl true (v 0) (some (c (.int 7))) (some (c (.int 19))))) (.one 11) (ab [gg (aU (aI) (v 10) [ae F8 [v 1,b2 (ae F2 [v 11,lst true [c (.int 1024)]]) (c (.int 0)) ix,v 7]])]),asg (.one 12) (ae F9 [v 1,v 10,ae Mh [v 2]]),asg (.one 13) (ae Il [v 4,vi 5 0,v 8]),asg (.one 14) (ae Il [v 4,vi 5 4,v 9]),iff (vh [eL (tv (ae Io [v 6,v 12,v 13])),eL (tv (ae Io [v 6,v 12,v 14]))]) (ab [ret (Bg [mq (ae Ip [v 1,v 12,b2 (v 4) (vi 5 0) ix,v 8]),mq (ae Ip [v 1,v 12,b2 (v 4) (vi 5 4) ix,v 9])])]) (ab []),asg (.one 15) (ae Iq [v 6,v 4,ae Ir [v 6,v 12,v 13],v 14]),asg (.one 16) (ae Iq [v 6,v 4,ae Ir [v 6,v 12,v 14],v 13]),ret (ky [b2 (v 15) (c .cm) (cmp .IsNot),b2 (v 15) (v 16) (cmp .Eq)])])
theorem Dq:si=HO eC aH bE eF eE bJ ba aO dn eD cF fB cD bF dW:=rfl
section
variable {F1 F2 F3 F4 F5 F6 F7 F8 F9 Mh Il Io Ip Iq Ir:Fn}
theorem Dr (cs:List Int) (hc:cs.length<=63) (kl rl bk Iu Iv td bH:T) (tx:Cs) (r1 r2:Rl) (n0 n1 n2 n3 w0 w1:Cs) (d0 d1 d2 d3 d4 d5 d6 d7:Nat) (A B:List Fc) (S0:List T) (good:Fc->Prop)
  (eb:∀L,F1 [.lst (cs.map .int)] L=.ok (.tup [kl,.lst [.str n0,.str n1,.str n2,.str n3],.lst [.str w0,.str w1],rl]) L)
  (Lx:∀k,0<=k->∀L,F3 [.lst (cs.map .int),.int k] L=.ok (.int (cs.getD k.toNat 0)) L)
  (ed:∀L,F2 [.int (cs.getD 6 0),.lst [.int 2,.int 4,.int 4,.int 4,.int 2,.int 4,.int 4,.int 4]] L=.ok (.lst [.int (d0:Nat),.int (d1:Nat),.int (d2:Nat),.int (d3:Nat),.int (d4:Nat),.int (d5:Nat),.int (d6:Nat),.int (d7:Nat)]) L)
  (A3:∀L,F5 [kl,rl] L=.ok (.str tx) L) (A6:∀L,F4 [.str tx] L=.ok bk L) (IQ:∀L,ix rl (.int (d0:Nat)) L=.ok (xT r1) L) (OU:∀L,ix rl (.int (d4:Nat)) L=.ok (xT r2) L)
  (e1:∀L,F6 [xT r1,.lst [.int (d1:Nat),.int (d2:Nat),.int (d3:Nat)],.lst [.str w0,.str n1,.str n2,.str n3]] L=.ok Iu L)
  (e2:∀L,F6 [xT r2,.lst [.int (d5:Nat),.int (d6:Nat),.int (d7:Nat)],.lst [.str w0,.str n1,.str n2,.str n3]] L=.ok Iv L)
  (q1:∀L,F7 [xT r1,Iu] L=.ok (.lst (A.map fT)) L) (q2:∀L,F7 [xT r2,Iv] L=.ok (.lst (B.map fT)) L) (hA:A.length<=4) (hB:B.length<=4)
  (OV:∀c:Int,∃d:Nat,∀L,F2 [.int c,.lst [.int 1024]] L=.ok (.lst [.int (d:Nat)]) L)
  (HP:∀n:Int,∃f,good f/\∀L,F8 [kl,.int n,.lst [.str w0,.str n1,.str n2,.str n3]] L=.ok (fT f) L)
  (Ly:∀L,Mh [.lst [.str n0,.str n1,.str n2,.str n3]] L=.ok (.lst S0) L)
  (s1:∀L,Il [rl,.int (d0:Nat),Iu] L=.ok td L) (s2:∀L,Il [rl,.int (d4:Nat),Iv] L=.ok bH L)
  (rest:∀(D:List Fc) (L:aa),D.length<=12->(∀f∈D,good f)->∃(pl:T) (b1 b2:Bool),F9 [kl,.ref L.length,.lst S0] (.lst ((A++B++D).map fT)::L)=.ok pl (.lst ((A++B++D).map fT)::L)/\(∀L,Io [bk,pl,td] L=.ok (.bl b1) L)/\(∀L,Io [bk,pl,bH] L=.ok (.bl b2) L)/\(∀L,Ip [kl,pl,xT r1,Iu] L=.ok (.bl b1) L)/\(∀L,Ip [kl,pl,xT r2,Iv] L=.ok (.bl b2) L) /\
   (b1=true->b2=true->∀L,∃x1 x2 x,Ir [bk,pl,td] L=.ok x1 L/\Iq [bk,rl,x1,bH] L=.ok x L/\Ir [bk,pl,bH] L=.ok x2 L/\Iq [bk,rl,x2,td] L=.ok x L/\Dt x=false/\(∀L,Eo x x L=.ok true L))) (L:aa) :
  HO F1 F2 F3 F4 F5 F6 F7 F8 F9 Mh Il Io Ip Iq Ir [.lst (cs.map .int)] L=.ok (.bl true) L:=by
 have Tt:∀L,jf true (.lst [.str w0,.str w1]) none (some 1) L=.ok (.lst [.str w0]) L:=fun L=>rfl
 have Tu:∀L,jf true (.lst [.str n0,.str n1,.str n2,.str n3]) (some 1) none L=.ok (.lst [.str n1,.str n2,.str n3]) L:=fun L=>rfl
 have Tv:∀L,jf true (.lst [.int (d0:Nat),.int (d1:Nat),.int (d2:Nat),.int (d3:Nat),.int (d4:Nat),.int (d5:Nat),.int (d6:Nat),.int (d7:Nat)]) (some 1) (some 4) L=.ok (.lst [.int (d1:Nat),.int (d2:Nat),.int (d3:Nat)]) L:=fun L=>rfl
 have Tw:∀L,jf true (.lst [.int (d0:Nat),.int (d1:Nat),.int (d2:Nat),.int (d3:Nat),.int (d4:Nat),.int (d5:Nat),.int (d6:Nat),.int (d7:Nat)]) (some 5) none L=.ok (.lst [.int (d5:Nat),.int (d6:Nat),.int (d7:Nat)]) L:=fun L=>rfl
 unfold HO;simp_arith [eb,Lx 6 (by decide),ed,A3,A6,Tt,Tu,Tv,Tw,IQ,OU,e1,e2,q1,q2,aC (show 8<=lim by decide),aC (show 4<=lim by decide),<- UD,aC (show(A++B).length<=lim by rw [Ul];unfold lim;omega)];obtain⟨Mg,OW,OX⟩:=Lw cs (.lst ((A++B).map fT)::L) hc;simp_arith [OX];generalize ho:forL _ _ _ _ _ _=o;have h:=bA ho Mg T.int (fun q φ L'=>∃(D:List Fc) (HQ:Option T),D.length+q.length<=12/\(∀f∈D,good f)/\φ=[some (.lst (cs.map .int)),some kl,some (.lst [.str n0,.str n1,.str n2,.str n3]),some (.lst [.str w0,.str w1]),some rl,some (.lst [.int (d0:Nat),.int (d1:Nat),.int (d2:Nat),.int (d3:Nat),.int (d4:Nat),.int (d5:Nat),.int (d6:Nat),.int (d7:Nat)]),some bk,some (.lst [.str w0,.str n1,.str n2,.str n3]),some Iu,some Iv,some (.ref L.length),HQ,none,none,none,none,none]/\L'=.lst ((A++B++D).map fT)::L)
  (fun o=>∃(D:List Fc) (HQ:Option T),D.length<=12/\(∀f∈D,good f)/\o=.nx [some (.lst (cs.map .int)),some kl,some (.lst [.str n0,.str n1,.str n2,.str n3]),some (.lst [.str w0,.str w1]),some rl,some (.lst [.int (d0:Nat),.int (d1:Nat),.int (d2:Nat),.int (d3:Nat),.int (d4:Nat),.int (d5:Nat),.int (d6:Nat),.int (d7:Nat)]),some bk,some (.lst [.str w0,.str n1,.str n2,.str n3]),some Iu,some Iv,some (.ref L.length),HQ,none,none,none,none,none] (.lst ((A++B++D).map fT)::L)) rfl ⟨[],none,by simpa using OW,by simp,rfl,by simp⟩ (fun _ _ eJ eP x q φ L' hh=>by
   obtain⟨D,HQ,z1,hg,rfl,rfl⟩:=hh;refine⟨sv,_,rfl,?_⟩;obtain⟨d,hd⟩:=OV x;obtain⟨f,hf,ef⟩:=HP (d:Nat);simp only [Ut] at z1;simp_arith [eJ,eP,hd,ef,aC (show(A++B++D).length<lim by rw [Ul,Ul];unfold lim;omega),bw];refine⟨D++[f],_,by simp;omega,fun g Tx=>?_,rfl,by simp⟩;rcases Uz.mp Tx with h|h
   ·exact hg g h
   ·rw [UR.mp h];exact hf)
  fun φ L' hh=>by
   obtain⟨D,HQ,z1,hg,rfl,rfl⟩:=hh;exact⟨sv,D,HQ,by simpa using z1,hg,rfl⟩
 obtain⟨D,HQ,hD,OY,rfl⟩:=h;obtain⟨pl,b1,b2,p1,p2,p3,p4,p5,p6⟩:=rest D L hD OY;have OZ:∀(b:Bool) (x:T),fin L (.bl b) (x::L)=.ok (.bl b) L:=fun b x=>eB rfl
 simp_arith [Ly,p1,s1,s2,p2,p3];cases b1 with
 | false =>
  simp_arith [IQ,OU,p4,p5];exact OZ true _
 | true=>cases b2 with
  | false =>
   simp_arith [IQ,OU,p4,p5];exact OZ true _
  | true =>
   obtain⟨x1,x2,x,y1,y2,y3,y4,y5,y6⟩:=p6 rfl rfl (.lst ((A++B++D).map fT)::L);simp_arith [y1,y2,y3,y4,y6];show fin L (if (!Dt x)=true then .bl true else .bl false) _=_
   rw [y5];exact OZ true _
end
end da
namespace da
open PySem M
open Bk (Fc Kd Lk Rl great opens KG cy ak gG wr aY i8 ai ao i0 l6 aj lw xp zW m8 ay gA rT c7 di vM aN)
theorem Qy {ks:List Kd} {k:Kd} (hk:k∈ks):k.n∈ai ks\/k.n∈(ks.filter fun k=>!k.l).map (·.n):=by
 cases h:k.l with
 | true=>exact .inl (Ur.mpr ⟨k,UZ.mpr ⟨hk,h⟩,rfl⟩)
 | false=>exact .inr (Ur.mpr ⟨k,UZ.mpr ⟨hk,by simp [h]⟩,rfl⟩)
theorem HR {ks:List Kd} (nd:(ks.map (·.n)).Nodup) {n:Cs} (h1:n∈ai ks) (h2:n∈(ks.filter fun k=>!k.l).map (·.n)):False:=by
 obtain⟨j,hj,e1⟩:=Ur.mp h1;obtain⟨k,hk,e2⟩:=Ur.mp h2;obtain⟨j1,j2⟩:=UZ.mp hj;obtain⟨k1,k2⟩:=UZ.mp hk;have:=Bk.jq nd j1 k1 (e1.trans e2.symm)
 subst this;rw [j2] at k2;cases k2
theorem i0.ff {ks tH:List Kd} {ns:List Cs} {f:Fc} (hs:∀k∈tH,k∈ks) (h:i0 tH ns f):aj ks f:=by
 obtain⟨⟨k,hk,e1,e2⟩,_⟩:=h;exact⟨k,hs k hk,e1.symm,e2⟩
theorem Qz {ks:List Kd} {st:aY} {f:Fc} (h:aj ks f):aj ks (wr st f):=by
 obtain⟨k,hk,e1,e2⟩:=h;exact⟨k,hk,e1,by show(f.as.map _).length=_;rw [Lm9];exact e2⟩
theorem Lz {ks:List Kd} (hG:KG ks) {f:Fc} (h:aj ks f):f.as.length<=4:=by
 obtain⟨k,hk,_,e⟩:=h;have:=(hG.ok k hk).2;omega
end da
namespace da
open PySem M
open lZ (bV ah)
open Bk (Fc Kd Lk Rl great opens KG cy ak gG wr aY i8 ai ao i0 l6 aj lw xp zW m8 ay gA rT c7 di au cZ vM aN)
section
variable {ks:List Kd} {rs:List Rl} {n0 n1 n2 n3 w0 w1:Cs}
theorem A7 (B:m8 ks [n0,n1,n2,n3] [w0,w1] rs) {d:Nat} {r:Rl} (hr:rs[d]?=some r) (a b c:Nat) (ha:a<4) (hb:b<4) (hc:c<4) :
  ∃vs,Rv ks [n1,n2,n3] r vs/\(∀L,bJ [xT r,.lst [.int (a:Nat),.int (b:Nat),.int (c:Nat)],.lst [.str w0,.str n1,.str n2,.str n3]] L=.ok (bT (ao r vs)) L) /\
   (∀L,ba [xT r,bT (ao r vs)] L=.ok (.lst ((au (ao r vs) r).map fT)) L)/\(au (ao r vs) r).length<=4/\(∀f∈au (ao r vs) r,f.as.length<=4) /\
   (∀L,cF [.lst (rs.map xT),.int (d:Nat),bT (ao r vs)] L=.ok (stepT d vs) L) /\
   (∀bp bl st L,cD [.lst (ks.map kT),aW bp bl st,xT r,bT (ao r vs)] L=.ok (.bl (c7 ks (ao r vs) r bp bl false)) L) /\
   (∀vs,Rv ks [n1,n2,n3] r vs->∀bp bl st L,fB [lK ks (ay rs),aW bp bl st,stepT d vs] L=.ok (.bl (c7 ks (ao r vs) r bp bl false)) L) /\
   ∀vs,Rv ks [n1,n2,n3] r vs->∀bp bl st,Mv ks bp bl st (tk r vs) (pu r vs) (te r vs)->c7 ks (ao r vs) r bp bl false=true->∀L,∃x,je ks bp bl st (tk r vs) (pu r vs) (te r vs) x/\dW [lK ks (ay rs),aW bp bl st,stepT d vs] L=.ok x L:=by
 have hG:=B.kg;have h4:=hG.len
 have Cf:∀k∈ks.filter l6,k∈ks:=fun k hk=>(UZ.mp hk).1
 have xq:=B.xq;have O3:=U7 hr
 have D:=B.rd r O3;refine sL fun G n9=>?_
 obtain⟨f1,f2,f3,f4,f5⟩:=(B.rd r O3).pC;have Nk:=B.G8 O3
 have hd:=(UI.mp hr).1;have QA:(ay rs)[d]?=some (gA r (rT d)):=by
  have:=Bk.qc hd;rw [Ge9 hd] at hr;cases hr;exact this
 have O4:∀f∈r.take++r.keep,i0 ks ([n0,n1,n2]++[w0,w1]) f:=fun f hf=>by
  rcases Uz.mp hf with h|h
  ·obtain⟨⟨k,hk,e⟩,h2⟩:=D.take f h
   exact⟨⟨k,Cf k hk,e⟩,h2⟩
  ·exact D.keep f h
 have LA:∀a∈[n0,n1,n2]++[w0,w1],cy a/\(great a=false\/a∈[n0,n1,n2]):=fun a ha=>by
  rcases Uz.mp ha with h|h
  ·exact⟨xq a (Uv _ (by simp at h ⊢;grind)),.inr h⟩
  ·exact⟨xq a (UB _ h),.inl (B.wg a h)⟩
 have hnames:∀f∈r.take++r.keep,∀a∈f.as,cy a:=fun f hf a h=>(LA a ((O4 f hf).2 a h)).1
 have IT:=oW (fun k hk=>(hG.ok k hk).2) O4 (by simp;omega);obtain⟨vs,hv1,Ij,QB⟩:=AW r [a,b,c] [w0,n1,n2,n3] hnames IT (by omega) (by simpa using Nk) (by simp) (fun d hd=>by
  simp only [UG,Wa,or_false] at hd;rcases hd with e|e|e <;> rw [e] <;> simpa)
 simp only [Uy,Vy] at QB;have LB:∀f∈r.put,aj ks f:=fun f hf=>i0.ff (fun k hk=>by
  split at hk
  ·exact(UZ.mp hk).1
  ·exact hk) (D.put f hf)
 have HS:∀f∈r.take++r.keep,aj ks f:=fun f hf=>i0.ff (fun _ h=>h) (O4 f hf)
 have uj:∀a∈opens (r.take++r.keep)++[w0,w1],cy a/\(a∈opens (r.take++r.keep)\/great a=false):=fun a ha=>by
  rcases Uz.mp ha with h|h
  ·obtain⟨⟨g,hg,hx⟩,_⟩:=Bk.jQ h
   exact⟨hnames g hg a hx,.inl h⟩
  ·exact⟨xq a (UB _ h),.inr (B.wg a h)⟩
 have ff:∀f∈r.take++r.keep++r.put,aj ks f/\f.as.length<=4:=fun f hf=>by
  have h:aj ks f:=(Uz.mp hf).elim (HS f) (LB f);exact⟨h,Lz hG h⟩
 have Ds:r.take.length<=4/\r.keep.length<=4/\r.ar.length<=4/\r.put.length<=4/\r.tell.length<=4:=⟨by omega,by omega,by omega,by omega,by omega⟩;have V:Rv ks [n1,n2,n3] r vs:=by
  refine⟨hv1,by omega,fun v hv=>?_,fun f hf a ha=>?_,fun f hf a ha=>uj a ((D.put f hf).2 a ha),fun k hk=>⟨uj _ (D.ar k hk).1,uj _ (D.ar k hk).2⟩,fun p hp=>⟨uj _ (D.tell p hp).1,uj _ (D.tell p hp).2⟩,Ds,ff,fun f hf=>?_,fun h0 f hf=>?_⟩
  ·have h:=Ij v hv
   have h2:v=w0\/v∈[n1,n2,n3]:=by simpa using h
   rcases h2 with rfl|h2
   ·exact⟨fun g=>(by rw [B.wg v (by simp)] at g;cases g),xq v (by simp)⟩
   ·exact⟨fun _=>h2,xq v (Uv _ (Up _ h2))⟩
  ·refine⟨hnames f hf a ha,?_⟩
   cases g:great a with
   | true=>exact .inl (Bk.w5 hf ha g)
   | false=>exact .inr rfl
  ·obtain⟨⟨k,hk,e,_⟩,_⟩:=D.take f hf
   rw [e];obtain⟨h1,h2⟩:=UZ.mp hk;exact fun z=>HR hG.nd z (Ur.mpr ⟨k,UZ.mpr ⟨h1,h2⟩,rfl⟩)
  ·obtain⟨⟨k,hk,e,_⟩,_⟩:=D.put f hf
   rw [if_pos h0] at hk;rw [e];exact UE hk
 have Mi:∀f∈r.take++r.keep++r.put,f.as.length<=4:=fun f hf=>(ff f hf).2
 refine n9 ?_;clear n9;refine⟨vs,V,QB,fun L=>HK r (ao r vs) (fun f hf=>by have:=Mi f (Uv _ hf);omega) (by omega) L,by unfold au;simp;omega,fun f hf=>?_,fun L=>HJ rs d r hr vs hv1 hnames IT (by omega) (by omega) L,fun bp bl st L=>Dk ks (by omega) r _ V.sm (fun k hk=>⟨(V.nl k hk).1.1,(V.nl k hk).2.1⟩) Mi Ds bp bl st L,fun vs V bp bl st L=>AK ks (by omega) (ay rs) d vs (gA r (rT d)) QA V.hv V.A0 bp bl st V.sm (fun k hk=>⟨(V.nl k hk).1.1,(V.nl k hk).2.1⟩) Mi Ds L,fun vs V bp bl st M hF L=>?_⟩
 ·obtain⟨g,hg,rfl⟩:=Ur.mp hf
  exact(qC (ks:=ks) (ff g (Uv _ hg))).2
 ·obtain⟨x,h1,_,h2⟩:=Dh ks (by omega) (ay rs) d vs (gA r (rT d)) QA V.hv V.A0 bp bl st V.sm (fun k hk=>⟨(V.nl k hk).1.1,(V.nl k hk).2.1⟩) M Mi Ds hF L
  exact⟨x,h1,h2⟩
end
theorem lB {ks:List Kd} {r:Rl} {vs:List Cs} {K:List Cs} (V:Rv ks K r vs):(au (ao r vs) r).filter (fun f=>!decide (f.k∈ai ks))=tk r vs++(r.keep.map (wr (ao r vs))).filter (fun f=>!decide (f.k∈ai ks)):=by
 unfold au;rw [UD,YO];congr 1;refine Yy.mpr fun f hf=>?_
 obtain⟨g,hg,rfl⟩:=Ur.mp hf;simpa using (show ¬ (wr (ao r vs) g).k∈ai ks from V.tl g hg)
theorem xf.eq {K:List Cs} {m7 lJ:List Fc} {br:List (Cs × Cs)} {x:T} (h:xf K m7 lJ br x):Dt x=false/\∀L,Eo x x L=.ok true L:=by
 have key:∀xs:List T,dat 8 (.tup xs)=true->Dt (.tup xs)=false/\∀L,Eo (.tup xs) (.tup xs) L=.ok true L:=fun xs d=>⟨rfl,fun L=>by
  show cx (dat 8 (.tup xs)=true/\dat 8 (.tup xs)=true) _=_;rw [aC ⟨d,d⟩];show R.ok (uK 8 (.tup xs) (.tup xs)) L=_
  rw [iu 8 d]⟩
 have df:∀l:List Fc,(l.map fT).all (dat 6)=true:=fun l=>by simp [fT,dat]
 rcases h with⟨_,rfl⟩|⟨_,P,Q,S,_,rfl,_⟩
 ·exact key _ rfl
 ·refine key _ ?_
  simp only [dat,Vf,YJ,df];simp [pT,dat]
theorem diag {l:List Cs} {e:Cs × Cs} (h:e∈l.map fun a=>(a,a)):e.1∈l/\e.2=e.1:=by
 obtain⟨a,ha,rfl⟩:=Ur.mp h;exact⟨ha,rfl⟩
theorem LC (cs:List Int) (hc:cs.length<=63) (L:aa):si [.lst (cs.map .int)] L=.ok (.bl true) L:=by
 refine sL fun G n9=>?_
 obtain⟨ks,ns,ws,rs,B,hP,eb⟩:=OL cs;have hG:=B.kg
 have h4:=hG.len;have A6:=sE hG B.N1.1 B.N1.2.1 B.N1.2.2
 have A3:=Hq ks hG rs B.r2 B.rl;obtain⟨n0,n1,n2,n3,rfl⟩:∃a b c d,ns=[a,b,c,d]:=by
  have:=B.n4
  match ns,this with
  | [a,b,c,d],_=>exact⟨a,b,c,d,rfl⟩
 obtain⟨w0,w1,rfl⟩:∃a b,ws=[a,b]:=by
  have:=B.w2
  match ws,this with
  | [a,b],_=>exact⟨a,b,rfl⟩
 have xq:=B.xq;have hK:[n1,n2,n3].Nodup:=((VS.mp B.nd).1.tail)
 obtain⟨_,p,ed⟩:=ly (cs.getD 6 0) [2,4,4,4,2,4,4,4] (by decide) (by decide);obtain⟨d0,_,rfl,h0,p⟩:=P1 p;obtain⟨d1,_,rfl,h1,p⟩:=P1 p;obtain⟨d2,_,rfl,h2,p⟩:=P1 p;obtain⟨d3,_,rfl,h3,p⟩:=P1 p;obtain⟨d4,_,rfl,g0,p⟩:=P1 p;obtain⟨d5,_,rfl,g1,p⟩:=P1 p;obtain⟨d6,_,rfl,g2,p⟩:=P1 p;obtain⟨d7,_,rfl,g3,p⟩:=P1 p;obtain rfl:=P0 p;simp only [Uy,Vy] at ed eb;obtain⟨r1,JE⟩:∃r,rs[d0]?=some r:=⟨_,Ge9 (by rw [B.r2];omega)⟩;obtain⟨r2,QC⟩:∃r,rs[d4]?=some r:=⟨_,Ge9 (by rw [B.r2];omega)⟩;obtain⟨v1,V1,a1,a2,a3,a4,a5,a6,a7,a8⟩:=A7 B JE d1 d2 d3 (by omega) (by omega) (by omega);obtain⟨v2,V2,b1,b2,b3,b4,b5,b6,b7,b8⟩:=A7 B QC d5 d6 d7 (by omega) (by omega) (by omega);have x1:∀L,ix (.lst (rs.map xT)) (.int (d0:Nat)) L=.ok (xT r1) L:=fun L=>dP (by rw [UM,JE];rfl)
 have x2:∀L,ix (.lst (rs.map xT)) (.int (d4:Nat)) L=.ok (xT r2) L:=fun L=>dP (by rw [UM,QC];rfl)
 refine n9 ?_;clear n9;rw [Dq];refine Dr cs hc (.lst (ks.map kT)) (.lst (rs.map xT)) (lK ks (ay rs)) _ _ _ _ _ r1 r2 n0 n1 n2 n3 w0 w1 d0 d1 d2 d3 d4 d5 d6 d7 _ _ _ (fun f=>f.as.length<=4) eb (fun k hk L=>qq cs k hk L) ed A3 A6 x1 x2 a1 b1 a2 b2 a3 b3 (fun c=>?_) (fun n=>?_) (fun L=>HL n0 n1 n2 n3 L) a5 b5 (fun D L hD OY=>?_) L
 ·obtain⟨_,p,e⟩:=ly c [1024] (by decide) (by decide)
  obtain⟨d,_,rfl,_,p⟩:=P1 p;obtain rfl:=P0 p;simp only [Uy,Vy] at e;exact⟨d,e⟩
 ·obtain⟨f,hf,e⟩:=g9 ks [w0,n1,n2,n3] n (by omega) (by omega) (fun k hk=>(hG.ok k hk).2) (by simp) (by simp)
  exact⟨f,Lz hG (i0.ff (fun _ h=>h) hf),e⟩
 generalize hA:au (ao r1 v1) r1=A at *
 generalize hB:au (ao r2 v2) r2=C at *
 have Tz:(A++C++D).length<=20:=by simp only [Ul];omega
 have QD:∀f∈A++C++D,f.as.length<=4:=fun f hf=>by
  rcases Uz.mp hf with h|h
  ·exact(Uz.mp h).elim (a4 f) (b4 f)
  ·exact OY f h
 refine sL fun G n9=>?_
 obtain⟨P,Q,S,De,OR,Ih,hS1,_,_,LD⟩:=HM ks (by omega) (A++C++D) (by omega) [(n1,n1),(n2,n2),(n3,n3)] (by simp) L;refine n9 ?_;clear n9;refine⟨aW P Q S,_,_,LD,a7 v1 V1 P Q S,b7 v2 V2 P Q S,a6 P Q S,b6 P Q S,fun F1 F2 L=>?_⟩;have QE:Sk [n1,n2,n3] [(n1,n1),(n2,n2),(n3,n3)]:=⟨hK,fun x=>Iff.rfl,fun e he _=>by
  obtain⟨h1,h2⟩:=diag (l:=[n1,n2,n3]) he;rw [h2];exact h1,fun x hx=>B.ng x (Up _ hx)⟩
 have s:=QE.perm hS1;have ro:ak S=id:=funext fun x=>by
  rw [sJ QE.nd hS1];rcases lA (st:=[(n1,n1),(n2,n2),(n3,n3)]) (x:=x) with⟨v,_,h2,h3⟩|⟨_,_,h3⟩
  ·rw [h3]
   exact(diag (l:=[n1,n2,n3]) h2).2
  ·exact h3
 have TC:∀f∈P,f∈A++C++D:=fun f hf=>(UZ.mp (De.mem_iff.mp hf)).1
 have m:Rm ks P Q S 24:=by
  refine⟨hG.nd,by omega,fun e he=>?_,by rw [hS1.length_eq];simp,?_,?_,fun f hf=>?_⟩
  ·obtain⟨h1,h2⟩:=diag (l:=[n1,n2,n3]) (hS1.mem_iff.mp he)
   have k:=xq _ (Up _ (Uv [w0,w1] h1));exact⟨k,by rw [h2];exact k⟩
  ·rw [De.length_eq]
   have:((A++C++D).filter fun f=>!decide (f.k∈ai ks)).length<=20:=fj Tz;omega
  ·have:=Bk.iS Q (A++C++D) fun f=>by
    by_cases h:f∈Q
    ·have h1:=Z2.mp OR f
     have h2:=Xb.mpr ((Ih f).mp h).1;omega
    ·rw [List.count_eq_zero.mpr h];exact U4 _
   omega
  ·rcases Uz.mp hf with h|h
   ·exact QD f (TC f h)
   ·exact QD f ((Ih f).mp h).1
 have ar:∀{r:Rl} {v:List Cs},c7 ks (ao r v) r P Q false=true->r.ar.all (cZ (ao r v))=true:=fun {r v} h=>by
  unfold c7 at h;simp only [Uw] at h;exact h.2.1
 have s1:=lB V1;have s2:=lB V2
 rw [hA] at s1;rw [hB] at s2;rw [YO,YO,s1,s2] at De;generalize (r1.keep.map (wr (ao r1 v1))).filter (fun f=>!decide (f.k∈ai ks))=k1 at *
 generalize (r2.keep.map (wr (ao r2 v2))).filter (fun f=>!decide (f.k∈ai ks))=k2 at *
 generalize D.filter (fun f=>!decide (f.k∈ai ks))=k3 at *
 have pe:∀(t1 t2 k1 k2 k3:List Fc),(t1++k1++(t2++k2)++k3).Perm (t1++(t2++k2++(k1++k3)))/\(t1++k1++(t2++k2)++k3).Perm (t2++(t1++k1++(k2++k3))):=fun t1 t2 k1 k2 k3=>by
  constructor <;> refine Yz.mpr fun f=>?_ <;> simp only [VT] <;> omega
 have tid:∀l:List Fc,l.map (wr S)=l:=fun l=>Bk.um fun f _=>Bk.D3 fun a _=>by rw [ro];rfl
 have vR:=De.trans (pe (tk r1 v1) (tk r2 v2) k1 k2 k3).1;have sQ:=De.trans (pe (tk r1 v1) (tk r2 v2) k1 k2 k3).2
 have M1:=V1.mv (by omega) m s.nd fun f=>by rw [tid,vR.count_eq,VT];exact W2 _ _
 have M2:=V2.mv (by omega) m s.nd fun f=>by rw [tid,sQ.count_eq,VT];exact W2 _ _
 obtain⟨y1,TF,e1⟩:=a8 v1 V1 P Q S M1 F1 L;obtain⟨y2,TG,e2⟩:=b8 v2 V2 P Q S M2 F2 L;obtain⟨z1,u1,c1⟩:=half V1 V2 s ro m TF (by rw [hB,s2];exact vR) (C:=k2++(k1++k3)) (by rw [hB,s2,UN]) (ar F2) (fun f hf hk=>(Ih f).mpr ⟨by rw [hB] at hf;simp [hf],hk⟩) x2 b7 b8 L;obtain⟨z2,u2,c2⟩:=half V2 V1 s ro m TG (by rw [hA,s1];exact sQ) (C:=k1++(k2++k3)) (by rw [hA,s1,UN]) (ar F1) (fun f hf hk=>(Ih f).mpr ⟨by rw [hA] at hf;simp [hf],hk⟩) x1 a7 a8 L;obtain rfl:=c1.one hK c2 (Yz.mpr fun f=>by simp only [VT];omega) (fun f=>by simp only [Uz];grind) (fun p=>by simp only [Uz];exact Or.comm);exact⟨y1,y2,z1,e1,u1,e2,u2,c1.eq.1,c1.eq.2⟩
theorem A8:∀ns:List Int,ns.length<=63->∃L,si [.lst (ns.map .int)] []=.ok (.bl true) L:=fun ns h=>⟨[],LC ns h []⟩
end da
end
namespace da
open PySem M
set_option maxHeartbeats 4000000
noncomputable def G0:Ct:=⟨[],[("SMALL",jT),("GREAT",jU),("FIGURES",kO),("LONGEST",kU),("BROKEN",bW),("LINE_MARKS",gW),("KIND_WORDS",gY),("RULE_WORD",dj),("PART_WORDS",bR),("COUNTS",ni)],[],["given","kept","kinds","left","looks","names","right","rules","taken","title","told"],["len","list","tuple","all","any","min","str","int","range","enumerate","zip","sorted","set","dict"],[(38,12),(50,12),(83,12),(138,13),(141,11),(268,12),(305,11),(305,12),(308,24),(332,12),(339,12),(340,12),(375,11),(390,17),(408,17),(428,17),(436,22),(438,26),(451,16),(460,17),(479,17),(513,16),(546,17)]⟩
noncomputable def ds:List Df:=.f false "_law_cell" 2 79 bE :: .f false "_law_digits" 2 80 aH :: .f false "_law_name" 2 81 bq :: .f false "_law_kinds" 1 85 eR :: .f false "_law_drawn" 3 84 aO :: .f false "_law_heads" 3 86 dD :: .f false "_law_looks" 2 88 eS :: .f false "_law_names" 1 87 cN :: .f false "_law_rule" 5 89 fP :: .f false "_law_book" 1 92 eC :: .f false "_law_as" 2 94 fm :: .f false "_law_at" 2 93 dS :: .f false "_law_holds" 2 95 eT :: .f false "_law_fits" 4 96 cD :: .f false "_law_instance" 2 100 ba :: .f false "check_facts" 2 30 bZ :: .f false "check_taken" 2 31 cb :: .f false "is_great" 1 19 bc :: .f false "know" 2 34 nj :: .f false "taken_out" 2 33 dm :: .f false "chosen" 2 36 jV :: .f false "tell_same" 3 35 fQ :: .f false "written" 2 32 bB :: .f false "moved" 5 29 l9 :: .f false "pair_written" 2 45 cE :: .f false "behind" 3 40 jW :: .f false "changes" 3 44 iT :: .f false "check_step" 2 41 eU :: .f false "heads_there" 4 43 dU :: .mt "Same" "holds" "Same.holds" 3 48 0 cO :: .mt "Unlike" "holds" "Unlike.holds" 3 49 0 bL :: .f false "looks_hold" 2 42 eV :: .mt "Rule" "calls" "Rule.calls" 1 69 1 bS :: .f false "fits" 3 38 fB :: .f false "after" 3 39 dW :: .f false "_law_next" 4 102 bF :: .f false "_law_pool" 3 97 dn :: .f false "_law_same" 1 101 eD :: .f false "_law_step" 3 99 cF :: .f false "_law_fact" 1 82 cG :: .f false "_law_part" 2 90 aP :: .f false "_law_text" 2 91 eE :: .f false "_law_values" 3 98 bJ :: .f false "open_names" 1 71 eW :: .mk "Rule" "Rule.__init__" 3 69 0 iE :: .f false "is_name_sign" 1 20 cH :: .f false "name_end" 2 23 gZ :: .f false "pieces" 2 22 jX :: .f false "line_pieces" 1 58 dX :: .f false "is_name" 1 18 dT :: .f false "is_small_word" 1 17 bD :: .f false "read_kind" 1 59 fR :: .f false "parted" 2 67 fE :: .f false "piece_at" 2 24 aJ :: .mk "Same" "Look.__init__" 3 47 0 dq :: .mk "Unlike" "Look.__init__" 3 47 0 dq :: .f false "check_two_names" 1 66 bG :: .f false "read_look" 1 63 fS :: .f false "read_looks" 1 62 dE :: .f false "read_pair" 1 65 fU :: .f false "read_pairs" 1 64 dF :: .f false "arguments_at" 2 26 dG :: .f false "fact_at" 2 25 iU :: .f false "row_of_facts" 1 21 dH :: .f false "read_part" 2 61 cJ :: .f false "read_rule" 1 60 fV :: .f false "hear_line" 3 73 du :: .f false "is_told" 1 57 iV :: .f false "told_lines" 1 56 eX :: .mk "Book" "Book.__init__" 3 70 0 iF :: .f false "check_call" 2 75 dI :: .f false "said_names" 1 77 eY :: .f false "check_names" 1 76 dY :: .f false "whole_book" 2 74 eZ :: .f false "read_book" 1 72 eF :: .f false "law" 1 103 si::[]
theorem TH:zI PySem.Challenge.pw_poolrules_k21_steps_that_do_not_meet.main.body G0 ds:=by
 unfold ds
 repeat' first|refine M.w4 ?_|refine M.JW ?_|refine M.JX ?_|exact M.NN
end da
open PySem PySem.W PyProof.Rows M
set_option maxHeartbeats 0 in
theorem PySem.Challenge.cw_poolrules_k21_steps_that_do_not_meet_holds : PySem.Challenge.rw_poolrules_k21_steps_that_do_not_meet.Holds := by
 w_on;o_law;k_head;(case hw=>w_witness2)
 k_fill
 refine CF (l:=PySem.Challenge.rw_poolrules_k21_steps_that_do_not_meet) (n:=63) (k:=80) (m:=da.si) rfl (by decide) rfl ⟨rfl,by decide,by decide⟩ (fun w h Y=>kIn_of Y) (fun w mg fa h X G e=>?_) da.A8;refine GC PySem.Challenge.pw_poolrules_k21_steps_that_do_not_meet.main.body da.G0 ["Book","Rule","Same","Unlike"] da.ds X G e da.TH (by decide) (by kernel_rfl) ⟨rfl,rfl⟩ (by decide +kernel) (zK (by k_is) (by decide) (zK (by k_is) (by decide) (zK (by k_is) (by decide) (NT (by k_is) (CH (us:=#[.ref _,.ref _,.ref _,.bool true]) (by k_is) (by k_is) (by decide) (GD (us:=#[]) (by k_is) (by decide) uf (GD (us:=#[]) (by k_is) (by decide) uf (GD (us:=#[]) (by k_is) (by decide) uf (NU uf)))) (zK (by k_is) (by decide) (CH (us:=#[.str ⟨(S "passing").toArray⟩ _,.str ⟨(S "lasting").toArray⟩ _]) (by k_is) (by k_is) (by decide) (lG (by decide) (lG (by decide) uf)) (zK (by k_is) (by decide) (CH (us:=#[.str ⟨(S "take").toArray⟩ _,.str ⟨(S "keep").toArray⟩ _,.str ⟨(S "look").toArray⟩ _,.str ⟨(S "put").toArray⟩ _,.str ⟨(S "tell").toArray⟩ _]) (by k_is) (by k_is) (by decide) (lG (by decide) (lG (by decide) (lG (by decide) (lG (by decide) (lG (by decide) uf))))) (CH (us:=#[.str ⟨(S "0").toArray⟩ _,.str ⟨(S "1").toArray⟩ _,.str ⟨(S "2").toArray⟩ _,.str ⟨(S "3").toArray⟩ _,.str ⟨(S "4").toArray⟩ _]) (by k_is) (by k_is) (by decide) (lG (by decide) (lG (by decide) (lG (by decide) (lG (by decide) (lG (by decide) uf))))) JT)))))))))) ?_ ?_ ?_;all_goals repeat' first|exact JT|refine NO (by k_is) ?_|refine NP (by k_is) ?_|refine NQ (by k_is) (by k_is) (by k_is) (by k_is) (by k_is) (by k_is) (by k_is) ?_ ?_|refine NS (by k_is) (by k_is) (by k_is) (by k_is) ?_|refine JU (by k_is) (by k_is) (by k_is) (by k_is) (by k_is) (by k_is) (by decide) ?_|refine JV (by k_is) (by k_is) (by k_is) (by k_is) (by k_is) (by k_is) (by decide) ?_
