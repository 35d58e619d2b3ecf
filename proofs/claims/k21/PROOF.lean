import PyProof.Rows.All
import Wide.All
import OpenK.AllK
import Wide.FinOn
import PyProof.EqAt
import PyProof.EqKinds
import PyProof.TupleCall
import PyProof.EnumFor
import PyProof.EnumStmt
import PyProof.EnumMake
import PyProof.StrOps2
import PyProof.ZipIter
import PyProof.SumWalkG
import PyProof.IsiPairs
import PyProof.DictRoadsH
import PyProof.Rows.TupTab
import KE.KSortAsk
import KE.KSortTup
import PySem.Challenge.RW_poolrules_k21_steps_that_do_not_meet
set_option Elab.async false
set_option linter.all false
namespace PySem.W.Fast
def tw14141258147541998162:=True
def tw10901211577849419259:=True
def tw11768804325247952122:=True
def tw12877858543803039882:=True
def tw18419804355020414294:=True
def tw10313125505942340410:=True
def tw15604010337050135877:=True
def tw3794786893595707953:=True
def tw8723481745354119354:=True
def tw15972764733139532247:=True
def tw2913803339810710404:=True
def tw17792364940925723635:=True
def tw7106193070223732534:=True
def tw12135232467743651801:=True
def tw15105838103112772966:=True
def tw7658665858692440484:=True
def tw5092361863415483142:=True
def tw10823133429460685871:=True
def tw8637244201861167414:=True
def tw4652112997241307085:=True
def tw4120724860189714206:=True
def tw15228659816200333399:=True
def tw12984346268865849834:=True
def tw6492295337709411793:=True
def tw9292271496371962732:=True
def tw10191385164532708926:=True
def tw17710349745099765641:=True
def tw63117123253780865:=True
def tw16786498106078598831:=True
def tw1289879753061050561:=True
def tw2978711570303447875:=True
def tw11605566294266051838:=True
def tw13850255741379273164:=True
def tw13243269842095421072:=True
def tw9682397101305752615:=True
def tw7573849448976782657:=True
def tw3400162293532398554:=True
def tw9653525467300790421:=True
def tw3269864062960018082:=True
def tw4025809254866001307:=True
def tw14525035946309062980:=True
def tw1853663585748159300:=True
def tw14265606755088671385:=True
def tw14896060896496084637:=True
def tw11840768924166831626:=True
def tw2954365206920463957:=True
def tw13926722605036131158:=True
def tw8301109178752746671:=True
def tw9836555383014021787:=True
def tw15387646825853652934:=True
def tw16770502744657985730:=True
def tw15679937079639737202:=True
def tw6998978049589282763:=True
def tw7655078008179250260:=True
def tw12844717320108358278:=True
def tw12470577120071353290:=True
def tw2490132782421448479:=True
def tw14911791640285080362:=True
def tw16007519265247145645:=True
def tw7838994186952779962:=True
def tw3863406149781163706:=True
def tw5281864053718892803:=True
def tw17228224030416527463:=True
def tw14354198279761153407:=True
def tw15228219359747189032:=True
def tw11219243873872765337:=True
def tw4631915882678914961:=True
def tw4784124669689506079:=True
def tw6295109585325525152:=True
def tw14734595492706897762:=True
def tw1023517823391234808:=True
def tw7369492157194898405:=True
def tw3026240111913998995:=True
def tw10899013163658416683:=True
def tw2881190251737458523:=True
def tw2511839616542248423:=True
def tw1814547257934187960:=True
def tw9601021642904939317:=True
def tw17721924523079161548:=True
def tw14605556115173585181:=True
def tw25449372718730559:=True
def tw5856393426526077074:=True
def tw5207937644929447745:=True
def tw17244286587680827201:=True
def tw13749604078638214830:=True
def tw3043464322317425788:=True
def tw15267079195170691061:=True
def tw5975158487803483512:=True
def tw3851237154445490280:=True
def tw12228558963200393438:=True
def tw5167490178324973268:=True
def tw11008712776512397373:=True
def tw3624471797827837892:=True
def tw7078441567650000847:=True
def tw7447236366604408918:=True
def tw12730136682053150209:=True
def tw4427764211920329939:=True
def tw10333189037539069815:=True
def tw8558764431812700410:=True
def tw16255068672660579838:=True
def tw14358804170451283992:=True
def tw5681045332053844606:=True
def tw17774192516211779615:=True
def tw2202483587925198103:=True
def tw6863944203877421051:=True
def tw2349201264379963371:=True
def tw7655937282262238985:=True
def tw12128624568958777994:=True
def tw16994595690886715879:=True
def tw12354561210286133850:=True
def tw4769628738976466439:=True
def tw18363762768296082127:=True
def tw1977298857931483524:=True
def tw13504971814385556005:=True
def tw10078296803326493092:=True
def tw5622255666262028638:=True
def tw3036880121559237138:=True
def tw17134914692524649770:=True
def tw7799918772642635335:=True
def tw14018654922041963166:=True
def tw6074123558988475373:=True
def tw2944679657737373306:=True
def tw17832518883096713736:=True
def tw12812922633697157634:=True
def tw2155148144181660346:=True
def tw15840221625423346973:=True
def tw701990763333693419:=True
def tw700297458333879059:=True
def tw9566009525776920649:=True
def tw6664717474177073071:=True
def tw17031689683834128329:=True
def tw3277710561429490371:=True
def tw114044514555203210:=True
def tw3343899027292310519:=True
def tw14483547621777273776:=True
def tw7027652503568078833:=True
def tw14128629215303956361:=True
def tw1834371489989012511:=True
def tw10218525179991198999:=True
def tw11629190683097340872:=True
def tw11104846630418755083:=True
def tw7244056580226556456:=True
def tw15501963094401505776:=True
def tw5973639855302336623:=True
def tw7819793383595585686:=True
def tw4211862252647861346:=True
def tw2857281275356165822:=True
def tw12138217647491431431:=True
def tw17974100337370445428:=True
def tw16763703698938165990:=True
def tw2163873883199503014:=True
def tw10133669805813535506:=True
def tw13416930354096196770:=True
def tw5315568742491733814:=True
def tw13866617425347701306:=True
def tw3783591743051679669:=True
def tw13211466423053300441:=True
def tw9368280352728347935:=True
def tw13352386974421383984:=True
def tw12635219922968072407:=True
def tw9334486366179130192:=True
def tw4250481780775710027:=True
def tw12655165922632973322:=True
def tw10025563619571942157:=True
def tw6853357188036801181:=True
def tw3806348672203618811:=True
def tw8832848232960047048:=True
def tw16570753233675440910:=True
def tw15873373493480576871:=True
def tw9261431372639337411:=True
def tw16823079172908403535:=True
def tw9266829106169839546:=True
def tw4175272493920130566:=True
def tw18422353839181060896:=True
def tw10127739412541554645:=True
def tw8255204589506927415:=True
def tw16996745783436657613:=True
def tw6365612930757143735:=True
def tw11373347215334570151:=True
def tw17667135838817214900:=True
def tw17247999366444602448:=True
def tw16605380240798795499:=True
def tw9403580522907028898:=True
def tw6411099942019391565:=True
def tw4614519748334649806:=True
def tw1075251352217458927:=True
def tw15390410945722109860:=True
def tw3511008458960864504:=True
def tw8197745516640981609:=True
def tw14330108712652154165:=True
def tw15613870431459686034:=True
def tw11286605433822257722:=True
def tw2451335452812204063:=True
def tw5965916175861144347:=True
def tw7573077947989411001:=True
def tw9657308191817159608:=True
def tw3091540308434567716:=True
def tw14606834735817627192:=True
def tw5484044133318667888:=True
def tw2248821591261032883:=True
def tw10467840685421294893:=True
def tw11575628850891912266:=True
def tw17170530633157825486:=True
def tw4239566469907841939:=True
def tw18379991972548829736:=True
def tw845571273051823334:=True
def tw10210203791863969682:=True
def tw4827470166944137301:=True
def tw11088105489589790401:=True
def tw7124459089093370557:=True
def tw8764706980267616858:=True
def tw14216728162207692050:=True
def tw1101616868007555616:=True
def tw10867385144755051171:=True
def tw1383505517653096191:=True
def tw15704946524741209877:=True
def tw3005823160040376944:=True
def tw2252624391810695241:=True
def tw6721377610909697966:=True
def tw18201630040473769651:=True
def tw5815000757070701381:=True
def tw5938720857757695859:=True
def tw2468339076088165279:=True
def tw6268201256367680480:=True
def tw7400004857435751211:=True
def tw5485981676877369476:=True
def tw10513703911960184487:=True
def tw14763767202693333244:=True
def tw10316653052910118009:=True
def tw14588361514993651126:=True
def tw9045921203538723220:=True
def tw3630432789802357251:=True
def tw4963993737772264393:=True
def tw1720837168177665897:=True
def tw9837507958783826700:=True
def tw14837825674498765128:=True
def tw435259404571721796:=True
def tw2779964036957617060:=True
def tw3855271405623038497:=True
def tw13310934397771997619:=True
def tw14168287054787450701:=True
def tw4506018667922032444:=True
def tw723650707351391801:=True
def tw6472959918195278086:=True
def tw11792725867579956759:=True
def tw957272472167039703:=True
def tw10384462360962620756:=True
def tw13182876789096986088:=True
def tw7482477541959441242:=True
def tw13674536246763999145:=True
def tw1581503194754801497:=True
def tw1865159370277374775:=True
def tw12446937080629325348:=True
def tw10055243105150103269:=True
def tw16562184615795082509:=True
def tw1253705125037550975:=True
def tw5781278367247327927:=True
def tw6409680765789359197:=True
def tw11603678664168737480:=True
def tw610882664465224634:=True
def tw15673551292596473008:=True
def tw1051516089023359001:=True
def tw145215155699534451:=True
def tw15383156590015121625:=True
def tw18204994425349347610:=True
def tw976645496064519248:=True
def tw3286082050805525162:=True
def tw14601026877399138875:=True
def tw11208935862343400071:=True
def tw4675338822484962055:=True
def tw3669039986481086578:=True
def tw7392818963676468155:=True
def tw8014975394819400031:=True
def tw4489729159599147933:=True
def tw1976436782005350233:=True
def tw17246356510444254880:=True
def tw4482143619902040561:=True
def tw850908993341711007:=True
def tw4137742757369601523:=True
def tw18430987686702472526:=True
def tw8612087768040965791:=True
def tw8480543129326792496:=True
def tw1838035238498805553:=True
def tw18358825638765503147:=True
def tw15943452238648108467:=True
def tw15196291923342600089:=True
def tw14959620331615752243:=True
def tw18432517053063906305:=True
def tw12374597903384344399:=True
def tw17079839765025601612:=True
def tw10913926947268858306:=True
def tw13267392216266763730:=True
def tw483033370568570031:=True
def tw7535497308216607139:=True
def tw8360469670910647759:=True
def tw9994857218010592735:=True
def tw6032167683174432609:=True
def tw14360947530768429744:=True
def tw11467747320580579222:=True
def tw4282165262984806361:=True
def tw12853441140824110747:=True
def tw9345378057696998982:=True
def tw6564738787984495764:=True
def tw9896900310272810869:=True
def tw320077586561233006:=True
def tw15850301801795726244:=True
def tw15832894002261806055:=True
def tw2809510419779953162:=True
def tw3579782547988571074:=True
def tw8181945593023564654:=True
def tw1593570735537231776:=True
def tw8707889146160489535:=True
def tw16484594130365560110:=True
def tw6851137578105392791:=True
def tw11182026524194605922:=True
def tw9227139840588048067:=True
def tw8135062224752262267:=True
def tw15912603369204602204:=True
def tw2069472606017914783:=True
def tw1530896053169839033:=True
def tw5886801160162903166:=True
def tw4702819956204774909:=True
def tw14336943894674347361:=True
def tw12810887088203291692:=True
def tw15980977666387375997:=True
def tw1822014755245764446:=True
def tw5788837672630475203:=True
def tw6683803028685301016:=True
def tw13378230878775079309:=True
def tw5504638141530412774:=True
def tw11764528165872003393:=True
def tw2802880398439198590:=True
def tw6224269955862628592:=True
def tw5090300852079584099:=True
def tw8863552884279350406:=True
def tw16104994114178090752:=True
def tw1075577953664961131:=True
def tw1630674818956032280:=True
def tw2130662098130851396:=True
def tw15329848791961221695:=True
def tw4523542936644831545:=True
def tw11647973995781584830:=True
def tw17149786132636685640:=True
def tw14978722742321402951:=True
def tw3012573550683922793:=True
def tw15978605245496530260:=True
def tw15878380717419287084:=True
def tw14022851902371370093:=True
def tw12087920529181440078:=True
def tw7438134185068186419:=True
def tw13231287111644889258:=True
def tw4206807480040719530:=True
def tw2724967548960310295:=True
def tw17914645481493390462:=True
def tw5187075751944344759:=True
def tw9586808393286556240:=True
def tw15013709574020682185:=True
def tw14614483487215224030:=True
def tw14124984394145473599:=True
def tw5726000890016978755:=True
def tw7687734748537602329:=True
def tw1315134783976364328:=True
def tw2309338658926540489:=True
def tw11759274586817904366:=True
def tw9594782445263866509:=True
def tw16742259886064282479:=True
def tw9345249121403966692:=True
def tw17238776423254044188:=True
def tw7362795561675627291:=True
def tw11699468892671368982:=True
def tw2284288456545209363:=True
def tw924152396824360404:=True
def tw13582629476938839914:=True
def tw15868101614274358580:=True
def tw13326910526542717628:=True
def tw2273860458753981614:=True
def tw651124836040372081:=True
def tw15408618521111420437:=True
def tw10878152104083081169:=True
def tw12460641742549042488:=True
def tw5271551207648344535:=True
def tw14072697261033474070:=True
def tw13357181950116427453:=True
def tw7108649171250242969:=True
def tw5333001676595474814:=True
def tw12161198409596211335:=True
def tw9998417286829312258:=True
def tw14405905759452436574:=True
def tw17497494499513750386:=True
def tw479654317454035918:=True
def tw1790712756980014608:=True
def tw15437030892329417580:=True
def tw17598786427033834195:=True
def tw6272098281276142632:=True
def tw17544499839404932511:=True
def tw1576199320166118418:=True
def tw7478282677466572031:=True
def tw2572011958453795025:=True
def tw8776537629000206812:=True
def tw7052434379886022635:=True
def tw412683739410232771:=True
def tw9387374951832756362:=True
def tw14829349217561368735:=True
def tw12857780187120651192:=True
def tw1455795327450639029:=True
def tw4771761736722578517:=True
def tw6994969307856050897:=True
def tw9943374860569933548:=True
def tw9082699224487277702:=True
def tw11122463335811916333:=True
def tw15213638455884167278:=True
def tw11719566328897466601:=True
def tw18344422613577758664:=True
def tw15186935774635856328:=True
def tw4383368809839839940:=True
def tw3925168894590780508:=True
def tw9542814389078358209:=True
def tw18435925731345308940:=True
def tw3141728817735710026:=True
def tw15615078285178385472:=True
def tw8210092466997034669:=True
def tw7417126296163714134:=True
def tw1489721701899769572:=True
def tw11537420003973150902:=True
def tw14883516840749625638:=True
def tw15664283766964286842:=True
def tw13530123619817119870:=True
def tw3475635456777172582:=True
def tw4073748848782738933:=True
def tw11737384363883608103:=True
def tw2106725060508266352:=True
def tw16839211515110053903:=True
def tw17926763508552837471:=True
def tw5075229603819488307:=True
def tw13991765264630311871:=True
def tw13239571754274026776:=True
def tw6142352549101003660:=True
def tw16368932292664199737:=True
def tw10155058897853846321:=True
def tw5508519972394774819:=True
def tw12928313008935493665:=True
def tw11383235475711033144:=True
def tw3854385012370816894:=True
def tw6174296148258160808:=True
def tw8655343620069209121:=True
def tw17001236304203154036:=True
def tw2379479757548064860:=True
def tw9842813954249430314:=True
def tw1267566689611316325:=True
def tw8441692798304489668:=True
def tw7472055288513462545:=True
def tw9129744841283752420:=True
def tw17695287024943548261:=True
def tw13535943118587648401:=True
def tw10915005230553371551:=True
def tw14171133776828605515:=True
def tw11966148739401743094:=True
def tw17570091246369488822:=True
def tw7780333954873347723:=True
def tw8541572046844649163:=True
def tw15994393541804802998:=True
def tw1215316462763525809:=True
def tw8310894146427653851:=True
def tw671792629690132202:=True
def tw3982937437709666207:=True
def tw10153201994625622515:=True
def tw7427246428403653818:=True
def tw9820430626070539699:=True
def tw12914532517607784968:=True
def tw10772558338761320461:=True
def tw3584912846352754097:=True
def tw10860555051983787359:=True
def tw14198881927997128767:=True
def tw9206439130193532360:=True
def tw4389239365839683100:=True
def tw15288682089195675213:=True
def tw1602337029216469955:=True
def tw2488137581898023797:=True
def tw12240378376724254038:=True
def tw6770344474347967732:=True
def tw2871477646975243380:=True
def tw13602264530781607804:=True
def tw14362589741943434691:=True
def tw13520245221307204310:=True
def tw11963463305875549574:=True
def tw3668815588659161509:=True
def tw1272493349154813365:=True
def tw11629397563840232951:=True
def tw1304707530791051994:=True
def tw5968776041769379245:=True
def tw11037542095966180854:=True
def tw14907826234127702489:=True
def tw9957769836829626637:=True
def tw13289852098739166205:=True
def tw14324286302599795753:=True
def tw17985044047013187095:=True
def tw2451476507659706698:=True
def tw11915883709273134850:=True
def tw5682684528905523577:=True
def tw1630467930938384830:=True
def tw7883901878292391006:=True
def tw7028599432478101042:=True
def tw4101673605302305305:=True
def tw10155122439517571592:=True
def tw4230041078969916231:=True
def tw2808703194878726973:=True
def tw1776971515851928745:=True
def tw6026320660371116196:=True
def tw8608300728273902399:=True
def tw2930798793186521377:=True
def tw4887725078099887902:=True
def tw5739258367481549607:=True
def tw12529138052506558610:=True
def tw1376520545700479929:=True
def tw17310272122369762296:=True
def tw6213892143337032556:=True
def tw5424956989987821897:=True
def tw3245284382710143713:=True
def tw4104264229719164389:=True
def tw1623049977120968623:=True
def tw17649539007980175379:=True
def tw8506210162393345690:=True
def tw1495654851765105094:=True
def tw7294005351472862733:=True
def tw6660346286757713448:=True
def tw15443204888777131610:=True
def tw14911192264243991307:=True
def tw1159107560626073638:=True
def tw11855331379599895998:=True
def tw4145633296235794108:=True
def tw16003206073371291605:=True
def tw2343618242425256797:=True
def tw2152467177518360381:=True
def tw3696472037019617139:=True
def tw3864020537903648832:=True
def tw13525940108521924752:=True
def tw2548027777384510921:=True
def tw12480477938277367541:=True
def tw12726488946901141555:=True
def tw17189654579702053358:=True
def tw12905388848285373082:=True
def tw3560896339843994008:=True
def tw17626714685713340592:=True
def tw5288862532876692478:=True
def tw15927613335000623249:=True
def tw17112938100691702356:=True
def tw453056191134016788:=True
def tw15992177542241874800:=True
def tw4345020785344838320:=True
def tw4534811414692726913:=True
def tw8848260838120183694:=True
def tw15988533250410607424:=True
def tw12107530112270589194:=True
def tw5202520879103673063:=True
def tw3756192976490747886:=True
def tw18442321029742380169:=True
def tw16133390598997853449:=True
def tw10520930699462399792:=True
def tw10284996106363454967:=True
def tw1057940361249217832:=True
def tw13310519756550925300:=True
def tw2373223770184009999:=True
def tw7573977036460282058:=True
def tw15492226532727932218:=True
def tw1336977608763685112:=True
def tw13009701123991585372:=True
def tw242612156253262384:=True
def tw1388028547498571728:=True
def tw7824164369063544621:=True
def tw37854296903326530:=True
def tw8383003544635285355:=True
def tw13043448042475579280:=True
def tw9570797479631089541:=True
def tw5387213760751491807:=True
def tw16636877335271518619:=True
def tw3672649646814342808:=True
def tw1533771186974346916:=True
def tw1700732823203736583:=True
def tw5804550446327393894:=True
def tw7241885831721463021:=True
def tw5376461608846618519:=True
def tw18360766328638458923:=True
def tw16441432607433145978:=True
def tw4511587583672736382:=True
def tw16448534277664259621:=True
def tw18071241617270067979:=True
def tw14213426542461785209:=True
def tw7987673335846100673:=True
def tw3531608903607505089:=True
def tw15209879627153239900:=True
def tw14507464110352451485:=True
def tw11550251848862567274:=True
def tw13744156721740831227:=True
def tw16429037529800863220:=True
def tw3453189946684516149:=True
def tw16208894381096639081:=True
def tw3537073013360197288:=True
def tw6852986371123084022:=True
def tw3558351617979572687:=True
def tw9792092925924594550:=True
def tw12452919689528998568:=True
def tw10269208308826948538:=True
def tw3667904217343327150:=True
def tw12219007239090499074:=True
def tw4196911284642825292:=True
def tw9163536809967687256:=True
def tw17900603042140705596:=True
def tw6017979116058072502:=True
def tw700418964789609486:=True
def tw11095907869733407701:=True
def tw8296626186458651033:=True
def tw10055081601235349104:=True
def tw17583456122528197945:=True
def tw11754567451314603847:=True
def tw13259069343912649759:=True
def tw15912153996943882744:=True
def tw2824965715994571104:=True
def tw7271173290860508307:=True
def tw13869333225840911923:=True
def tw2284965689197350632:=True
def tw5930816172437388073:=True
def tw14409036502432005990:=True
def tw4021895872787191012:=True
def tw9290440197985803721:=True
def tw17413476911442733775:=True
def tw8742035460271732019:=True
def tw15504245753294758557:=True
def tw8266601999088202607:=True
def tw16906335927602346226:=True
def tw25960880422819970:=True
def tw14157902190413452402:=True
def tw4563333532471233618:=True
def tw2297095002519268535:=True
def tw9982497270921868203:=True
def tw5383083391088061437:=True
def tw15468937448581216000:=True
def tw117827657998522314:=True
def tw5624665531080508602:=True
def tw9484680403042181826:=True
def tw10811037141030272829:=True
def tw2321933257354048835:=True
def tw13366254366938114263:=True
def tw283278237702948187:=True
def tw7938795833178251692:=True
def tw7116776222066567520:=True
def tw13561867881031098831:=True
def tw4037441017420511444:=True
def tw16332226904626423129:=True
def tw5346524147183128170:=True
def tw4236284302658156633:=True
def tw6795962154275807999:=True
def tw11913360699158686193:=True
def tw8446930274536854705:=True
def tw2154303213245970651:=True
def tw5069186106239673830:=True
def tw606770325232895754:=True
def tw7031887896322921847:=True
def tw18228562910013279558:=True
def tw14316497020547122832:=True
def tw13512528487069351289:=True
def tw12924783663274490167:=True
def tw8326328046179614618:=True
def tw2040756783126266590:=True
def tw13070201602968257168:=True
def tw5356032200565476448:=True
def tw1151414003548459993:=True
def tw13313495896431321103:=True
def tw6919444303106595331:=True
def tw5450400196190120237:=True
def tw4601251144134220683:=True
def tw2647346702115588049:=True
def tw3765924849759950231:=True
def tw16153520784254786155:=True
def tw1071722216826631006:=True
def tw11134851244286507801:=True
def tw5365324012281712767:=True
def tw8961673107665575813:=True
def tw5757084625855796631:=True
def tw14895629090223175156:=True
def tw17887404902746441706:=True
def tw11441180706333814318:=True
def tw9275818506883659103:=True
def tw15416425482663987787:=True
def tw17510178485217322545:=True
def tw12771140191995616161:=True
def tw712915497582723540:=True
def tw8564491596342440841:=True
def tw865890513133248708:=True
def tw10103336280804313885:=True
def tw7070059175806582520:=True
def tw2527963452261178346:=True
def tw11635119698806263306:=True
def tw3239908370963163941:=True
def tw6596532784967002808:=True
def tw15303792710064682370:=True
def tw15188446407150955460:=True
def tw7631006304697955241:=True
def tw11155581653418737576:=True
def tw17734184673899602434:=True
def tw13987841363455785771:=True
def tw6877463687982991853:=True
def tw1322353090884208625:=True
def tw6177154519518644351:=True
def tw3223885209574409580:=True
def tw3792504894906400530:=True
def tw9043556615075565595:=True
def tw10267868944014746874:=True
end PySem.W.Fast
set_option maxRecDepth 100000
open PySem renaming wpAny_bind->Uq,wpAny_pure->Us,Value->Ux,Shared->UB,wpAny->UR,sizeLine->U1,Addr->U9,SetTable->Vf,mem_of_lookup->Vh,wpAny_setState_of->Vm,mainGlobals->Vo,Around->Vq,Program->VI,sizeLine_eq->V3,World->WE,evalArgs_none->aad
open PySem.Heap renaming get?_push_of_some->Ur,get?_push_size->Uy,lt_size->UX,get?_update_other->Vd,size_push->VJ,get?_update_self->VS,SameBut->Wc,get?_push_ne->Xv,size_update->Yr,get?_update_ne->YE,NewExcOf->aal
open List renaming length_append->Ut,all_eq_true->Uu,mem_cons_self->Uv,mem_cons_of_mem->Uw,mem_map->Uz,length_cons->UA,mem_append_left->UD,map_cons->UG,mem_append->UH,mem_append_right->UK,map_append->UL,mem_cons->UN,getElem?_eq_some_iff->UO,mem_map_of_mem->UP,getElem_mem->UQ,getElem?_map->UT,append_assoc->UU,mem_singleton->UY,map_map->UZ,lookup_cons->U0,append_nil->U2,mem_filter->U5,length_nil->U8,replicate->Va,map_congr_left->Vb,mem_of_getElem?->Ve,length_drop->Vg,length_take->Vj,all_cons->Vl,nodup_cons->Vn,nil_append->Vt,take_of_length_le->Vu,mem_range->Vv,range->Vx,length_singleton->Vy,map_nil->Vz,findIdx?_eq_some_iff_getElem->VO,zip_cons_cons->VP,find?_cons->VU,size_toArray->VV,count_append->VZ,mem_of_mem_take->V4,find?_eq_none->V6,drop_eq_getElem_cons->V7,ext_getElem->Wa,any_eq_true->Wb,nodup_append->Wd,not_mem_nil->Wh,getElem_of_mem->Wi,getElem?_eq_none->Wm,pairwise_cons->Wq,cons_append->Wr,map_take->Wx,mapM_cons->Wy,map_eq_nil_iff->WD,perm_ext_iff_of_nodup->WG,getElem_map->WJ,length_filter_le->WQ,length->WR,mem_of_find?_eq_some->WT,getElem?_cons_zero->W5,nodup_nil->Xb,drop_eq_nil_of_le->Xf,length_pos_of_mem->Xg,count_pos_iff->Xh,forIn_cons->Xk,of_mem_zip->Xl,take_append_drop->Xp,singleton_append->Xs,pairwise_map->Xx,length_range->Xy,exists_cons_of_ne_nil->XC,mem_iff_getElem->XE,forall_mem_cons->XF,mem_flatMap->XO,cons_ne_nil->XQ,length_pos_iff->XT,length_erase_of_mem->XZ,foldl_cons->X1,any_eq_false->Yc,flatMap_cons->Yh,map_id->Yi,drop_left->Yk,drop_drop->Yl,toArray->Yo,getElem?_set_ne->Ys,count_singleton->Yx,filter_eq_self->YG,perm_iff_count->YH,length_eraseIdx_of_lt->YM,mem_filterMap->YQ,findIdx?_cons->YR,all_nil->YS,filter_append->YX,getElem?_eq_none_iff->YZ,findIdx?_eq_none_iff->Y1,lt_irrefl->Y2,pairwise_iff_getElem->Y3,forIn_nil->Y4,extract_eq_drop_take->Y5,ext_getElem?->Y7,lookup->Zq,length_eq_zero_iff->Zw,getElem?_cons_succ->ZC,getElem?_set_self->ZJ,drop_of_length_le->ZK,range_succ_eq_map->ZL,pairwise_lt_range->ZR,filter_eq_nil_iff->ZV,all_map->ZY,countP_map->Z3,dropLast_concat->Z7,nodup_iff_count->Z8,drop_zero->Z9,take_succ->aaa,replicate_succ->aac,take_succ_cons->aaf,filterMap_cons->aag,takeWhile_cons->aai,lt_trans->aam
open Bool renaming and_eq_true->UC,false_eq_true->UJ,eq_iff_iff->Wf,not_true->Wv,false_ne_true->WL,false_and->W9,not_false->Xc,or_eq_true->Xm,true_and->Xw,and_false->Yj,or_eq_false_iff->Yv,not_eq_true'->Zp,and_true->ZA
open Array renaming getElem?_eq_getElem->UE,getD_eq_getD_getElem?->U7,size_map->VE,length_toList->VR,getD->Wj,getElem_of_mem->Wt,getElem?_eq_some_iff->XA,mem_toList_iff->XD,getElem?_push->XS,forIn_toList->X3,getElem?_toList->Yn,getElem?_eq_none_iff->YN,getElem_mem->Zc,toList_push->Zf,toList_map->ZH,getElem?_extract->ZQ,toList_filterMap->ZS,toList_extract->Z6
open Option renaming map_eq_some_iff->UI,isSome_iff_exists->VB,bind_eq_some_iff->Wu,getD_some->WH,bind_some->WK,join_some->W8,getD_none->ZF,map_eq_none_iff->ZW
open Nat renaming le_refl->UM,le_trans->UW,lt_of_lt_of_le->U4,ne_of_lt->U6,zero_le->Vc,ne_of_gt->VF,lt_succ_of_lt->VK,lt_irrefl->V8,lt_succ_self->Wg,lt_trans->Wz,le_succ->WC,pow_succ->Xo,add_assoc->Xu,le_add_right->XR,le_of_lt->XU,le_of_eq->XW,le_add_left->X4,reduceAdd->X7,mod_lt->Yf,min_le_right->Yq,mul_le_mul_right->Yw,lt_of_le_of_lt->YO,add_zero->YT,succ_pos->YU,add_sub_cancel->YW,lt_trichotomy->Zj,reduceSub->ZE,succ_le_succ->ZG,mod_eq_of_lt->ZI,lt_or_ge->ZZ,pow_le_pow_right->Z5,mul_comm->aaq,succ_mul->aar
open PySem.Paired renaming length->US
open PySem.W renaming Frag->U3,instObj->VA,emptyDict->VC,findIn->VD,keepIn->VL,nsIn->VN,fnOf->Wo,codeIn->Xa,plainGet->XN,isFn->XX,cellsFrom_some->X9,hasDictIn->Yd,plainGet_of->YB,makesIn->YC,lookIn->Y0,plainOver->Y8,takerIn->ZX,callWith_K0->aab,callWith_K->aaj,codeRec_of->aak,mg_of->aao,handedIn->aat
open PySem.SetTable renaming insertAt->Vi,runEnd->Vk,bits->Vp,below->Vw,leap->VH,turns->Wl,Probe->WA,grown->WB,advance->W7,fresh->XM,layClean->Yg,sizeAbove->YV,has->Z1,fill->aan
open PySem.Builtin.SmallTypes renaming nextOf->Vr,ownedTupleIsFree->Vs,ownedTupleHandOut->XK
open Classical renaming propDecidable->VG,byContradiction->Wk,skolem->aav
open PySem.Around renaming under_plainId->VM
open PySem.Value renaming none->VQ,ref->Ws,str->Ym,builtin->Yy,type->Zl,int->aax
open PySem.Heap.SameBut renaming update->VT
open PySem.Obj renaming mapSeq->VW,data_mapFields->WM,isFreed_of_fields->Yp,cls_mapFields->Zi,mapFields->Zx,data_mapDictKeys->Z4,putSet->aap
open PyProof.Rows renaming slot_tuple_getitem->VX,callWith_type1->Xi,lt_str->aae
open Function renaming comp_def->VY
open Ne renaming symm->V0
open PySem.Str renaming ofString->V5
open PySem.NameKind renaming free->V9,cell->Zr
open Option.some renaming inj->We
open List.cons renaming inj->Ww
open PySem.SeqAt renaming EqAt->WI
open Int renaming emod_lt_of_pos->WN,toNat_natCast->WY,emod_nonneg->WZ,lt_irrefl->Zu,toNat->aay
open PySem.Builtin.Slice renaming slicePlaces->WS,sliceAdjust->XI,sliceApplied->YJ
open PySem.PassesOwn renaming never->WU
open PySem.Builtin.Tuple renaming tupleExact->WV,tupleItemsOf->Xz,tupleHashOf->XH
open PySem.Builtin.List renaming listTooLong->WW,listExtendWith->Xr,listLengthHint->YF,listSameRef->Zm
open PySem.F renaming slot_tuple_getattribute->WX,slot_list_getattribute->W3,slot_zip_getattribute->W6,slot_str_split->Xd,slot_tuple_hash->Xe,slot_zip_next->Xn,called_set->Xq,args_str_split_2->XY,entry_str_split->X2,plainAttrs_dict->X5,plainAttrs_list->X6,slot_tuple_iterator_next->X8,plainAttrs_str->Yb,slot_list_append->Yt,slot_list_extend->Yu,slot_dict_setdefault->Yz,kt_typeCall_dict_1->YK,plain_extend_loop->Y6,slot_tuple_count->Zd,slot_tuple_index->Ze,args_dict_init_2->Zg,plainAttrs_tuple->Zo,slot_list_count->Zs,entry_dict_init->Zt,args_zip_next_1->Zv,plain_list_iadd->Zy,slot_dict_items->Zz,kt_called_dict->ZO,entry_zip_next->ZP,slot_dict_get->Z0
open PySem.SetTable.probe renaming go->W2
open PySem.Builtin.Dict renaming updateFrom->W4,selfAndRest->Zh,pairItems->ZN
open ForInStep renaming yield->Xj
open PySem.Calls renaming spliced_nil->Xt,call_function_entry->XJ,spliced_cons->X0,Name_function_global->YI,callWith_builtin->ZM
open PySem.Txt renaming split->XG,stripChars->YY,slice->aaw
open PySem.SetTable.layClean renaming free->Ya
open PySem.SetTable.below renaming go->Ye
open PySem.Shared renaming TypeIs->YA
open PySem.Builtin.Str renaming strSliceIndices->YD
open PySem.Manifest.ParamKind renaming posOnly->YL
open False renaming elim->Y9
open PySem.AutoSeq1 renaming sub_tuple_tuple->Za,wpAny_loadPart'->Zb
open List.Pairwise renaming imp_of_mem->Zk,nil->Zn
open PySem.Manifest.Receiver renaming self->ZT,none->ZU
open PySem.SetTable.sizeAbove renaming go->Z2
open PySem.W.KT renaming app_list->aah
open PySem.IsL renaming update->aas
open Std.Legacy renaming Range->aau
theorem Lm9 {α:Type _} {β:Type _} {as:List α} (f:α->β):(as.map f).length=as.length:=List.length_map f
theorem Ge9 {α:Type _} {l:List α} {i:Nat} (h:i<l.length):l[i]?=some l[i]:=List.getElem?_eq_getElem h
theorem Gd9 {α:Type _} {l:List α} {i:Nat} {a:α}:l.getD i a=(l[i]?).getD a:=List.getD_eq_getElem?_getD
namespace Om
theorem q1 {a m k:Nat} (h:a<=m:=by with_reducible assumption) (g:m<k:=by decide):a<k:=YO h g
theorem q2 {a b k:Nat} (h:a<b:=by with_reducible assumption) (e:b=k:=by with_reducible assumption):a<k:=e▸h
theorem q3 {a b k:Nat} (h:a<b:=by with_reducible assumption) (e:k=b:=by with_reducible assumption):a<k:=e▸h
theorem q4 {a b m k:Nat} (e:a=b:=by with_reducible assumption) (h:b<=m:=by with_reducible assumption) (g:m<=k:=by decide):a<=k:=UW (e▸h) g
theorem q5 {a b m k:Nat} (e:b=a:=by with_reducible assumption) (h:b<=m:=by with_reducible assumption) (g:m<=k:=by decide):a<=k:=UW (e▸h) g
theorem q6 {a m k:Nat} (e:a=m:=by with_reducible assumption) (g:m<=k:=by decide):a<=k:=e▸g
end Om
local macro_rules|`(tactic| omega)=>`(tactic| first|exact Om.q0|exact Om.q1|exact Om.q2|exact Om.q3|exact Om.q4|exact Om.q5|exact Om.q6|lia -abstractProof)
local macro_rules|`(tactic| grind)=>`(tactic| grind -abstractProof)
set_option bootstrap.genMatcherCode false
set_option compiler.extract_closed false
noncomputable section
namespace M
open PySem
abbrev Cs:=List Nat
theorem sP {g:Prop} (h:∀G:Prop,(g->G)->G):g:=h g id
inductive T where
 | bZ|bl (b:Bool)|int (i:Int)|str (s:Cs)|tup (xs:List T)|lst (xs:List T)|aP (ks:List (T × T))|obj (c:Str) (fs:List (Str × T))|ref (n:Nat)|cl (c:Ux)
abbrev aa:=List T
abbrev Fr:=List (Option T)
noncomputable def at_ {α:Type}:List α->Nat->Option α
 | [],_=>none
 | c::L,n=>if n=L.length then some c else at_ L n
noncomputable def put {α:Type}:List α->Nat->α->List α
 | [],_,_=>[]
 | c::L,n,d=>if n=L.length then d::L else c::put L n d
inductive R (α:Type) where
 | ok (a:α) (L:aa)|bad
noncomputable def R.bind {α β:Type}:R α->(α->aa->R β)->R β
 | .ok a L,f=>f a L
 | .bad,_=>.bad
theorem R.of {α β:Type} {r:R α} {f:α->aa->R β} {b L} (h:r.bind f=.ok b L):∃a L1,r=.ok a L1/\f a L1=.ok b L:=by
 cases r with
 | ok a L1=>exact⟨a,L1,rfl,h⟩
 | bad=>cases h
inductive O where
 | nx (φ:Fr) (L:aa)|rt (t:T) (L:aa)|bk (φ:Fr) (L:aa)|ct (φ:Fr) (L:aa)|bad
noncomputable def O.of {α:Type} (r:R α) (f:α->aa->O):O:=match r with
 | .ok a L=>f a L
 | .bad=>.bad
abbrev SE:=Fr->aa->R T
abbrev ST:=Fr->aa->R Bool
abbrev SA:=Fr->aa->R (List T)
abbrev SS:=Fr->aa->O
abbrev Fn:=List T->aa->R T
abbrev SI:=Fr->aa->R (List T × (aa->Prop))
noncomputable def vw (L:aa):T->T
 | .ref n=>(at_ L n).getD .bZ
 | t=>t
noncomputable def lim:Nat:=16777216
noncomputable def cb {α:Type} (c:Prop) [Decidable c] (r:R α):R α:=if c then r else .bad
noncomputable def mk (fz:Bool) (t:T) (L:aa):R T:=if fz=true then .ok t L else .ok (.ref L.length) (t::L)
noncomputable def fo (fz:Bool) (xs:List T) (L:aa):R T:=cb (xs.length<=lim) (mk fz (.lst xs) L)
noncomputable def lift (o:Option T) (L:aa):R T:=match o with
 | some t=>.ok t L
 | none=>.bad
noncomputable def dat:Nat->T->Bool
 | _+1,.bZ=>true
 | _+1,.bl _=>true
 | _+1,.int _=>true
 | _+1,.str _=>true
 | n+1,.tup xs=>xs.all (dat n)
 | n+1,.lst xs=>xs.all (dat n)
 | _,_=>false
noncomputable def nH (f:T->T->Bool):List T->List T->Bool
 | [],[]=>true
 | a::r,b::q=>f a b && nH f r q
 | _,_=>false
noncomputable def uQ:Nat->T->T->Bool
 | _+1,.bZ,.bZ=>true
 | _+1,.bl a,.bl b=>a == b
 | _+1,.bl a,.int b=>(if a then 1 else 0) == b
 | _+1,.int a,.bl b=>a == (if b then 1 else 0)
 | _+1,.int a,.int b=>a == b
 | _+1,.str a,.str b=>a == b
 | n+1,.tup a,.tup b=>nH (uQ n) a b
 | n+1,.lst a,.lst b=>nH (uQ n) a b
 | _,_,_=>false
noncomputable abbrev eqT:T->T->Bool:=uQ 8
noncomputable def j6:T->Bool
 | .int _=>true
 | .str _=>true
 | _=>false
noncomputable def kd:Nat->T->Bool
 | n+1,.tup xs=>xs.all (kd n)
 | _+1,t=>j6 t
 | 0,_=>false
noncomputable def En:T->Bool
 | .tup xs=>xs.all (kd 6)
 | _=>false
noncomputable def gq (ks:List T):Bool:=ks.all j6 || ks.all En
noncomputable def dM (ks:List (T × T)) (y:T):Prop:=gq (y::ks.map (·.1))=true
noncomputable instance (ks:List (T × T)) (y:T):Decidable (dM ks y):=by unfold dM;exact inferInstance
open Classical in
def du (ks:List (T × T)) (k:T):Option T:=(ks.find? fun p=>decide (p.1=k)).map (·.2)
open Classical in
def dput (ks:List (T × T)) (k v:T):List (T × T) :=
 if (ks.any fun p=>decide (p.1=k))=true then ks.map (fun p=>if p.1=k then (p.1,v) else p) else ks++[(k,v)]
noncomputable def uR (i j:Int):Prop:=(-(2 ^ 64)<i/\i<2 ^ 64)\/(-(2 ^ 64)<j/\j<2 ^ 64)
instance (i j:Int):Decidable (uR i j):=VG _
noncomputable def xy (j:Int):Prop:=0<j/\j<1073741824
instance (j:Int):Decidable (xy j):=VG _
noncomputable def Eo (i j:Int):Prop:=0<=j/\j<=1000000/\i.natAbs<2 ^ 64
instance (i j:Int):Decidable (Eo i j):=VG _
noncomputable def sZ (j:Int):Prop:=-(2 ^ 62)<=j/\j<=1000000
instance (j:Int):Decidable (sZ j):=VG _
def oI (op:Operator) (i j:Int) (L:aa):R T:=match op with
 | .Add=>.ok (.int (i+j)) L
 | .Sub=>.ok (.int (i - j)) L
 | .Mult=>cb (uR i j) (.ok (.int (i * j)) L)
 | .FloorDiv=>cb (xy j) (.ok (.int (i / j)) L)
 | .Mod=>cb (0<j) (.ok (.int (i % j)) L)
 | .Pow=>cb (Eo i j) (.ok (.int (i ^ j.toNat)) L)
 | _=>.bad
def oS (op:Operator) (a:Cs) (y:T) (L:aa):R T:=match y with
 | .str b=>match op with
  | .Add=>cb (a.length+b.length<=lim) (.ok (.str (a++b)) L)
  | _=>.bad
 | .int j=>match op with
  | .Mult=>match a with
   | [ch]=>cb (sZ j) (.ok (.str (Va j.toNat ch)) L)
   | _=>.bad
  | _=>.bad
 | _=>.bad
def aX (fz:Bool) (op:Operator) (x y:T) (L:aa):R T:=match vw L x with
 | .int i=>match vw L y with
  | .int j=>oI op i j L
  | _=>.bad
 | .str a=>oS op a (vw L y) L
 | .lst a=>match vw L y with
  | .lst b=>match op with
   | .Add=>fo fz (a++b) L
   | _=>.bad
  | _=>.bad
 | _=>.bad
noncomputable def ag (op:Operator) (x y:T) (L:aa):R T:=match op,x,y with
 | .Add,.int i,.int j=>.ok (.int (i+j)) L
 | .Sub,.int i,.int j=>.ok (.int (i - j)) L
 | _,_,_=>.bad
noncomputable def Ep (x y:T) (L:aa):R Bool:=cb (dat 8 (vw L x)=true/\dat 8 (vw L y)=true) (.ok (eqT (vw L x) (vw L y)) L)
noncomputable def LI (x y:T) (L:aa):R Bool:=match x,y with
 | .int i,.int j=>.ok (i != j) L
 | .str a,.str b=>.ok (a != b) L
 | _,_=>.bad
noncomputable def LJ (x y:T) (L:aa):R Bool:=match x,y with
 | .int i,.int j=>.ok (decide (i<j)) L
 | .str a,.str b=>.ok (decide (a<b)) L
 | _,_=>.bad
noncomputable def LK (x y:T) (L:aa):R Bool:=match x,y with
 | .int i,.int j=>.ok (decide (j<i)) L
 | _,_=>.bad
noncomputable def Er (x y:T) (L:aa):R Bool:=match x,y with
 | .int i,.int j=>.ok (decide (i<=j)) L
 | _,_=>.bad
def nL (x y:T) (L:aa):R Bool:=match vw L y with
 | .str b=>match x with
  | .str [ch]=>.ok (decide (ch∈b)) L
  | _=>.bad
 | .lst ys=>cb (dat 8 x=true/\ys.all (dat 8)=true) (.ok (ys.any fun y=>eqT y x) L)
 | .tup ys=>cb (dat 8 x=true/\ys.all (dat 8)=true) (.ok (ys.any fun y=>eqT y x) L)
 | .aP ks=>cb (dM ks x) (.ok (du ks x).isSome L)
 | _=>.bad
noncomputable def Dv:T->Bool
 | .bZ=>true
 | _=>false
noncomputable def R.map {α β:Type} (f:α->β):R α->R β
 | .ok a L=>.ok (f a) L
 | .bad=>.bad
def Bh (op:CmpOp) (x y:T) (L:aa):R Bool:=match op with
 | .Eq=>Ep x y L
 | .NotEq=>LI x y L
 | .Lt=>LJ x y L
 | .Gt=>LK x y L
 | .LtE=>Er x y L
 | .GtE=>Er y x L
 | .In=>nL x y L
 | .NotIn=>(nL x y L).map (!·)
 | .Is=>match y with
  | .bZ=>.ok (Dv x) L
  | _=>.bad
 | .IsNot=>match y with
  | .bZ=>.ok (!Dv x) L
  | _=>.bad
def cmp (op:CmpOp) (x y:T) (L:aa):R T:=(Bh op x y L).map .bl
noncomputable def place (n:Nat) (i:Int):Option Nat:=if 0<=i then (if i<n then some i.toNat else none) else if -(n:Int)<=i then some (i+n).toNat else none
def ix (x y:T) (L:aa):R T:=match vw L x with
 | .str s=>match y with
  | .int i=>lift (((place s.length i).bind fun k=>s[k]?).map fun ch=>.str [ch]) L
  | _=>.bad
 | .tup xs=>match y with
  | .int i=>lift ((place xs.length i).bind fun k=>xs[k]?) L
  | _=>.bad
 | .lst xs=>match y with
  | .int i=>lift ((place xs.length i).bind fun k=>xs[k]?) L
  | _=>.bad
 | .aP ks=>cb (dM ks y) (lift (du ks y) L)
 | _=>.bad
noncomputable def clip (n d:Nat):Option Int->Nat
 | none=>d
 | some i=>if i<0 then (i+n).toNat else min i.toNat n
noncomputable def cut {α:Type} (xs:List α) (lo hi:Option Int):List α:=(xs.drop (clip xs.length 0 lo)).take (clip xs.length xs.length hi - clip xs.length 0 lo)
noncomputable def i9 (fz:Bool) (x:T) (lo hi:Option Int) (L:aa):R T:=match vw L x with
 | .str s=>match lo,hi with
  | some i,some j=>cb (0<=i/\i<=j/\j<=s.length) (.ok (.str ((s.drop i.toNat).take (j - i).toNat)) L)
  | _,_=>.bad
 | .tup xs=>.ok (.tup (cut xs lo hi)) L
 | .lst xs=>fo fz (cut xs lo hi) L
 | _=>.bad
noncomputable def fld (f:Str) (x:T) (L:aa):R T:=match vw L x with
 | .obj _ fs=>lift (fs.lookup f) L
 | _=>.bad
noncomputable def v (i:Nat):SE:=fun φ L=>lift ((φ[i]?).join) L
noncomputable def c (x:T):SE:=fun _ L=>.ok x L
noncomputable def no {α:Type}:Fr->aa->R α:=fun _ _=>.bad
noncomputable def iA:List SE->SA
 | [],_,L=>.ok [] L
 | m::ms,φ,L=>(m φ L).bind fun t L1=>(iA ms φ L1).bind fun ts L2=>.ok (t::ts) L2
noncomputable def b1 (a:SE) (f:T->aa->R T):SE:=fun φ L=>(a φ L).bind f
noncomputable def b2 (a b:SE) (f:T->T->aa->R T):SE:=fun φ L=>(a φ L).bind fun x L1=>(b φ L1).bind fun y L2=>f x y L2
noncomputable def neg (x:T) (L:aa):R T:=match x with
 | .int i=>.ok (.int (-i)) L
 | _=>.bad
def wo (op n6:CmpOp) (a b d:SE):SE:=fun φ L=>(a φ L).bind fun x L1=>(b φ L1).bind fun y L2=>(Bh op x y L2).bind fun k L3=>if k=true then (d φ L3).bind fun z L4=>cmp n6 y z L4 else .ok (.bl false) L3
noncomputable def tv (a:SE):ST:=fun φ L=>(a φ L).bind fun x L1=>match x with
 | .bl b=>.ok b L1
 | _=>.bad
noncomputable def Bi (a b:ST):ST:=fun φ L=>(a φ L).bind fun x L1=>if x=true then b φ L1 else .ok false L1
noncomputable def LL (a b:ST):ST:=fun φ L=>(a φ L).bind fun x L1=>if x=true then .ok true L1 else b φ L1
noncomputable def d9 (a:ST):ST:=fun φ L=>(a φ L).map (!·)
noncomputable def Bj (a b:SE):SE:=fun φ L=>(tv a φ L).bind fun x L1=>if x=true then b φ L1 else .ok (.bl false) L1
noncomputable def LM (a b:SE):SE:=fun φ L=>(tv a φ L).bind fun x L1=>if x=true then .ok (.bl true) L1 else b φ L1
noncomputable def mc (a:SE):SE:=fun φ L=>(tv a φ L).map fun b=>.bl (!b)
noncomputable def yes:ST:=fun _ L=>.ok true L
noncomputable def Mo (k:ST) (a b:SE):SE:=fun φ L=>(k φ L).bind fun x L1=>if x=true then a φ L1 else b φ L1
noncomputable def tup (ms:List SE):SE:=fun φ L=>(iA ms φ L).bind fun ts L1=>.ok (.tup ts) L1
noncomputable def lst (fz:Bool) (ms:List SE):SE:=fun φ L=>(iA ms φ L).bind fun ts L1=>fo fz ts L1
noncomputable def wq (fz:Bool):SE:=fun _ L=>mk fz (.aP []) L
noncomputable def Es:Option SE->Fr->aa->R (Option Int)
 | none,_,L=>.ok none L
 | some m,φ,L=>(m φ L).bind fun t L1=>match t with
  | .int i=>.ok (some i) L1
  | _=>.bad
noncomputable def sl (fz:Bool) (a:SE) (lo hi:Option SE):SE:=fun φ L=>(a φ L).bind fun x L1=>(Es lo φ L1).bind fun i L2=>(Es hi φ L2).bind fun j L3=>i9 fz x i j L3
noncomputable def ae (f:Fn) (ms:List SE):SE:=fun φ L=>(iA ms φ L).bind f
noncomputable def oX (m:Str) (f:Str->Option Fn) (a:SE) (ms:List SE):SE:=fun φ L=>(a φ L).bind fun x L1=>match vw L1 x with
 | .obj c fs=>match f c with
  | some F=>if (fs.lookup m).isNone=true then (iA ms φ L1).bind fun ts L2=>F (x::ts) L2 else .bad
  | none=>.bad
 | _=>.bad
inductive Ty where
 | s|l|t|d
noncomputable def Dw (L:aa) (t:T):Option Ty:=match vw L t with
 | .str _=>some .s
 | .lst _=>some .l
 | .tup _=>some .t
 | .aP _=>some .d
 | _=>none
noncomputable def aM (f:Ty->Option (T->Fn)) (a:SE) (ms:List SE):SE:=fun φ L=>(a φ L).bind fun x L1=>match (Dw L1 x).bind f with
 | some F=>(iA ms φ L1).bind fun ts L2=>F x ts L2
 | none=>.bad
open Classical in
def stays (x:T) (L:aa):aa->Prop:=fun L'=>∀n,x=.ref n->at_ L' n=at_ L n
noncomputable def items (x:T) (L:aa):Option (List T):=match vw L x with
 | .str s=>some (s.map fun ch=>.str [ch])
 | .tup xs=>some xs
 | .lst xs=>some xs
 | _=>none
def src (a:SE):SI:=fun φ L=>(a φ L).bind fun x L1=>match items x L1 with
 | some xs=>.ok (xs,stays x L1) L1
 | none=>.bad
noncomputable def upTo (lo:Int) (n:Nat):List T:=(Vx n).map fun(k:Nat)=>.int (lo+k)
noncomputable def s9 (i:Int):Prop:=-(2 ^ 62)<=i/\i<2 ^ 62
instance (i:Int):Decidable (s9 i):=VG _
def xA (a b:SE):SI:=fun φ L=>(a φ L).bind fun x L1=>(b φ L1).bind fun y L2=>match x,y with
 | .int i,.int j=>cb (s9 i/\s9 j) (.ok (upTo i (j - i).toNat,fun _=>True) L2)
 | _,_=>.bad
noncomputable def num (n:Nat):List T->List T
 | []=>[]
 | x::r=>.tup [.int n,x]::num (n+1) r
def LN (a:SE):SI:=fun φ L=>(a φ L).bind fun x L1=>match vw L1 x with
 | .lst xs=>.ok (num 0 xs,stays x L1) L1
 | _=>.bad
noncomputable def zp (xs ys:List T):List T:=(xs.zip ys).map fun p=>.tup [p.1,p.2]
def Mp (a b:SE):SI:=fun φ L=>(src a φ L).bind fun p L1=>(src b φ L1).bind fun q L2=>.ok (zp p.1 q.1,fun L'=>p.2 L'/\q.2 L') L2
noncomputable def br (ks:List (T × T)):List T:=ks.map fun p=>.tup [p.1,p.2]
def Mq (a:SE):SI:=fun φ L=>(a φ L).bind fun x L1=>match vw L1 x with
 | .aP ks=>.ok (br ks,stays x L1) L1
 | _=>.bad
inductive Tg where
 | one (i:Nat)|many (is:List Nat)
noncomputable def sets:List Nat->List T->Fr->Fr
 | i::is,t::ts,φ=>sets is ts (φ.set i (some t))
 | _,_,φ=>φ
noncomputable def Tg.set:Tg->T->Fr->Option Fr
 | .one i,t,φ=>some (φ.set i (some t))
 | .many is,.tup ts,φ=>if ts.length=is.length then some (sets is ts φ) else none
 | _,_,_=>none
open Classical in
def compLoop (k:aa->Prop) (tg:Tg) (ts:ST) (m:SE) (ψ:Fr):List T->List T->aa->R (List T)
 | [],acc,L=>if k L then .ok acc L else .bad
 | t::r,acc,L=>if k L/\acc.length<lim then match tg.set t ψ with
   | some ψ1=>(ts ψ1 L).bind fun b L1=>if b=true then (m ψ1 L1).bind fun y L2=>compLoop k tg ts m ψ r (acc++[y]) L2 else compLoop k tg ts m ψ r acc L1
   | none=>.bad
  else .bad
noncomputable def inner (aU:List (Option Nat)) (φ:Fr):Fr:=aU.map fun o=>o.bind fun i=>(φ[i]?).join
def comp (fz:Bool) (s:SI) (aU:List (Option Nat)) (tg:Tg) (ts:ST) (m:SE):SE:=fun φ L=>(s φ L).bind fun u L1=>(compLoop u.2 tg ts m (inner aU φ) u.1 [] L1).bind fun xs L2=>mk fz (.lst xs) L2
noncomputable def O.next (o:O) (f:Fr->aa->O):O:=match o with
 | .nx φ L=>f φ L
 | o=>o
noncomputable def ab:List SS->SS
 | [],φ,L=>.nx φ L
 | s::r,φ,L=>(s φ L).next (ab r)
noncomputable def pass:SS:=fun φ L=>.nx φ L
noncomputable def brk:SS:=fun φ L=>.bk φ L
noncomputable def cnt:SS:=fun φ L=>.ct φ L
noncomputable def fW:SS:=fun _ _=>.bad
noncomputable def asg (tg:Tg) (m:SE):SS:=fun φ L=>O.of (m φ L) fun t L1=>match tg.set t φ with
 | some φ1=>.nx φ1 L1
 | none=>.bad
noncomputable def fX (m:SE):SS:=fun φ L=>O.of (m φ L) fun _ L1=>.nx φ L1
noncomputable def ret (m:SE):SS:=fun φ L=>O.of (m φ L) fun t L1=>.rt t L1
noncomputable def iff (k:ST) (a b:SS):SS:=fun φ L=>O.of (k φ L) fun x L1=>if x=true then a φ L1 else b φ L1
noncomputable def aug (op:Operator) (i:Nat) (m:SE):SS:=fun φ L=>O.of (b2 (v i) m (ag op) φ L) fun t L1=>.nx (φ.set i (some t)) L1
noncomputable def jq (fs:List (Str × T)) (f:Str) (t:T):List (Str × T):=match fs with
 | []=>[(f,t)]
 | (g,u)::r=>if g=f then (f,t)::r else (g,u)::jq r f t
noncomputable def ta (f:Str) (x t:T) (L:aa):Option aa:=match x with
 | .ref n=>match at_ L n with
  | some (.obj c fs)=>if fs.length<200 then some (put L n (.obj c (jq fs f t))) else none
  | _=>none
 | _=>none
noncomputable def ja (o:SE) (f:Str) (m:SE):SS:=fun φ L=>O.of (m φ L) fun t L1=>O.of (o φ L1) fun x L2=>match ta f x t L2 with
 | some L3=>.nx φ L3
 | none=>.bad
def jr (x y t:T) (L:aa):Option aa:=match x with
 | .ref n=>match at_ L n with
  | some (.aP ks)=>if ks.length<lim/\dM ks y then some (put L n (.aP (dput ks y t))) else none
  | some (.lst xs)=>match y with
   | .int i=>if 0<=i/\i<xs.length then some (put L n (.lst (xs.set i.toNat t))) else none
   | _=>none
  | _=>none
 | _=>none
def qJ (o i m:SE):SS:=fun φ L=>O.of (m φ L) fun t L1=>O.of (o φ L1) fun x L2=>O.of (i φ L2) fun y L3=>match jr x y t L3 with
 | some L4=>.nx φ L4
 | none=>.bad
def Iz (x y:T) (L:aa):R T:=match vw L x with
 | .aP ks=>cb (dM ks y) (lift (du ks y) L)
 | _=>.bad
def xB (op:Operator) (o i m:SE):SS:=fun φ L=>O.of (o φ L) fun x L1=>O.of (i φ L1) fun y L2=>O.of (Iz x y L2) fun z L3=>O.of (m φ L3) fun t L4=>O.of (ag op z t L4) fun r L5=>match jr x y r L5 with
 | some L6=>.nx φ L6
 | none=>.bad
noncomputable def qB (k:ST) (b:SS):Nat->SS
 | 0,_,_=>.bad
 | n+1,φ,L=>O.of (k φ L) fun x L1=>if x=true then match b φ L1 with
   | .nx φ2 L2=>qB k b n φ2 L2
   | .ct φ2 L2=>qB k b n φ2 L2
   | .bk φ2 L2=>.nx φ2 L2
   | o=>o
  else .nx φ L1
open Classical in
def forL (k:aa->Prop) (tg:Tg) (b:SS):List T->SS
 | [],φ,L=>if k L then .nx φ L else .bad
 | t::r,φ,L=>if k L then match tg.set t φ with
   | some φ1=>match b φ1 L with
    | .nx φ2 L2=>forL k tg b r φ2 L2
    | .ct φ2 L2=>forL k tg b r φ2 L2
    | .bk φ2 L2=>.nx φ2 L2
    | o=>o
   | none=>.bad
  else .bad
def bQ (s:SI) (tg:Tg) (b:SS):SS:=fun φ L=>O.of (s φ L) fun u L1=>forL u.2 tg b u.1 φ L1
mutual
noncomputable def lt (n:Nat):T->Bool
 | .ref k=>decide (k<n)
 | .tup xs=>cf n xs
 | .lst xs=>cf n xs
 | .aP ks=>A8 n ks
 | .obj _ fs=>nJ n fs
 | _=>true
noncomputable def cf (n:Nat):List T->Bool
 | []=>true
 | x::xs=>lt n x && cf n xs
noncomputable def A8 (n:Nat):List (T × T)->Bool
 | []=>true
 | (x,y)::xs=>lt n x && lt n y && A8 n xs
noncomputable def nJ (n:Nat):List (Str × T)->Bool
 | []=>true
 | (_,y)::xs=>lt n y && nJ n xs
end
noncomputable def cg (n0:Nat) (L:aa):Nat->T->Option T
 | 0,_=>none
 | k+1,t=>if lt n0 t=true then some t else match t with
  | .ref n=>match at_ L n with
   | some c=>cg n0 L k c
   | none=>none
  | .tup xs=>(xs.mapM (cg n0 L k)).map .tup
  | .lst xs=>(xs.mapM (cg n0 L k)).map .lst
  | .aP ks=>(ks.mapM fun p=>if lt n0 p.1=true then (cg n0 L k p.2).map fun x=>(p.1,x) else none).map .aP
  | .obj c fs=>(fs.mapM fun p=>(cg n0 L k p.2).map fun x=>(p.1,x)).map (.obj c)
  | _=>none
noncomputable def old (L Lo:aa):Prop:=∀n c,at_ Lo n=some c->at_ L n=some c\/lt L.length c=true
open Classical in
def fin (L:aa) (t:T) (L':aa):R T:=if old L (L'.drop (L'.length - L.length)) then lift (cg L.length L' 9 t) (L'.drop (L'.length - L.length)) else .bad
def run (np nn:Nat) (b:SS):Fn:=fun xs L=>if xs.length=np then match b (xs.map some++Va (nn - np) none) L with
  | .rt t L'=>fin L t L'
  | .nx _ L'=>fin L .bZ L'
  | _=>.bad
 else .bad
def make (cn:Str) (init:Fn):Fn:=fun xs L=>match init (.ref L.length::xs) (.obj cn []::L) with
 | .ok .bZ L'=>fin L (.ref L.length) L'
 | _=>.bad
end M
namespace M
open PySem PySem.Spec PyProof.Rows
noncomputable def bH:Fn:=fun xs L=>match xs with
 | [x]=>match vw L x with
  | .str s=>.ok (.int s.length) L
  | .tup ys=>.ok (.int ys.length) L
  | .lst ys=>.ok (.int ys.length) L
  | _=>.bad
 | _=>.bad
noncomputable def eV (fz:Bool):Fn:=fun xs L=>match xs with
 | [x]=>match vw L x with
  | .tup ys=>fo fz ys L
  | .lst ys=>fo fz ys L
  | .aP ks=>cb ((ks.map (·.1)).all j6=true) (fo fz (ks.map (·.1)) L)
  | _=>.bad
 | _=>.bad
noncomputable def iO:Fn:=fun xs L=>match xs with
 | [x]=>match vw L x with
  | .tup ys=>.ok (.tup ys) L
  | .lst ys=>.ok (.tup ys) L
  | _=>.bad
 | _=>.bad
noncomputable def HV:T->Option Bool
 | .bl b=>some b
 | _=>none
noncomputable def QL:T->Option Int
 | .int i=>some i
 | _=>none
noncomputable def HW:T->Option Cs
 | .str s=>some s
 | _=>none
noncomputable def Et {α:Type} (f:T->Option α) (g:List α->T):Fn:=fun xs L=>match xs with
 | [x]=>match vw L x with
  | .lst ys=>lift ((ys.mapM f).map g) L
  | _=>.bad
 | _=>.bad
noncomputable def qK:Fn:=Et HV fun bs=>.bl (bs.all id)
noncomputable def wt:Fn:=Et HV fun bs=>.bl (bs.any id)
noncomputable def xC:Fn:=fun xs L=>match xs with
 | [.int i,.int j]=>.ok (.int (if j<i then j else i)) L
 | [.str a,.str b]=>.ok (.str (if b<a then b else a)) L
 | _=>.bad
noncomputable def tc:Fn:=fun xs L=>match xs with
 | [.int i]=>cb (i.natAbs.log2<1920/\(V5 (toString i)).cps.toList.length<=lim) (.ok (.str (V5 (toString i)).cps.toList) L)
 | _=>.bad
noncomputable def wu:Fn:=fun xs L=>match xs with
 | [.str z]=>match PySem.intText? ⟨z.toArray⟩ with
  | some n=>cb (z.length<=640) (.ok (.int n) L)
  | none=>.bad
 | _=>.bad
noncomputable def O9 (L:aa) (n:String):T->R T
 | .bl _=>if n="bool" then .ok (.bl true) L else if n="int" then .ok (.bl true) L else .bad
 | .int _=>if n="bool" then .ok (.bl false) L else if n="int" then .ok (.bl true) L else .bad
 | _=>.bad
noncomputable def QM:T->Option String
 | .cl c=>match c with
  | .type n=>some n
  | _=>none
 | _=>none
noncomputable def TR:Fn:=fun xs L=>match xs with
 | [x,y]=>match QM y with
  | some n=>O9 L n x
  | none=>.bad
 | _=>.bad
noncomputable def toS (z:Cs):Str:=⟨z.toArray⟩
noncomputable def Bl:T->Fn:=fun x ts L=>match x,ts with
 | .ref n,[t]=>match at_ L n with
  | some (.lst xs)=>cb (xs.length<lim) (.ok .bZ (put L n (.lst (xs++[t]))))
  | _=>.bad
 | _,_=>.bad
noncomputable def xD:T->Fn:=fun x ts L=>match x,ts with
 | .ref n,[t]=>match at_ L n,vw L t with
  | some (.lst xs),.lst ys=>cb (xs.length+ys.length<=lim) (.ok .bZ (put L n (.lst (xs++ys))))
  | some (.lst xs),.tup ys=>cb (xs.length+ys.length<=lim) (.ok .bZ (put L n (.lst (xs++ys))))
  | _,_=>.bad
 | _,_=>.bad
noncomputable def uS:T->Fn:=fun x ts L=>match vw L x,ts with
 | .lst xs,[t]=>cb (dat 8 t=true/\xs.all (dat 8)=true) (.ok (.int (xs.countP fun y=>eqT y t:Nat)) L)
 | _,_=>.bad
noncomputable def uT:T->Fn:=fun x ts L=>match vw L x,ts with
 | .tup xs,[t]=>cb (dat 8 t=true/\xs.all (dat 8)=true) (.ok (.int (xs.countP fun y=>eqT y t:Nat)) L)
 | _,_=>.bad
noncomputable def Bm:T->Fn:=fun x ts L=>match x,ts with
 | .tup xs,[t]=>cb (dat 8 t=true/\xs.all (dat 8)=true) (match xs.findIdx? fun y=>eqT y t with
  | some j=>.ok (.int j) L
  | none=>.bad)
 | _,_=>.bad
noncomputable def jn (sep:Cs):List Cs->Cs
 | []=>[]
 | x::r=>match r with
  | []=>x
  | _::_=>x++sep++jn sep r
noncomputable def kW:T->Fn:=fun x ts L=>match x,ts with
 | .str sep,[t]=>match (items t L).bind fun ys=>ys.mapM HW with
  | some zs=>match vw L t with
   | .str _=>.bad
   | _=>cb ((zs.map (·.length)).sum+zs.length * sep.length<=16777216) (.ok (.str (jn sep zs)) L)
  | none=>.bad
 | _,_=>.bad
noncomputable def mj (fz:Bool):T->Fn:=fun x ts L=>match x,ts with
 | .str z,[.str y]=>cb (y≠[]/\((XG (toS z) (toS y)).all fun s=>decide (s.cps.toList.length<=lim))=true) (fo fz ((XG (toS z) (toS y)).map fun s=>.str s.cps.toList) L)
 | _,_=>.bad
noncomputable def mq:T->Fn:=fun x ts L=>match x,ts with
 | .str z,[.str y]=>cb ((YY (toS z) (toS y)).cps.toList.length<=lim) (.ok (.str (YY (toS z) (toS y)).cps.toList) L)
 | _,_=>.bad
def iP:T->Fn:=fun x ts L=>match vw L x,ts with
 | .aP ks,[y,t]=>cb (dM ks y) (.ok ((du ks y).getD t) L)
 | _,_=>.bad
def xE:T->Fn:=fun x ts L=>match x,ts with
 | .ref n,[y,t]=>match at_ L n with
  | some (.aP ks)=>cb (ks.length<lim/\dM ks y) (match du ks y with
   | some z=>.ok z L
   | none=>.ok t (put L n (.aP (dput ks y t))))
  | _=>.bad
 | _,_=>.bad
noncomputable def prsOf:List T->Option (List (T × T))
 | []=>some []
 | t::r=>match t,prsOf r with
  | .tup [k,x],some ps=>some ((k,x)::ps)
  | _,_=>none
def qC (ps:List (T × T)):List (T × T):=ps.foldl (fun acc p=>dput acc p.1 p.2) []
def xF (ys:List T) (L:aa):R T:=match prsOf ys with
 | some ps=>cb (gq (ps.map (·.1))=true/\ps.length<=100000) (.ok (.ref L.length) (.aP (qC ps)::L))
 | none=>.bad
def jt:Fn:=fun xs L=>match xs with
 | [x]=>match vw L x with
  | .lst ys=>xF ys L
  | .tup ys=>xF ys L
  | _=>.bad
 | _=>.bad
abbrev Hp:=U9->Option (Bool × Obj)
noncomputable def upd (H:Hp) (a:U9) (x:Bool × Obj):Hp:=fun b=>if b=a then some x else H b
theorem ar {H:Hp} {a x}:upd H a x a=some x:=if_pos rfl
theorem az {H:Hp} {a b x} (h:b≠a):upd H a x b=H b:=if_neg h
structure G where
 H:Hp
 α:List (U9 × U9)
 B:Heap
 cls:Str->Option U9
 w:WE
noncomputable def G.kn (g:G) (b:Bool) (a:U9) (o:Obj):Prop:=g.H a=some (b,o)\/(b=true/\g.B.get? a=some o)
noncomputable def td (p:Option (U9 × U9)) (a d:U9):Prop:=p=none\/p=some (a,d)
mutual
noncomputable def hT (w:WE):T->Int
 | .int i=>hashInt i
 | .str s=>hashStr w ⟨s.toArray⟩
 | .tup xs=>reduceHash (XH (A9 w xs))
 | _=>0
noncomputable def A9 (w:WE):List T->List Int
 | []=>[]
 | x::xs=>hT w x::A9 w xs
end
inductive RT (g:G):Option (U9 × U9)->T->Ux->Prop
 | bZ:RT g none .bZ .none
 | bl (b):RT g none (.bl b) (.bool b)
 | int (i t):RT g none (.int i) (.int i t)
 | str (s t) (h:s.length<=U1):RT g none (.str s) (.str ⟨s.toArray⟩ t)
 | ty (n):RT g none (.cl (.type n)) (.type n)
 | own {n C} (h:g.cls n=some C):RT g none (.cl (.ref C)) (.ref C)
 | ref {n p} (h:at_ g.α n=some p):RT g none (.ref n) (.ref p.1)
 | tup {a o its n xs} (hk:g.kn true a o) (hc:o.cls=.type "tuple"/\o.dict=none) (hd:o.data=.seq its n) (hz:xs.length<=U1) (hl:xs.length=its.size)
   (hi:∀(i:Nat) x v,xs[i]?=some x->its[i]?=some v->RT g none x v):RT g none (.tup xs) (.ref a)
 | lst {p a its n xs} (ht:td p a a) (hk:g.kn p.isNone a { cls:=.type "list",data:=.seq its n }) (hz:xs.length<=U1) (hl:xs.length=its.size)
   (hi:∀(i:Nat) x v,xs[i]?=some x->its[i]?=some v->RT g none x v):RT g p (.lst xs) (.ref a)
 | aP {p a o es n ks} (ht:td p a a) (hk:g.kn p.isNone a o) (hx:o.ExactDict) (hd:o.data=.dict es n) (hz:ks.length<=U1) (hl:ks.length=es.size) (hn:(ks.map (·.1)).Nodup/\gq (ks.map (·.1))=true) (hs:(a == sysModules)=false)
   (hh:∀(i:Nat) x e,ks[i]?=some x->es[i]?=some e->e.hash=hT g.w x.1) (h1:∀(i:Nat) x e,ks[i]?=some x->es[i]?=some e->RT g none x.1 e.key)
   (h2:∀(i:Nat) x e,ks[i]?=some x->es[i]?=some e->RT g none x.2 e.val):RT g p (.aP ks) (.ref a)
 | obj {p a d C od es n c fs} (ht:td p a d) (hne:d≠a) (hc:g.cls c=some C) (hk:g.kn p.isNone a (VA C d)) (qD:g.kn p.isNone d od) (hd:od.data=.dict es n) (hs:StrKeys es) (hu:UniqKeys es)
   (hz:fs.length<=1000) (hn:(fs.map (·.1)).Nodup) (hl:∀f,(fs.lookup f).isSome=(nsFind es f).isSome) (hi:∀f x v,fs.lookup f=some x->nsFind es f=some v->RT g none x v):RT g p (.obj c fs) (.ref a)
structure Le (g g':G):Prop where
 f:∀a o,g.H a=some (true,o)->g'.H a=some (true,o)
 α:∀n p,at_ g.α n=some p->at_ g'.α n=some p
 B:g'.B=g.B
 m:g'.cls=g.cls
 w:g'.w=g.w
theorem Le.refl (g:G):Le g g:=⟨fun _ _ h=>h,fun _ _ h=>h,rfl,rfl,rfl⟩
theorem Le.trans {a b c:G} (x:Le a b) (y:Le b c):Le a c:=⟨fun _ _ h=>y.f _ _ (x.f _ _ h),fun _ _ h=>y.α _ _ (x.α _ _ h),y.B.trans x.B,y.m.trans x.m,y.w.trans x.w⟩
theorem Le.kn {g g':G} (l:Le g g') {a o} (h:g.kn true a o):g'.kn true a o:=by
 rcases h with h|⟨_,h⟩
 ·exact .inl (l.f _ _ h)
 ·exact .inr ⟨rfl,by rw [l.B];exact h⟩
theorem RT.up {g g':G} (l:Le g g') {p:Option (U9 × U9)} (hp:∀q,p=some q->g'.H q.1=g.H q.1/\g'.H q.2=g.H q.2) {t v} (h:RT g p t v):RT g' p t v:=by
 have kn:∀{p:Option (U9 × U9)} {a d b o},(∀q,p=some q->g'.H q.1=g.H q.1/\g'.H q.2=g.H q.2)->td p a d->b=a\/b=d->g.kn p.isNone b o->g'.kn p.isNone b o:=fun {p a d b o} hp ht hb hk=>by
  rcases ht with rfl|rfl
  ·exact l.kn hk
  ·rcases hk with hk|⟨z,_⟩
   ·refine .inl ?_
    rcases hb with rfl|rfl
    ·rw [(hp _ rfl).1];exact hk
    ·rw [(hp _ rfl).2];exact hk
   ·cases z
 have n0:∀q:U9 × U9,(none:Option (U9 × U9))=some q->g'.H q.1=g.H q.1/\g'.H q.2=g.H q.2:=fun q z=>by cases z
 induction h with
 | bZ=>exact .bZ
 | bl b=>exact .bl b
 | int i t=>exact .int i t
 | str s t h=>exact .str s t h
 | ty n=>exact .ty n
 | own h=>exact .own (by rw [l.m];exact h)
 | ref h=>exact .ref (l.α _ _ h)
 | tup hk hc hd hz hl hi ih=>exact .tup (l.kn hk) hc hd hz hl fun i x v e1 e2=>ih i x v e1 e2 n0
 | lst ht hk hz hl hi ih=>exact .lst ht (kn hp ht (.inl rfl) hk) hz hl fun i x v e1 e2=>ih i x v e1 e2 n0
 | aP ht hk hx hd hz hl hn hs hh h1 h2 i1 i2=>exact .aP ht (kn hp ht (.inl rfl) hk) hx hd hz hl hn hs (by rw [l.w];exact hh) (fun i x v e1 e2=>i1 i x v e1 e2 n0) fun i x v e1 e2=>i2 i x v e1 e2 n0
 | obj ht hne hc hk qD hd hs hu hz hn hl hi ih=>exact .obj ht hne (by rw [l.m];exact hc) (kn hp ht (.inl rfl) hk) (kn hp ht (.inr rfl) qD) hd hs hu hz hn hl fun f x v e1 e2=>ih f x v e1 e2 n0
theorem RT.le {g g':G} {t v} (h:RT g none t v) (l:Le g g'):RT g' none t v:=h.up l (fun _ z=>by cases z)
theorem RT.iI {g:G} {p:Option (U9 × U9)} {i:Int} {v:Ux} (h:RT g p (.int i) v):∃t,v=.int i t:=by cases h;exact⟨_,rfl⟩
noncomputable def Mr (g:G) (xs:List T) (its:Array Ux):Prop:=xs.length=its.size/\∀(i:Nat) x v,xs[i]?=some x->its[i]?=some v->RT g none x v
theorem RT.cI {g:G} {p:Option (U9 × U9)} {n:String} {v:Ux} (h:RT g p (.cl (.type n)) v):v=.type n:=by cases h;rfl
theorem RT.nI {g:G} {p:Option (U9 × U9)} {v:Ux} (h:RT g p .bZ v):v=.none:=by cases h;rfl
theorem RT.bI {g:G} {p:Option (U9 × U9)} {b:Bool} {v:Ux} (h:RT g p (.bl b) v):v=.bool b:=by cases h;rfl
theorem RT.jb {g:G} {p:Option (U9 × U9)} {z:Cs} {v:Ux} (h:RT g p (.str z) v):∃t,v=.str ⟨z.toArray⟩ t/\z.length<=U1:=by cases h with|str _ t h=>exact⟨t,rfl,h⟩
theorem RT.sI {g:G} {p:Option (U9 × U9)} {z:Cs} {v:Ux} (h:RT g p (.str z) v):∃t,v=.str ⟨z.toArray⟩ t:=h.jb.imp fun _ h=>h.1
theorem RT.tI {g:G} {p:Option (U9 × U9)} {xs:List T} {v:Ux} (h:RT g p (.tup xs) v):RT g none (.tup xs) v/\∃a o its n,v=.ref a/\g.kn true a o/\(o.cls=.type "tuple"/\o.dict=none)/\o.data=.seq its n/\xs.length<=U1/\Mr g xs its:=by cases h with|tup hk hc hd hz hl hi=>exact⟨.tup hk hc hd hz hl hi,_,_,_,_,rfl,hk,hc,hd,hz,hl,hi⟩
abbrev cE (g:G) (xs:List T) (us:List Ux):Prop:=Paired (RT g none) xs us
theorem cE.le {g g':G} {xs us} (h:cE g xs us) (l:Le g g'):cE g' xs us:=by
 induction h with
 | nil=>exact .nil
 | cons a _ ih=>exact .cons (a.le l) ih
theorem dy {α β:Type} {F:α->β->Prop}:∀{xs:List α} {ys:List β},xs.length=ys.length->(∀(i:Nat) x v,xs[i]?=some x->ys[i]?=some v->F x v)->Paired F xs ys
 | [],[],_,_=>.nil
 | x::xs,y::ys,hl,h=>.cons (h 0 x y rfl rfl) (dy (by simpa using hl) fun i a b e1 e2=>h (i+1) a b (by simpa using e1) (by simpa using e2))
theorem wx {α β:Type} {F:α->β->Prop} {xs:List α} {ys:List β} (h:Paired F xs ys):∀(i:Nat) x v,xs[i]?=some x->ys[i]?=some v->F x v:=by
 induction h with
 | nil=>intro i x v e;simp at e
 | cons a _ ih =>
  intro i x v e1 e2;cases i with
  | zero=>simp at e1 e2;subst e1 e2;exact a
  | succ i=>exact ih i x v (by simpa using e1) (by simpa using e2)
theorem tf {α β:Type} {F:α->β->Prop} {xs:List α} {ys:List β} (h:Paired F xs ys) {i:Nat} {x} (e:xs[i]?=some x):∃v,ys[i]?=some v/\F x v:=by
 have hl:=US h;have hi:i<ys.length:=by rw [<- hl];exact(UO.mp e).1
 exact⟨ys[i],by simp,wx h i x _ e (by simp)⟩
structure Rel (g:G) (L:aa):Prop where
 len:g.α.length=L.length
 cells:∀n c,at_ L n=some c->∃p,at_ g.α n=some p/\RT g (some p) c (.ref p.1)
 apart:∀n m p q,at_ g.α n=some p->at_ g.α m=some q->n≠m->p.1≠q.1/\p.1≠q.2/\p.2≠q.1/\p.2≠q.2
 live:∀n p,at_ g.α n=some p->(∃o,g.H p.1=some (false,o))/\∃o,g.H p.2=some (false,o)
noncomputable def Ba (H:Hp) (h:Heap):Prop:=∀a b o,H a=some (b,o)->h.get? a=some o
structure Un (ex:List U9) (H H':Hp) (h h':Heap):Prop where
 keep:∀b o,h.get? b=some o->H b=none->b∉ex->h'.get? b=some o
 free:∀b o,h.get? b=some o->H b=none->b∉ex->H' b=none
 cg:∀b o,H b=some (true,o)->H' b=some (true,o)
theorem Un.trans {ex H H1 H2 h h1 h2} (a:Un ex H H1 h h1) (b:Un ex H1 H2 h1 h2):Un ex H H2 h h2 where
 keep:=fun c o q n x=>b.keep c o (a.keep c o q n x) (a.free c o q n x) x
 free:=fun c o q n x=>b.free c o (a.keep c o q n x) (a.free c o q n x) x
 cg:=fun c o q=>b.cg c o (a.cg c o q)
theorem Un.kept {ex H h h'} (k:∀b u,h.get? b=some u->h'.get? b=some u):Un ex H H h h':=⟨fun b o q _ _=>k b o q,fun _ _ _ n _=>n,fun _ _ q=>q⟩
theorem Ba.fresh {H h a} (x:Ba H h) (e:h.objs.size<=a):H a=none:=by
 cases q:H a with
 | none=>rfl
 | some u=>exact absurd (U4 (UX (x a u.1 u.2 q)) e) (V8 _)
structure Mod (K:U3) (mg:Str->Option Ux) (base:Heap):Prop where
 HX:K.In base
 glob:base.Ns Vo mg
 blt:∃mb,base.Ns builtinsNs mb/\∀x:Str,x≠"__name__"->mb x=bootBuiltins x
 nolimit:base.NoLimit
structure Cx where
 prog:VI
 w:WE
 K:U3
 mg:Str->Option Ux
 cls:Str->Option U9
 base:Heap
 A:Vq
 N:List Str
 s₀:UB
 H₀:Hp
 env:Env
 ex:List U9
 fn:Str->Bool
noncomputable def LO (sc:Scope) (x:Str):Prop:=sc.names.lookup x=some .local\/sc.names.lookup x=some .cell\/sc.names.lookup x=some .free
noncomputable def Loc (sc:Scope) (x:Str):Prop:=sc.names.lookup x=some .local\/sc.names.lookup x=some .cell
noncomputable def Look (env:Env) (h:Heap) (m:Str->Option Ux) (x:Str) (u:Ux):Prop :=
 (env.kindOf x=some .local/\m x=some u)\/((env.kindOf x=some .cell\/env.kindOf x=some .free)/\∃c,env.cells.lookup x=some c/\h.IsCell c (some u))
structure Cx.Ok (X:Cx):Prop where
 mod:Mod X.K X.mg X.base
 kind:X.env.scope.kind=.function
 glob:X.env.globals=Vo
 blt:X.env.builtins=builtinsNs
 above:X.s₀.heap.objs.size<=X.env.locals
 inj:∀x y c,X.env.cells.lookup x=some c->X.env.cells.lookup y=some c->x=y
 has:∀x,(X.env.kindOf x=some .cell\/X.env.kindOf x=some .free)->∃c,X.env.cells.lookup x=some c
 QN:∀x c,X.fn x=true->X.env.cells.lookup x=some c->X.s₀.heap.objs.size<=c
 hd:X.A.handled=none
 TS:∀b∈X.ex,b≠X.env.locals/\∀x c,X.env.cells.lookup x=some c->c≠b
 bs:∀b o,X.base.get? b=some o->X.s₀.heap.get? b=some o/\X.H₀ b=none
 HY:X.base.objs.size<=X.s₀.heap.objs.size
 Eu:∀b o,X.base.get? b=some o->b∉X.ex
abbrev aY:=List (U9 × Obj)
structure Inv (X:Cx) (pins:aY) (φ:Fr) (g:G) (L:aa) (s:UB):Prop where
 ok:X.Ok
 os:s.os=X.s₀.os
 bare:AllBare s.gens
 base:Un X.ex X.H₀ g.H X.s₀.heap s.heap
 loc:∃m,s.heap.Ns X.env.locals m/\∀(i:Nat) (x:Str) (t:T),X.N[i]?=some x->φ[i]?=some (some t)->LO X.env.scope x->∃u,RT g none t u/\Look X.env s.heap m x u
 cell:∀x c,X.env.cells.lookup x=some c->∃v,s.heap.IsCell c v
 free:g.H X.env.locals=none
 qL:∀x c,X.env.cells.lookup x=some c->g.H c=none
 pin:∀p∈pins,s.heap.get? p.1=some p.2/\g.H p.1=none/\p.1≠X.env.locals/\∀v,p.2.data≠.cell v
 hok:Ba g.H s.heap
 len:φ.length=X.N.length
 rel:Rel g L
 gB:g.B=X.base
 gm:g.cls=X.cls
 gw:g.w=X.w
section
variable {X:Cx} {pins:aY} {φ:Fr} {g g':G} {L L':aa} {s:UB} {h':Heap}
theorem Inv.bs (I:Inv X pins φ g L s):∀b o,X.base.get? b=some o->s.heap.get? b=some o/\g.H b=none:=fun b o e =>
 ⟨I.base.keep b o (I.ok.bs b o e).1 (I.ok.bs b o e).2 (I.ok.Eu b o e),I.base.free b o (I.ok.bs b o e).1 (I.ok.bs b o e).2 (I.ok.Eu b o e)⟩
theorem Inv.bk (I:Inv X pins φ g L s):∀b o,X.base.get? b=some o->s.heap.get? b=some o:=fun b o e=>(I.bs b o e).1
theorem Inv.kn (I:Inv X pins φ g L s) {b a o} (h:g.kn b a o):s.heap.get? a=some o:=by
 rcases h with h|⟨_,h⟩
 ·exact I.hok _ _ _ h
 ·exact I.bk _ _ (by rw [<- I.gB];exact h)
theorem Inv.mod (I:Inv X pins φ g L s):Mod X.K X.mg X.base:=I.ok.mod
theorem Inv.Ew (I:Inv X pins φ g L s):X.K.In s.heap:=I.ok.mod.HX.keeps I.bk
theorem Inv.nolimit (I:Inv X pins φ g L s):s.heap.NoLimit:=I.ok.mod.nolimit.keeps I.bk
theorem Inv.lt (I:Inv X pins φ g L s):X.env.locals<s.heap.objs.size:=let ⟨_,hn,_⟩:=I.loc;hn.lt
theorem Inv.sz (I:Inv X pins φ g L s):X.s₀.heap.objs.size<=s.heap.objs.size:=UW I.ok.above (XU I.lt)
theorem Inv.fresh (I:Inv X pins φ g L s):g.H s.heap.objs.size=none:=I.hok.fresh (UM _)
theorem Inv.HZ (I:Inv X pins φ g L s):∀x c,X.env.cells.lookup x=some c->c≠X.env.locals:=fun x c e z=>by
 obtain⟨v,o,ho,hd⟩:=I.cell x c e;obtain⟨m,⟨o',es,ep,ho',hd',_⟩,_⟩:=I.loc;rw [z,ho'] at ho;cases ho;rw [hd'] at hd;cases hd
theorem Inv.step {g1:Array GenState} {t':Nat} {d':Drawn} {ch:List U9} (I:Inv X pins φ g L s) (l:Le g g')
  (qE:∀b∈ch,(b∈X.ex\/X.s₀.heap.objs.size<=b)/\b≠X.env.locals/\(∀x c,X.env.cells.lookup x=some c->c≠b)/\∀p∈pins,p.1≠b)
  (keep:∀b o,b≠X.env.locals->b∉ch->s.heap.get? b=some o->g.H b=none->h'.get? b=some o) (free:∀b o,b∉ch->s.heap.get? b=some o->g.H b=none->g'.H b=none)
  (ns:∀m,s.heap.Ns X.env.locals m->h'.Ns X.env.locals m) (hok:Ba g'.H h') (hg:AllBare g1) (rel:Rel g' L'):Inv X pins φ g' L' { s with heap:=h',gens:=g1,drawn:=d',toks:=t' }:=by
 have QO:∀b o,X.s₀.heap.get? b=some o->b≠X.env.locals:=fun b o e=>U6 (U4 (UX e) I.ok.above)
 have Pa:∀b o,X.s₀.heap.get? b=some o->b∉X.ex->b∉ch:=fun b o e hx hb=>by
  rcases(qE b hb).1 with z|z
  ·exact hx z
  ·exact absurd (U4 (UX e) z) (V8 _)
 have cellK:∀x c,X.env.cells.lookup x=some c->∀v,s.heap.IsCell c v->h'.IsCell c v:=fun x c e v ⟨o,ho,hd⟩ =>
  ⟨o,keep c o (I.HZ x c e) (fun z=>(qE c z).2.2.1 x c e rfl) ho (I.qL x c e),hd⟩
 refine⟨I.ok,I.os,hg,⟨fun b o e n hx=>?_,fun b o e n hx=>?_,fun b o e=>l.f b o (I.base.cg b o e)⟩,?_,fun x c e=>?_,?_,fun x c e=>?_,fun p hp=>?_,hok,I.len,rel,l.B.trans I.gB,l.m.trans I.gm,l.w.trans I.gw⟩
 ·exact keep b o (QO b o e) (Pa b o e hx) (I.base.keep b o e n hx) (I.base.free b o e n hx)
 ·exact free b o (Pa b o e hx) (I.base.keep b o e n hx) (I.base.free b o e n hx)
 ·obtain⟨m,hn,hl⟩:=I.loc
  refine⟨m,ns m hn,fun i x v e1 e2 e3=>?_⟩;obtain⟨u,r,q⟩:=hl i x v e1 e2 e3;refine⟨u,r.le l,?_⟩;rcases q with q|⟨k,c,e,z⟩
  ·exact .inl q
  ·exact .inr ⟨k,c,e,cellK x c e _ z⟩
 ·obtain⟨v,z⟩:=I.cell x c e
  exact⟨v,cellK x c e v z⟩
 ·obtain⟨m,⟨o,_,_,ho,_⟩,_⟩:=I.loc
  exact free _ o (fun z=>(qE _ z).2.1 rfl) ho I.free
 ·obtain⟨v,o,ho,hd⟩:=I.cell x c e
  exact free c o (fun z=>(qE c z).2.2.1 x c e rfl) ho (I.qL x c e)
 ·obtain⟨e,n,ne,d⟩:=I.pin p hp
  have Pb:p.1∉ch:=fun z=>(qE p.1 z).2.2.2 p hp rfl
  exact⟨keep p.1 p.2 ne Pb e n,free p.1 p.2 Pb e n,ne,d⟩
theorem Inv.un {t':Nat} (I:Inv X pins φ g L s) (l:Le g g') (u:Un [] g.H g'.H s.heap h') (hok:Ba g'.H h') (rel:Rel g' L'):Inv X pins φ g' L' { s with heap:=h',toks:=t' }:=by
 obtain⟨m,⟨o,es,ep,ho,r⟩,_⟩:=id I.loc;have hL:=u.keep _ o ho I.free (by simp)
 exact I.step (g1:=s.gens) (d':=s.drawn) (ch:=[]) l (fun _ z=>nomatch z) (fun b o _ _ e n=>u.keep b o e n (by simp)) (fun b o _ e n=>u.free b o e n (by simp)) (fun m' hm=>by
  obtain⟨o',fM,H0,ho',r'⟩:=hm;rw [ho] at ho';cases ho';exact⟨_,fM,H0,hL,r'⟩) hok I.bare rel
theorem Inv.call {s':UB} {ch:List U9} (I:Inv X pins φ g L s) (l:Le g g') (ho:s'.os=s.os) (u:Un ch g.H g'.H s.heap s'.heap) (hok:Ba g'.H s'.heap) (hg:AllBare s'.gens) (rel:Rel g' L')
  (qE:∀b∈ch,(b∈X.ex\/X.s₀.heap.objs.size<=b)/\b≠X.env.locals/\(∀x c,X.env.cells.lookup x=some c->c≠b)/\∀p∈pins,p.1≠b):Inv X pins φ g' L' s':=by
 obtain⟨hh,g1,d',t',o'⟩:=s';obtain rfl:o'=s.os:=ho;obtain⟨m,⟨o,es,ep,ho,r⟩,_⟩:=id I.loc;have hL:=u.keep _ o ho I.free fun z=>(qE _ z).2.1 rfl
 exact I.step (ch:=ch) l qE (fun b o _ hc e n=>u.keep b o e n hc) (fun b o hc e n=>u.free b o e n hc) (fun m' hm=>by
  obtain⟨o',fM,H0,ho',r'⟩:=hm;rw [ho] at ho';cases ho';exact⟨_,fM,H0,hL,r'⟩) hok hg rel
noncomputable def fY (X:Cx) (pins:aY) (H:Hp) (b:U9):Prop:=H b=none/\b≠X.env.locals/\(b∈X.ex\/X.s₀.heap.objs.size<=b)/\(∀x c,X.env.cells.lookup x=some c->c≠b)/\∀p∈pins,p.1≠b
theorem Inv.th {b:U9} {H':Hp} (I:Inv X pins φ g L s) (hb:s.heap.objs.size<=b) (hn:H' b=none):fY X pins H' b:=by
 refine⟨hn,VF (U4 I.lt hb),.inr (UW I.sz hb),fun x c e z=>?_,fun p hp z=>?_⟩
 ·obtain⟨v,q⟩:=I.cell x c e
  exact absurd (U4 q.lt (by rw [z];exact hb)) (V8 _)
 ·exact absurd (U4 (UX (I.pin p hp).1) (by rw [z];exact hb)) (V8 _)
theorem Inv.turned {t':Nat} {ch:List U9} (I:Inv X pins φ g L s) (k:∀b o,b∉ch->s.heap.get? b=some o->h'.get? b=some o) (hf:∀b∈ch,fY X pins g.H b):Inv X pins φ g L { s with heap:=h',toks:=t' }:=by
 refine I.step (g1:=s.gens) (d':=s.drawn) (ch:=ch) (Le.refl g) (fun b hb=>⟨(hf b hb).2.2.1,(hf b hb).2.1,(hf b hb).2.2.2⟩) (fun b o _ hc e _=>k b o hc e) (fun _ _ _ _ n=>n) (fun m hm=>?_) (fun b c u e=>?_) I.bare I.rel
 ·obtain⟨o,es,ep,ho,r⟩:=hm
  exact⟨o,es,ep,k _ o (fun z=>(hf _ z).2.1 rfl) ho,r⟩
 ·exact k b u (fun z=>by rw [(hf b z).1] at e;cases e) (I.hok b c u e)
theorem Inv.kept {t':Nat} (I:Inv X pins φ g L s) (k:∀b u,s.heap.get? b=some u->h'.get? b=some u):Inv X pins φ g L { s with heap:=h',toks:=t' }:=I.un (Le.refl g) (Un.kept k) (fun a b o e=>k a o (I.hok a b o e)) I.rel
theorem Inv.tok (I:Inv X pins φ g L s) (t:Nat):Inv X pins φ g L { s with toks:=t }:=I.kept (h':=s.heap) fun _ _ e=>e
theorem fy {α:Type}:∀{L:List α} {n:Nat} {c:α},at_ L n=some c->n<L.length
 | c::L,n,d,h=>by
  unfold at_ at h
  split at h
  ·rename_i e;simp [e]
  ·have:=fy h;simp;omega
theorem lJ {α:Type} {L:List α} {n:Nat} {c d:α} (h:at_ L n=some c):at_ (d::L) n=some c:=by
 unfold at_
 rw [if_neg (U6 (fy h))];exact h
theorem eW {α:Type} {L:List α} {d:α}:at_ (d::L) L.length=some d:=if_pos rfl
noncomputable def G.lay (g:G) (a:U9) (o:Obj):G:={ g with H:=upd g.H a (true,o) }
theorem Rel.le {g g':G} (r:Rel g L) (l:Le g g') (e:g'.α=g.α) (k:∀a o,g.H a=some (false,o)->g'.H a=g.H a):Rel g' L:=by
 refine⟨by rw [e];exact r.len,fun n c h=>?_,by rw [e];exact r.apart,fun n p h=>?_⟩
 ·obtain⟨p,h1,h2⟩:=r.cells n c h
  refine⟨p,by rw [e];exact h1,h2.up l fun q z=>?_⟩;cases z;obtain⟨⟨o,e1⟩,o2,e2⟩:=r.live n p h1;exact⟨k _ _ e1,k _ _ e2⟩
 ·rw [e] at h
  obtain⟨⟨o,e1⟩,o2,e2⟩:=r.live n p h;exact⟨⟨o,(k _ _ e1).trans e1⟩,o2,(k _ _ e2).trans e2⟩
theorem Le.lay {a:U9} {o:Obj} (h:g.H a=none):Le g (g.lay a o):=⟨fun b u e=>by
  have z:b≠a:=fun z=>by rw [z,h] at e;cases e
  exact(az z).trans e,fun _ _ e=>e,rfl,rfl,rfl⟩
theorem Inv.laid {a:U9} {o:Obj} {t':Nat} (I:Inv X pins φ g L s) (k:∀b u,s.heap.get? b=some u->h'.get? b=some u) (hp:s.heap.objs.size<=a) (new:h'.get? a=some o) :
  Inv X pins φ (g.lay a o) L { s with heap:=h',toks:=t' }:=by
 have hn:=I.hok.fresh hp;refine I.un (Le.lay hn) ⟨fun b u q _ _=>k b u q,fun b u q n _=>?_,(Le.lay hn).f⟩ (fun b c u e=>?_) (I.rel.le (Le.lay hn) rfl fun b u e=>?_)
 ·exact(az (U6 (U4 (UX q) hp))).trans n
 ·by_cases hb:b=a
  ·subst hb
   have e':some (true,o)=some (c,u):=(ar (H:=g.H)).symm.trans e;cases e';exact new
  ·exact k b u (I.hok b c u ((az hb).symm.trans e))
 ·exact az (fun z=>by rw [z,hn] at e;cases e)
noncomputable def G.new (g:G) (a:U9) (o:Obj):G:={ g with H:=upd g.H a (false,o),α:=(a,a)::g.α }
theorem Le.new {a:U9} {o:Obj} (h:g.H a=none):Le g (g.new a o):=⟨fun b u e=>by
  have z:b≠a:=fun z=>by rw [z,h] at e;cases e
  exact(az z).trans e,fun _ _ e=>lJ e,rfl,rfl,rfl⟩
theorem Rel.new {a:U9} {o:Obj} {c:T} (r:Rel g L) (h:g.H a=none) (hc:RT (g.new a o) (some (a,a)) c (.ref a)):Rel (g.new a o) (c::L):=by
 have ne:∀n p,at_ g.α n=some p->p.1≠a/\p.2≠a:=fun n p e=>by
  obtain⟨⟨o1,e1⟩,o2,e2⟩:=r.live n p e;exact⟨fun z=>(by rw [z,h] at e1;cases e1),fun z=>(by rw [z,h] at e2;cases e2)⟩
 refine⟨by simp [G.new,r.len],fun n d e=>?_,fun n m p q e1 e2 QP=>?_,fun n p e=>?_⟩
 ·unfold at_ at e
  split at e
  ·rename_i en
   cases e;exact⟨(a,a),by rw [en,<- r.len];exact eW,hc⟩
  ·obtain⟨p,h1,h2⟩:=r.cells n d e
   refine⟨p,lJ h1,h2.up (Le.new h) fun q z=>?_⟩;cases z;exact⟨az (ne n p h1).1,az (ne n p h1).2⟩
 ·have e1':at_ ((a,a)::g.α) n=some p:=e1
  have e2':at_ ((a,a)::g.α) m=some q:=e2
  unfold at_ at e1' e2'
  split at e1'
  ·cases e1'
   split at e2'
   ·omega
   ·have z:=ne m q e2'
    exact⟨V0 z.1,V0 z.2,V0 z.1,V0 z.2⟩
  ·split at e2'
   ·cases e2'
    have z:=ne n p e1';exact⟨z.1,z.1,z.2,z.2⟩
   ·exact r.apart n m p q e1' e2' QP
 ·have e':at_ ((a,a)::g.α) n=some p:=e
  unfold at_ at e'
  split at e'
  ·cases e';exact⟨⟨o,ar⟩,o,ar⟩
  ·obtain⟨⟨o1,h1⟩,o2,h2⟩:=r.live n p e'
   exact⟨⟨o1,(az (ne n p e').1).trans h1⟩,o2,(az (ne n p e').2).trans h2⟩
theorem Inv.new {a:U9} {o:Obj} {c:T} {t':Nat} (I:Inv X pins φ g L s) (k:∀b u,s.heap.get? b=some u->h'.get? b=some u) (hp:s.heap.objs.size<=a) (new:h'.get? a=some o) (hc:RT (g.new a o) (some (a,a)) c (.ref a)) :
  Inv X pins φ (g.new a o) (c::L) { s with heap:=h',toks:=t' }:=by
 have hn:=I.hok.fresh hp;refine I.un (Le.new hn) ⟨fun b u q _ _=>k b u q,fun b u q n _=>?_,(Le.new hn).f⟩ (fun b c u e=>?_) (I.rel.new hn hc)
 ·exact(az (U6 (U4 (UX q) hp))).trans n
 ·by_cases hb:b=a
  ·subst hb
   have e':some (false,o)=some (c,u):=(ar (H:=g.H)).symm.trans e;cases e';exact new
  ·exact k b u (I.hok b c u ((az hb).symm.trans e))
noncomputable def G.set (g:G) (a:U9) (o:Obj):G:={ g with H:=upd g.H a (false,o) }
theorem Le.set {a:U9} {o u:Obj} (h:g.H a=some (false,u)):Le g (g.set a o):=⟨fun b v e=>by
  have z:b≠a:=fun z=>by rw [z,h] at e;cases e
  exact(az z).trans e,fun _ _ e=>e,rfl,rfl,rfl⟩
theorem oY {α:Type}:∀{L:List α} {n m:Nat} {c d:α},at_ (put L n d) m=some c->(m=n/\c=d)\/(m≠n/\at_ L m=some c)
 | x::L,n,m,c,d,h=>by
  have lp:∀(L:List α),(put L n d).length=L.length:=fun L=>by
   induction L with
   | nil=>rfl
   | cons y L ih=>unfold put;split <;> simp [ih]
  unfold put at h;split at h
  ·rename_i en
   unfold at_ at h ⊢
   split at h
   ·rename_i em;cases h;exact .inl ⟨by omega,rfl⟩
   ·rename_i em;rw [if_neg em];exact .inr ⟨by omega,h⟩
  ·rename_i en
   unfold at_ at h ⊢
   rw [lp] at h;split at h
   ·rename_i em;rw [if_pos em];exact .inr ⟨by omega,h⟩
   ·rename_i em;rw [if_neg em];exact oY h
theorem uU {α:Type} {L:List α} {n:Nat} {d:α}:(put L n d).length=L.length:=by
 induction L with
 | nil=>rfl
 | cons y L ih=>unfold put;split <;> simp [ih]
theorem Inv.set {n:Nat} {p:U9 × U9} {a:U9} {o u:Obj} {c:T} {t':Nat} (I:Inv X pins φ g L s) (hp:at_ g.α n=some p) (ha:a=p.1\/a=p.2) (hH:g.H a=some (false,u)) (k:∀b v,b≠a->s.heap.get? b=some v->h'.get? b=some v) (new:h'.get? a=some o)
  (hc:RT (g.set a o) (some p) c (.ref p.1)):Inv X pins φ (g.set a o) (put L n c) { s with heap:=h',toks:=t' }:=by
 have hb:∀b,g.H b=none->b≠a:=fun b n z=>by rw [z,hH] at n;cases n
 refine I.un (Le.set hH) ⟨fun b v q z _=>k b v (hb b z) q,fun b v q z _=>(az (hb b z)).trans z,(Le.set hH).f⟩ (fun b c v e=>?_) ⟨by rw [uU];exact I.rel.len,fun m d e=>?_,I.rel.apart,fun m q e=>?_⟩
 ·by_cases hb:b=a
  ·subst hb
   have e':some (false,o)=some (c,v):=(ar (H:=g.H)).symm.trans e;cases e';exact new
  ·exact k b v hb (I.hok b c v ((az hb).symm.trans e))
 ·rcases oY e with⟨rfl,rfl⟩|⟨hm,e⟩
  ·exact⟨p,hp,hc⟩
  ·obtain⟨q,h1,h2⟩:=I.rel.cells m d e
   refine⟨q,h1,h2.up (Le.set hH) fun q' z=>?_⟩;cases z;have ap:=I.rel.apart m n q p h1 hp hm
   rcases ha with rfl|rfl
   ·exact⟨az ap.1,az ap.2.2.1⟩
   ·exact⟨az ap.2.1,az ap.2.2.2⟩
 ·have sel:∀b v,g.H b=some (false,v)->∃v,upd g.H a (false,o) b=some (false,v):=fun b v e=>by
   by_cases hb:b=a
   ·exact⟨o,by rw [hb];exact ar⟩
   ·exact⟨v,(az hb).trans e⟩
  obtain⟨⟨o1,h1⟩,o2,h2⟩:=I.rel.live m q e;exact⟨sel _ _ h1,sel _ _ h2⟩
theorem Inv.iB {pins':aY} (I:Inv X pins φ g L s) (h:∀p∈pins',s.heap.get? p.1=some p.2/\g.H p.1=none/\p.1≠X.env.locals/\∀v,p.2.data≠.cell v):Inv X pins' φ g L s:={ I with pin:=h }
end
end M
namespace M
open PySem PySem.Spec PyProof.Rows
abbrev F0:Ux->UB->Prop:=fun _ _=>False
theorem thn {α:Type} {t:Sem α} {Q Q':α->UB->Prop} {Md:Model} {A:Vq} {E:Ux->UB->Prop} {s:UB} (h:UR Md A t Q F0 s) (hQ:∀a s,Q a s->Q' a s):UR Md A t Q' E s:=wpAny_mono h hQ fun _ _ z=>z.elim
noncomputable def EP (X:Cx) (pins:aY) (φ:Fr) (g:G) (w:T) (L':aa) (u:Ux) (s':UB):Prop:=∃g',Le g g'/\Inv X pins φ g' L' s'/\RT g' none w u
noncomputable def AP (X:Cx) (pins:aY) (φ:Fr) (g:G) (w:List T) (L':aa) (u:List Ux) (s':UB):Prop:=∃g',Le g g'/\Inv X pins φ g' L' s'/\cE g' w u
noncomputable def TP (X:Cx) (pins:aY) (φ:Fr) (g:G) (w:Bool) (L':aa) (b:Bool) (s':UB):Prop:=∃g',Le g g'/\Inv X pins φ g' L' s'/\b=w
noncomputable def SP (X:Cx) (pins:aY) (g:G) (o:O) (f:Flow) (s':UB):Prop:=∃g',Le g g'/\match o,f with
 | .nx φ L,.next=>Inv X pins φ g' L s'
 | .bk φ L,.brk=>Inv X pins φ g' L s'
 | .ct φ L,.cont=>Inv X pins φ g' L s'
 | .rt t L,.ret u=>(∃φ,Inv X pins φ g' L s')/\RT g' none t u
 | _,_=>False
noncomputable def PE (X:Cx) (e:Expr) (m:SE):Prop:=∀{pins:aY} {φ:Fr} {g:G} {L:aa} {s:UB} {w:T} {L':aa},Inv X pins φ g L s->m φ L=.ok w L'->UR (model X.prog X.w) X.A (eval e X.env) (EP X pins φ g w L') F0 s
noncomputable def PT (X:Cx) (e:Expr) (m:ST):Prop:=∀{pins:aY} {φ:Fr} {g:G} {L:aa} {s:UB} {w:Bool} {L':aa} (whole:Sem Ux),(whole=eval e X.env\/∃op es p,e=.BoolOp op es p)->Inv X pins φ g L s->m φ L=.ok w L'->UR (model X.prog X.w) X.A (isTrue e X.env whole) (TP X pins φ g w L') F0 s
noncomputable def PA (X:Cx) (es:List Expr) (m:SA):Prop:=∀{pins:aY} {φ:Fr} {g:G} {L:aa} {s:UB} {w:List T} {L':aa} (pos:Pos),Inv X pins φ g L s->m φ L=.ok w L'->UR (model X.prog X.w) X.A (spliced (backTo pos (starEach es X.env))) (AP X pins φ g w L') F0 s
noncomputable def PS (X:Cx) (st:Stmt) (m:SS):Prop:=∀{pins:aY} {φ:Fr} {g:G} {L:aa} {s:UB},Inv X pins φ g L s->m φ L≠.bad->UR (model X.prog X.w) X.A (exec st X.env) (SP X pins g (m φ L)) F0 s
noncomputable def xG (X:Cx) (st:List Stmt) (m:SS):Prop:=∀{pins:aY} {φ:Fr} {g:G} {L:aa} {s:UB},Inv X pins φ g L s->m φ L≠.bad->UR (model X.prog X.w) X.A (execs st X.env) (SP X pins g (m φ L)) F0 s
noncomputable def xH (X:Cx) (f:Ux->Ux->Sem Ux) (m:T->T->aa->R T):Prop:=∀{pins:aY} {φ:Fr} {g:G} {L:aa} {s:UB} {x y w:T} {L':aa} {u v:Ux},Inv X pins φ g L s->RT g none x u->RT g none y v->m x y L=.ok w L'->UR (model X.prog X.w) X.A (f u v) (EP X pins φ g w L') F0 s
noncomputable def dN (X:Cx) (f:Ux) (m:Fn):Prop:=∀{pins:aY} {φ:Fr} {g:G} {L:aa} {s:UB} {xs:List T} {w:T} {L':aa} {us:List Ux},Inv X pins φ g L s->cE g xs us->m xs L=.ok w L'->UR (model X.prog X.w) X.A (call f us) (EP X pins φ g w L') F0 s
section
variable {X:Cx} {pins:aY} {φ:Fr} {g g1:G} {L L':aa} {s s':UB} {w:T} {u:Ux} {e a b:Expr} {es:List Expr} {m ma mb:SE} {pos:Pos} {x:Str}
theorem EP.le (h:EP X pins φ g1 w L' u s') (l:Le g g1):EP X pins φ g w L' u s':=let ⟨g',k,r⟩:=h;⟨g',l.trans k,r⟩
theorem SP.le {o:O} {f:Flow} (h:SP X pins g1 o f s') (l:Le g g1):SP X pins g o f s':=let ⟨g',k,r⟩:=h;⟨g',l.trans k,r⟩
theorem Inv.ep (I:Inv X pins φ g L s) (r:RT g none w u):EP X pins φ g w L u s:=⟨g,.refl g,I,r⟩
theorem two {f:T->T->aa->R T} (ha:PE X a ma) (hb:PE X b mb) (I:Inv X pins φ g L s) (h:b2 ma mb f φ L=.ok w L') {α:Type} {Q:α->UB->Prop} {F:Ux->Ux->Sem α}
  (hf:∀{g' x y L2 u v s2},Le g g'->Inv X pins φ g' L2 s2->RT g' none x u->RT g' none y v->f x y L2=.ok w L'->UR (model X.prog X.w) X.A (F u v) Q F0 s2) :
  UR (model X.prog X.w) X.A (eval a X.env) (fun u s₁=>UR (model X.prog X.w) X.A (eval b X.env) (fun v s₂=>UR (model X.prog X.w) X.A (F u v) Q F0 s₂) F0 s₁) F0 s:=by
 obtain⟨x,L1,e1,h⟩:=R.of h;obtain⟨y,L2,e2,h⟩:=R.of h;refine thn (ha I e1) fun u s1 ⟨g1,l1,I1,r1⟩=>thn (hb I1 e2) fun v s2 ⟨g2,l2,I2,r2⟩=>hf (l1.trans l2) I2 (r1.le l2) r2 h
theorem Ex {i:Nat} (hN:X.N[i]?=some x) (hv:LO X.env.scope x) (hd:(x == ("__debug__":Str))=false) (hcd:(x == ("__classdict__":Str))=false):PE X (.Name x pos) (v i):=by
 intro pins φ g L s w L' I h;unfold v at h;cases e:φ[i]? with
 | none=>rw [e] at h;cases h
 | some o =>
  cases o with
  | none=>rw [e] at h;cases h
  | some t =>
   rw [e] at h;cases h;obtain⟨m,hn,hl⟩:=I.loc;obtain⟨u,r,l⟩:=hl i x _ hN e hv;have fin:=I.ep r
   rcases l with⟨hk,hm⟩|⟨hk,c,hc,hcell⟩
   ·exact wpAny_Name (wpAny_loadName_local I.ok.kind hk hn hm fin) hd
   ·rcases hk with hk|hk
    ·exact wpAny_Name (wpAny_loadName_cell I.ok.kind hk hc hcell fin) hd
    ·exact wpAny_Name (wpAny_loadName_free I.ok.kind hk hc hcell fin hcd) hd
theorem cJ:PE X e no:=fun _ h=>by cases h
theorem Ey {i:Int} {j:Nat}:PE X (.Constant (.int i) j pos) (c (.int i)):=fun I h=>by cases h;exact wpAny_Constant_int ((I.tok _).ep (.int i _))
theorem IA {b:Bool} {j:Nat}:PE X (.Constant (.bool b) j pos) (c (.bl b)):=fun I h=>by cases h;exact Constant_bool (I.ep (.bl b))
theorem Ez {j:Nat}:PE X (.Constant .none j pos) (c .bZ):=fun I h=>by cases h;exact Constant_none (I.ep .bZ)
theorem EA {x:Str} {j:Nat} (hz:x.cps.toList.length<=U1):PE X (.Constant (.str x) j pos) (c (.str x.cps.toList)):=fun I h=>by cases h;exact Calls.Constant_str ((I.tok _).ep (.str _ _ hz))
abbrev Gl (X:Cx) (x:Str):Prop:=X.env.kindOf x=some .globalImplicit
theorem oZ {Q:Ux->UB->Prop} (I:Inv X pins φ g L s) (hg:Gl X x) (hm:X.mg x=some u) (h:Q u s) (hd:(x == ("__debug__":Str))=false):UR (model X.prog X.w) X.A (eval (.Name x pos) X.env) Q F0 s :=
 YI I.ok.kind hg (Calls.loadGlobal_global (by rw [I.ok.glob];exact I.mod.glob.keeps I.bk) hm h) hd
theorem fN {Q:Ux->UB->Prop} (I:Inv X pins φ g L s) (hg:Gl X x) (hm:X.mg x=none) (hv:bootBuiltins x=some u) (h:Q u s) (hn:x≠"__name__") (hd:(x == ("__debug__":Str))=false):UR (model X.prog X.w) X.A (eval (.Name x pos) X.env) Q F0 s:=by
 obtain⟨mb,h1,h2⟩:=I.mod.blt;exact YI I.ok.kind hg (Calls.loadGlobal_builtin (by rw [I.ok.glob];exact I.mod.glob.keeps I.bk) hm (by rw [I.ok.blt];exact h1.keeps I.bk) ((h2 x hn).trans hv) h) hd
noncomputable def Pc (X:Cx) (t:T) (u:Ux):Prop:=∀g:G,g.B=X.base->g.cls=X.cls->g.w=X.w->RT g none t u
theorem EB {t:T} (hg:Gl X x) (hm:X.mg x=some u) (r:Pc X t u) (hd:(x == ("__debug__":Str))=false):PE X (.Name x pos) (c t):=fun I h=>by cases h;exact oZ I hg hm (I.ep (r _ I.gB I.gm I.gw)) hd
theorem EC {t:T} (hg:Gl X x) (hm:X.mg x=none) (hv:bootBuiltins x=some u) (r:Pc X t u) (hn:x≠"__name__") (hd:(x == ("__debug__":Str))=false):PE X (.Name x pos) (c t):=fun I h=>by cases h;exact fN I hg hm hv (I.ep (r _ I.gB I.gm I.gw)) hn hd
theorem ED {op:Operator} {f:T->T->aa->R T} (ho:xH X (binaryOp op) f) (ha:PE X a ma) (hb:PE X b mb):PE X (.BinOp a op b pos) (b2 ma mb f):=fun I h =>
 wpAny_BinOp (two ha hb I h fun l I r1 r2 h=>thn (ho I r1 r2 h) fun _ _ z=>z.le l)
theorem EE {op:CmpOp} {f:T->T->aa->R T} (ho:xH X (compareOp op) f) (ha:PE X a ma) (hb:PE X b mb) (hm:behindInMarks op b=false):PE X (.Compare a [op] [b] pos) (b2 ma mb f):=fun I h =>
 wpAny_Compare1 (two ha hb I h fun l I r1 r2 h=>thn (ho I r1 r2 h) fun _ _ z=>z.le l) hm
theorem IB {f:T->T->aa->R T} (ho:xH X (fun o i=>subscriptTail a b o i) f) (ha:PE X a ma) (hb:PE X b mb):PE X (.Subscript a b pos) (b2 ma mb f):=fun I h =>
 Subscript_ (two ha hb I h fun l I r1 r2 h=>thn (ho I r1 r2 h) fun _ _ z=>z.le l)
theorem IC {op:UnaryOp} {f:T->aa->R T} (ho:∀{pins φ g L s x w L' u},Inv X pins φ g L s->RT g none x u->f x L=.ok w L'->UR (model X.prog X.w) X.A (unaryOp op u) (EP X pins φ g w L') F0 s) (ha:PE X a ma):PE X (.UnaryOp op a pos) (b1 ma f):=fun I h=>by
 obtain⟨x,L1,e1,h⟩:=R.of h;exact UnaryOp_ (thn (ha I e1) fun v s1 ⟨g1,l1,I1,r1⟩=>thn (ho I1 r1 h) fun _ _ z=>z.le l1)
theorem EF {x w:T} {L':aa} (h:neg x L=.ok w L'):∃i,x=.int i/\w=.int (-i)/\L'=L:=by
 cases x with
 | int i=>cases h;exact⟨i,rfl,rfl,rfl⟩
 | _=>cases h
theorem EG {pins φ g L s x w L' u} (I:Inv X pins φ g L s) (r:RT g none x u) (h:neg x L=.ok w L'):UR (model X.prog X.w) X.A (unaryOp .USub u) (EP X pins φ g w L') F0 s:=by
 obtain⟨i,rfl,rfl,rfl⟩:=EF h;obtain⟨_,rfl⟩:=r.iI;exact neg_int ((I.tok _).ep (.int _ _))
theorem n7 {a:SE} {φ L b L'} (h:tv a φ L=.ok b L'):a φ L=.ok (.bl b) L':=by
 obtain⟨x,L1,e1,h⟩:=R.of h;cases x <;> first|cases h|skip
 exact e1
theorem pd {α β:Type} {f:α->β} {r:R α} {b:β} {L:aa} (h:r.map f=.ok b L):∃a,r=.ok a L/\f a=b:=by
 cases r with
 | bad=>cases h
 | ok a L1=>cases h;exact⟨a,rfl,rfl⟩
theorem EH (ha:PE X a ma):PE X (.UnaryOp .Not a pos) (mc ma):=fun I h=>by
 obtain⟨b,e,rfl⟩:=pd h;exact UnaryOp_ (thn (ha I (n7 e)) fun v s1 ⟨g1,l1,I1,r1⟩=>by obtain rfl:=r1.bI;exact not_of (wpAny_truthy_bool ⟨g1,l1,I1,.bl _⟩))
theorem xI {op:BoolOp} (h:PE X a m):PE X (.BoolOp op [a] pos) m:=fun I hw=>BoolOp_one (h I hw)
theorem EI (ha:PE X a ma) (hb:PE X (.BoolOp .And (b::es) pos) mb):PE X (.BoolOp .And (a::b::es) pos) (Bj ma mb):=fun I h=>by
 obtain⟨k,L1,e,h⟩:=R.of h;refine BoolOp_and (thn (ha I (n7 e)) fun v s1 ⟨g1,l1,I1,r1⟩=>?_);obtain rfl:=r1.bI;refine wpAny_truthy_bool ?_;cases k with
 | true=>exact thn (hb I1 h) fun _ _ z=>z.le l1
 | false=>cases h;exact⟨g1,l1,I1,.bl _⟩
theorem ID (ha:PE X a ma) (hb:PE X (.BoolOp .Or (b::es) pos) mb):PE X (.BoolOp .Or (a::b::es) pos) (LM ma mb):=fun I h=>by
 obtain⟨k,L1,e,h⟩:=R.of h;refine BoolOp_or (thn (ha I (n7 e)) fun v s1 ⟨g1,l1,I1,r1⟩=>?_);obtain rfl:=r1.bI;refine wpAny_truthy_bool ?_;cases k with
 | false=>exact thn (hb I1 h) fun _ _ z=>z.le l1
 | true=>cases h;exact⟨g1,l1,I1,.bl _⟩
theorem uV:PT X e no:=fun _ _ _ h=>by cases h
theorem EJ (h:PE X e m) (he:∀whole,isTrue e X.env whole=(do let v <- whole;standAt e.pos;holding [v] (truthy v))) (hb:∀op es p,e≠.BoolOp op es p):PT X e (tv m):=fun {_ _ _ _ _ _ _} whole hw I q=>by
 rcases hw with rfl|⟨_,_,_,z⟩
 ·exact isTrue_plain (thn (h I (n7 q)) fun v s1 ⟨g1,l1,I1,r1⟩=>by obtain rfl:=r1.bI;exact wpAny_truthy_bool ⟨g1,l1,I1,rfl⟩) (he _)
 ·exact absurd z (hb _ _ _)
theorem EK {m:ST} (ha:PT X a m):PT X (.UnaryOp .Not a pos) (d9 m):=fun {_ _ _ _ _ _ _} whole _ I h=>by
 obtain⟨b,e,rfl⟩:=pd h;exact isTrue_not (thn (ha _ (.inl rfl) I e) fun _ _ ⟨g1,l1,I1,e1⟩=>⟨g1,l1,I1,by rw [e1]⟩)
theorem Bn {m:ST} (ha:PT X a m):PT X (.BoolOp .And [a] pos) m:=fun {_ _ _ _ _ _ _} whole _ I h=>by
 refine isTrue_and (thn (ha _ (.inl rfl) I h) fun c s1 e=>?_);cases c with
 | true=>exact isTrue_and_nil e
 | false=>exact e
theorem EL {m:ST} (ha:PT X a m):PT X (.BoolOp .Or [a] pos) m:=fun {_ _ _ _ _ _ _} whole _ I h=>by
 refine isTrue_or (thn (ha _ (.inl rfl) I h) fun c s1 e=>?_);cases c with
 | true=>exact e
 | false=>exact isTrue_or_nil e
theorem EM {ma mb:ST} (ha:PT X a ma) (hb:PT X (.BoolOp .And (b::es) pos) mb):PT X (.BoolOp .And (a::b::es) pos) (Bi ma mb):=fun {_ _ _ _ _ _ _} whole _ I h=>by
 obtain⟨k,L1,e,h⟩:=R.of h;refine isTrue_and (thn (ha _ (.inl rfl) I e) fun c s1 ⟨g1,l1,I1,e1⟩=>?_);subst e1;cases c with
 | true=>exact thn (hb whole (.inr ⟨_,_,_,rfl⟩) I1 h) fun _ _ ⟨g2,l2,r⟩=>⟨g2,l1.trans l2,r⟩
 | false=>cases h;exact⟨g1,l1,I1,rfl⟩
theorem IE {ma mb:ST} (ha:PT X a ma) (hb:PT X (.BoolOp .Or (b::es) pos) mb):PT X (.BoolOp .Or (a::b::es) pos) (LL ma mb):=fun {_ _ _ _ _ _ _} whole _ I h=>by
 obtain⟨k,L1,e,h⟩:=R.of h;refine isTrue_or (thn (ha _ (.inl rfl) I e) fun c s1 ⟨g1,l1,I1,e1⟩=>?_);subst e1;cases c with
 | false=>exact thn (hb whole (.inr ⟨_,_,_,rfl⟩) I1 h) fun _ _ ⟨g2,l2,r⟩=>⟨g2,l1.trans l2,r⟩
 | true=>cases h;exact⟨g1,l1,I1,rfl⟩
theorem EN {op:CmpOp} {f:T->T->aa->R T} (ho:xH X (compareOp op) f) (ha:PE X a ma) (hb:PE X b mb) (hm:behindInMarks op b=false):PT X (.Compare a [op] [b] pos) (tv (b2 ma mb f)):=fun {_ _ _ _ _ _ _} whole _ I h =>
 wpAny_isTrue_Compare1 (two ha hb I (n7 h) fun l I r1 r2 h=>thn (ho I r1 r2 h) fun _ _ ⟨g1,l1,I1,r1⟩=>by obtain rfl:=r1.bI;exact wpAny_truthy_bool ⟨g1,l.trans l1,I1,rfl⟩) hm
theorem uW {op n6:CmpOp} {a b d:SE} {φ L w L'} (h:wo op n6 a b d φ L=.ok w L'):∃x L1 y L2 k L3,a φ L=.ok x L1/\b φ L1=.ok y L2/\cmp op x y L2=.ok (.bl k) L3/\((k=false/\w=.bl false/\L'=L3)\/(k=true/\∃z L4,d φ L3=.ok z L4/\cmp n6 y z L4=.ok w L')):=by
 obtain⟨x,L1,e1,h⟩:=R.of h;obtain⟨y,L2,e2,h⟩:=R.of h;obtain⟨k,L3,e3,h⟩:=R.of h;refine⟨x,L1,y,L2,k,L3,e1,e2,by unfold cmp;rw [e3];rfl,?_⟩;cases k with
 | false=>cases h;exact .inl ⟨rfl,rfl,rfl⟩
 | true=>obtain⟨z,L4,e4,h⟩:=R.of h;exact .inr ⟨rfl,z,L4,e4,h⟩
theorem xJ {op n6:CmpOp} {d:Expr} {md:SE} (ho:∀op,xH X (compareOp op) (cmp op)) (ha:PE X a ma) (hb:PE X b mb) (hd:PE X d md) (hm:lastMarks [op,n6] [b,d]=false):PE X (.Compare a [op,n6] [b,d] pos) (wo op n6 ma mb md):=fun I h=>by
 obtain⟨x,L1,y,L2,k,L3,e1,e2,e3,h⟩:=uW h;refine Compare_chain (thn (ha I e1) fun v s1 ⟨g1,l1,I1,r1⟩=>chain_link (thn (hb I1 e2) fun u s2 ⟨g2,l2,I2,r2⟩=>thn (ho op I2 (r1.le l2) r2 e3) fun d s3 ⟨g3,l3,I3,r3⟩=>?_)) hm;cases r3;refine wpAny_truthy_bool ?_;have Bb:=(l1.trans l2).trans l3
 rcases h with⟨rfl,rfl,rfl⟩|⟨rfl,z,L4,e4,h⟩
 ·exact ite_ff ⟨g3,Bb,I3,.bl _⟩
 ·exact ite_tt (chain_last (thn (hd I3 e4) fun w' s4 ⟨g4,l4,I4,r4⟩=>thn (ho n6 I4 (r2.le (l3.trans l4)) r4 h) fun _ _ z=>z.le (Bb.trans l4)))
theorem xK {op n6:CmpOp} {d:Expr} {md:SE} (ho:∀op,xH X (compareOp op) (cmp op)) (ha:PE X a ma) (hb:PE X b mb) (hd:PE X d md) (hm:lastMarks [op,n6] [b,d]=false):PT X (.Compare a [op,n6] [b,d] pos) (tv (wo op n6 ma mb md)):=fun {_ _ _ _ _ _ _} whole _ I h=>by
 obtain⟨x,L1,y,L2,k,L3,e1,e2,e3,h⟩:=uW (n7 h);refine isTrue_chain (thn (ha I e1) fun v s1 ⟨g1,l1,I1,r1⟩=>test_link (thn (hb I1 e2) fun u s2 ⟨g2,l2,I2,r2⟩=>thn (ho op I2 (r1.le l2) r2 e3) fun d s3 ⟨g3,l3,I3,r3⟩=>?_)) hm;cases r3;refine wpAny_truthy_bool ?_;have Bb:=(l1.trans l2).trans l3
 rcases h with⟨rfl,e,rfl⟩|⟨rfl,z,L4,e4,h⟩
 ·cases e;exact ite_ff ⟨g3,Bb,I3,rfl⟩
 ·exact ite_tt (test_last (thn (hd I3 e4) fun w' s4 ⟨g4,l4,I4,r4⟩=>thn (ho n6 I4 (r2.le (l3.trans l4)) r4 h) fun _ _ ⟨g5,l5,I5,r5⟩=>by cases r5;exact wpAny_truthy_bool ⟨g5,(Bb.trans l4).trans l5,I5,rfl⟩))
theorem EO {k:Expr} {mk:ST} (hk:PT X k mk) (ha:PE X a ma) (hb:PE X b mb):PE X (.IfExp k a b pos) (Mo mk ma mb):=fun I h=>by
 obtain⟨k,L1,e,h⟩:=R.of h;refine wpAny_IfExp (thn (hk _ (.inl rfl) I e) fun d s1 ⟨g1,l1,I1,e1⟩=>?_);subst e1;cases d with
 | true=>exact thn (ha I1 h) fun _ _ z=>z.le l1
 | false=>exact thn (hb I1 h) fun _ _ z=>z.le l1
noncomputable def bf:Expr->Bool
 | .Starred ..=>false
 | _=>true
theorem ay {env:Env} (h:bf e=true):starEach (e::es) env=(false,eval e env)::starEach es env:=by
 cases e <;> first|rfl|cases h
theorem pf:PA X [] (iA []):=fun {_ _ _ _ _ _ _} _ I h=>by cases h;exact Xt ⟨_,.refl _,I,.nil⟩
theorem ju {ms:List SE} (ha:PE X e m) (hr:PA X es (iA ms)) (hs:bf e=true):PA X (e::es) (iA (m::ms)):=fun {_ _ _ _ _ _ _} pos I h=>by
 obtain⟨t,L1,e1,h⟩:=R.of h;obtain⟨ts,L2,e2,h⟩:=R.of h;cases h;rw [ay hs];show UR _ _ (spliced ((false,eval e X.env)::backTo pos (starEach es X.env))) _ _ _
 exact X0 (thn (ha I e1) fun u s1 ⟨g1,l1,I1,r1⟩=>thn (hr pos I1 e2) fun us s2 ⟨g2,l2,I2,r2⟩=>⟨g2,l1.trans l2,I2,.cons (r1.le l2) r2⟩)
theorem cE.lst {us:List Ux} {xs:List T} {p:Option (U9 × U9)} {a:U9} {n:Nat} {o:Obj} (r:cE g xs us) (l:Le g g1) (ht:td p a a) (hk:g1.kn p.isNone a { cls:=.type "list",data:=.seq us.toArray n }) (hz:xs.length<=U1):RT g1 p (.lst xs) (.ref a) :=
 .lst ht hk hz (by simpa using US r) fun i x v e1 e2=>(wx r i x v e1 (by simpa using e2)).le l
theorem j7 {fz:Bool} {xs:List T} {us:List Ux} {L2:aa} {t' n:Nat} {h':Heap} (I:Inv X pins φ g L s) (r:cE g xs us) (h:fo fz xs L=.ok w L2) (k:∀b u,s.heap.get? b=some u->h'.get? b=some u) (new:h'.get? s.heap.objs.size=some { cls:=.type "list",data:=.seq us.toArray n }) :
  EP X pins φ g w L2 (.ref s.heap.objs.size) { s with heap:=h',toks:=t' }:=by
 unfold fo cb at h;split at h
 ·rename_i hz
  unfold mk at h;split at h
  ·cases h
   exact⟨_,Le.lay I.fresh,I.laid k (UM _) new,r.lst (n:=n) (o:=default) (Le.lay I.fresh) (.inl rfl) (.inl ar) hz⟩
  ·cases h
   refine⟨_,Le.new I.fresh,I.new k (UM _) new (r.lst (n:=n) (o:=default) (Le.new I.fresh) (.inr rfl) (.inl ar) hz),?_⟩;have:=I.rel.len
   exact .ref (p:=(s.heap.objs.size,s.heap.objs.size)) (by show at_ ((_,_)::g.α) _=_;rw [<- this];exact eW)
 ·cases h
theorem ph {fz:Bool} {xs:List T} {L2:aa} (h:fo fz xs L=.ok w L2):xs.length<=U1:=by
 unfold fo cb at h;split at h
 ·assumption
 ·cases h
theorem ER {ms:List SE} {fz:Bool} (h:PA X es (iA ms)):PE X (.List es pos) (lst fz ms):=fun I q=>by
 obtain⟨ts,L1,e1,q⟩:=R.of q;refine wpAny_List_spliced (thn (h pos I e1) fun us s1 ⟨g1,l1,I1,r⟩=>⟨by rw [<- US r];exact ph q,?_⟩);exact(j7 (t':=s1.toks) I1 r q (fun b u e=>Ur _ e) (Uy _ rfl)).le l1
theorem cE.tup {us:List Ux} {xs:List T} {a:U9} {n:Nat} {o:Obj} (r:cE g xs us) (l:Le g g1) (hk:g1.kn true a o) (hc:o.cls=.type "tuple"/\o.dict=none) (hd:o.data=.seq us.toArray n) (hz:xs.length<=U1):RT g1 none (.tup xs) (.ref a) :=
 .tup hk hc hd hz (by simpa using US r) fun i x v e1 e2=>(wx r i x v e1 (by simpa using e2)).le l
theorem ES {ms:List SE} {k:Nat} (h:PA X es (iA ms)) (hz:es.length<=U1) (hl:es.length=ms.length):PE X (.Tuple es k pos) (tup ms):=fun I q=>by
 obtain⟨ts,L1,e1,q⟩:=R.of q;cases q;have len:∀{ms:List SE} {φ L ts L1},iA ms φ L=.ok ts L1->ts.length=ms.length:=fun {ms}=>by
  induction ms with
  | nil=>intro φ L ts L1 h;cases h;rfl
  | cons m ms ih =>
   intro φ L ts L1 h;obtain⟨t,L1,e1,h⟩:=R.of h;obtain⟨ts,L2,e2,h⟩:=R.of h;cases h;simp [ih e2]
 have hz':ts.length<=U1:=by rw [len e1,<- hl];exact hz
 refine wpAny_Tuple_spliced (thn (h pos I e1) fun us s1 ⟨g1,l1,I1,r⟩=>⟨by rw [<- US r];exact hz',?_⟩);exact⟨_,l1.trans (Le.lay I1.fresh),I1.laid (t':=s1.toks) (fun b u e=>Ur _ e) (UM _) (Uy _ rfl),r.tup (Le.lay I1.fresh) (.inl ar) ⟨rfl,rfl⟩ rfl hz'⟩
end
section
variable {X:Cx} {pins:aY} {φ:Fr} {g g1:G} {L L':aa} {s s':UB} {w:T} {u:Ux} {e a b:Expr} {es:List Expr} {m ma mb:SE} {pos:Pos} {x:Str} {st:Stmt} {rest:List Stmt} {ms m1 m2:SS}
theorem xM:PS X st fW:=fun _ h=>absurd rfl h
theorem Bo:xG X [] (ab []):=fun I _=>wpAny_execs_nil ⟨_,.refl _,I⟩
theorem xN {r:List SS} (h1:PS X st ms) (h2:xG X rest (ab r)):xG X (st::rest) (ab (ms::r)):=fun {pins φ g L s} I h=>by
 have e:ab (ms::r) φ L=(ms φ L).next (ab r):=rfl
 rw [e] at h ⊢;refine wpAny_execs_cons (thn (h1 I fun z=>h (by rw [z];rfl)) fun f s1 q=>?_);cases o:ms φ L with
 | bad=>rw [o] at h;exact absurd rfl h
 | nx φ1 L1 =>
  rw [o] at q h;obtain⟨g',l,q⟩:=q;cases f <;> first|exact q.elim|skip
  exact thn (h2 q h) fun _ _ z=>z.le l
 | _ =>
  rw [o] at q;obtain⟨g',l,q⟩:=q;cases f <;> first|exact q.elim|exact⟨g',l,q⟩
theorem Bp:PS X (.Pass pos) pass:=fun I _=>wpAny_Pass ⟨_,.refl _,I⟩
theorem ET:PS X (.Break pos) brk:=fun I _=>wpAny_Break ⟨_,.refl _,I⟩
theorem EU:PS X (.Continue pos) cnt:=fun I _=>wpAny_Continue ⟨_,.refl _,I⟩
theorem Inv.quiet (I:Inv X pins φ g L s):interactive X.env=false:=by simp [interactive,I.ok.kind]
theorem gZ {α:Type} {r:R α} {f:α->aa->O} (h:O.of r f≠.bad):∃a L,r=.ok a L/\O.of r f=f a L/\f a L≠.bad:=by
 cases r with
 | bad=>exact absurd rfl h
 | ok a L=>exact⟨a,L,rfl,rfl,h⟩
noncomputable def iQ:Expr->Bool
 | .ListComp ..=>false
 | .SetComp ..=>false
 | .DictComp ..=>false
 | _=>true
theorem jv {t:Option Expr} {l:Nat} {env:Env} (h:iQ e=true):swapsWith e t l env=pure false:=by
 cases e <;> first|rfl|cases h
theorem EV (he:PE X e m) (hs:iQ e=true):PS X (.Expr e pos) (fX m):=fun I h=>by
 obtain⟨t,L1,e1,e2,h⟩:=gZ h;rw [show fX m _ _=_ from e2];exact wpAny_Expr_any (thn (he I e1) fun v s1 ⟨g1,l1,I1,r1⟩=>⟨g1,l1,I1⟩) I.quiet (jv hs)
theorem EW (he:PE X e m):PS X (.Return (some e) pos) (ret m):=fun I h=>by
 obtain⟨t,L1,e1,e2,h⟩:=gZ h;rw [show ret m _ _=_ from e2];exact wpAny_Return_some (thn (he I e1) fun v s1 ⟨g1,l1,I1,r1⟩=>⟨g1,l1,⟨_,I1⟩,r1⟩)
theorem Bq:PS X (.Return none pos) (ret (c .bZ)):=fun I _=>wpAny_Return_none ⟨_,.refl _,⟨_,I⟩,.bZ⟩
theorem IF {k:Expr} {mk:ST} {sa sb:List Stmt} (hk:PT X k mk) (ha:xG X sa m1) (hb:xG X sb m2):PS X (.If k sa sb pos) (iff mk m1 m2):=fun I h=>by
 obtain⟨k,L1,e1,e2,h⟩:=gZ h;rw [show iff mk m1 m2 _ _=_ from e2];refine wpAny_If (thn (hk _ (.inl rfl) I e1) fun d s1 ⟨g1,l1,I1,e⟩=>?_);subst e;cases d with
 | true=>exact thn (ha I1 h) fun _ _ z=>z.le l1
 | false=>exact thn (hb I1 h) fun _ _ z=>z.le l1
theorem qM {N:List Str} (hN:N.Nodup) {i j:Nat} {x:Str} (a:N[i]?=some x) (b:N[j]?=some x):i=j:=by
 obtain⟨h1,e1⟩:=UO.mp a;obtain⟨h2,e2⟩:=UO.mp b;exact(List.getElem_inj hN).mp (e1.trans e2.symm)
structure tj (X:Cx) (i:Nat) (x:Str):Prop where
 nd:X.N.Nodup
 ix:X.N[i]?=some x
 loc:Loc X.env.scope x
 fn:X.fn x=true\/X.env.scope.names.lookup x=some .local
theorem mr {Md:Model} {A:Vq} {E:Ux->UB->Prop} {i:Nat} {t:T} {Q:Unit->UB->Prop} (I:Inv X pins φ g L s) (S:tj X i x) (r:RT g none t u)
  (h:∀s',Inv X pins (φ.set i (some t)) g L s'->(∃a,Wc a s.heap s'.heap/\(a=X.env.locals\/X.env.cells.lookup x=some a))->Q () s'):UR Md A (storeName X.env x u) Q E s:=by
 obtain⟨m,hn,hl⟩:=id I.loc;have Ms:(X.env.scope.kind == .class || (X.env.scope.kind == .module && X.env.locals != X.env.globals))=false:=by rw [I.ok.kind];rfl
 have Pd:i<φ.length:=by rw [I.len];exact(UO.mp S.ix).1
 have HZ:=I.HZ;have tracked:∀{a:U9} {h':Heap},g.H a=none->Wc a s.heap h'->Ba g.H h':=fun {a h'} hf hs b c o e=>(hs.2 b fun z=>by rw [z,hf] at e;cases e).trans (I.hok b c o e)
 have IG:∀{a:U9} {h':Heap},X.s₀.heap.objs.size<=a->Wc a s.heap h'->Un X.ex X.H₀ g.H X.s₀.heap h':=fun {a h'} ha hs =>
  ⟨fun b o e n hx=>(hs.2 b (U6 (U4 (UX e) ha))).trans (I.base.keep b o e n hx),I.base.free,I.base.cg⟩
 rcases S.loc with hk|hk
 ·refine wpAny_storeName_local hk hn (fun h' hn' hs=>?_) Ms
  refine h _ { I with base:=IG I.ok.above hs,loc:=⟨_,hn',fun j y v' e1 e2 e3=>?_⟩,cell:=fun y c e=>?_,pin:=fun p hp=>?_,hok:=tracked I.free hs,len:=by simpa using I.len } ⟨_,hs,.inl rfl⟩
  ·by_cases hj:j=i
   ·subst hj
    rw [S.ix] at e1;cases e1;rw [ZJ Pd] at e2;cases e2;exact⟨u,r,.inl ⟨hk,by simp⟩⟩
   ·rw [Ys (V0 hj)] at e2
    obtain⟨u',r',q⟩:=hl j y v' e1 e2 e3;refine⟨u',r',?_⟩;rcases q with⟨k,e⟩|⟨k,c,e,z⟩
    ·refine .inl ⟨k,?_⟩
     have:y≠x:=fun e=>hj (qM S.nd e1 (e ▸ S.ix))
     simp [this,e]
    ·exact .inr ⟨k,c,e,z.sameBut hs (HZ y c e)⟩
  ·obtain⟨w',z⟩:=I.cell y c e
   exact⟨w',z.sameBut hs (HZ y c e)⟩
  ·obtain⟨e,n,ne,d⟩:=I.pin p hp
   exact⟨(hs.2 p.1 ne).trans e,n,ne,d⟩
 ·have Mt:X.fn x=true:=by
   rcases S.fn with z|z
   ·exact z
   ·rw [z] at hk;cases hk
  obtain⟨c,hc⟩:=I.ok.has x (.inl hk);obtain⟨w',z⟩:=I.cell x c hc;refine wpAny_storeName_cell I.ok.kind hk hc z (fun h' hc' hs=>?_);obtain⟨oc,QR,Mu⟩:=id z;refine h { s with heap:=h' } { I with base:=IG (I.ok.QN x c Mt hc) hs,loc:=⟨m,hn.sameBut hs (V0 (HZ x c hc)),fun j y v' e1 e2 e3=>?_⟩,cell:=fun y c' e=>?_,pin:=fun p hp=>?_,hok:=tracked (I.qL x c hc) hs,len:=by simpa using I.len } ⟨c,hs,.inr hc⟩
  ·by_cases hj:j=i
   ·subst hj
    rw [S.ix] at e1;cases e1;rw [ZJ Pd] at e2;cases e2;exact⟨u,r,.inr ⟨.inl hk,c,hc,hc'⟩⟩
   ·rw [Ys (V0 hj)] at e2
    obtain⟨u',r',q⟩:=hl j y v' e1 e2 e3;refine⟨u',r',?_⟩;rcases q with q|⟨k,c',e,z'⟩
    ·exact .inl q
    ·refine .inr ⟨k,c',e,z'.sameBut hs ?_⟩
     rintro rfl;exact hj (qM S.nd e1 (I.ok.inj _ _ _ e hc ▸ S.ix))
  ·by_cases H3:c'=c
   ·subst H3;exact⟨_,hc'⟩
   ·obtain⟨w2,z2⟩:=I.cell y c' e
    exact⟨w2,z2.sameBut hs H3⟩
  ·obtain⟨e,n,ne,d⟩:=I.pin p hp
   refine⟨(hs.2 p.1 ?_).trans e,n,ne,d⟩;intro q;rw [q,QR] at e;have q':oc=p.2:=We e
   exact d w' (by rw [<- q'];exact Mu)
noncomputable def PG (X:Cx) (tg:Expr) (m:Tg):Prop:=∀{pins:aY} {φ φ':Fr} {g:G} {L:aa} {s:UB} {t:T} {u:Ux},Inv X pins φ g L s->RT g none t u->m.set t φ=some φ'->UR (model X.prog X.w) X.A (assign tg X.env u) (fun _ s'=>Inv X pins φ' g L s') F0 s
theorem lK {i:Nat} (S:tj X i x):PG X (.Name x pos) (.one i):=fun I r h=>by cases h;exact wpAny_assign_Name (mr I S r fun s' I' _=>I')
noncomputable def IH (X:Cx) (ts:List Expr) (is:List Nat):Prop:=∀{pins:aY} {φ:Fr} {g:G} {L:aa} {s:UB} {xs:List T} {us:List Ux},Inv X pins φ g L s->cE g xs us->xs.length=is.length ->
 UR (model X.prog X.w) X.A (assignInOrder ((assignEach ts X.env).map (·.2)) us) (fun _ s'=>Inv X pins (sets is xs φ) g L s') F0 s
theorem Br:IH X [] []:=fun I r _=>by cases r with|nil=>exact assignInOrder_nil I|cons _ _=>contradiction
theorem xO {i:Nat} {is:List Nat} {ts:List Expr} (S:tj X i x) (h:IH X ts is):IH X (.Name x pos::ts) (i::is):=fun I r hl=>by
 cases r with
 | nil=>cases hl
 | cons r1 r2 =>
  show UR _ _ (assignInOrder (assign (.Name x pos) X.env::(assignEach ts X.env).map (·.2)) _) _ _ _;exact assignInOrder_cons (thn (lK S I r1 rfl) fun _ s1 I1=>h I1 r2 (by simpa using hl))
theorem Inv.tup {xs:List T} (I:Inv X pins φ g L s) (r:RT g none (.tup xs) u):∃a its,u=.ref a/\IsTup s.heap a its/\cE g xs its.toList/\xs.length<=U1:=by
 cases r with
 | tup hk hc hd hz hl hi=>exact⟨_,_,rfl,⟨_,I.kn hk,hc.1,_,hd⟩,dy (by simpa using hl) fun i x v e1 e2=>hi i x v e1 (by simpa using e2),hz⟩
theorem xP {is:List Nat} {ts:List Expr} {k:Nat} (h:IH X ts is) (hn:(assignEach ts X.env).length=is.length) (lL:(assignEach ts X.env).findIdx? (·.1)=none):PG X (.Tuple ts k pos) (.many is):=fun {_ _ _ _ _ _ t _} I r hw=>by
 cases t <;> try cases hw
 rename_i xs;have hw':(if xs.length=is.length then some (sets is xs _) else none)=some _:=hw
 clear hw;rename_i φ φ' _ _ _ _;split at hw'
 ·rename_i hl
  cases hw';obtain⟨a,its,rfl,ht,rv,hz⟩:=I.tup r;refine assign_Tuple_tuple I.ok.hd ht (by rw [hn,<- hl,US rv];simp) lL fun h' hx=>?_
  exact h (I.kept (t':=_) fun b o e=>hx b o (U6 (UX e)) e) rv hl
 ·cases hw'
theorem tm {tg:Expr} {t:Tg} (he:PE X e m) (hg:PG X tg t) (hs:swapsWithSole [tg] e pos.line X.env=pure false) (hw:swappedStores [tg] e X.env=pure none) (h1:(assignEach [tg] X.env).map (·.2)=[assign tg X.env]):PS X (.Assign [tg] e pos) (asg t m):=fun {pins φ g L s} I h=>by
 obtain⟨v,L1,e1,e2,h⟩:=gZ h;cases ef:t.set v φ with
 | none=>simp only [ef] at h;exact absurd rfl h
 | some φ1 =>
  have e3:asg t m φ L=.nx φ1 L1:=by
   rw [show asg t m φ L=_ from e2];simp only [ef]
  rw [e3];refine wpAny_Assign_stores (thn (he I e1) fun v s1 ⟨g1,l1,I1,r1⟩=>?_) hs hw;rw [h1];exact thn (hg I1 r1 ef) fun _ s2 q=>⟨g1,l1,q⟩
theorem EX {op:Operator} {i:Nat} (S:tj X i x) (he:PE X e m) (ho:xH X (inplaceOp op) (ag op)):PS X (.AugAssign (.Name x pos) op e pos') (aug op i m):=fun {pins φ g L s} I h=>by
 obtain⟨t,L1,e1,e2,h⟩:=gZ h;rw [show aug op i m _ _=_ from e2];obtain⟨x0,L2,q1,e3⟩:=R.of e1;obtain⟨y,L3,q2,e4⟩:=R.of e3;unfold v at q1;cases ev:φ[i]? with
 | none=>rw [ev] at q1;cases q1
 | some o =>
  cases o with
  | none=>rw [ev] at q1;cases q1
  | some t0 =>
   rw [ev] at q1;cases q1;obtain⟨mm,hn,hl⟩:=I.loc;have QS:LO X.env.scope x:=by rcases S.loc with k|k;exact .inl k;exact .inr (.inl k)
   obtain⟨u,r,l⟩:=hl i x _ S.ix ev QS;refine wpAny_AugAssign_Name ?_;have go:UR (model X.prog X.w) X.A (eval e X.env) (fun w s₂=>UR (model X.prog X.w) X.A (inplaceOp op u w) (fun r s₃=>UR (model X.prog X.w) X.A (storeName X.env x r) (fun _=>SP X pins g (.nx (φ.set i (some t)) L1) .next) F0 s₃) F0 s₂) F0 s:=by
    refine thn (he I q2) fun w s1 ⟨g1,l1,I1,r1⟩=>thn (ho I1 (r.le l1) r1 e4) fun z s2 ⟨g2,l2,I2,r2⟩=>?_
    exact mr I2 S r2 fun s3 I3 _=>⟨g2,l1.trans l2,I3⟩
   rcases l with⟨hk,hm⟩|⟨hk,c,hc,hcell⟩
   ·exact wpAny_loadName_local I.ok.kind hk hn hm go
   ·rcases hk with hk|hk
    ·exact wpAny_loadName_cell I.ok.kind hk hc hcell go
    ·have hk:X.env.scope.names.lookup x=some .free:=hk
     rcases S.loc with k|k <;> (rw [k] at hk;cases hk)
theorem EY {k:Expr} {mk:ST} {sb:List Stmt} {mb:SS} (hk:PT X k mk) (hb:xG X sb mb) (n:Nat):PS X (.While k sb [] pos) (qB mk mb n):=fun {pins φ g L s} I h=>by
 refine wpAny_While (codeAny_whileLoop (fun n' s'=>∃φ' g' L',Le g g'/\Inv X pins φ' g' L' s'/\qB mk mb n' φ' L'≠.bad/\qB mk mb n' φ' L'=qB mk mb n φ L) ?_ n ⟨φ,g,L,.refl g,I,h,rfl⟩);rintro n' s1 ⟨φ1,g1,L1,l1,I1,h1,eq⟩;rw [<- eq];cases n' with
 | zero=>exact absurd rfl h1
 | succ n' =>
  obtain⟨b,L2,e1,e2,h2⟩:=gZ h1;have e2':qB mk mb (n'+1) φ1 L1=_:=e2
  rw [e2'] at eq ⊢;refine wpAny_passesOwn WU (thn (hk _ (.inl rfl) I1 e1) fun b' s2 ⟨g2,l2,I2,e⟩=>?_);subst e;cases b' with
  | false=>exact wpAny_execs_nil ⟨g2,l1.trans l2,I2⟩
  | true =>
   rw [if_pos rfl] at h2 eq ⊢;rw [if_pos rfl];have hb':mb φ1 L2≠.bad:=fun z=>by rw [z] at h2;exact absurd rfl h2
   refine wpAny_passesOwn WU (thn (hb I2 hb') fun f s3 ⟨g3,l3,q3⟩=>?_);have Bb:=(l1.trans l2).trans l3
   cases eb:mb φ1 L2 with
   | bad=>exact absurd eb hb'
   | nx φ3 L3 =>
    rw [eb] at q3 h2 eq;cases f <;> first|exact q3.elim|exact⟨n',Wg _,φ3,g3,L3,Bb,q3,h2,rfl⟩
   | ct φ3 L3 =>
    rw [eb] at q3 h2 eq;cases f <;> first|exact q3.elim|exact⟨n',Wg _,φ3,g3,L3,Bb,q3,h2,rfl⟩
   | bk φ3 L3 =>
    rw [eb] at q3;cases f <;> first|exact q3.elim|exact⟨g3,Bb,q3⟩
   | rt t3 L3 =>
    rw [eb] at q3;cases f <;> first|exact q3.elim|exact⟨g3,Bb,q3⟩
end
section
variable {X:Cx} {pins:aY} {φ:Fr} {g g1:G} {L L':aa} {s s':UB} {w t:T} {u:Ux} {e a b:Expr} {es:List Expr} {m ma mb:SE} {pos:Pos} {x:Str} {h':Heap} {xs:List T}
theorem pj {α:Type}:∀{L:List α} {n:Nat},n<L.length->∃c,at_ L n=some c
 | c::L,n,h=>by
  unfold at_
  split
  ·exact⟨c,rfl⟩
  ·exact pj (by simp at h;omega)
theorem Inv.view (I:Inv X pins φ g L s) (r:RT g none t u):∃p,RT g p (vw L t) u:=by
 cases r with
 | ref h =>
  rename_i n p;obtain⟨c,hc⟩:=pj (L:=L) (by rw [<- I.rel.len];exact fy h);obtain⟨q,h1,h2⟩:=I.rel.cells n c hc;rw [h] at h1;cases h1;exact⟨_,by show RT g _ ((at_ L n).getD .bZ) _;rw [hc];exact h2⟩
 | _=>exact⟨none,by first|exact .bZ|exact .bl _|exact .int _ _|exact .str _ _ (by assumption)|exact .ty _|exact .own (by assumption)|exact .tup (by assumption) (by assumption) (by assumption) (by assumption) (by assumption) (by assumption)|exact .lst (by assumption) (by assumption) (by assumption) (by assumption) (by assumption)|exact .aP (by assumption) (by assumption) (by assumption) (by assumption) (by assumption) (by assumption) (by assumption) (by assumption) (by assumption) (by assumption) (by assumption)|exact .obj (by assumption) (by assumption) (by assumption) (by assumption) (by assumption) (by assumption) (by assumption) (by assumption) (by assumption) (by assumption) (by assumption) (by assumption)⟩
theorem Inv.lst {p:Option (U9 × U9)} (I:Inv X pins φ g L s) (r:RT g p (.lst xs) u):∃a its n,u=.ref a/\s.heap.get? a=some { cls:=.type "list",data:=.seq its n }/\cE g xs its.toList/\xs.length<=U1:=by
 cases r with
 | lst ht hk hz hl hi=>exact⟨_,_,_,rfl,I.kn hk,dy (by simpa using hl) fun i x v e1 e2=>hi i x v e1 (by simpa using e2),hz⟩
theorem Inv.tupP {p:Option (U9 × U9)} (I:Inv X pins φ g L s) (r:RT g p (.tup xs) u):∃a its,u=.ref a/\IsTup s.heap a its/\cE g xs its.toList/\xs.length<=U1:=by
 obtain⟨_,_,_,_,_,rfl,hk,hc,hd,hz,hl,hi⟩:=r.tI;exact⟨_,_,rfl,⟨_,I.kn hk,hc.1,_,hd⟩,dy (by simpa using hl) fun i x v e1 e2=>hi i x v e1 (by simpa using e2),hz⟩
theorem af {h:Heap} {a:U9} {its:Array Ux} {n:Nat} (e:h.get? a=some { cls:=.type "list",data:=.seq its n }):h.IsList a its:=⟨_,e,rfl,n,rfl⟩
end
structure Turn (P:VI) (w:WE) (tg:Expr) (g0:G) (xs:List T) (k:aa->Prop) (fp:List U9) (it:U9) (tn:Nat->Heap->Prop):Prop where
 mem:it∈fp
 obj:∀i h,tn i h->∀b∈fp,∃o,h.get? b=some o/\∀v,o.data≠.cell v
 keep:∀i h h',tn i h->(∀b∈fp,∀o,h.get? b=some o->h'.get? b=some o)->tn i h'
 item:∀{X:Cx},X.prog=P->X.w=w->∀{i:Nat} {pins:aY} {φ:Fr} {g:G} {L:aa} {s:UB} {E:Ux->UB->Prop} {x:T},Le g0 g->Inv X pins φ g L s->(∀b∈fp,fY X pins g.H b)->tn i s.heap->k L->xs[i]?=some x ->
  UR (model P w) X.A (pyNext (.ref it)) (fun r s1=>∃u,r=some u/\UR (model P w) X.A (letOwnedTupleGo tg (.ref it) u) (fun _ s2=>∃g',Le g g'/\Inv X pins φ g' L s2/\RT g' none x u/\tn (i+1) s2.heap/\∀b∈fp,g'.H b=none) E s1) E s
 done:∀{X:Cx},X.prog=P->X.w=w->∀{i:Nat} {pins:aY} {φ:Fr} {g:G} {L:aa} {s:UB} {E:Ux->UB->Prop},Le g0 g->Inv X pins φ g L s->(∀b∈fp,fY X pins g.H b)->tn i s.heap->k L->i=xs.length ->
  UR (model P w) X.A (pyNext (.ref it)) (fun r s1=>r=none/\Inv X pins φ g L s1) E s
 self:∀(A:Vq) (i:Nat) (s:UB) (Q:Ux->UB->Prop) (E:Ux->UB->Prop),tn i s.heap->Q (.ref it) s->UR (model P w) A (pyIter (.ref it)) Q E s
noncomputable def H4 (X:Cx) (pins:aY) (φ:Fr) (g:G) (tg:Expr) (xs:List T) (k:aa->Prop) (L':aa) (Mw:Ux) (s2:UB):Prop :=
 ∃(it:U9) (fp:List U9) (tn:Nat->Heap->Prop) (g':G),Mw=.ref it/\Le g g'/\Inv X pins φ g' L' s2/\Turn X.prog X.w tg g' xs k fp it tn/\tn 0 s2.heap/\∀b∈fp,fY X pins g'.H b
noncomputable def PI (X:Cx) (tg iter:Expr) (m:SI):Prop:=∀{pins:aY} {φ:Fr} {g:G} {L:aa} {s:UB} {xs:List T} {k:aa->Prop} {L':aa},Inv X pins φ g L s->m φ L=.ok (xs,k) L' ->
 UR (model X.prog X.w) X.A (eval iter X.env) (fun v s1=>UR (model X.prog X.w) X.A (pyIter v) (H4 X pins φ g tg xs k L') F0 s1) F0 s
theorem uX {Md:Model} {A:Vq} {E:Ux->UB->Prop} {s:UB} {tg:Expr} {it:U9} {u:Ux} {o:Obj} {n:String} {vs:Array Ux} {Q:Unit->UB->Prop} (ho:s.heap.get? it=some o) (hc:o.cls=.type n) (hd:o.data=.fields vs)
    (hn:["enumerate","zip","dict_itemiterator","dict_reverseitemiterator","odict_iterator","itertools.zip_longest","itertools.pairwise"].contains n=false) (hQ:Q () s):UR Md A (letOwnedTupleGo tg (.ref it) u) Q E s:=by
  unfold letOwnedTupleGo;cases tg <;> first
    | exact Us hQ
    | (cases u <;> first
        | exact Us hQ
        | (refine Uq (wpAny_load ho ?_)
           rw [hc,hd];show UR Md A (if (["enumerate","zip","dict_itemiterator","dict_reverseitemiterator","odict_iterator","itertools.zip_longest","itertools.pairwise"].contains n && vs[0]? == some (rawInt _))=true then _ else _) Q E s
           rw [if_neg (by intro h;rw [hn,W9] at h;cases h)];exact Us hQ))
section
variable {P:VI} {wd:WE} {tg:Expr} {g0:G} {xs:List T} {t:T} {L0:aa} {a it:U9}
theorem lM {o:Obj} {h:Heap} {vs:Array Ux} (e:h.get? it=some o) (d:o.data=.fields vs):∀b∈[it],∃o,h.get? b=some o/\∀v,o.data≠.cell v:=fun b hb=>by
 have z:b=it:=by simpa using hb
 subst z;exact⟨o,e,fun v z=>by rw [d] at z;cases z⟩
theorem fZ {L:aa} (h:stays t L0 L):vw L t=vw L0 t:=by
 cases t with
 | ref n=>show(at_ L n).getD _=(at_ L0 n).getD _;rw [h n rfl]
 | _=>rfl
theorem wy (r0:RT g0 none t (.ref a)) (hv:vw L0 t=.lst xs):Turn P wd tg g0 xs (stays t L0) [it] it (fun i h=>h.IsListIter it a i) where
 mem:=by simp
 obj:=fun i h st=>by obtain⟨o,e,c,d⟩:=st;exact lM e d
 keep:=fun i h h' st k=>st.at fun o e=>k it (by simp) o e
 item:=by
  intro X hP hw i pins φ g L s E x l I hf st hk hx;subst hP hw;obtain⟨p,r⟩:=I.view (r0.le l);rw [fZ hk,hv] at r;obtain⟨a',its,n,e1,e2,rv,_⟩:=I.lst r;cases e1;obtain⟨u,hu,ru⟩:=tf rv hx;refine wpAny_pyNext_list_item st (af e2) (x:=u) (by simpa using hu) fun h' dY sb=>?_
  have I1:Inv X pins φ g L { s with heap:=h' }:=I.turned (t':=s.toks) (ch:=[it]) (fun b o hb e=>(sb.2 b (by simpa using hb)).trans e) hf;obtain⟨o,e,c,d⟩:=id dY;exact⟨u,rfl,uX (s:={ s with heap:=h' }) e c d (by decide) ⟨g,.refl g,I1,ru,dY,fun b hb=>(hf b hb).1⟩⟩
 done:=by
  intro X hP hw i pins φ g L s E l I hf st hk hx;subst hP hw;obtain⟨p,r⟩:=I.view (r0.le l);rw [fZ hk,hv] at r;obtain⟨a',its,n,e1,e2,rv,_⟩:=I.lst r;cases e1;have hl:=US rv
  exact wpAny_pyNext_list_end I.ok.hd st (af e2) (by have z:=hl;simp at z ⊢;omega) fun h' eb=>⟨rfl,I.turned (t':=s.toks) (ch:=[it]) (fun b o hb e=>eb b o (by simpa using hb) e) hf⟩
 self:=fun _ _ _ _ _ st h=>wpAny_pyIter_listiter st h
theorem xQ (r0:RT g0 none t (.ref a)) (hv:vw L0 t=.tup xs):Turn P wd tg g0 xs (stays t L0) [it] it (fun i h=>h.IsTupleIter it a i) where
 mem:=by simp
 obj:=fun i h st=>by obtain⟨o,e,c,d⟩:=st;exact lM e d
 keep:=fun i h h' st k=>st.at fun o e=>k it (by simp) o e
 item:=by
  intro X hP hw i pins φ g L s E x l I hf st hk hx;subst hP hw;obtain⟨p,r⟩:=I.view (r0.le l);rw [fZ hk,hv] at r;obtain⟨a',its,e1,e2,rv,_⟩:=I.tupP r;cases e1;obtain⟨u,hu,ru⟩:=tf rv hx;refine wpAny_pyNext_tuple_item st (show s.heap.IsTuple a its from e2) (x:=u) (by simpa using hu) fun h' dY sb=>?_
  have I1:Inv X pins φ g L { s with heap:=h' }:=I.turned (t':=s.toks) (ch:=[it]) (fun b o hb e=>(sb.2 b (by simpa using hb)).trans e) hf;obtain⟨o,e,c,d⟩:=id dY;exact⟨u,rfl,uX (s:={ s with heap:=h' }) e c d (by decide) ⟨g,.refl g,I1,ru,dY,fun b hb=>(hf b hb).1⟩⟩
 done:=by
  intro X hP hw i pins φ g L s E l I hf st hk hx;subst hP hw;obtain⟨p,r⟩:=I.view (r0.le l);rw [fZ hk,hv] at r;obtain⟨a',its,e1,e2,rv,_⟩:=I.tupP r;cases e1;have hl:=US rv
  exact wpAny_pyNext_tuple_end I.ok.hd st (show s.heap.IsTuple a its from e2) (by have z:=hl;simp at z ⊢;omega) fun h' eb=>⟨rfl,I.turned (t':=s.toks) (ch:=[it]) (fun b o hb e=>eb b o (by simpa using hb) e) hf⟩
 self:=fun _ _ _ _ _ st h=>wpAny_pyIter_tupleiter st h
theorem tq {lo:Int} {n:Nat}:Turn P wd tg g0 (upTo lo n) (fun _=>True) [it] it (fun i h=>IsRangeIter h it (lo+(i:Nat) * 1) ((n:Int) - (i:Nat)) 1) where
 mem:=by simp
 obj:=fun i h st=>lM st rfl
 keep:=fun i h h' st k=>k it (by simp) _ st
 item:=by
  intro X hP hw i pins φ g L s E x l I hf st hk hx;subst hP hw;have W:=Walks.range (prog:=X.prog) (w:=X.w) I.ok.hd it lo 1 n
  have hx':i<n/\x=.int (lo+i):=by
   simp only [upTo,UT,List.getElem?_range'] at hx;by_cases hi:i<n
   ·simp [hi] at hx;exact⟨hi,hx.symm⟩
   ·simp [hi] at hx
  obtain⟨hi,rfl⟩:=hx';refine W.item i s _ _ hi st fun v h' tk hv dY kk=>?_
  obtain⟨t,rfl⟩:=hv;have I1:Inv X pins φ g L { s with heap:=h',toks:=tk }:=I.turned (ch:=[it]) (fun b o hb e=>kk b o (by simpa using hb) e) hf
  refine⟨_,rfl,uX (s:={ s with heap:=h',toks:=tk }) (n:="range_iterator") dY rfl rfl (by decide) ⟨g,.refl g,I1,?_,dY,fun b hb=>(hf b hb).1⟩⟩;rw [Int.mul_one];exact .int _ _
 done:=by
  intro X hP hw i pins φ g L s E l I hf st hk hx;subst hP hw;exact wpAny_pyNext_range_end I.ok.hd st (by simp [upTo] at hx;omega) fun h' eb=>⟨rfl,I.turned (t':=s.toks) (ch:=[it]) (fun b o hb e=>eb b o (by simpa using hb) e) hf⟩
 self:=fun _ _ _ _ _ st h=>wpAny_pyIter_rangeiter st h
theorem qN {z:Cs} {tk:Tok} (ty:String) (H5:ty="str_ascii_iterator"\/ty="str_iterator"):Turn P wd tg g0 (z.map fun ch=>.str [ch]) (stays (.str z) L0) [it] it (fun i h=>h.IsStrIter it ty ⟨z.toArray⟩ tk i) where
 mem:=by simp
 obj:=fun i h st=>by obtain⟨o,e,c,d⟩:=st;exact lM e d
 keep:=fun i h h' st k=>by obtain⟨o,e,r⟩:=st;exact⟨o,k it (by simp) o e,r⟩
 item:=by
  intro X hP hw i pins φ g L s E x l I hf st hk hx;subst hP hw;have wk:Walks X.prog X.w X.A it [it] [it] z.toArray.size (SignAt ⟨z.toArray⟩) (fun i h=>h.IsStrIter it ty ⟨z.toArray⟩ tk i):=by
   rcases H5 with e|e
   ·subst e;exact Walks.strAscii I.ok.hd it _ tk
   ·subst e;exact Walks.strWide I.ok.hd it _ tk
  have hn:["enumerate","zip","dict_itemiterator","dict_reverseitemiterator","odict_iterator","itertools.zip_longest","itertools.pairwise"].contains ty=false:=by
   rcases H5 with e|e <;> subst e <;> decide
  rw [UT] at hx;obtain⟨c0,Pe,rfl⟩:=UI.mp hx;refine wk.item i s _ E (by simpa using (UO.mp Pe).1) st fun v h' tk' hv dY kk=>?_
  obtain⟨c,u,hc',rfl⟩:=hv;have ec:c0=c:=by
   have:z[i]?=some c:=by simpa using hc'
   rw [Pe] at this;exact We this
  subst ec;have I1:Inv X pins φ g L { s with heap:=h',toks:=tk' }:=I.turned (ch:=[it]) (fun b o hb e=>kk b o (by simpa using hb) e) hf
  obtain⟨o,e,ec,d⟩:=id dY;exact⟨_,rfl,uX (s:={ s with heap:=h',toks:=tk' }) e ec d hn ⟨g,.refl g,I1,.str [c0] u (by show 1<=U1;decide),dY,fun b hb=>(hf b hb).1⟩⟩
 done:=by
  intro X hP hw i pins φ g L s E l I hf st hk hx;subst hP hw;have wk:Walks X.prog X.w X.A it [it] [it] z.toArray.size (SignAt ⟨z.toArray⟩) (fun i h=>h.IsStrIter it ty ⟨z.toArray⟩ tk i):=by
   rcases H5 with e|e
   ·subst e;exact Walks.strAscii I.ok.hd it _ tk
   ·subst e;exact Walks.strWide I.ok.hd it _ tk
  have hi:i=z.toArray.size:=by simpa using hx
  subst hi;exact wk.done s _ E st fun h' tk kk=>⟨rfl,I.turned (ch:=[it]) (fun b o hb e=>kk b o (by simpa using hb) e) hf⟩
 self:=fun A i s Q E st h=>by
  rcases H5 with e|e
  ·subst e;exact wpAny_pyIter_striter_ascii st h
  ·subst e;exact wpAny_pyIter_striter_wide st h
theorem qO (h:Heap) (a:U9) (o:Obj) (ha:a≠h.objs.size):(h.push o).get? a=h.get? a:=by
 cases h;simp only [Heap.push,Heap.get?,XS];rw [if_neg ha]
theorem xR:∀(xs:List T) (n i:Nat),(num n xs)[i]?=(xs[i]?).map fun x=>.tup [.int ((n+i:Nat):Int),x]
 | [],n,i=>by simp [num]
 | x::xs,n,0=>by simp [num]
 | x::xs,n,i+1=>by show(num (n+1) xs)[i]?=_;rw [xR xs (n+1) i,show n+1+i=n+(i+1) by omega];simp
theorem uY:∀(xs:List T) (n:Nat),(num n xs).length=xs.length
 | [],n=>rfl
 | x::xs,n=>by simp [num,uY xs]
theorem Inv.pair {X:Cx} {pins:aY} {φ:Fr} {g:G} {L:aa} {s:UB} {h2:Heap} {t':Nat} {ch:List U9} {x y:T} {u v:Ux} (I:Inv X pins φ g L s) (r1:RT g none x u) (r2:RT g none y v) (hf:∀b∈ch,fY X pins g.H b) (bJ:∀b∈ch,b<s.heap.objs.size)
  (ht:h2.get? s.heap.objs.size=some { cls:=.type "tuple",data:=.seq #[u,v] }) (k:∀b o,b∉ch->s.heap.get? b=some o->h2.get? b=some o) :
  ∃g',Le g g'/\Inv X pins φ g' L { s with heap:=h2,toks:=t' }/\RT g' none (.tup [x,y]) (.ref s.heap.objs.size)/\∀b∈ch,g'.H b=none:=by
 have I1:=I.laid (a:=s.heap.objs.size) (o:={ cls:=.type "tuple",data:=.seq #[u,v] }) (h':=s.heap.push { cls:=.type "tuple",data:=.seq #[u,v] }) (t':=t') (fun b u q=>Ur _ q) (UM _) (Uy _ rfl);have l:=Le.lay (o:={ cls:=.type "tuple",data:=.seq #[u,v] }) I.fresh
 have fr:∀b∈ch,(g.lay s.heap.objs.size { cls:=.type "tuple",data:=.seq #[u,v] }).H b=none:=fun b hb=>(az (U6 (bJ b hb))).trans (hf b hb).1
 refine⟨_,l,Inv.turned (s:={ s with heap:=s.heap.push { cls:=.type "tuple",data:=.seq #[u,v] },toks:=t' }) (t':=t') (ch:=ch) I1 (fun b o hb q=>?_) (fun b hb=>⟨fr b hb,(hf b hb).2⟩),cE.tup (us:=[u,v]) (.cons r1 (.cons r2 .nil)) l (.inl ar) ⟨rfl,rfl⟩ rfl (by show 2<=U1;decide),fr⟩;by_cases Dx:b=s.heap.objs.size
 ·subst Dx
  have q2:(s.heap.push { cls:=.type "tuple",data:=.seq #[u,v] }).get? s.heap.objs.size=some o:=q;rw [Uy _ rfl] at q2;rw [ht,<- q2]
 ·exact k b o hb ((qO _ _ _ Dx).symm.trans q)
theorem wz {elts:List Expr} {x1:Nat} {pos:Pos} {e:U9} (hne:e≠it) (r0:RT g0 none t (.ref a)) (hv:vw L0 t=.lst xs):Turn P wd (.Tuple elts x1 pos) g0 (num 0 xs) (stays t L0) [e,it] e (fun i h=>(∃old,IsEnum h e it ((i:Nat):Int) old)/\h.IsListIter it a i) where
 mem:=by simp
 obj:=fun i h st b hb=>by
  obtain⟨⟨old,tu⟩,bD⟩:=st;rcases(by simpa using hb:b=e\/b=it) with z|z
  ·subst z
   exact⟨_,tu,fun v z=>nomatch z⟩
  ·subst z
   obtain⟨o,e,c,d⟩:=bD;exact⟨o,e,fun v z=>by rw [d] at z;cases z⟩
 keep:=fun i h h' st k=>by
  obtain⟨⟨old,tu⟩,bD⟩:=st;exact⟨⟨old,k e (by simp) _ tu⟩,bD.at fun o q=>k it (by simp) o q⟩
 item:=by
  intro X hP hw i pins φ g L s E x l I hf st hk hx;subst hP hw;obtain⟨⟨old,tu⟩,bD⟩:=st;obtain⟨p,r⟩:=I.view (r0.le l);rw [fZ hk,hv] at r;obtain⟨a',its,n,e1,e2,rv,_⟩:=I.lst r;cases e1;rw [xR,UI] at hx;obtain⟨y,hy,rfl⟩:=hx;obtain⟨u,hu,ru⟩:=tf rv hy;refine wpAny_pyNext_enum_item tu bD (af e2) (x:=u) (by simpa using hu) hne fun h1 QT xS QU Pf tw=>?_
  refine⟨_,rfl,wpAny_letOwnedTupleGo_enum QT fun h2 QV sQ=>?_⟩
  replace sQ:Wc e h1 h2:=sQ
  have QW:e<s.heap.objs.size:=UX tu;have TU:it<s.heap.objs.size:=by obtain⟨o,q,_⟩:=id bD;exact UX q
  have QX:h2.get? s.heap.objs.size=some { cls:=.type "tuple",data:=.seq #[.int i s.toks,u] }:=(sQ.2 _ (VF QW)).trans QU;obtain⟨g',l',I',r',f'⟩:=I.pair (t':=s.toks+1) (ch:=[e,it]) (.int (i:Int) s.toks) ru hf (fun b hb=>by rcases(by simpa using hb:b=e\/b=it) with z|z <;> rw [z] <;> assumption) QX fun b o hb q=>by
   have hb1:b≠e:=fun z=>hb (by simp [z])
   have Bs:b≠it:=fun z=>hb (by simp [z])
   exact(sQ.2 b hb1).trans (tw b o hb1 Bs q)
  refine⟨g',l',I',by simpa using r',⟨⟨u,?_⟩,xS.at fun o q=>(sQ.2 it (V0 hne)).trans q⟩,f'⟩;show IsEnum h2 e it (((i+1:Nat)):Int) u
  rw [show(((i+1:Nat)):Int)=(i:Int)+1 by push_cast;rfl];exact QV
 done:=by
  intro X hP hw i pins φ g L s E l I hf st hk hx;subst hP hw;obtain⟨⟨old,tu⟩,bD⟩:=st;obtain⟨p,r⟩:=I.view (r0.le l);rw [fZ hk,hv] at r;obtain⟨a',its,n,e1,e2,rv,_⟩:=I.lst r;cases e1;have hl:=US rv
  rw [uY] at hx;exact wpAny_pyNext_enum_end I.ok.hd tu bD (af e2) (by have z:=hl;simp at z ⊢;omega) fun h' eb=>⟨rfl,I.turned (t':=s.toks) (ch:=[e,it]) (fun b o hb e=>eb b o (fun z=>hb (by simp [z])) e) hf⟩
 self:=fun _ _ _ _ _ st h=>by obtain⟨⟨old,tu⟩,_⟩:=st;exact wpAny_pyIter_enum tu h
end
section
variable {X:Cx} {tg e a b:Expr} {m ma mb:SE} {pos p QY:Pos}
theorem aA {α:Type} {c:Prop} [Decidable c] {r:R α} {a:α} {L:aa} (h:cb c r=.ok a L):c/\r=.ok a L:=by
 unfold cb at h;split at h
 ·exact⟨by assumption,h⟩
 ·cases h
theorem II {φ:Fr} {L L':aa} {t:T} (h:m φ L=.ok t L'):iA [m] φ L=.ok [t] L':=by simp [iA,R.bind,h]
theorem Mx {φ:Fr} {L L1 L':aa} {t u:T} (h:ma φ L=.ok t L1) (h2:mb φ L1=.ok u L'):iA [ma,mb] φ L=.ok [t,u] L':=by simp [iA,R.bind,h,h2]
theorem EZ {φ:Fr} {L L':aa} {xs:List T} {k:aa->Prop} (h:src m φ L=.ok (xs,k) L'):∃t,m φ L=.ok t L'/\items t L'=some xs/\k=stays t L':=by
 obtain⟨t,L1,e1,h⟩:=R.of h;cases ei:items t L1 with
 | none=>rw [ei] at h;cases h
 | some ys=>rw [ei] at h;cases h;exact⟨t,e1,ei,rfl⟩
theorem Inv.IJ {X:Cx} {pins:aY} {φ:Fr} {g:G} {L:aa} {s:UB} {xs:List T} {k:aa->Prop} {o:Obj} {tn:Nat->Heap->Prop} (I:Inv X pins φ g L s) (T:Turn X.prog X.w tg g xs k [s.heap.objs.size] s.heap.objs.size tn) (h0:tn 0 (s.heap.push o)):H4 X pins φ g tg xs k L (.ref s.heap.objs.size) { s with heap:=s.heap.push o }:=by
 refine⟨_,_,_,g,rfl,.refl g,I.kept (t':=s.toks) fun b o e=>Ur _ e,T,h0,fun b hb=>?_⟩;have z:b=s.heap.objs.size:=by simpa using hb
 subst z;exact I.th (UM _) I.fresh
theorem H4.le {X:Cx} {pins:aY} {φ:Fr} {g g1:G} {L':aa} {xs:List T} {k:aa->Prop} {u:Ux} {s':UB} (h:H4 X pins φ g1 tg xs k L' u s') (l:Le g g1):H4 X pins φ g tg xs k L' u s':=let ⟨a,b,c,d,e,f,r⟩:=h;⟨a,b,c,d,e,l.trans f,r⟩
theorem RT.sV {g:G} {p:Option (U9 × U9)} {t:T} {L:aa} {z:Cs} {x:Str} {k:Tok} (r:RT g p t (.str x k)) (e:vw L t=.str z):t=.str z:=by
 cases t with
 | ref n=>cases r
 | _=>exact e
theorem j8 (he:PE X e m):PI X tg e (src m):=fun I h=>by
 obtain⟨t,e1,ei,rfl⟩:=EZ h;refine thn (he I e1) fun v s1 ⟨g1,l1,I1,r1⟩=>?_
 obtain⟨p,r⟩:=I1.view r1;unfold items at ei;cases ev:vw _ t with
 | lst xs =>
  rw [ev] at ei r;cases ei;obtain⟨a,its,n,rfl,e2,rv,_⟩:=I1.lst r;exact wpAny_pyIter_list (af e2) ((I1.IJ (wy r1 ev) ⟨_,Uy _ rfl,rfl,rfl⟩).le l1)
 | tup xs =>
  rw [ev] at ei r;cases ei;obtain⟨a,its,rfl,e2,rv,_⟩:=I1.tupP r;exact wpAny_pyIter_tuple (show s1.heap.IsTuple a its from e2) ((I1.IJ (xQ r1 ev) ⟨_,Uy _ rfl,rfl,rfl⟩).le l1)
 | str z =>
  rw [ev] at ei r;cases ei;obtain⟨tk,rfl,hz⟩:=r.jb;obtain rfl:=r1.sV ev;cases ha:(⟨z.toArray⟩:Str).cps.all (·<128)
  ·exact wpAny_pyIter_wide ha ((I1.IJ (qN _ (.inr rfl)) ⟨_,Uy _ rfl,rfl,rfl⟩).le l1)
  ·exact wpAny_pyIter_ascii ha ((I1.IJ (qN _ (.inl rfl)) ⟨_,Uy _ rfl,rfl,rfl⟩).le l1)
 | _=>rw [ev] at ei;cases ei
theorem qP {X:Cx} {pins:aY} {φ:Fr} {g:G} {L:aa} {s:UB} {E:Ux->UB->Prop} {lo hi:Int} {t u v:Tok} {tk:Nat} (I:Inv X pins φ g L s) (h1:s9 lo) (h2:s9 hi) :
  UR (model X.prog X.w) X.A (pyIter (.ref s.heap.objs.size)) (H4 X pins φ g tg (upTo lo (hi - lo).toNat) (fun _=>True) L) E { s with heap:=s.heap.push { cls:=.type "range",data:=.fields #[.int lo t,.int hi u,.int 1 v] },toks:=tk }:=by
 refine wpAny_pyIter_range (IsRange.new ..) (small_one h1.1 h1.2 h2.1 h2.2) ?_;have I1:Inv X pins φ g L { s with heap:=s.heap.push { cls:=.type "range",data:=.fields #[.int lo t,.int hi u,.int 1 v] },toks:=tk }:=I.kept fun b o e=>Ur _ e
 refine I1.IJ tq ?_;have e2:(((hi - lo).toNat:Nat):Int) - ((0:Nat):Int)=Builtin.Range.rangeSize lo hi 1:=by rw [rangeSize_one];split <;> omega
 show IsRangeIter _ _ (lo+((0:Nat):Int) * 1) ((((hi - lo).toNat:Nat):Int) - ((0:Nat):Int)) 1;rw [show lo+((0:Nat):Int) * 1=lo by simp,e2];exact Uy _ rfl
theorem xU {φ:Fr} {L L':aa} {xs:List T} {k:aa->Prop} (h:xA ma mb φ L=.ok (xs,k) L'):∃i j L1,ma φ L=.ok (.int i) L1/\mb φ L1=.ok (.int j) L'/\s9 i/\s9 j/\xs=upTo i (j - i).toNat/\k=fun _=>True:=by
 obtain⟨x,L1,e1,h⟩:=R.of h;obtain⟨y,L2,e2,h⟩:=R.of h;cases x with
 | int i =>
  cases y with
  | int j =>
   obtain⟨q,h⟩:=aA h;cases h;exact⟨_,_,L1,e1,e2,q.1,q.2,rfl,rfl⟩
  | _=>cases h
 | _=>cases h
theorem Bt (hg:Gl X "range") (hm:X.mg "range"=none) (ha:PE X a ma) (hs:bf a=true):PI X tg (.Call (.Name "range" p) [a] [] pos) (xA (c (.int 0)) ma):=fun I h=>by
 obtain⟨i,j,L1,e1,e2,z1,z2,rfl,rfl⟩:=xU h;cases e1;refine Call_ (fN I hg hm boot_range (Xi (thn (ju ha pf hs pos I (II e2)) fun us s1 ⟨g1,l1,I1,r1⟩=>?_) (ay hs) rfl) (by decide) (by decide));cases r1 with
 | cons r rr =>
  cases rr;obtain⟨_,rfl⟩:=r.iI;exact call_range_1 (wpAny_mono (qP I1 z1 z2) (fun _ _ z=>z.le l1) fun _ _ z=>z)
theorem Bu (hg:Gl X "range") (hm:X.mg "range"=none) (ha:PE X a ma) (hb:PE X b mb) (hs:bf a=true) (sQ:bf b=true):PI X tg (.Call (.Name "range" p) [a,b] [] pos) (xA ma mb):=fun I h=>by
 obtain⟨i,j,L1,e1,e2,z1,z2,rfl,rfl⟩:=xU h;refine Call_ (fN I hg hm boot_range (Xi (thn (ju ha (ju hb pf sQ) hs pos I (Mx e1 e2)) fun us s1 ⟨g1,l1,I1,r1⟩=>?_) (ay hs) (by rw [ay sQ];rfl)) (by decide) (by decide));cases r1 with
 | cons r rr =>
  cases rr with
  | cons r' rr =>
   cases rr;obtain⟨_,rfl⟩:=r.iI;obtain⟨_,rfl⟩:=r'.iI;exact call_range_2 (wpAny_mono (qP I1 z1 z2) (fun _ _ z=>z.le l1) fun _ _ z=>z)
theorem E0 {elts:List Expr} {x1:Nat} {My:Pos} (hg:Gl X "enumerate") (hm:X.mg "enumerate"=none) (ha:PE X a ma) (hs:bf a=true):PI X (.Tuple elts x1 My) (.Call (.Name "enumerate" p) [a] [] pos) (LN ma):=fun I h=>by
 obtain⟨t,L1,e3,h⟩:=R.of h;refine wpAny_Call_Name_kw (fN I hg hm boot_enumerate ?_ (by decide) (by decide));refine Xi (thn (ju ha pf hs pos I (II e3)) fun us s1 ⟨g1,l1,I1,r1⟩=>?_) (ay hs) rfl;cases r1 with
 | cons r rr =>
  cases rr;obtain⟨p,rv⟩:=I1.view r;cases ev:vw L1 t with
  | lst ys =>
   rw [ev] at h rv;cases h;obtain⟨a,its,n,rfl,e2,rr,_⟩:=I1.lst rv;refine call_enumerate_list (af e2) fun h' he hit hz' hk=>wpAny_pyIter_enum he ?_
   refine⟨s1.heap.objs.size+1,[s1.heap.objs.size+1,s1.heap.objs.size],_,g1,rfl,l1,I1.kept (t':=s1.toks) hk,wz (Nat.succ_ne_self _) r ev,⟨⟨_,he⟩,hit⟩,fun b hb=>?_⟩;have hb':s1.heap.objs.size<=b:=by
    rcases(by simpa using hb:b=s1.heap.objs.size+1\/b=s1.heap.objs.size) with z|z <;> rw [z]
    ·exact WC _
    ·exact UM _
   exact I1.th hb' (I1.hok.fresh hb')
  | _=>rw [ev] at h;cases h
theorem jc {fp:List U9} {h:Heap} {b:U9} {o:Obj} (hb:b∈fp) (e:h.get? b=some o):(b,o)∈fp.filterMap fun b=>(h.get? b).map fun o=>(b,o):=YQ.mpr ⟨b,hb,by rw [e];rfl⟩
theorem Inv.pinned {X:Cx} {pins:aY} {φ:Fr} {g:G} {L:aa} {s:UB} {fp:List U9} (I:Inv X pins φ g L s) (hf:∀b∈fp,fY X pins g.H b) (ho:∀b∈fp,∃o,s.heap.get? b=some o/\∀v,o.data≠.cell v) :
  Inv X (pins++fp.filterMap fun b=>(s.heap.get? b).map fun o=>(b,o)) φ g L s :=
 I.iB fun p hp=>(UH.mp hp).elim (I.pin p) fun z=>by
  obtain⟨b,hb,e⟩:=YQ.mp z;obtain⟨o,e',d⟩:=ho b hb;rw [e'] at e;cases e;exact⟨e',(hf b hb).1,(hf b hb).2.1,d⟩
theorem Inv.mw {X:Cx} {pins pl:aY} {φ:Fr} {g:G} {L:aa} {s:UB} (I:Inv X (pins++pl) φ g L s):Inv X pins φ g L s:=I.iB fun p hp=>I.pin p (UD _ hp)
noncomputable def jd:Expr->Bool
 | .Set ..=>false
 | _=>true
theorem uZ {env:Env} (h:jd e=true):∀x,foldedSetIterable e env x=pure x:=fun x=>by
 cases e <;> first|rfl|cases h
theorem E1 {sb:List Stmt} {mi:SI} {t:Tg} {mb:SS} (hi:PI X tg e mi) (hg:PG X tg t) (hb:xG X sb mb) (hs:jd e=true):PS X (.For tg e sb [] pos) (bQ mi t mb):=fun {pins φ g L s} I h=>by
 obtain⟨⟨xs,k⟩,L1,e1,e2,h⟩:=gZ h;rw [show bQ mi t mb φ L=_ from e2];clear e2;refine wpAny_For (thn (hi I e1) fun v s1 h1=>thn h1 fun Mw s2 ⟨it,fp,tn,g2,e,l2,I2,T,bD,f2⟩=>?_) (uZ hs);subst e;have tA:∀{H':Hp},(∀b∈fp,H' b=none)->∀b∈fp,fY X pins H' b:=fun hn b hb=>⟨hn b hb,(f2 b hb).2⟩
 generalize ho:forL k t mb xs φ L1=o at h;refine codeAny_forLoop_any (fun n s'=>∃i φ' g' L',n=xs.length - i/\i<=xs.length/\Le g2 g'/\Inv X pins φ' g' L' s'/\tn i s'.heap/\(∀b∈fp,g'.H b=none)/\forL k t mb (xs.drop i) φ' L'=o) ?_ xs.length
  ⟨0,φ,g2,L1,rfl,Vc _,.refl g2,I2,bD,fun b hb=>(f2 b hb).1,ho⟩
 rintro n s3 ⟨i,φ3,g3,L3,rfl,hi,l3,I3,IK,Pg,eq⟩;by_cases bJ:i<xs.length
 ·rw [V7 bJ] at eq
  unfold forL at eq;by_cases hk:k L3
  ·rw [if_pos hk] at eq
   refine wpAny_passesOwn WU (wpAny_mono (T.item rfl rfl l3 I3 (tA Pg) IK hk (Ge9 bJ)) (fun r s4 ⟨u,hr,h4⟩=>?_) fun _ _ z=>z);subst hr;refine wpAny_passesOwn WU (wpAny_mono h4 (fun _ s5 ⟨g5,l5,I5,r5,E2,Mz⟩=>?_) fun _ _ z=>z);have QZ:=I5.pinned (tA Mz) (T.obj _ _ E2)
   cases ef:t.set xs[i] φ3 with
   | none=>rw [ef] at eq;exact absurd eq.symm h
   | some φ6 =>
    simp only [ef] at eq;refine wpAny_passesOwn WU (thn (hg QZ r5 ef) fun _ s6 I6=>?_);have hb':mb φ6 L3≠.bad:=fun z=>by rw [z] at eq;exact absurd eq.symm h
    refine wpAny_passesOwn WU (thn (hb I6 hb') fun f s7 ⟨g7,l7,q7⟩=>?_);have MA:=(l3.trans l5).trans l7
    have again:∀{φ7:Fr} {L7:aa},Inv X (pins++fp.filterMap fun b=>(s5.heap.get? b).map fun o=>(b,o)) φ7 g7 L7 s7->forL k t mb (xs.drop (i+1)) φ7 L7=o->∃m,m<xs.length - i/\∃j φ' g' L',m=xs.length - j/\j<=xs.length/\Le g2 g'/\Inv X pins φ' g' L' s7/\tn j s7.heap/\(∀b∈fp,g'.H b=none)/\forL k t mb (xs.drop j) φ' L'=o:=fun {φ7 L7} I7 h7=>by
     refine⟨xs.length - (i+1),by omega,i+1,φ7,g7,L7,rfl,bJ,MA,I7.mw,T.keep _ _ _ E2 fun b hb o e=>(I7.pin (b,o) (UK _ (jc hb e))).1,fun b hb=>?_,h7⟩;obtain⟨o,e,d⟩:=T.obj _ _ E2 b hb;exact(I7.pin (b,o) (UK _ (jc hb e))).2.1
    cases eb:mb φ6 L3 with
    | bad=>exact absurd eb hb'
    | nx φ7 L7 =>
     rw [eb] at q7 eq;cases f <;> first|exact q7.elim|exact again q7 eq
    | ct φ7 L7 =>
     rw [eb] at q7 eq;cases f <;> first|exact q7.elim|exact again q7 eq
    | bk φ7 L7 =>
     rw [eb] at q7 eq;subst eq;cases f <;> first|exact q7.elim|exact⟨g7,l2.trans MA,q7.mw⟩
    | rt t7 L7 =>
     rw [eb] at q7 eq;subst eq;cases f <;> first|exact q7.elim|exact⟨g7,l2.trans MA,⟨_,q7.1.choose_spec.mw⟩,q7.2⟩
  ·rw [if_neg hk] at eq;exact absurd eq.symm h
 ·have ei:i=xs.length:=by omega
  rw [ZK (by omega)] at eq;unfold forL at eq;by_cases hk:k L3
  ·rw [if_pos hk] at eq
   subst eq;refine wpAny_passesOwn WU (wpAny_mono (T.done rfl rfl l3 I3 (tA Pg) IK hk ei) (fun r s4 ⟨hr,I4⟩=>?_) fun _ _ z=>z);subst hr;exact wpAny_execs_nil ⟨g3,l2.trans l3,I4⟩
  ·rw [if_neg hk] at eq;exact absurd eq.symm h
end
noncomputable def aS (env:Env):List (Str × NameKind)->List (Str × U9)->List (Str × U9)
 | [],cs=>cs
 | (n,k)::r,cs=>if (k == V9)=true then aS env r ((n,(env.cells.lookup n).getD 0)::cs) else aS env r cs
theorem fO {env:Env}:∀(names:List (Str × NameKind)) (cs:List (Str × U9)),(∀y∈names,y.2=.free->(env.cells.lookup y.1).isSome=true) ->
  (forIn names cs (fun x (cs:List (Str × U9))=>(match x with|(name,kind)=>if (kind == V9)=true then (do let a <- cellOf env name;pure (Xj ((name,a)::cs))) else pure (Xj cs):Sem (ForInStep (List (Str × U9))))):Sem (List (Str × U9)))=pure (aS env names cs)
 | [],cs,_=>rfl
 | (n,k)::r,cs,h=>by
  have hr:∀y∈r,y.2=.free->(env.cells.lookup y.1).isSome=true:=fun y hy=>h y (Uw _ hy)
  rw [Xk];by_cases hk:(k == V9)=true
  ·have e:k=.free:=by simpa using hk
   have hs:=h (n,k) Uv e;obtain⟨a,ha⟩:=VB.mp hs;simp only [hk,if_true,aS,cellOf,ha,WH,pure_bind];exact fO r _ hr
  ·simp only [hk,aS,pure_bind,UJ,if_false]
   exact fO r _ hr
theorem tB {env:Env} {scope:Scope} (h:∀y∈scope.names,y.2=.free->(env.cells.lookup y.1).isSome=true):closureFor scope env=pure (aS env scope.names []):=by
 have e:=fO (env:=env) scope.names [] h;unfold closureFor;simp only [bind_pure_comp,map_pure] at e ⊢;rw [<- e];simp
theorem jw {env:Env}:∀{names:List (Str × NameKind)} {cs:List (Str × U9)} {y:Str} {c:U9},(∀z∈names,z.2=.free->(env.cells.lookup z.1).isSome=true)->(∀y c,cs.lookup y=some c->env.cells.lookup y=some c) ->
  (aS env names cs).lookup y=some c->env.cells.lookup y=some c
 | [],_,_,_,_,hc,h=>hc _ _ h
 | (n,k)::r,cs,y,c,hn,hc,h=>by
  have hr:∀z∈r,z.2=.free->(env.cells.lookup z.1).isSome=true:=fun z hz=>hn z (Uw _ hz)
  unfold aS at h;by_cases hk:(k == V9)=true
  ·rw [if_pos hk] at h
   have e:k=.free:=by simpa using hk
   obtain⟨a,ha⟩:=VB.mp (hn (n,k) Uv e);refine jw hr (fun z d q=>?_) h;rw [U0] at q;cases hz:z == n with
   | true =>
    have ez:z=n:=by simpa using hz
    rw [hz] at q;simp only [ha,WH] at q;have ha':env.cells.lookup n=some a:=ha
    rw [ez,ha'];exact q
   | false =>
    rw [hz] at q;exact hc z d q
  ·rw [if_neg hk] at h
   exact jw hr hc h
theorem jx {env:Env}:∀{names:List (Str × NameKind)} {cs:List (Str × U9)} {y:Str},((y,V9)∈names\/(cs.lookup y).isSome=true)->((aS env names cs).lookup y).isSome=true
 | [],_,_,h=>by
  rcases h with h|h
  ·cases h
  ·exact h
 | (n,k)::r,cs,y,h=>by
  unfold aS;have key:∀a:U9,(cs.lookup y).isSome=true->(Zq y ((n,a)::cs)).isSome=true:=fun a q=>by
   rw [U0];cases y == n with
   | true=>rfl
   | false=>exact q
  by_cases hk:(k == V9)=true
  ·rw [if_pos hk]
   refine jx ?_;rcases h with h|h
   ·rcases UN.mp h with e|h
    ·cases e
     refine .inr ?_;rw [U0];simp
    ·exact .inl h
   ·exact .inr (key _ h)
  ·rw [if_neg hk]
   refine jx ?_;rcases h with h|h
   ·rcases UN.mp h with e|h
    ·cases e
     exact absurd (by simp) hk
    ·exact .inl h
   ·exact .inr h
theorem jy {scope:Scope} {env:Env} {y:Str} {k':NameKind} (h:(relabel scope env).names.lookup y=some k'):∃k,scope.names.lookup y=some k/\(k'=k\/(k=.free/\k'=.cell)):=by
 have go:∀(names:List (Str × NameKind)),(names.map fun(n,k)=>if (k == V9 && env.scope.kind == .function && env.kindOf n == some .cell) then (n,Zr) else (n,k)).lookup y=some k' ->
   ∃k,names.lookup y=some k/\(k'=k\/(k=.free/\k'=.cell)):=by
  intro names;induction names with
  | nil=>intro h;simp at h
  | cons a r ih =>
   obtain⟨n,k⟩:=a;intro h;rw [UG] at h;by_cases hc:(k == V9 && env.scope.kind == .function && env.kindOf n == some .cell)=true
   ·simp only [hc,if_true,U0] at h
    rw [U0];cases hy:y == n with
    | true =>
     rw [hy] at h;have hk:k=.free:=by
      simp only [UC,beq_iff_eq] at hc;exact hc.1.1
     exact⟨k,rfl,.inr ⟨hk,(We h).symm⟩⟩
    | false =>
     rw [hy] at h;exact ih h
   ·simp only [hc,UJ,if_false,U0] at h
    rw [U0];cases hy:y == n with
    | true =>
     rw [hy] at h;exact⟨k,rfl,.inl (We h).symm⟩
    | false =>
     rw [hy] at h;exact ih h
 exact go scope.names h
theorem jz {scope:Scope} {env:Env} {y:Str} (h:scope.names.lookup y=some .free):(relabel scope env).names.lookup y=some .cell\/(relabel scope env).names.lookup y=some .free:=by
 have go:∀(names:List (Str × NameKind)),names.lookup y=some .free->(names.map fun(n,k)=>if (k == V9 && env.scope.kind == .function && env.kindOf n == some .cell) then (n,Zr) else (n,k)).lookup y=some .cell \/
   (names.map fun(n,k)=>if (k == V9 && env.scope.kind == .function && env.kindOf n == some .cell) then (n,Zr) else (n,k)).lookup y=some .free:=by
  intro names;induction names with
  | nil=>intro h;simp at h
  | cons a r ih =>
   obtain⟨n,k⟩:=a;intro h;rw [UG];rw [U0] at h;by_cases hc:(k == V9 && env.scope.kind == .function && env.kindOf n == some .cell)=true
   ·simp only [hc,if_true,U0]
    cases hy:y == n with
    | true=>exact .inl rfl
    | false =>
     rw [hy] at h;exact ih h
   ·simp only [hc,UJ,if_false,U0]
    cases hy:y == n with
    | true =>
     rw [hy] at h;have h':k=.free:=We h
     exact .inr (by rw [h'])
    | false =>
     rw [hy] at h;exact ih h
 exact go scope.names h
theorem pq {prog:VI} {w:WE} {A:Vq} {R:Result->UB->Prop} {s:UB} {elt target iter:Expr} {ifs:List Expr} {scope:Scope} {pos:Pos} {it acc:Ux} {env:Env} (I:Nat->UB->Prop)
  (turn:∀n s,I n s->UR (model prog w) A (pyNext it) (fun r s₁=>match r with
   | none=>R (.ok .next) s₁
   | some v=>UR (model prog w) A (letOwnedTupleGo target it v) (fun _ Ph=>UR (model prog w) A (assign target env v) (fun _ s₂ =>
     UR (model prog w) A (forIn ifs true fun c r=>if r=true then do let ok <- isTrue c env (eval c env);pure (Xj ok) else pure (Xj r)) (fun ok s₃ =>
      if ok=true then UR (model prog w) A (eval elt env) (fun x s₄ =>
       UR (model prog w) A (call (.builtin "list.append") [acc,x]) (fun _ s₅=>∃m,m<n/\I m s₅) (fun _ _=>False) s₄) (fun _ _=>False) s₃
      else ∃m,m<n/\I m s₃) (fun _ _=>False) s₂) (fun _ _=>False) Ph) (fun _ _=>False) s₁) (fun _ _=>False) s)
  (n:Nat) (h:I n s):codeAny (model prog w) A (.compLoop (.ListComp elt [⟨target,iter,ifs,0⟩] scope pos) 0 it acc env) R s:=by
 refine codeAny_loop rfl I (fun n s hI=>?_) n h;show UR _ A ((compTurn (.ListComp elt [⟨target,iter,ifs,0⟩] scope pos) 0 it acc env).onRaise (fun x=>do noteFrame x env;theTreesLotGoes x)) _ _ s
 refine wpAny_noted ?_;rw [compTurn_list];refine Uq (wpAny_standAt (Uq (wpAny_mono (turn n s hI) (fun r s₁ h₁=>?_) fun _ _ h'=>h'.elim)));cases r with
 | none=>exact Us h₁
 | some v =>
  refine Uq (wpAny_mono h₁ (fun _ Ph Q0=>?_) fun _ _ h'=>h'.elim);refine Uq (wpAny_mono Q0 (fun _ s₂ h₂=>Uq (wpAny_mono h₂ (fun ok s₃ h₃=>?_) fun _ _ h'=>h'.elim)) fun _ _ h'=>h'.elim);cases ok with
  | false=>exact Us ⟨rfl,h₃⟩
  | true =>
   exact Uq (Uq (wpAny_mono h₃ (fun x s₄ h₄=>Uq (wpAny_mono h₄ (fun _ s₅ h₅=>Us (Us ⟨rfl,h₅⟩)) fun _ _ h'=>h'.elim)) fun _ _ h'=>h'.elim))
noncomputable def cV (X:Cx) (scope:Scope) (cl:List (Str × U9)) (N:List Str) (C:U9) (s₀:UB) (H₀:Hp) (ex:List U9):Cx:={ X with N:=N,s₀:=s₀,H₀:=H₀,env:=compEnvC scope cl C X.env,ex:=ex,fn:=fun _=>false }
structure mx (X:Cx) (scope:Scope) (N:List Str) (aU:List (Option Nat)):Prop where
 kind:scope.kind=.function
 my:∀y∈scope.names,y.2≠.cell
 locs:∀y∈scope.names,y.2=.local->scope.names.lookup y.1=some .local
 frees:∀y∈scope.names,y.2=.free->(X.env.scope.names.lookup y.1=some .cell\/X.env.scope.names.lookup y.1=some .free)
 Q3:∀(i:Nat) y j,N[i]?=some y->aU[i]?=some (some j)->X.N[j]?=some y/\scope.names.lookup y=some .free
 nd:N.Nodup
 len:N.length=aU.length
section
variable {X:Cx} {pins:aY} {φ:Fr} {g:G} {L:aa} {s:UB}
theorem Inv.weak {φ':Fr} (I:Inv X pins φ g L s) (hl:φ'.length=φ.length) (w:∀(i:Nat) t,φ'[i]?=some (some t)->φ[i]?=some (some t)):Inv X pins φ' g L s :=
 { I with loc:=let ⟨m,hn,hl'⟩:=I.loc;⟨m,hn,fun i x v e1 e2 e3=>hl' i x v e1 (w i v e2) e3⟩,len:=hl.trans I.len }
theorem Inv.IL {a:U9} {o:Obj} (I:Inv X pins φ g L s) (f:fY X pins g.H a) (h:s.heap.get? a=some o):Inv X pins φ (g.lay a o) L s:=by
 refine I.step (g1:=s.gens) (t':=s.toks) (d':=s.drawn) (h':=s.heap) (ch:=[a]) (Le.lay f.1) (fun b hb=>?_) (fun b u _ _ e _=>e) (fun b u hb e n=>(az (fun z=>hb (by simp [z]))).trans n) (fun _ m=>m) (fun b c u e=>?_) I.bare (I.rel.le (Le.lay f.1) rfl fun b u e=>az (fun z=>by rw [z,f.1] at e;cases e))
 ·have z:b=a:=by simpa using hb
  subst z;exact⟨f.2.2.1,f.2.1,f.2.2.2⟩
 ·by_cases hb:b=a
  ·subst hb
   have e':some (true,o)=some (c,u):=(ar (H:=g.H)).symm.trans e;cases e';exact h
  ·exact I.hok b c u ((az hb).symm.trans e)
theorem Inv.E3 {a:U9} {o:Obj} {c:T} (I:Inv X pins φ g L s) (f:fY X pins g.H a) (h:s.heap.get? a=some o) (hc:RT (g.new a o) (some (a,a)) c (.ref a)):Inv X pins φ (g.new a o) (c::L) s:=by
 refine I.step (g1:=s.gens) (t':=s.toks) (d':=s.drawn) (h':=s.heap) (ch:=[a]) (Le.new f.1) (fun b hb=>?_) (fun b u _ _ e _=>e) (fun b u hb e n=>(az (fun z=>hb (by simp [z]))).trans n) (fun _ m=>m) (fun b c u e=>?_) I.bare (I.rel.new f.1 hc)
 ·have z:b=a:=by simpa using hb
  subst z;exact⟨f.2.2.1,f.2.1,f.2.2.2⟩
 ·by_cases hb:b=a
  ·subst hb
   have e':some (false,o)=some (c,u):=(ar (H:=g.H)).symm.trans e;cases e';exact h
  ·exact I.hok b c u ((az hb).symm.trans e)
theorem tC {scope:Scope} {N:List Str} {aU:List (Option Nat)} {s3:UB} {h1:Heap} {ex:List U9} {m:Str->Option Ux} {tk:Nat} (ok:mx X scope N aU) (I:Inv X pins φ g L s3)
  (hf:∀b∈ex,fY X pins g.H b) (bJ:∀b∈ex,b<s3.heap.objs.size) (hn:h1.Ns s3.heap.objs.size m) (keep:∀b o,s3.heap.get? b=some o->h1.get? b=some o) :
  Inv (cV X scope (aS X.env scope.names []) N s3.heap.objs.size s3 g.H ex) [] (inner aU φ) g L { s3 with heap:=h1,toks:=tk }:=by
 have u0:∀z∈scope.names,z.2=.free->(X.env.cells.lookup z.1).isSome=true:=fun z hz xV=>by
  obtain⟨c,e⟩:=I.ok.has z.1 (ok.frees z hz xV);rw [e];rfl
 have sub:∀y c,(aS X.env scope.names []).lookup y=some c->X.env.cells.lookup y=some c:=fun y c h=>jw u0 (fun _ _ q=>by simp at q) h
 refine⟨⟨I.ok.mod,ok.kind,I.ok.glob,I.ok.blt,UM _,fun y z c e1 e2=>I.ok.inj y z c (sub _ _ e1) (sub _ _ e2),fun y hy=>?_,fun y c Mt _=>absurd Mt (by simp [cV]),I.ok.hd,fun b hb=>⟨U6 (bJ b hb),fun y c e=>(hf b hb).2.2.2.1 y c (sub _ _ e)⟩,
   I.bs,UW I.ok.HY I.sz,fun b o e hb=>?_⟩,
  rfl,I.bare,Un.kept keep,⟨m,hn,fun i y v e1 e2 e3=>?_⟩,fun y c e=>?_,I.fresh,fun y c e=>I.qL y c (sub _ _ e),fun p hp=>(by simp at hp),fun a b o e=>keep a o (I.hok a b o e),by show(inner aU φ).length=N.length;rw [ok.len];simp [inner],I.rel,I.gB,I.gm,I.gw⟩
 ·have hy':(relabel scope X.env).names.lookup y=some .cell\/(relabel scope X.env).names.lookup y=some .free:=hy
  have fr:scope.names.lookup y=some .free:=by
   rcases hy' with q|q
   ·obtain⟨k,e,z⟩:=jy q
    rcases z with z|⟨z,_⟩
    ·exact absurd z.symm (ok.my _ (Vh e))
    ·rw [e,z]
   ·obtain⟨k,e,z⟩:=jy q
    rcases z with z|⟨_,z⟩
    ·rw [e,z]
    ·cases z
  exact VB.mp (jx (.inl (Vh fr)))
 ·rcases(hf b hb).2.2.1 with z|z
  ·exact I.ok.Eu b o e z
  ·exact absurd (U4 (UX e) (UW I.ok.HY z)) (V8 _)
 ·have e2':(aU.map fun o=>o.bind fun i=>(φ[i]?).join)[i]?=some (some v):=e2
  rw [UT] at e2';cases hj:aU[i]? with
  | none=>rw [hj] at e2';cases e2'
  | some oj =>
   rw [hj] at e2';cases oj with
   | none=>cases e2'
   | some j =>
    obtain⟨eN,hy⟩:=ok.Q3 i y j e1 hj;have hσ:φ[j]?=some (some v):=by
     cases q:φ[j]? with
     | none=>simp [q] at e2'
     | some o=>simp [q] at e2';rw [e2']
    have hk:=ok.frees (y,.free) (Vh hy) rfl;obtain⟨m',_,hl⟩:=I.loc;obtain⟨u,r,q⟩:=hl j y v eN hσ (.inr hk);refine⟨u,r,.inr ⟨jz hy,?_⟩⟩;rcases q with⟨k,_⟩|⟨_,c,e,z⟩
    ·have k':X.env.scope.names.lookup y=some .local:=k
     rw [k'] at hk;rcases hk with hk|hk <;> cases hk
    ·obtain⟨c',e'⟩:=VB.mp (jx (env:=X.env) (cs:=[]) (.inl (Vh hy)))
     have ec:=sub _ _ e';rw [e] at ec;cases ec;obtain⟨o,ho,hd⟩:=z;exact⟨c,e',o,keep c o ho,hd⟩
 ·obtain⟨v,o,ho,hd⟩:=I.cell y c (sub _ _ e)
  exact⟨v,o,keep c o ho,hd⟩
noncomputable def E4 (X:Cx) (ifs:List Expr) (m:ST):Prop:=∀{pins:aY} {φ:Fr} {g:G} {L:aa} {s:UB} {w:Bool} {L':aa},Inv X pins φ g L s->m φ L=.ok w L' ->
 UR (model X.prog X.w) X.A (forIn ifs true fun c r=>if r=true then do let ok <- isTrue c X.env (eval c X.env);pure (Xj ok) else pure (Xj r)) (TP X pins φ g w L') F0 s
theorem Bv:E4 X [] yes:=fun I h=>by cases h;exact wpAny_tests_nil ⟨_,.refl _,I,rfl⟩
theorem Bw {k:Expr} {m:ST} (h:PT X k m):E4 X [k] m:=fun I q=>wpAny_tests_one (h _ (.inl rfl) I q)
noncomputable def Tg.slots:Tg->List Nat
 | .one i=>[i]
 | .many is=>is
theorem j9 {ψ:Fr}:∀{is:List Nat} {ts:List T} {ψ':Fr},(∀i∈is,ψ[i]?=some none)->(ψ'.length=ψ.length/\∀(i:Nat) t,ψ[i]?=some (some t)->ψ'[i]?=some (some t))->(M.sets is ts ψ').length=ψ.length/\∀(i:Nat) t,ψ[i]?=some (some t)->(sets is ts ψ')[i]?=some (some t)
 | [],_,_,_,h=>by unfold sets;exact h
 | _::_,[],_,_,h=>by unfold sets;exact h
 | j::is,t0::ts,ψ',hi,h=>by
  unfold sets;refine j9 (fun i m=>hi i (Uw _ m)) ⟨by simpa using h.1,fun i t e=>?_⟩;rw [Ys]
  ·exact h.2 i t e
  ·rintro rfl
   rw [hi j Uv] at e;cases e
theorem Bx {ψ ψ1:Fr} {tg:Tg} {t:T} (hi:∀i∈tg.slots,ψ[i]?=some none) (h:tg.set t ψ=some ψ1):ψ.length=ψ1.length/\∀(i:Nat) t,ψ[i]?=some (some t)->ψ1[i]?=some (some t):=by
 cases tg with
 | one j =>
  cases h;have z:=j9 (is:=[j]) (ts:=[t]) hi ⟨rfl,fun _ _ e=>e⟩
  exact⟨z.1.symm,z.2⟩
 | many is =>
  cases t with
  | tup ts =>
   have h':(if ts.length=is.length then some (sets is ts ψ) else none)=some ψ1:=h;split at h'
   ·cases h'
    have z:=j9 (ts:=ts) hi ⟨rfl,fun _ _ e=>e⟩;exact⟨z.1.symm,z.2⟩
   ·cases h'
  | _=>cases h
theorem n8 {tg iter elt:Expr} {ifs:List Expr} {scope:Scope} {N:List Str} {aU:List (Option Nat)} {mi:SI} {t:Tg} {mt:ST} {me:SE} {pos p:Pos} {use:Option (Ux->Sem Unit)} {QQ:Ux->UB->Prop} {xs:List T} {k:aa->Prop} {L1 L2:aa} {ys:List T}
  (ok:mx X scope N aU) (Dy:∀i∈t.slots,aU[i]?=some none) (hi:PI X tg iter mi) (hg:∀cl C s₀ H₀ ex,PG (cV X scope cl N C s₀ H₀ ex) tg t)
  (ht:∀cl C s₀ H₀ ex,E4 (cV X scope cl N C s₀ H₀ ex) ifs mt) (he:∀cl C s₀ H₀ ex,PE (cV X scope cl N C s₀ H₀ ex) elt me) (hs:jd iter=true)
  (I:Inv X pins φ g L s) (h1:mi φ L=.ok (xs,k) L1) (h2:compLoop k t mt me (inner aU φ) xs [] L1=.ok ys L2)
  (fin:∀(D C:U9) (g':G) (s':UB) (m:Str->Option Ux) (us:List Ux) (n:Nat),Le g g'->Inv X pins φ g' L2 s'->cE g' ys us->ys.length<=U1->s'.heap.get? D=some { cls:=.type "list",data:=.seq us.toArray n }->fY X pins g'.H D->D≠C->s'.heap.Ns C m->fY X pins g'.H C->compPost (model X.prog X.w) X.A F0 use QQ (.ref D) C (.ok .next) s') :
  UR (model X.prog X.w) X.A (comprehension (.ListComp elt [⟨tg,iter,ifs,0⟩] scope pos) scope X.env p (newList []) false (eval iter X.env) use) QQ F0 s:=by
 have u0:∀z∈scope.names,z.2=.free->(X.env.cells.lookup z.1).isSome=true:=fun z hz xV=>by
  obtain⟨c,e⟩:=I.ok.has z.1 (ok.frees z hz xV);rw [e];rfl
 refine wpAny_comprehension_free (cl:=aS X.env scope.names []) (use:=use) rfl (uZ hs) (tB u0) ok.kind ok.locs (thn (hi I h1) fun v s1 h1=>thn h1 fun Mw s2 ⟨it,fp,tn,g2,e,l2,I2,T,bD,f2⟩=>?_);subst e;refine wpAny_newObj_type (wpAny_newFunctionEnv ok.my (by intro y hy;simp at hy) (fun h₁ E5 E6=>?_) ok.kind);dsimp only at E5 E6 ⊢;have E7:∀b∈fp,b<s2.heap.objs.size:=fun b hb=>by
  obtain⟨o,e,_⟩:=T.obj 0 _ bD b hb;exact UX e
 generalize hD:s2.heap.objs.size=D at E7 ⊢;have fD:fY X pins g2.H D:=I2.th (XW hD) (I2.hok.fresh (XW hD))
 have hsz:(s2.heap.push { cls:=.type "list",dict:=none,data:=.seq ([]:List Ux).toArray }).objs.size=D+1:=by rw [<- hD];exact VJ ..
 have I3:Inv X pins φ g2 L1 { s2 with heap:=s2.heap.push { cls:=.type "list",dict:=none,data:=.seq ([]:List Ux).toArray } }:=I2.kept (t':=s2.toks) fun b u e=>Ur _ e
 have IK:tn 0 (s2.heap.push { cls:=.type "list",dict:=none,data:=.seq ([]:List Ux).toArray }):=T.keep _ _ _ bD fun b _ o e=>Ur _ e
 have Pj:(s2.heap.push { cls:=.type "list",dict:=none,data:=.seq ([]:List Ux).toArray }).get? D=some { cls:=.type "list",data:=.seq ([]:List Ux).toArray }:=by rw [<- hD];exact Uy _ rfl
 generalize TV:s2.heap.push { cls:=.type "list",dict:=none,data:=.seq ([]:List Ux).toArray }=h3 at E5 E6 hsz I3 IK Pj ⊢;have fx:∀b∈D::fp,fY X pins g2.H b:=fun b hb=>(UN.mp hb).elim (fun z=>by rw [z];exact fD) (f2 b)
 have IM:∀b∈D::fp,b<h3.objs.size:=fun b hb=>by
  rw [hsz];rcases UN.mp hb with z|z
  ·rw [z];exact Wg _
  ·exact VK (E7 b z)
 have keep:∀b o,h3.get? b=some o->h₁.get? b=some o:=fun b o e=>E6.extBut b o (U6 (UX e)) (Ur _ e)
 have I4:=tC (s3:={ s2 with heap:=h3 }) (ex:=D::fp) (tk:=s2.toks+([]:List (Str × Ux)).length) ok I3 fx IM E5 keep;have Pk:tn 0 h₁:=T.keep _ _ _ IK fun b _ o e=>keep b o e
 generalize Bc:cV X scope (aS X.env scope.names []) N ({ s2 with heap:=h3 }:UB).heap.objs.size { s2 with heap:=h3 } g2.H (D::fp)=X' at I4;have eA:X'.A=X.A:=by rw [<- Bc] <;> rfl
 have eP:X'.prog=X.prog:=by rw [<- Bc] <;> rfl
 have ew:X'.w=X.w:=by rw [<- Bc] <;> rfl
 have ee:X'.env=compEnvC scope (aS X.env scope.names []) h3.objs.size X.env:=by rw [<- Bc] <;> rfl
 have hG':PG X' tg t:=by rw [<- Bc];exact hg _ _ _ _ _
 have hT':E4 X' ifs mt:=by rw [<- Bc];exact ht _ _ _ _ _
 have hE':PE X' elt me:=by rw [<- Bc];exact he _ _ _ _ _
 have tA:∀{H':Hp} {b:U9},b∈D::fp->H' b=none->fY X' [] H' b:=fun {H' b} hb hn=>by
  refine⟨hn,?_,.inl ?_,fun y c e=>?_,fun p hp=>by simp at hp⟩
  ·rw [ee];exact U6 (IM b hb)
  ·rw [<- Bc];exact hb
  ·have e':(aS X.env scope.names []).lookup y=some c:=by rw [ee] at e;exact e
   exact(fx b hb).2.2.2.1 y c (jw u0 (fun _ _ q=>by simp at q) e')
 have IP:D∉fp:=fun z=>V8 _ (E7 D z)
 have leave:∀{ψ:Fr} {g':G} {s':UB} {us:List Ux} {n:Nat},Le g2 g'->Inv X' [] ψ g' L2 s'->cE g' ys us->ys.length<=U1->s'.heap.get? D=some { cls:=.type "list",data:=.seq us.toArray n }->g'.H D=none->compPost (model X.prog X.w) X.A F0 use QQ (.ref D) h3.objs.size (.ok .next) s':=fun {ψ g' s' us n} l J r hz hd hn=>by
  have un:Un (D::fp) g2.H g'.H h3 s'.heap:=by have z:=J.base;rw [<- Bc] at z;exact z
  have By:s'.os=s2.os:=by have z:=J.os;rw [<- Bc] at z;exact z
  have Jx:=Inv.call (s:={ s2 with heap:=h3 }) (s':=s') (ch:=D::fp) I3 l By un J.hok J.bare J.rel fun b hb=>⟨(fx b hb).2.2.1,(fx b hb).2.1,(fx b hb).2.2.2⟩
  obtain⟨m,wA,_⟩:=J.loc;have hn':s'.heap.Ns h3.objs.size m:=by rw [ee] at wA;exact wA
  have xV:g'.H h3.objs.size=none:=by have z:=J.free;rw [ee] at z;exact z
  exact fin D _ g' s' m us n (l2.trans l) Jx r hz hd ⟨hn,fD.2⟩ (U6 (by rw [hsz];exact Wg _)) hn' (I3.th (UM _) xV)
 have loop:∀s₃:UB,s₃={ s2 with heap:=h₁,toks:=s2.toks+([]:List (Str × Ux)).length } ->
   codeAny (model X.prog X.w) X.A (.compLoop (.ListComp elt [⟨tg,iter,ifs,0⟩] scope pos) 0 (.ref it) (.ref D) (compEnvC scope (aS X.env scope.names []) h3.objs.size X.env)) (compPost (model X.prog X.w) X.A F0 use QQ (.ref D) h3.objs.size) s₃:=by
  rintro s₃ rfl;have IQ:∀{ψ:Fr} {g':G} {L':aa} {s':UB} {o:Obj},Inv X' [] ψ g' L' s'->s'.heap.get? D=some o->g'.H D=none->(∀v,o.data≠.cell v)->Inv X' [(D,o)] ψ g' L' s':=fun {ψ g' L' s' o} J e n d=>J.iB fun p hp=>by
   have z:p=(D,o):=by simpa using hp
   subst z;exact⟨e,n,(tA Uv n).2.1,d⟩
  refine pq (fun n s'=>∃i acc us nn g' L',n=xs.length - i/\i<=xs.length/\Le g2 g'/\Inv X' [(D,{ cls:=.type "list",data:=.seq (us:List Ux).toArray nn })] (inner aU φ) g' L' s'/\tn i s'.heap/\(∀b∈fp,g'.H b=none)/\cE g' acc us/\acc.length<=U1 /\
   compLoop k t mt me (inner aU φ) (xs.drop i) acc L'=.ok ys L2) ?_ xs.length ⟨0,[],[],0,g2,L1,rfl,Vc _,.refl g2,IQ I4 (keep D _ Pj) fD.1 (fun v z=>nomatch z),Pk,fun b hb=>(f2 b hb).1,.nil,Vc _,h2⟩
  intro n s' hj;refine sP fun G n9=>?_
  obtain⟨i,acc,us,nn,g3,L3,en,hi,l3,J,dY,Pm,ra,hz,eq⟩:=hj;refine n9 ?_;clear n9 G;subst en;have MB:∀{H':Hp} {o:Obj},(∀b∈fp,H' b=none)->∀b∈fp,fY X' [(D,o)] H' b:=fun {H' o} hn b hb=>by
   have z:=tA (Uw _ hb) (hn b hb);refine⟨z.1,z.2.1,z.2.2.1,z.2.2.2.1,fun p hp e=>?_⟩;have zp:p=(D,o):=by simpa using hp
   subst zp;exact IP (by rw [show D=b from e];exact hb)
  by_cases bJ:i<xs.length
  ·rw [V7 bJ] at eq
   unfold compLoop at eq;split at eq
   ·rename_i hk
    obtain⟨hk,Q4⟩:=hk;have z:=T.item eP ew (E:=F0) l3 J (MB Pm) dY hk (Ge9 bJ)
    rw [eA] at z;refine wpAny_mono z (fun r s4 ⟨u,hr,h4⟩=>?_) fun _ _ z=>z
    subst hr;refine wpAny_mono h4 (fun _ s5 ⟨g5,l5,J5,r5,E2,Mz⟩=>?_) fun _ _ z=>z
    have Q5:=J5.pinned (MB Mz) (T.obj _ _ E2);cases ef:t.set xs[i] (inner aU φ) with
    | none=>rw [ef] at eq;cases eq
    | some ψ1 =>
     simp only [ef] at eq;have wk:=Bx (fun i hi=>by show(aU.map _)[i]?=_;rw [UT,Dy i hi];rfl) ef
     have zg:=hG' Q5 r5 ef;rw [eP,ew,eA,ee] at zg;refine thn zg fun _ s6 J6=>?_
     obtain⟨b,L7,e7,eq⟩:=R.of eq;have zt:=hT' J6 e7
     rw [eP,ew,eA,ee] at zt;refine thn zt fun b' s7 ⟨g7,l7,J7,e⟩=>?_
     subst e;have again:∀{g8:G} {L8:aa} {s8:UB} {eg:List M.T} {us':List Ux} {n':Nat},Le g7 g8->Inv X' [] ψ1 g8 L8 s8->(∀b∈fp,∀o,s5.heap.get? b=some o->s8.heap.get? b=some o/\g8.H b=none)->s8.heap.get? D=some { cls:=.type "list",data:=.seq us'.toArray n' }->g8.H D=none->cE g8 eg us'->eg.length<=U1 ->
       compLoop k t mt me (inner aU φ) (xs.drop (i+1)) eg L8=.ok ys L2->∃m,m<xs.length - i/\∃j acc us nn g' L',m=xs.length - j/\j<=xs.length/\Le g2 g'/\Inv X' [(D,{ cls:=.type "list",data:=.seq (us:List Ux).toArray nn })] (inner aU φ) g' L' s8/\tn j s8.heap/\(∀b∈fp,g'.H b=none)/\cE g' acc us/\acc.length<=U1/\compLoop k t mt me (inner aU φ) (xs.drop j) acc L'=.ok ys L2:=fun {g8 L8 s8 eg us' n'} l8 J8 kf hd hn Q6 hz' Q7 =>
      ⟨xs.length - (i+1),by omega,i+1,eg,us',n',g8,L8,rfl,bJ,((l3.trans l5).trans l7).trans l8,IQ (J8.weak wk.1 wk.2) hd hn (fun v z=>nomatch z),T.keep _ _ _ E2 fun b hb o e=>(kf b hb o e).1,fun b hb=>(let ⟨o,e,_⟩:=T.obj _ _ E2 b hb;(kf b hb o e).2),Q6,hz',Q7⟩
     have pk:∀{g8:G} {L8:aa} {s8:UB},Inv X' ([(D,{ cls:=.type "list",data:=.seq us.toArray nn })]++fp.filterMap fun b=>(s5.heap.get? b).map fun o=>(b,o)) ψ1 g8 L8 s8->∀b∈fp,∀o,s5.heap.get? b=some o->s8.heap.get? b=some o/\g8.H b=none:=fun J8 b hb o e =>
      let z:=J8.pin (b,o) (UK _ (jc hb e));⟨z.1,z.2.1⟩
     cases b' with
     | false =>
      obtain⟨d1,d2,_⟩:=J7.pin (D,_) (UD _ Uv);exact again (.refl g7) (J7.iB fun p hp=>by simp at hp) (pk J7) d1 d2 (ra.le ((l5).trans l7)) hz eq
     | true =>
      obtain⟨y,L8,e8,eq⟩:=R.of eq;have ze:=hE' J7 e8
      rw [eP,ew,eA,ee] at ze;refine thn ze fun yv s8 ⟨g8,l8,J8,r8⟩=>?_
      obtain⟨d1,d2,_⟩:=J8.pin (D,_) (UD _ Uv);have lu:=US ra
      refine call_meets Yt ⟨_,d1,rfl⟩ F.entry_list_append (F.args_list_append_2 _ _) (PySem.list_append D us.toArray nn yv (by rw [VV,<- lu];exact hz)) ⟨d1,?_⟩;have q:=aas d1 (fun x=>x.push yv)
      have ot:∀b,b≠D->(s8.heap.update D (VW fun x=>x.push yv)).get? b=s8.heap.get? b:=fun b hb=>Vd s8.heap _ (V0 hb)
      have J9:Inv X' [] ψ1 g8 L8 { s8 with heap:=s8.heap.update D (VW fun x=>x.push yv) }:=(J8.iB (pins':=[]) fun p hp=>by simp at hp).turned (t':=s8.toks) (ch:=[D]) (fun b o hb e=>(ot b (by simpa using hb)).trans e) fun b hb=>by
       have z:b=D:=by simpa using hb
       subst z;exact tA Uv d2
      refine again (us':=us++[yv]) l8 J9 (fun b hb o e=>?_) (by simpa using q) d2 (Paired.snoc (ra.le ((l5.trans l7).trans l8)) r8) (by simp;show acc.length<lim;exact Q4) eq;have z:=pk J8 b hb o e
      exact⟨(ot b fun e=>IP (e ▸ hb)).trans z.1,z.2⟩
   ·cases eq
  ·have ei:i=xs.length:=by omega
   rw [ZK (by omega)] at eq;unfold compLoop at eq;split at eq
   ·rename_i hk
    cases eq;have z:=T.done eP ew (E:=F0) l3 J (MB Pm) dY hk ei
    rw [eA] at z;refine wpAny_mono z (fun r s4 ⟨hr,J4⟩=>?_) fun _ _ z=>z
    subst hr;obtain⟨d1,d2,_⟩:=J4.pin (D,_) Uv;exact leave l3 (J4.iB fun p hp=>by simp at hp) ra hz d1 d2
   ·cases eq
 exact codeAny_compStart_list (loop _ rfl) (T.self _ 0 _ _ _ Pk (loop _ rfl))
theorem qQ {fz:Bool} {D:U9} {ys:List T} {us:List Ux} {n:Nat} {w:T} {L':aa} (I:Inv X pins φ g L s) (r:cE g ys us) (hz:ys.length<=U1) (hd:s.heap.get? D=some { cls:=.type "list",data:=.seq us.toArray n }) (f:fY X pins g.H D) (h:mk fz (.lst ys) L=.ok w L'):∃g',Le g g'/\Inv X pins φ g' L' s/\RT g' none w (.ref D)/\∀b,b≠D->g'.H b=g.H b:=by
 unfold mk at h;split at h
 ·cases h
  exact⟨_,Le.lay f.1,I.IL f hd,r.lst (o:=default) (Le.lay f.1) (.inl rfl) (.inl ar) hz,fun b hb=>az hb⟩
 ·cases h
  refine⟨_,Le.new f.1,I.E3 f hd (r.lst (o:=default) (Le.new f.1) (.inr rfl) (.inl ar) hz),?_,fun b hb=>az hb⟩;have:=I.rel.len
  exact .ref (p:=(D,D)) (by show at_ ((_,_)::g.α) _=_;rw [<- this];exact eW)
theorem u3 {fz:Bool} {tg iter elt:Expr} {ifs:List Expr} {scope:Scope} {N:List Str} {aU:List (Option Nat)} {mi:SI} {t:Tg} {mt:ST} {me:SE} {pos:Pos}
  (ok:mx X scope N aU) (Dy:∀i∈t.slots,aU[i]?=some none) (hi:PI X tg iter mi) (hg:∀cl C s₀ H₀ ex,PG (cV X scope cl N C s₀ H₀ ex) tg t)
  (ht:∀cl C s₀ H₀ ex,E4 (cV X scope cl N C s₀ H₀ ex) ifs mt) (he:∀cl C s₀ H₀ ex,PE (cV X scope cl N C s₀ H₀ ex) elt me) (hs:jd iter=true):PE X (.ListComp elt [⟨tg,iter,ifs,0⟩] scope pos) (comp fz mi aU t mt me):=fun I h=>by
 obtain⟨⟨xs,k⟩,L1,e1,h⟩:=R.of h;obtain⟨ys,L2,e2,h⟩:=R.of h;rw [eval_ListComp];refine n8 (use:=none) ok Dy hi hg ht he hs I e1 e2 fun D C g' s' m us n l J r hz hd fD hne hn fC=>⟨m,hn,fun h' sb=>?_⟩
 have J':=J.turned (t':=s'.toks) (h':=h') (ch:=[C]) (fun b o hb e=>(sb.2 b (by simpa using hb)).trans e) fun b hb=>by
  have z:b=C:=by simpa using hb
  subst z;exact fC
 obtain⟨g2,l2,J2,r2,_⟩:=qQ J' r hz ((sb.2 D hne).trans hd) fD h;exact⟨g2,l.trans l2,J2,r2⟩
theorem Bz {i:Nat} {y:Str} {py E8:Pos} {fz:Bool} {tg iter elt:Expr} {ifs:List Expr} {scope:Scope} {N:List Str} {aU:List (Option Nat)} {mi:SI} {t:Tg} {mt:ST} {me:SE} {pos:Pos} (S:tj X i y)
  (ok:mx X scope N aU) (Dy:∀i∈t.slots,aU[i]?=some none) (hi:PI X tg iter mi) (hg:∀cl C s₀ H₀ ex,PG (cV X scope cl N C s₀ H₀ ex) tg t)
  (ht:∀cl C s₀ H₀ ex,E4 (cV X scope cl N C s₀ H₀ ex) ifs mt) (he:∀cl C s₀ H₀ ex,PE (cV X scope cl N C s₀ H₀ ex) elt me) (hs:jd iter=true) :
  PS X (.Assign [.Name y py] (.ListComp elt [⟨tg,iter,ifs,0⟩] scope pos) E8) (asg (.one i) (comp fz mi aU t mt me)):=fun {pins φ g L s} I h=>by
 cases hb:(X.env.blockKind == .function && X.env.kindOf y == some .local && py.line == pos.line && !(scope.names.any fun(n,k)=>n == y && (k == .local || k == .cell))) with
 | false =>
  have hsw:swapsWith (.ListComp elt [⟨tg,iter,ifs,0⟩] scope pos) (some (.Name y py)) E8.line X.env=pure false:=by
   show(pure _:Sem Bool)=pure false;rw [<- hb];rfl
  exact tm (u3 ok Dy hi hg ht he hs) (lK S) hsw rfl rfl I h
 | true =>
  have hsw:swapsWith (.ListComp elt [⟨tg,iter,ifs,0⟩] scope pos) (some (.Name y py)) E8.line X.env=pure true:=by
   show(pure _:Sem Bool)=pure true;rw [<- hb];rfl
  obtain⟨v,L3,e0,e2,h⟩:=gZ h;rw [show asg (.one i) (comp fz mi aU t mt me) φ L=.nx (φ.set i (some v)) L3 from e2];obtain⟨⟨xs,k⟩,L1,e1,e0⟩:=R.of e0;obtain⟨ys,L2,e3,e0⟩:=R.of e0;rw [exec_Assign_Name_used _ _ _ _ hsw];refine Uq (wpAny_standAt (Uq ?_));show UR _ X.A (do let _ <- comprehension (.ListComp elt [⟨tg,iter,ifs,0⟩] scope pos) scope X.env _ (newList []) false (eval iter X.env) (some (assign (.Name y py) X.env))) _ _ s
  refine Uq (wpAny_mono (n8 (QQ:=fun _ s'=>SP X pins g (.nx (φ.set i (some v)) L3) .next s') (use:=some (assign (.Name y py) X.env)) ok Dy hi hg ht he hs I e1 e3 fun D C g' s' m us n l J r hz hd fD hne hn fC=>?_) (fun _ s' hq=>Us (Us hq)) fun _ _ e=>e);obtain⟨g2,l2,J2,r2,kp⟩:=qQ J r hz hd fD e0;have Q8:fY X pins g2.H C:=⟨(kp C (V0 hne)).trans fC.1,fC.2⟩
  refine wpAny_assign_Name (mr J2 S r2 fun s2 I2 Dz=>?_);obtain⟨a,sb,ha⟩:=Dz;have MC:C≠a:=by
   rcases ha with rfl|e
   ·exact fC.2.1
   ·exact fun z=>fC.2.2.2.1 y a e z.symm
  exact⟨m,hn.sameBut sb MC,fun TX Q9=>⟨g2,l.trans l2,I2.turned (t':=s2.toks) (ch:=[C]) (fun b o hb e=>(Q9.2 b (by simpa using hb)).trans e) fun b hb=>by
   have z:b=C:=by simpa using hb
   subst z;exact Q8⟩⟩
end
theorem gu {n:Nat}:∀{xs:List T},cf n xs=true↔∀(i:Nat) x,xs[i]?=some x->lt n x=true
 | []=>by simp [cf]
 | x::xs=>by
  rw [cf,UC,gu];constructor
  ·rintro⟨h1,h2⟩ i y e
   cases i with
   | zero=>simp at e;subst e;exact h1
   | succ i=>exact h2 i y (by simpa using e)
  ·exact fun h=>⟨h 0 x rfl,fun i y e=>h (i+1) y (by simpa using e)⟩
theorem lN {n:Nat}:∀{xs:List (T × T)},A8 n xs=true↔∀(i:Nat) x,xs[i]?=some x->lt n x.1=true/\lt n x.2=true
 | []=>by simp [A8]
 | (a,b)::xs=>by
  rw [A8,UC,UC,lN];constructor
  ·rintro⟨h1,h2⟩ i y e
   cases i with
   | zero=>simp at e;subst e;exact h1
   | succ i=>exact h2 i y (by simpa using e)
  ·exact fun h=>⟨h 0 _ rfl,fun i y e=>h (i+1) y (by simpa using e)⟩
theorem xW {n:Nat}:∀{xs:List (Str × T)},nJ n xs=true->∀f x,xs.lookup f=some x->lt n x=true
 | [],_,f,x,e=>by simp at e
 | (a,b)::xs,h,f,x,e=>by
  rw [nJ,UC] at h;rw [U0] at e;split at e
  ·cases e;exact h.1
  ·exact xW h.2 f x e
theorem RT.re {g' cU:G} {n0:Nat} (hr:∀n p,n<n0->at_ g'.α n=some p->at_ cU.α n=some p) (nM:∀a o,g'.kn true a o->cU.kn true a o) (hm:cU.cls=g'.cls) (hw:cU.w=g'.w) {p:Option (U9 × U9)} {t:T} {v:Ux} (h:RT g' p t v) :
  ∀{q:Option (U9 × U9)},lt n0 t=true->(p=none->q=none)->(∀a d b o,td p a d->(b=a\/b=d)->g'.kn p.isNone b o->td q a d/\cU.kn q.isNone b o)->RT cU q t v:=by
 have k0:∀a d b o,td none a d->(b=a\/b=d)->g'.kn (none:Option (U9 × U9)).isNone b o->td none a d/\cU.kn (none:Option (U9 × U9)).isNone b o:=fun a d b o _ _ k=>⟨.inl rfl,nM b o k⟩
 induction h with
 | bZ=>intro q _ hp _;rw [hp rfl];exact .bZ
 | bl b=>intro q _ hp _;rw [hp rfl];exact .bl b
 | int i t=>intro q _ hp _;rw [hp rfl];exact .int i t
 | str s t h=>intro q _ hp _;rw [hp rfl];exact .str s t h
 | ty n=>intro q _ hp _;rw [hp rfl];exact .ty n
 | own h=>intro q _ hp _;rw [hp rfl];exact .own (by rw [hm];exact h)
 | ref h=>intro q hl hp _;rw [hp rfl];exact .ref (hr _ _ (by rw [lt] at hl;exact of_decide_eq_true hl) h)
 | tup hk hc hd hz hl hi ih =>
  intro q bJ hp hk';rw [hp rfl];rw [lt] at bJ;exact .tup (nM _ _ hk) hc hd hz hl fun i x v e1 e2=>ih i x v e1 e2 (gu.mp bJ i x e1) (fun _=>rfl) k0
 | lst ht hk hz hl hi ih =>
  intro q bJ hp hk';have z:=hk' _ _ _ _ ht (.inl rfl) hk
  rw [lt] at bJ;exact .lst z.1 z.2 hz hl fun i x v e1 e2=>ih i x v e1 e2 (gu.mp bJ i x e1) (fun _=>rfl) k0
 | aP ht hk hx hd hz hl hn hs hh h1 h2 i1 i2 =>
  intro q bJ hp hk';have z:=hk' _ _ _ _ ht (.inl rfl) hk
  rw [lt] at bJ;exact .aP z.1 z.2 hx hd hz hl hn hs (by rw [hw];exact hh) (fun i x v e1 e2=>i1 i x v e1 e2 (lN.mp bJ i x e1).1 (fun _=>rfl) k0) fun i x v e1 e2=>i2 i x v e1 e2 (lN.mp bJ i x e1).2 (fun _=>rfl) k0
 | obj ht hne hc hk qD hd hs hu hz hn hl hi ih =>
  intro q bJ hp hk';have z:=hk' _ _ _ _ ht (.inl rfl) hk
  have z2:=hk' _ _ _ _ ht (.inr rfl) qD;rw [lt] at bJ;exact .obj z.1 hne (by rw [hm];exact hc) z.2 z2.2 hd hs hu hz hn hl fun f x v e1 e2=>ih f x v e1 e2 (xW bJ f x e1) (fun _=>rfl) k0
theorem u4 {n:Nat}:∀{xs:List (Str × T)},(∀p∈xs,lt n p.2=true)->nJ n xs=true
 | [],_=>rfl
 | (a,b)::xs,h=>by
  rw [nJ,h _ Uv,u4 fun p hp=>h p (Uw _ hp)];rfl
theorem iC {α β:Type} {f:α->Option β}:∀{xs:List α} {ys:List β},xs.mapM f=some ys->xs.length=ys.length/\∀(i:Nat) y,ys[i]?=some y->∃x,xs[i]?=some x/\f x=some y
 | [],ys,h=>by simp at h;subst h;exact⟨rfl,fun i y e=>by simp at e⟩
 | x::xs,ys,h=>by
  rw [Wy] at h;cases e1:f x with
  | none=>rw [e1] at h;cases h
  | some y =>
   cases e2:xs.mapM f with
   | none=>rw [e1,e2] at h;cases h
   | some zs =>
    rw [e1,e2] at h;cases h;obtain⟨l,a⟩:=iC e2;refine⟨by simp [l],fun i z e=>?_⟩;cases i with
    | zero=>simp at e;subst e;exact⟨x,rfl,e1⟩
    | succ i=>exact a i z (by simpa using e)
theorem gx {g' cU:G} {n0:Nat} {L':aa} (hr:∀n p,n<n0->at_ g'.α n=some p->at_ cU.α n=some p) (nM:∀a o,g'.kn true a o->cU.kn true a o) (hc:∀n c,n0<=n->at_ L' n=some c->(∀k,cg n0 L' k c=none)\/∃p,at_ g'.α n=some p/\RT g' (some p) c (.ref p.1)/\∀b o,(b=p.1\/b=p.2)->g'.kn false b o->cU.kn true b o) (hm:cU.cls=g'.cls) (hw:cU.w=g'.w) :
  ∀(k:Nat) {p:Option (U9 × U9)} {t t':T} {v:Ux},RT g' p t v->(∀q,p=some q->∀b o,(b=q.1\/b=q.2)->g'.kn false b o->cU.kn true b o)->cg n0 L' k t=some t'->RT cU none t' v
 | 0,_,_,_,_,_,_,e=>by cases e
 | k+1,p,t,t',v,h,hp,e=>by
  have kn:∀a d b o,td p a d->(b=a\/b=d)->g'.kn p.isNone b o->td none a d/\cU.kn (none:Option (U9 × U9)).isNone b o:=fun a d b o ht hb hk=>by
   refine⟨.inl rfl,?_⟩;rcases ht with rfl|rfl
   ·exact nM b o hk
   ·exact hp _ rfl b o hb hk
  unfold cg at e;split at e
  ·rename_i hl
   cases e;exact h.re hr nM hm hw hl (fun _=>rfl) kn
  ·rename_i bJ
   have LP:∀q:U9 × U9,(none:Option (U9 × U9))=some q->∀b o,(b=q.1\/b=q.2)->g'.kn false b o->cU.kn true b o:=fun q z=>by cases z
   cases h with
   | bZ=>cases e
   | bl b=>cases e
   | int i t=>cases e
   | str s t h=>cases e
   | ty n=>cases e
   | own h=>cases e
   | ref h =>
    rename_i n p;have hn:n0<=n:=Nat.le_of_not_lt fun z=>bJ (by rw [lt];exact decide_eq_true z)
    cases ec:at_ L' n with
    | none=>simp only [ec] at e;cases e
    | some c =>
     simp only [ec] at e;rcases hc n c hn ec with z|⟨q,h1,h2,h3⟩
     ·rw [z] at e;cases e
     ·rw [h] at h1;cases h1
      exact gx hr nM hc hm hw k h2 (fun q z=>by cases z;exact h3) e
   | tup hk H3 hd hz hl hi =>
    obtain⟨ys,e1,rfl⟩:=UI.mp e;obtain⟨len,at'⟩:=iC e1;exact .tup (nM _ _ hk) H3 hd (by rw [<- len];exact hz) (by rw [<- len];exact hl) fun i y v q1 q2=>let ⟨x,x1,x2⟩:=at' i y q1;gx hr nM hc hm hw k (hi i x v x1 q2) LP x2
   | lst ht hk hz hl hi =>
    obtain⟨ys,e1,rfl⟩:=UI.mp e;obtain⟨len,at'⟩:=iC e1;have z:=kn _ _ _ _ ht (.inl rfl) hk
    exact .lst z.1 z.2 (by rw [<- len];exact hz) (by rw [<- len];exact hl) fun i y v q1 q2=>let ⟨x,x1,x2⟩:=at' i y q1;gx hr nM hc hm hw k (hi i x v x1 q2) LP x2
   | aP ht hk hx hd hz hl hn hs hh h1 h2 =>
    rename_i a o es nn ks;obtain⟨ys,e1,rfl⟩:=UI.mp e;obtain⟨len,at'⟩:=iC e1;have z:=kn _ _ _ _ ht (.inl rfl) hk
    have at2:∀(i:Nat) y,ys[i]?=some y->∃x,ks[i]?=some x/\lt n0 x.1=true/\x.1=y.1/\cg n0 L' k x.2=some y.2:=fun i y q=>by
     obtain⟨x,x1,x2⟩:=at' i y q;split at x2
     ·rename_i IS
      obtain⟨z,z1,rfl⟩:=UI.mp x2;exact⟨x,x1,IS,rfl,z1⟩
     ·cases x2
    refine .aP z.1 z.2 hx hd (by rw [<- len];exact hz) (by rw [<- len];exact hl) ?_ hs (fun i y v q1 q2=>?_) (fun i y v q1 q2=>?_) fun i y v q1 q2=>?_
    ·have:ys.map (·.1)=ks.map (·.1):=Y7 fun i=>by
      rw [UT,UT];cases q:ys[i]? with
      | none=>rw [Wm (by rw [len];exact YZ.mp q)]
      | some y=>obtain⟨x,x1,_,x3,_⟩:=at2 i y q;rw [x1];show some y.1=some x.1;rw [x3]
     rw [this];exact hn
    ·obtain⟨x,x1,_,x3,_⟩:=at2 i y q1;rw [hw,<- x3];exact hh i x v x1 q2
    ·obtain⟨x,x1,x2,x3,_⟩:=at2 i y q1
     rw [<- x3];exact(h1 i x v x1 q2).re hr nM hm hw x2 (fun _=>rfl) fun a d b o _ _ k=>⟨.inl rfl,nM b o k⟩
    ·obtain⟨x,x1,_,_,x4⟩:=at2 i y q1;exact gx hr nM hc hm hw k (h2 i x v x1 q2) LP x4
   | obj ht hne H3 hk qD hd hs hu hz hn hl hi =>
    rename_i a d C od es nn cn fs;obtain⟨ys,e1,rfl⟩:=UI.mp e;obtain⟨len,at'⟩:=iC e1;have z:=kn _ _ _ _ ht (.inl rfl) hk
    have z2:=kn _ _ _ _ ht (.inr rfl) qD;have lk:∀(fs ys:List (Str × T)),fs.length=ys.length->(∀(i:Nat) y,ys[i]?=some y->∃x,fs[i]?=some x/\x.1=y.1/\cg n0 L' k x.2=some y.2)->∀f,(∀y,ys.lookup f=some y->∃x,fs.lookup f=some x/\cg n0 L' k x=some y)/\(ys.lookup f).isSome=(fs.lookup f).isSome:=fun fs=>by
     induction fs with
     | nil=>intro ys hl _ f;cases ys with
      | nil=>exact⟨fun y e=>by simp at e,rfl⟩
      | cons _ _=>simp at hl
     | cons x fs ih =>
      intro ys hl h f;cases ys with
      | nil=>simp at hl
      | cons y ys =>
       obtain⟨x',q1,q2,q3⟩:=h 0 y rfl;simp at q1;subst q1;have r:=ih ys (by simpa using hl) (fun i y e=>by simpa using h (i+1) y (by simpa using e)) f
       obtain⟨xa,xb⟩:=x;obtain⟨ya,yb⟩:=y;have q2:xa=ya:=q2
       subst q2;rw [U0,U0];cases f == xa with
       | true=>exact⟨fun y e=>⟨xb,rfl,by cases e;exact q3⟩,rfl⟩
       | false=>exact r
    have at2:=lk _ ys len fun i y q=>by
     obtain⟨x,x1,x2⟩:=at' i y q;obtain⟨z,z1,rfl⟩:=UI.mp x2;exact⟨x,x1,rfl,z1⟩
    have names:ys.map (·.1)=fs.map (·.1):=Y7 fun i=>by
     rw [UT,UT];cases q:ys[i]? with
     | none=>rw [Wm (by rw [len];exact YZ.mp q)]
     | some y =>
      obtain⟨x,x1,x2⟩:=at' i y q;obtain⟨z,z1,rfl⟩:=UI.mp x2;rw [x1];rfl
    exact .obj z.1 hne (by rw [hm];exact H3) z.2 z2.2 hd hs hu (by rw [<- len];exact hz) (by rw [names];exact hn) (fun f=>by rw [(at2 f).2];exact hl f) fun f y v q1 q2=>let ⟨x,x1,x2⟩:=(at2 f).1 y q1;gx hr nM hc hm hw k (hi f x v x1 q2) LP x2
theorem E9 {g' cU:G} {n0:Nat} {L':aa} (hr:∀n p,n<n0->at_ g'.α n=some p->at_ cU.α n=some p) (nM:∀a o,g'.kn true a o->cU.kn true a o) (tw:∀n p b o,n0<=n->at_ g'.α n=some p->(b=p.1\/b=p.2)->g'.kn false b o->cU.kn true b o) (hm:cU.cls=g'.cls) (hw:cU.w=g'.w) (r:Rel g' L') (k:Nat) {t t':T} {v:Ux} (h:RT g' none t v) (e:cg n0 L' k t=some t'):RT cU none t' v :=
 gx hr nM (fun n c hn q=>let ⟨p,h1,h2⟩:=r.cells n c q;.inr ⟨p,h1,h2,fun b o hb=>tw n p b o hn h1 hb⟩) hm hw k h (fun q z=>by cases z) e
theorem jA {α:Type} {n0 n:Nat}:∀{L:List α},n<n0->n0<=L.length->at_ (L.drop (L.length - n0)) n=at_ L n
 | [],h1,h2=>by simp at h2;omega
 | c::L,h1,h2=>by
  by_cases e:n0=(c::L).length
  ·rw [<- e,Nat.sub_self,Z9]
  ·have h3:n0<=L.length:=by simp at h2 e;omega
   have e2:(c::L).length - n0=(L.length - n0)+1:=by simp;omega
   rw [e2,List.drop_succ_cons,jA h1 h3];have z:¬ n=L.length:=by omega
   conv=>rhs;unfold at_;rw [if_neg z]
theorem xX {α:Type}:∀{fs:List (Str × α)} {p:Str × α},(fs.map (·.1)).Nodup->p∈fs->fs.lookup p.1=some p.2
 | (a,b)::fs,p,hn,hp=>by
  rw [U0];rw [UG,Vn] at hn;rcases UN.mp hp with rfl|hp
  ·simp
  ·have:(p.1 == a)=false:=by
    cases e:p.1 == a with
    | false=>rfl
    | true=>exact absurd (Uz.mpr ⟨p,hp,by simpa using e⟩) hn.1
   rw [this];exact xX hn.2 hp
theorem RT.lt {g:G} {p:Option (U9 × U9)} {t:T} {v:Ux} (h:RT g p t v):M.lt g.α.length t=true:=by
 induction h with
 | ref h=>rw [M.lt];exact decide_eq_true (fy h)
 | tup hk hc hd hz hl hi ih =>
  rw [M.lt,gu];intro i x e;have:=(UO.mp e).1
  exact ih i x _ e (by rw [UE (by omega)])
 | lst ht hk hz hl hi ih =>
  rw [M.lt,gu];intro i x e;have:=(UO.mp e).1
  exact ih i x _ e (by rw [UE (by omega)])
 | aP ht hk hx hd hz hl hn hs hh h1 h2 i1 i2 =>
  rw [M.lt,lN];intro i x e;have:=(UO.mp e).1
  exact⟨i1 i x _ e (by rw [UE (by omega)]),i2 i x _ e (by rw [UE (by omega)])⟩
 | obj ht hne hc hk qD hd hs hu hz hn hl hi ih =>
  rw [M.lt];refine u4 fun q hq=>?_
  have e:=xX hn hq;obtain⟨v,ev⟩:=VB.mp ((hl q.1).symm.trans (by rw [e];rfl));exact ih q.1 q.2 v e ev
 | _=>rfl
theorem Fb {g g':G} {L L' Lo:aa} {t t':T} {u:Ux} (l:Le g g') (r0:Rel g L) (r:Rel g' L') (h:RT g' none t u) (e:fin L t L'=.ok t' Lo) :
  ∃cU,Le g cU/\Rel cU Lo/\RT cU none t' u/\(∀a b o,cU.H a=some (b,o)->∃b',g'.H a=some (b',o))/\(∀a,g'.H a=none->cU.H a=none)/\∀a o,g'.H a=some (true,o)->cU.H a=some (true,o):=by
 classical
 unfold fin at e;split at e
 ·rename_i ho
  have n0:L.length<=L'.length:=by
   cases hn:L.length with
   | zero=>exact Vc _
   | succ m =>
    obtain⟨p,hp⟩:=pj (L:=g.α) (n:=m) (by rw [r0.len];omega);have:=fy (l.α _ _ hp)
    rw [r.len] at this;omega
  cases ef:cg L.length L' 9 t with
  | none=>rw [ef] at e;cases e
  | some t1 =>
   rw [ef] at e;cases e
   let nw:U9->Prop:=fun a=>∃n p,L.length<=n/\at_ g'.α n=some p/\(a=p.1\/a=p.2)
   let cU:G:={ g' with H:=fun a=>if nw a then (g'.H a).map fun q=>(true,q.2) else g'.H a,α:=g'.α.drop (g'.α.length - L.length) }
   have hH:∀a,cU.H a=if nw a then (g'.H a).map fun q=>(true,q.2) else g'.H a:=fun _=>rfl
   have hα:∀n,n<L.length->at_ cU.α n=at_ g'.α n:=fun n hn=>jA hn (by rw [r.len];exact n0)
   have cg:∀a o,g'.H a=some (true,o)->cU.H a=some (true,o):=fun a o q=>by
    rw [hH];split
    ·rw [q];rfl
    ·exact q
   have nM:∀a o,g'.kn true a o->cU.kn true a o:=fun a o q=>q.elim (fun q=>.inl (cg a o q)) .inr
   have tw:∀n p b o,L.length<=n->at_ g'.α n=some p->(b=p.1\/b=p.2)->g'.kn false b o->cU.kn true b o:=fun n p b o hn hp hb q=>by
    rcases q with q|⟨z,_⟩
    ·refine .inl ?_
     rw [hH,if_pos ⟨n,p,hn,hp,hb⟩,q];rfl
    ·cases z
   have hr:∀n p,n<L.length->at_ g'.α n=some p->at_ cU.α n=some p:=fun n p hn hp=>(hα n hn).trans hp
   have xY:∀n p,n<L.length->at_ g'.α n=some p->¬ nw p.1/\¬ nw p.2:=fun n p hn hp=>by
    refine⟨?_,?_⟩ <;>
    ·rintro⟨m,q,hm,hq,hb⟩
     have ap:=r.apart n m p q hp hq (by omega);rcases hb with hb|hb
     ·first|exact ap.1 hb|exact ap.2.2.1 hb
     ·first|exact ap.2.1 hb|exact ap.2.2.2 hb
   refine⟨cU,⟨fun a o q=>cg a o (l.f a o q),fun n p q=>hr n p (by rw [<- r0.len];exact fy q) (l.α n p q),l.B,l.m,l.w⟩,⟨?_,fun n c q=>?_,fun n m p q h1 h2=>?_,fun n p q=>?_⟩,E9 hr nM tw rfl rfl r 9 h ef,fun a b o q=>?_,fun a q=>?_,cg⟩
   ·show(g'.α.drop _).length=_
    rw [Vg,Vg,r.len]
   ·have hn:n<L.length:=by have:=fy q;rw [Vg] at this;omega
    have q':at_ L' n=some c:=(jA hn n0).symm.trans q
    obtain⟨p,h1,h2⟩:=r.cells n c q';have bJ:M.lt L.length c=true:=by
     rcases ho n c q with z|z
     ·obtain⟨p0,_,z2⟩:=r0.cells n c z
      rw [<- r0.len];exact z2.lt
     ·exact z
    refine⟨p,hr n p hn h1,h2.re hr nM rfl rfl bJ (fun z=>by cases z) fun a d b o ht hb hk=>⟨ht,?_⟩⟩;have no:=xY n p hn h1
    rcases ht with z|z
    ·cases z
    ·cases z
     rcases hk with hk|⟨z,_⟩
     ·refine .inl ?_
      rw [hH,if_neg (by rcases hb with hb|hb <;> rw [hb];exact no.1;exact no.2)];exact hk
     ·cases z
   ·have hn:n<L.length:=by have:=fy h1;rw [Vg,r.len] at this;omega
    have hm:m<L.length:=by have:=fy h2;rw [Vg,r.len] at this;omega
    exact r.apart n m p q ((hα n hn).symm.trans h1) ((hα m hm).symm.trans h2)
   ·have hn:n<L.length:=by have:=fy q;rw [Vg,r.len] at this;omega
    have q':=(hα n hn).symm.trans q;obtain⟨⟨o1,h1⟩,o2,h2⟩:=r.live n p q';have no:=xY n p hn q'
    exact⟨⟨o1,by rw [hH,if_neg no.1];exact h1⟩,o2,by rw [hH,if_neg no.2];exact h2⟩
   ·rw [hH] at q
    split at q
    ·obtain⟨z,z1,z2⟩:=UI.mp q
     cases z2;exact⟨z.1,z1⟩
    ·exact⟨b,q⟩
   ·rw [hH,q];split <;> rfl
 ·cases e
structure fq (k:Nat) (A:Vq):Prop where
 hd:A.handled=none
 dp:A.depth+3 * k+5<recursionLimit
 un:A.units+16 * k+200<cLine
theorem fq.mono {j k:Nat} {A:Vq} (r:fq k A) (h:j<=k):fq j A:=⟨r.hd,by have:=r.dp;omega,by have:=r.un;omega⟩
theorem fq.deeper {k:Nat} {A:Vq} (r:fq (k+1) A) (env:Env):fq k (A.deeper env) :=
 ⟨r.hd,by have:=r.dp;show A.depth+1+3 * k+5<_;omega,by have:=r.un;show A.units+3+16 * k+200<_;omega⟩
theorem tD {A:Vq} {C:U9} {us:List Ux} {kw:List (Str × Ux)}:(A.under (.builtin "type.__call__" ⟨.ref C::us,kw⟩)).depth=A.depth+1:=by
 first|rfl|simp [Around.under,Code.weight,Code.isCreation,Code.isGuard,Code.isCaller,Code.frames,Code.isFrame,guardIds]
theorem tE {A:Vq} {C:U9} {us:List Ux} {kw:List (Str × Ux)}:(A.under (.builtin "type.__call__" ⟨.ref C::us,kw⟩)).units=A.units+1:=by
 first|rfl|simp [Around.under,Code.cUnits,Code.frames,Code.isFrame]
theorem fq.make {k:Nat} {A:Vq} (r:fq (k+1) A) (C:U9) (us:List Ux) (kw:List (Str × Ux)):fq k (A.under (.builtin "type.__call__" ⟨.ref C::us,kw⟩)) :=
 ⟨r.hd,by have:=r.dp;rw [tD];omega,by have:=r.un;rw [tE];omega⟩
theorem fq.depth {k:Nat} {A:Vq} (r:fq k A):A.depth<recursionLimit:=by have:=r.dp;omega
theorem fq.units {k:Nat} {A:Vq} (r:fq k A):A.units+64<cLine:=by have:=r.un;omega
structure tF (h:Heap) (x dx C:U9) (mA:Str->Option Ux):Prop where
 obj:h.get? x=some (VA C dx)
 ns:h.Ns1 dx mA
 ne:dx≠x
theorem wB {h:Heap} {dx:U9} {mA:Str->Option Ux} (n:h.Ns1 dx mA):∃od,h.get? dx=some od/\∀name,Y0 name od=some (mA name):=by
 obtain⟨o,es,ep,ho,hd,hk,_,hm⟩:=n;refine⟨o,ho,fun name=>?_⟩;have e:=hm name
 unfold nsFind findBy at e;rw [<- Array.find?_toList] at e;unfold Y0;rw [hd];dsimp only;split
 ·rename_i y q
  rw [q] at e;exact congrArg some e
 ·rename_i q
  rw [q] at e;have a:es.toList.any (·.refKey)=false:=by
   rw [Yc];intro y hy;obtain⟨z,t,hkey⟩:=hk y (XD.mp hy);simp [DictEntry.refKey,hkey]
  have a':¬ es.toList.any (·.refKey)=true:=by rw [a];exact WL
  rw [if_neg a'];exact congrArg some e
theorem tF.look {h:Heap} {x dx C:U9} {mA:Str->Option Ux} (I:tF h x dx C mA):∃od,PySem.W.InstAt h x (VA C dx) C (some od)/\∀name,Y0 name od=some (mA name) :=
 let ⟨od,ho,hl⟩:=wB I.ns
 ⟨od,⟨I.obj,rfl,rfl,ho⟩,hl⟩
section
variable {prog:VI} {w:WE} {A:Vq} {E:Ux->UB->Prop} {s:UB} {K:U3} {x dx C f:U9} {mA:Str->Option Ux} {name:Str} {v:Ux}
theorem get_map {expr:Bool} {Q:Ux->UB->Prop} (X:K.In s.heap) (I:tF s.heap x dx C mA) (hg:XN K C name=true) (hh:Yd K C=true)
  (ha:VD K (.ref C) name=some none) (hv:mA name=some v) (hv':aat v=true) (h:Q v { s with toks:=s.toks+1 }) :
  UR (model prog w) A (getAttr (.ref x) name expr) Q E s:=by
 obtain⟨od,J,hl⟩:=I.look;exact PySem.W.get_value X J (YB hg).1 (PySem.W.findObj_own hh ha rfl (by rw [hl,hv])) hv' h
theorem xZ {pl:Sem Bool} {Q:Ux × List Ux->UB->Prop} (X:K.In s.heap) (I:tF s.heap x dx C mA) (hg:XN K C name=true)
  (hf:VD K (.ref C) name=some (some (.ref f))) (ht:XX K (.ref f)=true) (hv:mA name=none) (h:Q (.ref f,[.ref x]) s) :
  UR (model prog w) A (getMethod (.ref x) name pl) Q E s:=by
 obtain⟨od,J,hl⟩:=I.look;exact PySem.W.method_fn X J (YB hg).1 (YB hg).2 hf (beq_iff_eq.mp ht) (by show(Y0 name od).map (·.isSome)=some false;rw [hl,hv];rfl) h
theorem BB {ns:List Str} {Q:Unit->UB->Prop} (X:K.In s.heap) (I:tF s.heap x dx C mA)
  (hs:VD K (.ref C) "__setattr__"=some (some (.builtin "object.__setattr__"))) (hp:Y8 K C=true) (ht:ZX K C name=some none) (hh:Yd K C=true)
  (hw:PySem.Within mA ns) (hsz:ns.length<=U1)
  (h:∀h',tF h' x dx C (fun y=>if y=name then some v else mA y)->Wc dx s.heap h'->Q () { s with heap:=h',toks:=s.toks+2 }) :
  UR (model prog w) A (setAttr (.ref x) name v) Q E s:=by
 obtain⟨od,J,hl⟩:=I.look;refine PySem.W.set_plain X J hs (PySem.W.osa_open (s:={ s with toks:=s.toks+1 }) (r:=none) X J hp ht fun b=>?_);obtain⟨cd,hc,hd'⟩:=PySem.W.any_some hh;have hx:s.heap.get? x=some ⟨.ref C,some dx,.plain,#[]⟩:=I.obj
 refine Uq (Us (Uq (Uq (wpAny_loadPart hx (Uq (PySem.W.Looks.here (s:={ s with toks:=s.toks+1 }) (PySem.W.looks_clsIn X hc) ?_))))));rw [hd'];refine Us (a:=some dx) (Uq (Us (Uq ?_)));refine wpAny_nsSet1 (s:={ s with toks:=s.toks+1 }) I.ns fun h' wA sQ=>?_
 obtain⟨oD,TY,TZ,Ra,Rb,Rc⟩:=wA.count (PySem.Within.cons name v hw);refine Uq (wpAny_lookBehind Ra (by rw [Rb];exact pastItsLine_dict (UW Rc (by rw [UA];omega))) ?_);exact Us (h _ ⟨(sQ.2 _ (V0 I.ne)).trans I.obj,wA,I.ne⟩ sQ)
theorem x6 {R:Result->UB->Prop} {vs:List Ux} {kw:List (Str × Ux)} (X:K.In s.heap) (hm:YC K C=true)
  (hi:VD K (.ref C) "__init__"=some (some (.ref f))) (hf:PySem.W.typeIn K (.ref f)=some (.type "function"))
  (h:codeAny (model prog w) (A.under (.builtin "type.__call__" ⟨.ref C::vs,kw⟩)) (.call (.ref f) ⟨.ref (s.heap.objs.size+1)::vs,kw⟩) (PySem.W.InitBack (s.heap.objs.size+1) R)
   { s with heap:=(s.heap.push VC).push (VA C s.heap.objs.size) }) :
  codeAny (model prog w) A (.call (.ref C) ⟨vs,kw⟩) R s:=by
 obtain⟨hh,g,d,t,os⟩:=s;exact PySem.W.make_core (PySem.W.makes_of X hm) (PySem.W.looks_findIn X hi) (fun self=>PySem.W.bind_fn X self hf) (.inl rfl) h
end
structure BC (K:U3) (C:U9):Prop where
 pg:XN K C Str.empty=true
 hd:Yd K C=true
 po:Y8 K C=true
 sa:VD K (.ref C) "__setattr__"=some (some (.builtin "object.__setattr__"))
theorem BC.get {K:U3} {C:U9} (c:BC K C) (f:Str):XN K C f=true:=c.pg
noncomputable def je (K:U3) (C:U9) (f:Str):Prop:=VD K (.ref C) f=some none
theorem je.IT {K:U3} {C:U9} {f:Str} (n:je K C f):ZX K C f=some none:=by
 unfold ZX;rw [show VD K (.ref C) f=some none from n];rfl
structure Meth (K:U3) (C:U9) (m:Str) (f:U9):Prop where
 at_:VD K (.ref C) m=some (some (.ref f))
 fn:XX K (.ref f)=true
 kp:VL K (.ref f)=true
section
variable {A:Vq} {E:Ux->UB->Prop}
theorem attr_of {prog:VI} {w:WE} {env:Env} {e:Expr} {f:Str} {pos:Pos} {s:UB} {Q:Ux->UB->Prop} (hb:attributeBase e f env (eval e env)=eval e env)
  (h:UR (model prog w) A (eval e env) (fun o s₁=>UR (model prog w) A (getAttr o f true) Q E s₁) E s):UR (model prog w) A (eval (.Attribute e f pos) env) Q E s :=
 Attribute_any_ h (by rw [arm_eval_Attribute,hb])
end
theorem og {kindOf:Str->Option NameKind} {x:Str}:∀{binds:List (Str × Ux)} {m:Str->Option Ux},(∀v,(x,v)∉binds)->bindL kindOf binds m x=m x
 | [],_,_=>rfl
 | (n,v)::r,m,h=>by
  unfold bindL;rw [og fun w hw=>h w (Uw _ hw)];split
  ·have:x≠n:=by rintro rfl;exact h v Uv
   simp [this]
  ·rfl
theorem oh {kindOf:Str->Option NameKind} {x:Str}:∀{binds:List (Str × Ux)} {m:Str->Option Ux},(∀v,(x,v)∉binds)->bindC kindOf binds m x=m x
 | [],_,_=>rfl
 | (n,v)::r,m,h=>by
  unfold bindC;rw [oh fun w hw=>h w (Uw _ hw)];split
  ·rfl
  ·have:x≠n:=by rintro rfl;exact h v Uv
   simp [this]
theorem oi {kindOf:Str->Option NameKind} {x:Str} {v:Ux}:∀{P:List Str} {vs:List Ux} {i:Nat} {m:Str->Option Ux},P.Nodup->P[i]?=some x->vs[i]?=some v->kindOf x=some .local ->
  bindL kindOf (P.zip vs) m x=some v
 | [],_,_,_,_,h,_,_=>by simp at h
 | _::_,[],_,_,_,_,h,_=>by simp at h
 | p::P,w::vs,0,m,nd,h1,h2,hk=>by
  simp at h1 h2;subst h1;subst h2;show bindL kindOf ((p,w)::P.zip vs) m p=_
  unfold bindL;rw [og fun v hv=>(Vn.mp nd).1 (Xl hv).1,if_pos hk];simp
 | p::P,w::vs,i+1,m,nd,h1,h2,hk=>by
  show bindL kindOf ((p,w)::P.zip vs) m x=_;unfold bindL;exact oi (i:=i) (Vn.mp nd).2 (by simpa using h1) (by simpa using h2) hk
theorem om {kindOf:Str->Option NameKind} {x:Str} {v:Ux}:∀{P:List Str} {vs:List Ux} {i:Nat} {m:Str->Option Ux},P.Nodup->P[i]?=some x->vs[i]?=some v->kindOf x≠some .local ->
  bindC kindOf (P.zip vs) m x=some v
 | [],_,_,_,_,h,_,_=>by simp at h
 | _::_,[],_,_,_,_,h,_=>by simp at h
 | p::P,w::vs,0,m,nd,h1,h2,hk=>by
  simp at h1 h2;subst h1;subst h2;show bindC kindOf ((p,w)::P.zip vs) m p=_
  unfold bindC;rw [oh fun v hv=>(Vn.mp nd).1 (Xl hv).1,if_neg hk];simp
 | p::P,w::vs,i+1,m,nd,h1,h2,hk=>by
  show bindC kindOf ((p,w)::P.zip vs) m x=_;unfold bindC;exact om (i:=i) (Vn.mp nd).2 (by simpa using h1) (by simpa using h2) hk
theorem qR {sc:Scope} {n:Nat} {x:Str} (h:sc.names.lookup x=some .cell):∃c,(cellsFrom n sc.names []).lookup x=some c:=by
 have q:=X9 sc.names n [] (.inl h);exact VB.mp q
section
variable {X:Cx} {pins:aY} {φ:Fr} {g g1:G} {L L':aa} {s s':UB} {w t:T} {u:Ux} {e o:Expr} {es:List Expr} {m ma mb:SE} {pos apos:Pos} {x f:Str} {A:Vq} {E:Ux->UB->Prop}
theorem RT.handed {t:T} {u:Ux} (r:RT g none t u):aat u=true:=by cases r <;> rfl
structure ClsOk (K:U3) (fl:List Str) (C:U9):Prop where
 c:BC K C
 n:∀f∈fl,je K C f
theorem Inv.obj {p:Option (U9 × U9)} {cn:Str} {fs:List (Str × T)} (I:Inv X pins φ g L s) (r:RT g p (.obj cn fs) u):∃a d C es,u=.ref a/\X.cls cn=some C/\tF s.heap a d C (nsFind es)/\(∀f,(fs.lookup f).isSome=(nsFind es f).isSome)/\(∀f x v,fs.lookup f=some x->nsFind es f=some v->RT g none x v)/\fs.length<=1000/\(fs.map (·.1)).Nodup/\td p a d/\d≠a /\
  g.kn p.isNone a (VA C d)/\∃od,g.kn p.isNone d od:=by
 cases r with
 | obj ht hne hc hk qD hd hs hu hz hn hl hi=>exact⟨_,_,_,_,rfl,by rw [<- I.gm];exact hc,⟨I.kn hk,⟨_,_,_,I.kn qD,hd,hs,hu,fun _=>rfl⟩,hne⟩,hl,hi,hz,hn,ht,hne,hk,_,qD⟩
noncomputable def okBase:Expr->Bool
 | .Call (.Name _ _) [] [] _=>false
 | _=>true
theorem base_ok {env:Env} {w:Sem Ux} (h:okBase o=true):attributeBase o x env w=w:=by
 unfold attributeBase;split
 ·cases h
 ·rfl
theorem pe_fld {fl:List Str} (hC:∀c C,X.cls c=some C->ClsOk X.K fl C) (hf:f∈fl) (he:PE X o m) (hb:okBase o=true):PE X (.Attribute o f pos) (b1 m (fld f)):=fun I h=>by
 obtain⟨t,L1,e1,h⟩:=R.of h;refine attr_of (base_ok hb) (thn (he I e1) fun u s1 ⟨g1,l1,I1,r1⟩=>?_);obtain⟨p,r⟩:=I1.view r1;unfold fld at h;cases ev:vw L1 t with
 | obj c fs =>
  rw [ev] at h r;obtain⟨a,d,C,es,rfl,hc,O,hl,hi,_⟩:=I1.obj r;have h:lift (fs.lookup f) L1=.ok _ _:=h
  cases el:fs.lookup f with
  | none=>rw [el] at h;cases h
  | some x =>
   rw [el] at h;cases h;obtain⟨v,ev⟩:=VB.mp ((hl f).symm.trans (by rw [el];rfl));have K:=hC c C hc
   have rv:=hi f _ v el ev;exact get_map I1.Ew O (K.c.get f) K.c.hd (K.n f hf) ev rv.handed ⟨g1,l1,I1.tok _,rv⟩
 | _=>rw [ev] at h;cases h
theorem pv:∀{fs:List (Str × T)} {f y:Str} {t:T},(jq fs f t).lookup y=if y=f then some t else fs.lookup y
 | [],f,y,t=>by
  unfold jq;rw [U0];by_cases h:y=f
  ·subst h;simp
  ·have:(y == f)=false:=by simpa using h
   simp [this,h]
 | (a,b)::fs,f,y,t=>by
  unfold jq;split
  ·rename_i e
   subst e;rw [U0,U0];by_cases h:y=a
   ·subst h;simp
   ·have:(y == a)=false:=by simpa using h
    simp [this,h]
  ·rename_i e
   rw [U0,U0,pv];cases q:y == a with
   | true =>
    have:y=a:=by simpa using q
    subst this;simp only [if_neg e]
   | false=>rfl
theorem mz:∀{fs:List (Str × T)} {f:Str} {t:T},(fs.map (·.1)).Nodup->((jq fs f t).map (·.1)).Nodup/\(jq fs f t).length<=fs.length+1/\∀y,y∈(jq fs f t).map (·.1)->y=f\/y∈fs.map (·.1)
 | [],f,t,_=>⟨by simp [jq],by simp [jq],fun y h=>Or.inl (by simpa [jq] using h)⟩
 | (a,b)::fs,f,t,h=>by
  rw [UG,Vn] at h;unfold jq;split
  ·rename_i e
   subst e;exact⟨by rw [UG,Vn];exact h,by simp,fun y hy=>Or.inr (by rw [UG] at hy ⊢;exact hy)⟩
  ·rename_i e
   obtain⟨h1,h2,h3⟩:=mz (f:=f) (t:=t) h.2;refine⟨?_,by simp;omega,fun y hy=>?_⟩
   ·rw [UG,Vn]
    exact⟨fun z=>(h3 a z).elim e h.1,h1⟩
   ·rw [UG,UN] at hy
    rcases hy with hy|hy
    ·exact Or.inr (by rw [UG];exact UN.mpr (Or.inl hy))
    ·exact(h3 y hy).imp id fun z=>by rw [UG];exact Uw _ z
theorem BD {fl:List Str} (hC:∀c C,X.cls c=some C->ClsOk X.K fl C) (hf:f∈fl) (ho:PE X o mb) (he:PE X e m) (hs:iQ e=true):PS X (.Assign [.Attribute o f apos] e pos) (ja mb f m):=fun {pins φ g L s} I h=>by
 obtain⟨t,L1,e1,e2,h⟩:=gZ h;rw [show ja mb f m φ L=_ from e2];obtain⟨x,L2,e3,e4,h⟩:=gZ h;rw [e4];cases ep:ta f x t L2 with
 | none=>simp only [ep] at h;exact absurd rfl h
 | some L3 =>
  simp only [ep];refine plainObj_wpAny_Assign_Attribute (thn (he I e1) fun u s1 ⟨g1,l1,I1,r1⟩=>thn (ho I1 e3) fun ov s2 ⟨g2,l2,I2,r2⟩=>?_) (jv hs);have Rd:=r1.le l2
  unfold ta at ep;cases x with
  | ref n =>
   cases r2 with
   | ref hp =>
    rename_i p;cases ea:at_ L2 n with
    | none=>simp only [ea] at ep;cases ep
    | some c =>
     cases c with
     | obj cn fs =>
      simp only [ea] at ep;split at ep
      ·rename_i IU
       cases ep;obtain⟨q,h1,h2⟩:=I2.rel.cells n _ ea;rw [hp] at h1;cases h1;obtain⟨a,d,C,es,eu,hc,O,hl,hi,hz,hn,ht,hne,hk,od,qD⟩:=I2.obj h2;rcases ht with z|z
       ·cases z
       cases z;have K:=hC cn C hc
       have hd2:g2.H d=some (false,od):=qD.elim id fun z=>by cases z.1
       have hk':g2.H a=some (false,VA C d):=hk.elim id fun z=>by cases z.1
       have hw:PySem.Within (nsFind es) (fs.map (·.1)):=fun y hy=>by
        have z:(nsFind es y).isSome=true:=by cases q:nsFind es y with|none=>exact absurd q hy|some _=>rfl
        rw [<- hl y] at z;obtain⟨v,hv⟩:=VB.mp z;exact Uz.mpr ⟨(y,v),Vh hv,rfl⟩
       refine BB I2.Ew O K.c.sa K.c.po (K.n f hf).IT K.c.hd hw (by rw [Lm9,V3];omega) fun h' O' sb=>?_
       obtain⟨Pn,fM,H0,ho',hd',hs',hV,hm'⟩:=O'.ns;have qS:=Le.set (o:=Pn) hd2
       refine⟨g2.set d Pn,(l1.trans l2).trans qS,I2.set (p:=(a,d)) hp (.inr rfl) hd2 (fun b v hb q=>(sb.2 b hb).trans q) ho' ?_⟩;have nm:=mz (f:=f) (t:=t) hn
       refine .obj (.inr rfl) hne (by show g2.cls cn=_;rw [I2.gm];exact hc) (.inl ((az (V0 hne)).trans hk')) (.inl ar) hd' hs' hV (by omega) nm.1 (fun y=>?_) fun y z v q1 q2=>?_
       ·rw [pv,hm' y]
        by_cases hy:y=f
        ·simp [hy]
        ·simp only [hy,if_false];exact hl y
       ·rw [pv] at q1
        rw [hm' y] at q2;by_cases hy:y=f
        ·simp only [hy,if_true] at q1 q2
         cases q1;cases q2;exact Rd.le qS
        ·simp only [hy,if_false] at q1 q2
         exact(hi y z v q1 q2).le qS
      ·cases ep
     | _=>simp only [ea] at ep;cases ep
  | _=>cases ep
end
structure wC (P:VI) (w:WE) (K:U3) (mg:Str->Option Ux) (cls:Str->Option U9) (base:Heap) (s:UB) (g:G) (L:aa):Prop where
 mod:Mod K mg base
 bs:∀b o,base.get? b=some o->s.heap.get? b=some o/\g.H b=none
 HY:base.objs.size<=s.heap.objs.size
 hok:Ba g.H s.heap
 bare:AllBare s.gens
 rel:Rel g L
 gB:g.B=base
 gm:g.cls=cls
 gw:g.w=w
noncomputable def CE (g:G) (s:UB) (t:T) (L':aa) (u:Ux) (s':UB):Prop:=∃g',s'.os=s.os/\AllBare s'.gens/\Un [] g.H g'.H s.heap s'.heap/\Ba g'.H s'.heap/\Le g g'/\Rel g' L'/\RT g' none t u
noncomputable def CR (g:G) (s:UB) (t:T) (L':aa) (r:Result) (s':UB):Prop:=match r with
 | .ok (.ret u)=>CE g s t L' u s'
 | _=>False
noncomputable def fu (P:VI) (w:WE) (K:U3) (mg:Str->Option Ux) (cls:Str->Option U9) (base:Heap) (k:Nat) (f:U9) (m:Fn):Prop :=
 ∀{A:Vq} {s:UB} {g:G} {L L':aa} {us:List Ux} {xs:List T} {t:T},fq k A->wC P w K mg cls base s g L->cE g xs us->m xs L=.ok t L'->codeAny (model P w) A (.call (.ref f) ⟨us,[]⟩) (CR g s t L') s
section
variable {X:Cx} {pins:aY} {φ:Fr} {g g1:G} {L L':aa} {s s':UB} {w t:T} {u:Ux} {e o:Expr} {es:List Expr} {m ma mb:SE} {pos p apos:Pos} {x f:Str} {k:Nat} {fa C:U9} {F:Fn} {ms:List SE}
theorem Inv.MD (I:Inv X pins φ g L s):wC X.prog X.w X.K X.mg X.cls X.base s g L:=⟨I.ok.mod,I.bs,UW I.ok.HY I.sz,I.hok,I.bare,I.rel,I.gB,I.gm,I.gw⟩
theorem Inv.after (I:Inv X pins φ g L s) (h:CE g s t L' u s'):EP X pins φ g t L' u s':=by
 obtain⟨g',os,bare,un,hok,l,rel,r⟩:=h;exact⟨g',l,I.call (ch:=[]) l os un hok bare rel (fun b z=>absurd z (by simp)),r⟩
theorem tG (hF:fu X.prog X.w X.K X.mg X.cls X.base k fa F) (hr:fq k X.A):dN X (.ref fa) F:=fun I r h=>by
 refine wpAny_call (codeAny_mono (hF hr I.MD r h) fun r s' hq=>?_);cases r with
 | error e=>exact Y9 hq
 | ok fl=>cases fl <;> first|exact I.after hq|exact Y9 hq
theorem bR {env:Env}:∀{es:List Expr},es.all bf=true->(backTo pos (starEach es env)).any (·.1)=false
 | [],_=>rfl
 | e::es,h=>by
  rw [Vl,UC] at h;rw [ay h.1];show(false || (backTo pos (starEach es env)).any (·.1))=false
  rw [bR h.2];rfl
theorem BE (hF:dN X (.ref fa) F) (hg:Gl X x) (hm:X.mg x=some (.ref fa)) (hk:VL X.K (.ref fa)=true) (IV:(x == ("__debug__":Str))=false):PE X (.Call (.Name x p) [] [] pos) (ae F []):=fun I h =>
 wpAny_Call_Name_kw (oZ I hg hm (aab I.Ew hk (hF (us:=[]) I .nil h)) IV)
theorem Fd (hF:dN X (.ref fa) F) (hg:Gl X x) (hm:X.mg x=some (.ref fa)) (hk:VL X.K (.ref fa)=true) (ha:PA X (e::es) (iA ms)) (hs:(e::es).all bf=true) (IV:(x == ("__debug__":Str))=false):PE X (.Call (.Name x p) (e::es) [] pos) (ae F ms):=fun I h=>by
 obtain⟨ts,L1,e1,h⟩:=R.of h;rw [Vl,UC] at hs;exact wpAny_Call_Name_kw (oZ I hg hm (aaj (h₀:=X.base) I.ok.mod.HX hk (thn (ha pos I e1) fun us s1 ⟨g1,l1,I1,r1⟩=>⟨I1.Ew,thn (hF I1 r1 h) fun _ _ z=>z.le l1⟩) (ay hs.1) (bR hs.2)) IV)
theorem qT {env:Env}:∀{es:List Expr},es.all bf=true->(backTo pos (starEach es env)).all (fun x=>!x.1)=true
 | [],_=>rfl
 | e::es,h=>by
  rw [Vl,UC] at h;rw [ay h.1];show(true && (backTo pos (starEach es env)).all (fun x=>!x.1))=true
  rw [qT h.2];rfl
theorem tH {env:Env} (h:es.all bf=true) (hl:es.length<30):((backTo pos (starEach es env)).all (fun x=>!x.1) && (backToKw pos (keywordEach [] env)).all (fun x=>x.1.isSome)
   && decide (es.length+([]:List Keyword).length+(if ([]:List Keyword).isEmpty then 0 else 1)<30))=true:=by
 rw [qT h];show(true && true && decide (es.length+0+0<30))=true
 rw [decide_eq_true (show es.length+0+0<30 by omega)];rfl
theorem BF {o:Expr} {m:Str} {apos pos:Pos} {es:List Expr} {env:Env} (hb:okBase o=true) (h:es.all bf=true) (hl:es.length<30) (mB:(apos.endLine == pos.line)=true) :
  eval (.Call (.Attribute o m apos) es [] pos) env=(do
   let ov <- eval o env
   standAt apos.atName
   let (f,first) <- holding [ov] (getMethod ov m (do return (<- importBound o env).getD true))
   callWith pos f first (backTo pos (starEach es env)) (backToKw pos (keywordEach [] env))):=by
 rw [arm_eval_Call,base_ok hb];have hf:methodCallForm (es.length+([]:List Keyword).length) (backTo pos (starEach es env)) (backToKw pos (keywordEach [] env))=true:=tH h hl
 congr 1;funext ov;congr 1;funext _;unfold methodCall;rw [hf];have hp:methodCallPos true o env apos pos=pure pos:=by
  unfold methodCallPos;rw [mB];rfl
 rw [hp];have hc:calleeOf true o env ov m=getMethod ov m (do return (<- importBound o env).getD true):=rfl
 rw [hc];rfl
theorem BG {mf:Str->Option Fn} (hM:∀c C Fn,X.cls c=some C->mf c=some Fn->∃fa,BC X.K C/\Meth X.K C x fa/\dN X (.ref fa) Fn) (ho:PE X o m) (ha:PA X es (iA ms)) (h0:es=[]->ms=[]) (hs:es.all bf=true) (hl:es.length<30) (hb:okBase o=true) (mB:(apos.endLine == pos.line)=true) :
  PE X (.Call (.Attribute o x apos) es [] pos) (oX x mf m ms):=fun I h=>by
 obtain⟨t,L1,e1,h⟩:=R.of h;refine PySem.W.methodCall_KW (thn (ho I e1) fun u s1 ⟨g1,l1,I1,r1⟩=>?_) (BF hb hs hl mB);obtain⟨p,r⟩:=I1.view r1;cases ev:vw L1 t with
 | obj c fs =>
  simp only [ev] at h;rw [ev] at r;obtain⟨a,d,C,fM,rfl,hc,O,hl',hi,_⟩:=I1.obj r;cases em:mf c with
  | none=>simp only [em] at h;cases h
  | some F =>
   simp only [em] at h;split at h
   ·rename_i hn
    obtain⟨ts,L2,e2,h⟩:=R.of h;obtain⟨fa,c,hm,hF⟩:=hM c C F hc em;have Rf:nsFind fM x=none:=by
     have z:=hl' x;cases q:nsFind fM x with
     | none=>rfl
     | some v=>rw [q] at z;cases q2:fs.lookup x with
      | none=>rw [q2] at z;cases z
      | some _=>rw [q2] at hn;cases hn
    refine xZ I1.Ew O (c.get x) hm.at_ hm.fn Rf ?_
    cases es with
    | nil =>
     cases h0 rfl;cases e2;exact aab (first:=[.ref a]) I1.Ew hm.kp (thn (hF (us:=[.ref a]) I1 (.cons r1 .nil) h) fun _ _ z=>z.le l1)
    | cons e es =>
     rw [Vl,UC] at hs;exact aaj (first:=[.ref a]) (h₀:=X.base) I.ok.mod.HX hm.kp (thn (ha pos I1 e2) fun us s2 ⟨g2,l2,I2,r2⟩=>⟨I2.Ew,thn (hF (us:=.ref a::us) I2 (.cons (r1.le l2) r2) h) fun _ _ z=>z.le (l1.trans l2)⟩) (ay hs.1) (bR hs.2)
   ·cases h
 | _=>simp only [ev] at h;cases h
end
theorem wF {a b:Nat} (h:a<b\/b<a):a≠b:=fun e=>by omega
structure lO (N ps:List Str) (sc:Scope):Prop where
 kind:sc.kind=.function
 co:sc.isCoroutine=false
 gen:sc.isGenerator=false
 nd:N.Nodup
 pre:N.take ps.length=ps
 par:∀x∈ps,sc.names.lookup x=some .local\/sc.names.lookup x=some .cell
 tJ:∀y∈sc.names,y.2≠.free
noncomputable def x7 (P:VI) (w:WE) (K:U3) (mg:Str->Option Ux) (cls:Str->Option U9) (base:Heap) (N:List Str) (qual:Str) (scope:Scope) (f:U9) (cd:Ux) (A:Vq) (s:UB) (H:Hp):Cx where
 prog:=P
 w:=w
 K:=K
 mg:=mg
 cls:=cls
 base:=base
 A:=A.deeper (envOfC qual scope s.heap.objs.size f cd)
 N:=N
 s₀:=s
 H₀:=H
 env:=envOfC qual scope s.heap.objs.size f cd
 ex:=[]
 fn:=fun _=>true
section
variable {P:VI} {w:WE} {K:U3} {mg:Str->Option Ux} {cls:Str->Option U9} {base:Heap} {N ps:List Str} {qual:Str} {scope:Scope} {f:U9} {cd:Ux} {A:Vq} {s s1:UB} {g:G} {L:aa}
theorem oo {us:List Ux} {xs:List T} (S:lO N ps scope) (hd:A.handled=none) (e0:wC P w K mg cls base s g L) (hl:xs.length=ps.length) (r:cE g xs us)
  (x:InCallC s s.heap.objs.size (bindL (envOfC qual scope s.heap.objs.size f cd).kindOf (ps.zip us) fun _=>none) (cellsFrom (s.heap.objs.size+1) scope.names []) (bindC (envOfC qual scope s.heap.objs.size f cd).kindOf (ps.zip us) fun _=>none) s1) :
  Inv (x7 P w K mg cls base N qual scope f cd A s g.H) [] (xs.map some++Va (N.length - ps.length) none) g L s1:=by
 have hpl:ps.length<=N.length:=by have:=congrArg WR S.pre;rw [Vj] at this;omega
 obtain⟨h1,tk,rfl,hk⟩:=x.done;refine⟨⟨e0.mod,S.kind,rfl,rfl,UM _,fun y z c h1 h2=>?_,fun y hy=>?_,fun y c _ h=>?_,hd,fun b z=>absurd z (by simp [x7]),e0.bs,e0.HY,fun b _ _=>by simp [x7]⟩,
  rfl,e0.bare,Un.kept hk,⟨_,x.toInCall.ns,fun i y v h1 h2 h3=>?_⟩,fun y c h=>⟨_,x.cell y c h⟩,e0.hok.fresh (UM _),fun y c h=>?_,fun p hp=>(by simp at hp),fun a b o e=>hk a o (e0.hok a b o e),?_,e0.rel,e0.gB,e0.gm,e0.gw⟩
 ·exact name_of_addr x.apart (Vh h1) (Vh h2)
 ·have hy:scope.names.lookup y=some .cell\/scope.names.lookup y=some .free:=hy
  rcases hy with hy|hy
  ·exact qR hy
  ·exact absurd rfl (S.tJ _ (Vh hy))
 ·exact XU (x.above y c (Vh h))
 ·have hi:i<xs.length:=by
   by_cases hi:i<xs.length
   ·exact hi
   ·rw [List.getElem?_append_right (by simpa using hi),List.getElem?_replicate] at h2
    split at h2 <;> cases h2
  have ha:xs[i]?=some v:=by
   rw [List.getElem?_append_left (by simpa using hi),UT] at h2;cases e:xs[i]? with
   | none=>rw [e] at h2;cases h2
   | some a=>rw [e] at h2;cases h2;rfl
  obtain⟨u,hu,rv⟩:=tf r ha;have hp:ps[i]?=some y:=by
   rw [<- S.pre,List.getElem?_take_of_lt (by omega)];exact h1
  have Po:ps.Nodup:=by rw [<- S.pre];exact S.nd.sublist (List.take_sublist _ _)
  refine⟨u,rv,?_⟩;rcases S.par y (Ve hp) with k|k
  ·exact .inl ⟨k,oi Po hp hu k⟩
  ·obtain⟨c,e⟩:=qR (n:=s.heap.objs.size+1) k
   refine .inr ⟨.inl k,c,e,?_⟩;have q:=x.cell y c e
   rw [om Po hp hu (by show scope.names.lookup y≠_;rw [k];decide)] at q;exact q
 ·exact e0.hok.fresh (XU (x.above y c (Vh h)))
 ·show _=N.length
  rw [Ut,Lm9,List.length_replicate];omega
theorem x8 {g1:G} {L1 Lo:aa} {s':UB} {t t':T} {u:Ux} (e0:wC P w K mg cls base s g L) (os:s'.os=s.os) (bare:AllBare s'.gens) (un:Un [] g.H g1.H s.heap s'.heap) (hok:Ba g1.H s'.heap) (l:Le g g1) (rel:Rel g1 L1) (r:RT g1 none t u) (e:fin L t L1=.ok t' Lo):CE g s t' Lo u s':=by
 obtain⟨g2,l2,r2,h2,a,b,c⟩:=Fb l e0.rel rel r e;exact⟨g2,os,bare,⟨un.keep,fun x o q n z=>b x (un.free x o q n z),fun x o q=>c x o (un.cg x o q)⟩,fun x y o q=>let ⟨_,z⟩:=a x y o q;hok x _ o z,l2,r2,h2⟩
theorem IW {k:Nat} {name:Str} {params:Arguments} {body:List Stmt} {dV kV doc pm gz ct oc:Ux} {an od:Option U9} {sR:Array (Option Ux)} {mb:SS} (lk:K.lookup f=some ⟨oc,od,.func (Wo name qual params body scope dV kV doc pm an gz ct),sR⟩) (hcd:Xa K gz qual=true) (S:lO N ps scope)
  (yc:∀us:List Ux,us.length=ps.length->bindArgs (Wo name qual params body scope dV kV doc pm an gz ct) ⟨us,[]⟩=pure (ps.zip us))
  (jB:∀(A:Vq) (s:UB) (H:Hp),fq k (A.deeper (envOfC qual scope s.heap.objs.size f gz))->xG (x7 P w K mg cls base N qual scope f gz A s H) body mb) :
  fu P w K mg cls base (k+1) f (run ps.length N.length mb):=fun {A s g L L' us xs t} hr e0 r nN=>by
 unfold run at nN;split at nN
 ·rename_i hl
  have ME:us.length=ps.length:=by rw [<- US r];exact hl
  have KX:K.In s.heap:=e0.mod.HX.keeps fun b o e=>(e0.bs b o e).1
  have lim:s.heap.NoLimit:=e0.mod.nolimit.keeps fun b o e=>(e0.bs b o e).1
  have hkind:∀y∈ps.zip us,scope.names.lookup y.1=some .local\/(scope.names.lookup y.1=some .cell/\((cellsFrom (s.heap.objs.size+1) scope.names []).lookup y.1).isSome=true):=fun⟨n,v⟩ hy=>by
   rcases S.par n (Xl hy).1 with q|q
   ·exact .inl q
   ·exact .inr ⟨q,X9 _ _ _ (.inl q)⟩
  refine codeAny_call_function hr.depth (KX _ _ lk) rfl S.co S.gen rfl (aak KX hcd) (BindsTo.of_eq (yc us ME) _ _ _ _ ?_);refine wpAny_newFunctionEnv_cells S.kind hkind fun env he s1 x=>?_
  subst he;refine⟨lim.keeps x.toInCall.keep,codeAny_func ?_⟩;have I:=oo (A:=A) (cd:=gz) S hr.hd e0 hl r x
  have nb:mb (xs.map some++Va (N.length - ps.length) none) L≠.bad:=fun z=>by rw [z] at nN;cases nN
  refine wpAny_mono (jB A s g.H (hr.deeper _) I nb) (fun fl s' ⟨g',l,hs⟩=>?_) fun e s' hs=>hs.elim
  cases eb:mb (xs.map some++Va (N.length - ps.length) none) L with
  | nx φ' L1 =>
   rw [eb] at hs nN;cases fl <;> first|exact hs.elim|exact x8 e0 hs.os hs.bare hs.base hs.hok l hs.rel .bZ nN
  | rt t0 L1 =>
   rw [eb] at hs nN;cases fl <;> first|exact hs.elim|skip
   obtain⟨⟨φ',J⟩,rt⟩:=hs;exact x8 e0 J.os J.bare J.base J.hok l J.rel rt nN
  | _=>rw [eb] at nN;cases nN
 ·cases nN
structure Mk (K:U3) (C f:U9):Prop where
 makes:YC K C=true
 init:VD K (.ref C) "__init__"=some (some (.ref f))
 fn:XX K (.ref f)=true
 kp:VL K (.ref C)=true
theorem IX {k:Nat} {C:U9} {cn:Str} {init:Fn} (M:Mk K C f) (hF:fu P w K mg cls base k f init) (hc:cls cn=some C):fu P w K mg cls base (k+1) C (make cn init):=fun {A s g L L' us xs t} hr e0 r h=>by
 have KX:K.In s.heap:=e0.mod.HX.keeps fun b o e=>(e0.bs b o e).1
 refine x6 KX M.makes M.init (beq_iff_eq.mp M.fn) ?_;generalize hn:s.heap.objs.size=n;have fr:∀a,n<=a->g.H a=none:=fun a ha=>e0.hok.fresh (by rw [hn];exact ha)
 have e1:(s.heap.push VC).get? n=some VC:=by rw [<- hn];exact Uy s.heap rfl
 have e2:((s.heap.push VC).push (VA C n)).get? (n+1)=some (VA C n):=by
  have:=Uy (s.heap.push VC) (o:=VA C n) rfl;rwa [VJ,hn] at this
 have e1':((s.heap.push VC).push (VA C n)).get? n=some VC:=Ur _ e1;have kp:∀b o,s.heap.get? b=some o->((s.heap.push VC).push (VA C n)).get? b=some o:=fun b o q=>Ur _ (Ur _ q)
 have cf:∀b o,s.heap.get? b=some o->b<n:=fun b o q=>by rw [<- hn];exact UX q
 let g1:G:={ g with H:=upd (upd g.H n (false,VC)) (n+1) (false,VA C n),α:=(n+1,n)::g.α }
 have old:∀b,b<n->g1.H b=g.H b:=fun b hb=>(az (wF (by omega))).trans (az (wF (by omega)))
 have tr:∀b x,g.H b=some x->b<n:=fun b x q=>cf b x.2 (e0.hok b x.1 x.2 q)
 have h1:g1.H n=some (false,VC):=(az (wF (by omega))).trans ar;have h2:g1.H (n+1)=some (false,VA C n):=ar
 have l1:Le g g1:=⟨fun b o q=>(old b (tr b _ q)).trans q,fun _ _ q=>lJ q,rfl,rfl,rfl⟩;have alt:∀m q,at_ g.α m=some q->q.1<n/\q.2<n:=fun m q e=>by
  obtain⟨⟨o1,z1⟩,o2,z2⟩:=e0.rel.live m q e;exact⟨tr _ _ z1,tr _ _ z2⟩
 have ob:RT g1 (some (n+1,n)) (.obj cn []) (.ref (n+1)):=.obj (od:=VC) (es:=#[]) (n:=0) (.inr rfl) (wF (by omega)) (by show g.cls cn=_;rw [e0.gm];exact hc) (.inl h2) (.inl h1) rfl (fun e he=>absurd he (by simp)) (by simp [UniqKeys]) (by simp) (by simp) (fun f=>rfl) fun f x v q=>by simp at q
 have MF:Rel g1 (.obj cn []::L):=by
  refine⟨by show((n+1,n)::g.α).length=_;simp [e0.rel.len],fun m c q=>?_,fun m m' p q q1 q2 hne=>?_,fun m p q=>?_⟩
  ·unfold at_ at q
   split at q
   ·rename_i em
    cases q;exact⟨(n+1,n),by rw [em,<- e0.rel.len];exact eW,ob⟩
   ·obtain⟨p,z1,z2⟩:=e0.rel.cells m c q
    refine⟨p,lJ z1,z2.up l1 fun q z=>?_⟩;cases z;exact⟨old _ (alt m p z1).1,old _ (alt m p z1).2⟩
  ·have q1:at_ ((n+1,n)::g.α) m=some p:=q1
   have q2:at_ ((n+1,n)::g.α) m'=some q:=q2
   unfold at_ at q1 q2
   split at q1
   ·cases q1
    split at q2
    ·omega
    ·have z:=alt m' q q2;exact⟨wF (.inr (VK z.1)),wF (.inr (VK z.2)),wF (.inr z.1),wF (.inr z.2)⟩
   ·split at q2
    ·cases q2
     have z:=alt m p q1;exact⟨wF (.inl (VK z.1)),wF (.inl z.1),wF (.inl (VK z.2)),wF (.inl z.2)⟩
    ·exact e0.rel.apart m m' p q q1 q2 hne
  ·have q:at_ ((n+1,n)::g.α) m=some p:=q
   unfold at_ at q
   split at q
   ·cases q;exact⟨⟨_,h2⟩,_,h1⟩
   ·obtain⟨⟨o1,z1⟩,o2,z2⟩:=e0.rel.live m p q
    have z:=alt m p q;exact⟨⟨o1,(old _ z.1).trans z1⟩,o2,(old _ z.2).trans z2⟩
 have Rg:wC P w K mg cls base { s with heap:=(s.heap.push VC).push (VA C n) } g1 (.obj cn []::L):=by
  refine⟨e0.mod,fun b o q=>⟨kp b o (e0.bs b o q).1,(old b (cf b o (e0.bs b o q).1)).trans (e0.bs b o q).2⟩,?_,fun a b o q=>?_,e0.bare,MF,e0.gB,e0.gm,e0.gw⟩
  ·show _<=((s.heap.push _).push _).objs.size
   rw [VJ,VJ];have:=e0.HY;omega
  ·by_cases z1:a=n+1
   ·subst z1;rw [h2] at q;cases q;exact e2
   ·by_cases z2:a=n
    ·subst z2;rw [h1] at q;cases q;exact e1'
    ·have q:g.H a=some (b,o):=by rw [<- q];exact((az z1).trans (az z2)).symm
     exact kp a o (e0.hok a b o q)
 unfold make at h;cases ei:init (.ref L.length::xs) (.obj cn []::L) with
 | bad=>rw [ei] at h;cases h
 | ok t0 L1 =>
  rw [ei] at h;cases t0 with
  | bZ =>
   have r1:cE g1 (.ref L.length::xs) (.ref (n+1)::us):=.cons (.ref (p:=(n+1,n)) (by show at_ ((n+1,n)::g.α) _=_;rw [<- e0.rel.len];exact eW)) (r.le l1);refine codeAny_mono (hF (hr.make C us []) Rg r1 ei) fun r s' hq=>?_
   cases r with
   | error e=>exact Y9 hq
   | ok fl =>
    cases fl with
    | ret u =>
     obtain⟨g2,os,bare,un,hok,l2,MG,r2⟩:=hq;cases r2;refine⟨rfl,?_⟩;have Rh:Un [] g.H g2.H s.heap s'.heap:=⟨fun b o q z x=>un.keep b o (kp b o q) ((old b (cf b o q)).trans z) x,fun b o q z x=>un.free b o (kp b o q) ((old b (cf b o q)).trans z) x,fun b o q=>un.cg b o (l1.f b o q)⟩
     have ra:RT g2 none (.ref L.length) (.ref (n+1)):=.ref (p:=(n+1,n)) (l2.α _ _ (by show at_ ((n+1,n)::g.α) _=_;rw [<- e0.rel.len];exact eW));exact x8 e0 os bare Rh hok (l1.trans l2) MG ra h
    | _=>exact Y9 hq
  | _=>cases h
end
section
variable {X:Cx} {pins:aY} {φ:Fr} {g:G} {L:aa} {s:UB}
theorem str_beq {a b:Cs}:((⟨a.toArray⟩:Str) == ⟨b.toArray⟩)=(a == b):=by
 rw [Wf,beq_iff_eq,beq_iff_eq];constructor
 ·intro h
  have:=congrArg (fun x:Str=>x.cps.toList) h;simpa using this
 ·rintro rfl;rfl
theorem iD {f:T->T->Bool}:∀(a b:List T),((Vx (min a.length b.length)).all (fun i=>f (a.getD i .bZ) (b.getD i .bZ)) && a.length == b.length)=nH f a b
 | [],[]=>rfl
 | [],b::q=>by simp [nH]
 | a::r,[]=>by simp [nH]
 | a::r,b::q=>by
  rw [nH,<- iD r q];have e:min (a::r).length (b::q).length=min r.length q.length+1:=by simp only [UA];omega
  rw [e,ZL,Vl,ZY];have e2:((a::r).length == (b::q).length)=(r.length == q.length):=by simp
  rw [e2,Bool.and_assoc];rfl
theorem yd {n:Nat} {xs:List T} (h:xs.all (dat n)=true) {i:Nat} (hi:i<xs.length):dat n (xs.getD i .bZ)=true:=by
 rw [Gd9,Ge9 hi];exact Uu.mp h _ (UQ hi)
theorem getD_at {xs:List T} {i:Nat} (hi:i<xs.length):xs[i]?=some (xs.getD i .bZ):=by
 rw [Gd9,Ge9 hi];rfl
theorem jC {f:T->T->Bool}:∀{xs:List T},(∀x∈xs,f x x=true)->nH f xs xs=true
 | [],_=>rfl
 | x::xs,h=>by rw [nH,h x Uv,jC fun y hy=>h y (Uw _ hy)];rfl
theorem Fe {a:T} (h:dat 0 a=true):False:=by cases a <;> cases h
theorem ia:∀(n:Nat) {a:T},dat n a=true->uQ n a a=true
 | 0,a,h=>(Fe h).elim
 | n+1,a,h=>by
  cases a with
  | bZ=>rfl
  | bl k=>exact beq_self_eq_true k
  | int i=>exact beq_self_eq_true i
  | str z=>exact beq_self_eq_true z
  | tup xs=>exact jC fun x hx=>ia n (Uu.mp h x hx)
  | lst xs=>exact jC fun x hx=>ia n (Uu.mp h x hx)
  | _=>cases h
noncomputable def It (g:G) (n:Nat) (xs:List T) (its:Array Ux):Prop:=xs.all (dat n)=true/\xs.length=its.size/\∀(i:Nat) x v,xs[i]?=some x->its[i]?=some v->RT g none x v
theorem Inv.dv (I:Inv X pins φ g L s) {n:Nat} {p:Option (U9 × U9)} {P:T->Ux->Prop} (c1:P .bZ .none) (c2:∀b,P (.bl b) (.bool b)) (c3:∀i t,P (.int i) (.int i t)) (c4:∀z t,P (.str z) (.str ⟨z.toArray⟩ t))
  (c5:∀xs a its,s.heap.IsTuple a its->It g n xs its->P (.tup xs) (.ref a)) (c6:∀xs a its,s.heap.IsList a its->It g n xs its->P (.lst xs) (.ref a)) {a:T} {u:Ux} (h:dat (n+1) a=true) (r:RT g p a u):P a u:=by
 cases r with
 | bZ=>exact c1
 | bl b=>exact c2 b
 | int i t=>exact c3 i t
 | str z t _=>exact c4 z t
 | tup hk hc hd _ hl hi=>exact c5 _ _ _ ⟨_,I.kn hk,hc.1,_,hd⟩ ⟨h,hl,hi⟩
 | lst _ hk _ hl hi=>exact c6 _ _ _ (af (I.kn hk)) ⟨h,hl,hi⟩
 | _=>cases h
noncomputable def tO:Ux->Option T
 | .none=>some .bZ
 | .bool b=>some (.bl b)
 | .int i _=>some (.int i)
 | .str z _=>some (.str z.cps.toList)
 | _=>none
noncomputable def Sq (s:UB) (k:Bool) (a:U9) (its:Array Ux):Prop:=∃o,s.heap.get? a=some o/\o.cls=.type (if k=true then "tuple" else "list")/\∃n,o.data=.seq its n
theorem Sq.eq {k j:Bool} {a:U9} {x y:Array Ux} (h:Sq s k a x) (h':Sq s j a y):k=j/\x=y:=by
 obtain⟨o,e,c,m,d⟩:=h;obtain⟨_,e',c',m',d'⟩:=h';cases We (e.symm.trans e');refine⟨?_,(Data.seq.inj (d.symm.trans d')).1⟩;have z:=c.symm.trans c'
 clear c c'
 revert k j
 decide
theorem Inv.uniq (I:Inv X pins φ g L s):∀(n:Nat) {p q:Option (U9 × U9)} {a b:T} {u:Ux},dat n a=true->dat n b=true->RT g p a u->RT g q b u->a=b
 | 0,_,_,a,_,_,h,_,_,_=>(Fe h).elim
 | n+1,_,_,_,_,_,ha,hb,ra,rb=>by
  have key:∀{p a u},dat (n+1) a=true->RT g p a u->tO u=some a\/∃k d its xs,u=.ref d/\Sq s k d its/\It g n xs its/\a=if k=true then .tup xs else .lst xs:=fun h r =>
   I.dv (P:=fun a u=>tO u=some a\/∃k d its xs,u=.ref d/\Sq s k d its/\It g n xs its/\a=if k=true then .tup xs else .lst xs) (.inl rfl) (fun _=>.inl rfl) (fun _ _=>.inl rfl) (fun _ _=>.inl rfl)
    (fun xs a its h j=>.inr ⟨true,a,its,xs,rfl,h,j,rfl⟩) (fun xs a its h j=>.inr ⟨false,a,its,xs,rfl,h,j,rfl⟩) h r
  rcases key ha ra with h|⟨k,d,its,xs,rfl,hk,i,rfl⟩
  ·rcases key hb rb with h'|⟨_,_,_,_,rfl,_⟩
   ·exact We (h.symm.trans h')
   ·cases h
  ·rcases key hb rb with h'|⟨j,_,Rj,ys,z,hj,i',rfl⟩
   ·cases h'
   ·cases Value.ref.inj z
    obtain⟨rfl,rfl⟩:=hk.eq hj;rw [show xs=ys from Wa (i.2.1.trans i'.2.1.symm) fun m hi hj=>I.uniq n (Uu.mp i.1 _ (UQ hi)) (Uu.mp i'.1 _ (UQ hj)) (i.2.2 m _ _ (Ge9 hi) (UE (i.2.1 ▸ hi))) (i'.2.2 m _ _ (Ge9 hj) (UE (i.2.1 ▸ hi)))]
theorem Inv.same (I:Inv X pins φ g L s) (n:Nat) {p q:Option (U9 × U9)} {a b:T} {u:Ux} (ha:dat n a=true) (hb:dat n b=true) (ra:RT g p a u) (rb:RT g q b u):uQ n a b=true:=by
 rw [I.uniq n ha hb ra rb];exact ia n hb
theorem both {A:Vq} {a b:U9} {k:Bool} (h:SeqAt.RcAt A s (.ref a) (.ref b) k) (he:a=b->k=true):SeqAt.RcAt A s (.ref a) (.ref b) k/\WI A s (.ref a) (.ref b) k:=⟨h,by
 by_cases e:a=b
 ·subst e;rw [he rfl];exact SeqAt.EqAt.same _
 ·exact SeqAt.EqAt.of_refs e h⟩
theorem It.eq (I:Inv X pins φ g L s) {n:Nat} {xs ys:List T} {its:Array Ux} (i:It g n xs its) (j:It g n ys its):nH (uQ n) xs ys=true:=by
 rw [show ys=xs from Wa (j.2.1.trans i.2.1.symm) fun m hj hi=>I.uniq n (Uu.mp j.1 _ (UQ hj)) (Uu.mp i.1 _ (UQ hi)) (j.2.2 m _ _ (Ge9 hj) (UE (i.2.1 ▸ hi))) (i.2.2 m _ _ (Ge9 hi) (UE (i.2.1 ▸ hi)))];exact jC fun x hx=>ia n (Uu.mp i.1 x hx)
abbrev Rq (A:Vq) (s:UB) (n:Nat) (a:T) (u:Ux) (b:T) (v:Ux):Prop:=SeqAt.RcAt A s u v (uQ n a b)/\WI A s u v (uQ n a b)
open SeqAt in
theorem Inv.rc (I:Inv X pins φ g L s):∀(n:Nat) {A:Vq} {p q:Option (U9 × U9)} {a b:T} {u v:Ux},dat n a=true->dat n b=true->A.units+n<cLine->RT g p a u->RT g q b v->Rq A s n a u b v
 | 0,_,_,_,a,_,_,_,h,_,_,_,_=>(Fe h).elim
 | n+1,A,_,_,a,b,u,v,ha,hb,hn,ra,rb=>by
  have hu:A.units<cLine:=by omega
  have it:∀{xs ys:List T} {x y:Array Ux},It g n xs x->It g n ys y->∀j (h1:j<x.size) (h2:j<y.size),EqAt A.in1 s x[j] y[j] (uQ n (xs.getD j .bZ) (ys.getD j .bZ)):=fun i k j h1 h2 =>
   (I.rc n (yd i.1 (i.2.1 ▸ h1)) (yd k.1 (k.2.1 ▸ h2)) (by show A.units+1+n<cLine;omega) (i.2.2 j _ _ (getD_at (i.2.1 ▸ h1)) (UE h1)) (k.2.2 j _ _ (getD_at (k.2.1 ▸ h2)) (UE h2))).2
  refine I.dv (P:=fun a u=>Rq A s (n+1) a u b v) ?_ ?_ ?_ ?_ ?_ ?_ ha ra
  ·exact I.dv (P:=Rq A s (n+1) .bZ .none) ⟨.none_none,.same _⟩ (fun _=>⟨.none_bool _,.none_bool _⟩) (fun _ _=>⟨.none_int _ _,.none_int _ _⟩) (fun _ _=>⟨.none_str _ _,.none_str _ _⟩) (fun _ _ _ h _=>⟨.none_tuple h hu,.none_tuple h hu⟩) (fun _ _ _ h _=>⟨.none_list h hu,.none_list h hu⟩) hb rb
  ·exact fun _=>I.dv (P:=Rq A s (n+1) (.bl _) (.bool _)) ⟨.bool_none _,.bool_none _⟩ (fun _=>⟨.bool_bool _ _,.bool_bool _ _⟩) (fun _ _=>⟨.bool_int _ _ _,.bool_int _ _ _⟩) (fun _ _=>⟨.bool_str _ _ _,.bool_str _ _ _⟩) (fun _ _ _ h _=>⟨.bool_tuple _ h hu,.bool_tuple _ h hu⟩) (fun _ _ _ h _=>⟨.bool_list _ h hu,.bool_list _ h hu⟩) hb rb
  ·exact fun _ _=>I.dv (P:=Rq A s (n+1) (.int _) (.int _ _)) ⟨.int_none _ _,.int_none _ _⟩ (fun _=>⟨.int_bool _ _ _,.int_bool _ _ _⟩) (fun _ _=>⟨.int_int _ _ _ _,.int_int _ _ _ _⟩) (fun _ _=>⟨.int_str _ _ _ _,.int_str _ _ _ _⟩) (fun _ _ _ h _=>⟨.int_tuple _ _ h hu,.int_tuple _ _ h hu⟩) (fun _ _ _ h _=>⟨.int_list _ _ h hu,.int_list _ _ h hu⟩) hb rb
  ·exact fun z _=>I.dv (P:=Rq A s (n+1) (.str z) (.str ⟨z.toArray⟩ _)) ⟨.str_none _ _,.str_none _ _⟩ (fun _=>⟨.str_bool _ _ _,.str_bool _ _ _⟩) (fun _ _=>⟨.str_int _ _ _ _,.str_int _ _ _ _⟩) (fun z2 _=>by
    show RcAt A s _ _ (z == z2)/\EqAt A s _ _ (z == z2);rw [<- str_beq];exact⟨.str_str _ _ _ _,.str_str _ _ _ _⟩) (fun _ _ _ h _=>⟨.str_tuple _ _ h hu,.str_tuple _ _ h hu⟩) (fun _ _ _ h _=>⟨.str_list _ _ h hu,.str_list _ _ h hu⟩) hb rb
  ·exact fun xs d x T1 i=>I.dv (P:=Rq A s (n+1) (.tup xs) (.ref d)) ⟨.tuple_none T1 hu,.tuple_none T1 hu⟩ (fun _=>⟨.tuple_bool _ T1 hu,.tuple_bool _ T1 hu⟩) (fun _ _=>⟨.tuple_int _ _ T1 hu,.tuple_int _ _ T1 hu⟩) (fun _ _=>⟨.tuple_str _ _ T1 hu,.tuple_str _ _ T1 hu⟩) (fun ys b y T2 k=>by
    have:=RcAt.tuples T1 T2 hu (it i k);rw [<- i.2.1,<- k.2.1,iD] at this;refine both this fun e=>?_
    subst e;cases (Sq.eq (k:=true) (j:=true) T1 T2).2;exact i.eq I k) (fun _ _ _ h _=>⟨.tuple_list T1 h hu,.tuple_list T1 h hu⟩) hb rb
  ·exact fun xs d x T1 i=>I.dv (P:=Rq A s (n+1) (.lst xs) (.ref d)) ⟨.list_none T1 hu,.list_none T1 hu⟩ (fun _=>⟨.list_bool _ T1 hu,.list_bool _ T1 hu⟩) (fun _ _=>⟨.list_int _ _ T1 hu,.list_int _ _ T1 hu⟩) (fun _ _=>⟨.list_str _ _ T1 hu,.list_str _ _ T1 hu⟩) (fun _ _ _ h _=>⟨.list_tuple T1 h hu,.list_tuple T1 h hu⟩) (fun ys b y T2 k=>by
    refine both ?_ fun e=>?_
    ·show RcAt A s _ _ (nH (uQ n) xs ys)
     rw [<- iD,i.2.1,k.2.1];by_cases hs:x.size=y.size
     ·have:=RcAt.lists T1 T2 hs hu (it i k)
      rw [<- hs];simpa using this
     ·rw [show(x.size == y.size)=false by simpa using hs,Yj];exact RcAt.lists_lengths T1 T2 (by simpa using hs) hu
    ·subst e
     cases (Sq.eq (k:=false) (j:=false) T1 T2).2;exact i.eq I k) hb rb
end
section
variable {X:Cx} {pins:aY} {φ:Fr} {g:G} {L:aa} {s:UB} {xs ys:List T} {us vs:List Ux}
theorem cE.app (h:cE g xs us) (h2:cE g ys vs):cE g (xs++ys) (us++vs):=by
 induction h with
 | nil=>exact h2
 | cons a _ ih=>exact .cons a ih
theorem ye {w:T} {t':Nat} {h':Heap} {n:Nat} (I:Inv X pins φ g L s) (r:cE g xs us) (hz:xs.length<=U1) (k:∀b u,s.heap.get? b=some u->h'.get? b=some u) {a:U9} (ha:s.heap.objs.size<=a) (new:h'.get? a=some { cls:=.type "tuple",data:=.seq us.toArray n }) :
  EP X pins φ g (.tup xs) L (.ref a) { s with heap:=h',toks:=t' } :=
 have f:=I.hok.fresh ha
 ⟨_,Le.lay f,I.laid k ha new,r.tup (Le.lay f) (.inl ar) ⟨rfl,rfl⟩ rfl hz⟩
theorem oq (c:Nat):∀(k:Nat) (a:Array Nat),(Va k (#[c]:Array Nat)).foldl (fun x1 x2=>x1++x2) a=a++(Va k c).toArray
 | 0,a=>by simp
 | k+1,a=>by
  rw [aac,X1,oq c k,aac];apply Array.ext';simp
theorem Ff {fz:Bool} {op:Operator} {x y w:T} {L':aa} (h:aX fz op x y L=.ok w L'):(∃i j,vw L x=.int i/\vw L y=.int j/\oI op i j L=.ok w L')\/(∃a b,vw L x=.str a/\vw L y=.str b/\op=.Add/\a.length+b.length<=lim/\w=.str (a++b)/\L'=L)\/(∃ch j,vw L x=.str [ch]/\vw L y=.int j/\op=.Mult/\sZ j/\w=.str (Va j.toNat ch)/\L'=L)\/∃a b,vw L x=.lst a/\vw L y=.lst b/\op=.Add/\fo fz (a++b) L=.ok w L':=by
 unfold aX at h;generalize vw L x=p at h ⊢;generalize vw L y=q at h ⊢;split at h
 ·split at h
  ·exact .inl ⟨_,_,rfl,rfl,h⟩
  ·cases h
 ·unfold oS at h
  split at h
  ·split at h
   ·obtain⟨c,h⟩:=aA h;cases h;exact .inr (.inl ⟨_,_,rfl,rfl,rfl,c,rfl,rfl⟩)
   ·cases h
  ·split at h
   ·split at h
    ·obtain⟨c,h⟩:=aA h;cases h;exact .inr (.inr (.inl ⟨_,_,rfl,rfl,rfl,c,rfl,rfl⟩))
    ·cases h
   ·cases h
  ·cases h
 ·split at h
  ·split at h
   ·exact .inr (.inr (.inr ⟨_,_,rfl,rfl,rfl,h⟩))
   ·cases h
  ·cases h
 ·cases h
theorem Fg {op:Operator} {i j:Int} {t t':Nat} {w:T} {L':aa} (I:Inv X pins φ g L s) (h:oI op i j L=.ok w L'):UR (model X.prog X.w) X.A (binaryOp op (.int i t) (.int j t')) (EP X pins φ g w L') F0 s:=by
 cases op with
 | Add =>
  cases h;exact add_int ((I.tok _).ep (.int _ _))
 | Sub =>
  cases h;exact sub_int ((I.tok _).ep (.int _ _))
 | Mult =>
  obtain⟨hc,h⟩:=aA h;cases h;refine mul_int ((I.tok _).ep (.int _ _)) ?_;rcases hc with⟨h1,h2⟩|⟨h1,h2⟩
  ·exact .of_left (intBits_le_64 h1 h2)
  ·exact .of_right (intBits_le_64 h1 h2)
 | FloorDiv =>
  obtain⟨hc,h⟩:=aA h;cases h;unfold xy at hc;exact floordiv_int (by omega) (by rw [Int.fdiv_eq_ediv_of_nonneg i (by omega)];exact(I.tok _).ep (.int _ _)) (.inl (PyProof.noPylong_small (by omega)))
 | Mod =>
  obtain⟨hc,h⟩:=aA h;cases h;exact mod_int' (by omega) (by rw [Int.fmod_eq_emod_of_nonneg i (by omega)];exact(I.tok _).ep (.int _ _))
 | Pow =>
  obtain⟨hc,h⟩:=aA h;cases h;exact pow_int_small hc.1 hc.2.1 hc.2.2 ((I.tok _).ep (.int _ _))
 | _ =>
  cases h
theorem Fh {c:Nat} {n:Int} {t t':Nat} (I:Inv X pins φ g L s) (hc:sZ n):UR (model X.prog X.w) X.A (binaryOp .Mult (.str ⟨[c].toArray⟩ t) (.int n t')) (EP X pins φ g (.str (Va n.toNat c)) L) F0 s:=by
 unfold sZ at hc;have hl:(⟨[c].toArray⟩:Str).length=1:=rfl
 refine PySem.P.mul_str ?_ (fun a b=>?_) (fun a b=>?_) ?_
 ·have z1:¬ n < -(2 ^ 63:Int):=by omega
  have z2:¬ n≥2 ^ 63:=by omega
  rw [decide_eq_false z1,decide_eq_false z2];rfl
 ·rw [hl]
  have:(1:Int)<=(2 ^ 63 - 1) / n:=by
   rw [Int.le_ediv_iff_mul_le (by omega)];omega
  omega
 ·rw [hl]
  have e:(2:Nat) ^ 24=16777216:=by decide
  unfold Builtin.Str.tooLong U1;exact decide_eq_false (by omega)
 ·by_cases a:n<1
  ·rw [if_pos a]
   refine⟨by decide,(I.tok _).ep ?_⟩;have e:n.toNat=0:=by omega
   rw [e];exact .str [] _ (by decide)
  ·rw [if_neg a]
   by_cases b:(n == 1 || (⟨[c].toArray⟩:Str).length == 0)=true
   ·rw [if_pos b]
    have e1:n=1:=by rw [hl] at b;simpa using b
    subst e1;exact I.ep (.str [c] _ (by show 1<=U1;decide))
   ·rw [if_neg b]
    have e:(⟨(Va n.toNat (⟨[c].toArray⟩:Str).cps).foldl (· ++ ·) #[]⟩:Str)=⟨(Va n.toNat c).toArray⟩:=by
     show(⟨(Va n.toNat (#[c]:Array Nat)).foldl (fun x1 x2=>x1++x2) #[]⟩:Str)=_;rw [oq];simp
    rw [e];have z:(Va n.toNat c).length<=U1:=by rw [V3];simp;omega
    exact⟨by show(Va n.toNat c).toArray.size<=_;simpa using z,(I.tok _).ep (.str _ _ z)⟩
theorem Fi {fz:Bool} {op:Operator}:xH X (binaryOp op) (aX fz op):=fun {pins φ g L s x y w L' u v} I rx ry h=>by
 obtain⟨p,vx⟩:=I.view rx;obtain⟨q,vy⟩:=I.view ry;rcases Ff h with⟨i,j,e,e',h⟩|⟨a,b,e,e',rfl,hc,rfl,rfl⟩|⟨c,n,e,e',rfl,hc,rfl,rfl⟩|⟨_,_,e,e',rfl,hm⟩ <;> rw [e] at vx <;> rw [e'] at vy
 ·obtain⟨_,rfl⟩:=vx.iI;obtain⟨_,rfl⟩:=vy.iI;exact Fg I h
 ·obtain⟨_,rfl⟩:=vx.sI;obtain⟨_,rfl⟩:=vy.sI
  have e:(⟨a.toArray⟩:Str)++(⟨b.toArray⟩:Str)=⟨(a++b).toArray⟩:=by
   show(⟨a.toArray++b.toArray⟩:Str)=_;simp
  refine add_str (fun t' tk=>(I.tok _).ep ?_) (by show a.toArray.size+b.toArray.size<=_;simpa using (show a.length+b.length<=U1 from hc));rw [e];exact .str _ _ (by simpa using (show a.length+b.length<=U1 from hc))
 ·obtain⟨_,rfl⟩:=vx.sI;obtain⟨_,rfl⟩:=vy.iI;exact Fh I hc
 ·obtain⟨a,i1,n1,rfl,e1,r1,z1⟩:=I.lst vx
  obtain⟨b,i2,n2,rfl,e2,r2,z2⟩:=I.lst vy;have hz:=ph hm
  have l1:=US r1;have l2:=US r2
  refine PySem.P.add_list e1 e2 ?_ (by simp at hz l1 l2;omega);have ea:i1++i2=(i1.toList++i2.toList).toArray:=by simp
  rw [ea];exact j7 (t':=s.toks) I (r1.app r2) hm (fun b u e=>Ur _ e) (Uy _ rfl)
theorem yf {op:Operator}:xH X (inplaceOp op) (ag op):=fun I rx ry h=>by
 unfold ag at h;split at h
 ·obtain⟨_,rfl⟩:=rx.iI;obtain⟨_,rfl⟩:=ry.iI;cases h;exact iadd_int ((I.tok _).ep (.int _ _))
 ·obtain⟨_,rfl⟩:=rx.iI;obtain⟨_,rfl⟩:=ry.iI;cases h;exact isub_int ((I.tok _).ep (.int _ _))
 ·cases h
theorem Fj {x y:T} {k:Bool} {L':aa} (h:Ep x y L=.ok k L'):dat 8 (vw L x)=true/\dat 8 (vw L y)=true/\k=eqT (vw L x) (vw L y)/\L'=L:=by
 obtain⟨⟨a,b⟩,h⟩:=aA h;cases h;exact⟨a,b,rfl,rfl⟩
theorem pz {A:Vq} {x:T} {v:Ux} (I:Inv X pins φ g L s) (hu:A.units+8<cLine) (hx:dat 8 x=true) (rx:RT g none x v) (hy:ys.all (dat 8)=true) (r:cE g ys us):∃e:Ux->Bool,(∀w∈us,WI A s w v (e w))/\(us.any e=ys.any fun y=>eqT y x)/\∀(i:Nat) y w,ys[i]?=some y->us[i]?=some w->e w=eqT y x:=by
 classical
 have uq:∀(i j:Nat) y z w,ys[i]?=some y->us[i]?=some w->ys[j]?=some z->us[j]?=some w->y=z:=fun i j y z w h1 h2 h3 h4 =>
  I.uniq 8 (Uu.mp hy y (Ve h1)) (Uu.mp hy z (Ve h3)) (wx r i y w h1 h2) (wx r j z w h3 h4)
 have hl:=US r
 let e:Ux->Bool:=fun w=>decide (∃(i:Nat) (y:T),ys[i]?=some y/\us[i]?=some w/\eqT y x=true)
 have ev:∀(i:Nat) y w,ys[i]?=some y->us[i]?=some w->e w=eqT y x:=fun i y w h1 h2=>by
  cases q:eqT y x with
  | true=>exact decide_eq_true ⟨i,y,h1,h2,q⟩
  | false =>
   refine decide_eq_false ?_;rintro⟨j,z,h3,h4,h5⟩;rw [<- uq i j y z w h1 h2 h3 h4,q] at h5;cases h5
 refine⟨e,fun w hw=>?_,?_,ev⟩
 ·obtain⟨i,hi,rfl⟩:=Wi hw
  have e1:=Ge9 (l:=ys) (i:=i) (by omega);have e2:=Ge9 (l:=us) (i:=i) hi
  rw [ev i _ _ e1 e2];exact(I.rc 8 (Uu.mp hy _ (UQ (by omega))) hx hu (wx r i _ _ e1 e2) rx).2
 ·rw [Wf,Wb,Wb]
  constructor
  ·rintro⟨w,hw,h⟩
   obtain⟨i,hi,rfl⟩:=Wi hw;exact⟨ys[i]'(by omega),UQ _,by rw [<- ev i _ _ (Ge9 (by omega)) (Ge9 hi)];exact h⟩
  ·rintro⟨y,hy,h⟩
   obtain⟨i,hi,rfl⟩:=Wi hy;exact⟨us[i]'(by omega),UQ _,by rw [ev i _ _ (Ge9 hi) (Ge9 (by omega))];exact h⟩
theorem u5 {ch:Nat} {b:Cs}:(!(Builtin.Str.occurrences ⟨b.toArray⟩ ⟨[ch].toArray⟩ 0 (⟨b.toArray⟩:Str).length 1).isEmpty)=decide (ch∈b):=by
 have:=StrLaws.found_one ⟨b.toArray⟩ ch;simpa using this
theorem yg {x:T} {v:Ux} (r:RT g none x v):(v == VQ)=Dv x:=by cases r <;> rfl
end
section
variable {prog:VI} {w:WE} {A:Vq} {E:Ux->UB->Prop} {s:UB}
theorem BH (n d:Nat) (hd:d<=n) (o:Option Int):clip n d o<=n:=by
 cases o with
 | none=>exact hd
 | some v =>
  show(if v<0 then (v+(n:Int)).toNat else min v.toNat n)<=n;by_cases hv:v<0
  ·rw [if_pos hv];omega
  ·rw [if_neg hv];exact Yq _ _
theorem u6 (v:Int) (n d:Nat):(if v<0 then max (v+(n:Int)) 0 else min v (n:Int))=((clip n d (some v):Nat):Int):=by
 show(if v<0 then max (v+(n:Int)) 0 else min v (n:Int))=(((if v<0 then (v+(n:Int)).toNat else min v.toNat n):Nat):Int);by_cases hv:v<0
 ·simp only [if_pos hv];omega
 ·simp only [if_neg hv];omega
theorem tL (lo hi:Option Int) (n:Nat):XI lo hi 1 (n:Int)=(((clip n 0 lo:Nat):Int),((clip n n hi:Nat):Int)):=by
 have h1:¬ ((1:Int)<0):=by omega
 unfold XI;simp only [h1,if_false];refine Prod.ext ?_ ?_
 ·cases lo with
  | none=>rfl
  | some v=>exact u6 v n 0
 ·cases hi with
  | none=>rfl
  | some v=>exact u6 v n n
theorem tM (i j:Nat):WS (i:Int) (j:Int) 1=j - i:=by
 unfold WS;have h1:(1:Int) > 0:=by omega
 simp only [h1,if_true,Int.ediv_one];split <;> omega
theorem mC {v:Ux} {o:Option Int} {Q:Option Int->UB->Prop} (p:IsPart v o) (h:Q o s):UR (model prog w) A (Builtin.Slice.slicePartIndex v) Q E s:=by
 cases p with
 | none=>exact slicePart_none h
 | int i t=>exact slicePart_int h
theorem f7 {sl:U9} {vl vu:Ux} {lo hi:Option Int} {n:Nat} {Q:Int × Int × Nat->UB->Prop} (hs:s.heap.IsSliceOf sl vl vu .none) (pl:IsPart vl lo) (pu:IsPart vu hi)
  (h:Q (((clip n 0 lo:Nat):Int),1,clip n n hi - clip n 0 lo) s):UR (model prog w) A (YJ (.ref sl) (pure (n:Int))) Q E s:=by
 obtain⟨os,By,LQ,IY⟩:=id hs;unfold YJ Builtin.Slice.sliceFields;refine Uq (Uq (wpAny_field By IY (x:=vl) rfl (Uq (wpAny_field By IY (x:=vu) rfl (Uq (wpAny_field By IY (x:=.none) rfl (Us ?_)))))));refine Uq (slicePart_none ?_);show UR _ _ (if ((1:Int) == 0)=true then _ else _) _ _ s
 rw [if_neg (by decide)];refine Uq (mC pl (Uq (mC pu (Uq (Us ?_)))));show UR _ _ (match XI lo hi 1 (n:Int) with|(lo,hi)=>pure (lo,(1:Int),WS lo hi 1)) _ _ s
 rw [tL lo hi n];show UR _ _ (pure (((clip n 0 lo:Nat):Int),(1:Int),WS ((clip n 0 lo:Nat):Int) ((clip n n hi:Nat):Int) 1)) _ _ s
 rw [tM];exact Us h
theorem yh (xs:Array Ux) (i k:Nat):((Vx k).filterMap fun(m:Nat)=>xs[((i:Int)+(m:Int) * 1).toNat]?).toArray=((xs.toList.drop i).take k).toArray:=by
 have e:(fun(m:Nat)=>xs[((i:Int)+(m:Int) * 1).toNat]?)=fun m=>xs[i+m]?:=by
  funext m;have:((i:Int)+(m:Int) * 1).toNat=i+m:=by omega
  rw [this]
 rw [e];have:=pick_run xs i k
 rw [List.filterMap_map] at this;have e2:((fun x=>xs[x]?) ∘ fun x=>i+x)=fun m=>xs[i+m]?:=rfl
 rw [e2] at this;rw [this]
theorem jD {t sl:U9} {items:Array Ux} {vl vu:Ux} {lo hi:Option Int} {Q:Ux->UB->Prop} (ht:IsTup s.heap t items) (hs:s.heap.IsSliceOf sl vl vu .none) (pl:IsPart vl lo) (pu:IsPart vu hi)
  (hw:¬ (clip items.size 0 lo=0/\clip items.size items.size hi=items.size))
  (h:Q (.ref s.heap.objs.size) { s with heap:=s.heap.push { cls:=.type "tuple",data:=.seq ((items.toList.drop (clip items.size 0 lo)).take (clip items.size items.size hi - clip items.size 0 lo)).toArray } })
  (hsz:items.size<=U1):UR (model prog w) A (getItem (.ref t) (.ref sl)) Q E s:=by
 have u7:sizeOk (.seq ((items.toList.drop (clip items.size 0 lo)).take (clip items.size items.size hi - clip items.size 0 lo)).toArray):=by
  show((items.toList.drop (clip items.size 0 lo)).take (clip items.size items.size hi - clip items.size 0 lo)).toArray.size<=U1;rw [VV,Vj,Vg,VR];omega
 have hj:clip items.size items.size hi<=items.size:=BH _ _ (UM _) hi;obtain⟨os,By,LQ,IY⟩:=id hs;have A9:s.TypeIs (.ref sl) "slice":=⟨os,By,LQ⟩
 unfold getItem
 try with_reducible refine wpAny_holding ?_
 first|refine Uq (Us ?_)|skip
 refine Uq (wpAny_sequenceKey ht.typeIs (by decide) ?_);refine Uq (wpAny_callSpecial?_slot (name:=V5 "__getitem__") ht.typeIs VX
  (wpAny_call_entry VX ht.typeIs entry_tuple_getitem ?_ (args_tuple_getitem _ _)))
 show UR _ _ (Xz (.ref t) >>= _) _ _ s;refine Uq (tupleItemsOf_ ht ?_);refine Uq (wpAny_typeOf A9 ?_);rw [if_pos (by decide)];refine Uq (f7 hs pl pu ?_);have kY:¬ ((((clip items.size 0 lo:Nat):Int) == 0 && (1:Int) == 1 && (clip items.size items.size hi - clip items.size 0 lo) == items.size)=true):=by
  intro q;rw [UC,UC] at q;have q1:((clip items.size 0 lo:Nat):Int)=0:=eq_of_beq q.1.1
  have q2:clip items.size items.size hi - clip items.size 0 lo=items.size:=eq_of_beq q.2;exact hw ⟨by omega,by omega⟩
 show UR _ _ (if (((clip items.size 0 lo:Nat):Int) == 0 && (1:Int) == 1 && (clip items.size items.size hi - clip items.size 0 lo) == items.size)=true then _ else _) _ _ s;rw [if_neg kY,yh]
 first
  | exact Uq (m:=WV _) (wpAny_newObj_type (Us ⟨_,rfl,Us h⟩) u7)
  | exact Uq (m:=WV _) (wpAny_newObj_type (Uq (Us (Us ⟨_,rfl,Us h⟩))) u7)
  | exact Uq (Uq (m:=WV _) (wpAny_newObj_type (Us (Us ⟨_,rfl,Us h⟩)) u7))
  | exact Uq (Uq (m:=WV _) (wpAny_newObj_type (Us ⟨_,rfl,Us h⟩) u7))
theorem jE {t sl:U9} {items:Array Ux} {vl vu:Ux} {lo hi:Option Int} {Q:Ux->UB->Prop} (ht:IsTup s.heap t items) (hs:s.heap.IsSliceOf sl vl vu .none) (pl:IsPart vl lo) (pu:IsPart vu hi)
  (hw:clip items.size 0 lo=0/\clip items.size items.size hi=items.size) (h:Q (.ref t) s):UR (model prog w) A (getItem (.ref t) (.ref sl)) Q E s:=by
 obtain⟨os,By,LQ,IY⟩:=id hs;have A9:s.TypeIs (.ref sl) "slice":=⟨os,By,LQ⟩
 unfold getItem
 try with_reducible refine wpAny_holding ?_
 first|refine Uq (Us ?_)|skip
 refine Uq (wpAny_sequenceKey ht.typeIs (by decide) ?_);refine Uq (wpAny_callSpecial?_slot (name:=V5 "__getitem__") ht.typeIs VX
  (wpAny_call_entry VX ht.typeIs entry_tuple_getitem ?_ (args_tuple_getitem _ _)))
 show UR _ _ (Xz (.ref t) >>= _) _ _ s;refine Uq (tupleItemsOf_ ht ?_);refine Uq (wpAny_typeOf A9 ?_);rw [if_pos (by decide)];refine Uq (f7 hs pl pu ?_);have MH:(((clip items.size 0 lo:Nat):Int) == 0 && (1:Int) == 1 && (clip items.size items.size hi - clip items.size 0 lo) == items.size)=true:=by
  rw [hw.1,hw.2];simp
 show UR _ _ (if (((clip items.size 0 lo:Nat):Int) == 0 && (1:Int) == 1 && (clip items.size items.size hi - clip items.size 0 lo) == items.size)=true then _ else _) _ _ s;rw [if_pos MH];unfold Builtin.Tuple.tupleIsExact;refine Uq (Uq (wpAny_typeOf ht.typeIs (Us ?_)));rw [if_pos (by decide)];refine Uq (wpAny_rule ?_)
 first
  | exact Us ⟨_,rfl,Us h⟩
  | exact Uq (Us (Us ⟨_,rfl,Us h⟩))
end
theorem pA (lo hi:Option Int) (n:Nat):(sliceBounds lo hi none n).1=((clip n 0 lo:Nat):Int)/\(sliceBounds lo hi none n).2.1=((clip n n hi:Nat):Int)/\(sliceBounds lo hi none n).2.2=1:=by
 refine⟨?_,?_,rfl⟩
 ·cases lo with
  | none=>simp [sliceBounds,clip]
  | some i =>
   simp only [sliceBounds,clip,ZF,show(1:Int) > 0 by decide,if_true];by_cases h:i<0
   ·simp only [h,if_true] <;> omega
   ·simp only [h,if_false] <;> omega
 ·cases hi with
  | none=>simp [sliceBounds,clip]
  | some i =>
   simp only [sliceBounds,clip,ZF,show(1:Int) > 0 by decide,if_true];by_cases h:i<0
   ·simp only [h,if_true] <;> omega
   ·simp only [h,if_false] <;> omega
theorem nO (its:List Ux) (lo hi:Option Int):slicePick its.toArray lo hi none=((its.drop (clip its.length 0 lo)).take (clip its.length its.length hi - clip its.length 0 lo)).toArray:=by
 obtain⟨h1,h2,h3⟩:=pA lo hi its.toArray.size;unfold slicePick;rw [h1,h2,h3];simp only [sliceRange_one,pick_run,VV] <;> rfl
section
variable {X:Cx} {pins:aY} {φ:Fr} {g:G} {L:aa} {s:UB} {xs ys:List T} {us vs:List Ux} {e a b:Expr} {m ma mb:SE} {pos p2:Pos}
theorem mD {n:Nat} {i:Int} {j:Nat} (h:place n i=some j):seqIndex? i n=some j/\j<n/\-(n:Int)<=i/\i<n/\((0<=i/\i.toNat=j)\/(i<0/\(i+n).toNat=j)):=by
 unfold place at h;by_cases h0:0<=i
 ·rw [if_pos h0] at h
  by_cases h1:i<n
  ·rw [if_pos h1] at h
   cases h;exact⟨PySem.StrLaws.seqIndex_nonneg h0 h1,by omega,by omega,h1,.inl ⟨h0,rfl⟩⟩
  ·rw [if_neg h1] at h;cases h
 ·rw [if_neg h0] at h
  by_cases h1:-(n:Int)<=i
  ·rw [if_pos h1] at h
   cases h;exact⟨seqIndex_neg (by omega) h1,by omega,h1,by omega,.inr ⟨by omega,rfl⟩⟩
  ·rw [if_neg h1] at h;cases h
noncomputable def wG:Expr->Bool
 | .Slice ..=>false
 | _=>true
theorem yi (h:wG b=true):∀o i,subscripted b false o i=operate [o,i] (getItem o i):=fun o i=>by
 cases b <;> first|rfl|cases h
theorem tN:(U1:Nat)<2 ^ 63:=by rw [V3];decide
theorem iE {o:Option T} {w:T} {L':aa} (h:lift o L=.ok w L'):o=some w/\L'=L:=by
 cases o with
 | none=>cases h
 | some t=>cases h;exact⟨rfl,rfl⟩
noncomputable def PO (X:Cx) (e:Option Expr) (m:Option SE):Prop:=∀{pins:aY} {φ:Fr} {g:G} {L:aa} {s:UB} {o:Option Int} {L':aa},Inv X pins φ g L s->Es m φ L=.ok o L'->UR (model X.prog X.w) X.A (evalPart e X.env) (fun u s'=>∃g',Le g g'/\Inv X pins φ g' L' s'/\IsPart u o) F0 s
theorem BI:PO X none none:=fun I h=>by cases h;rw [evalPart_none];exact Us ⟨_,.refl _,I,.none⟩
theorem BJ (h:PE X e m):PO X (some e) (some m):=fun I q=>by
 obtain⟨t,L1,e1,q⟩:=R.of q;cases t <;> first|cases q|skip
 rw [evalPart_some];exact thn (h I e1) fun u s1 ⟨g1,l1,I1,r1⟩=>by obtain⟨_,rfl⟩:=r1.iI;exact⟨g1,l1,I1,.int _ _⟩
theorem cE.drop (h:cE g xs us):∀n,cE g (xs.drop n) (us.drop n):=by
 induction h with
 | nil=>intro n;simp;exact .nil
 | cons a b ih=>intro n;cases n with
  | zero=>exact .cons a b
  | succ n=>simpa using ih n
theorem cE.take (h:cE g xs us):∀n,cE g (xs.take n) (us.take n):=by
 induction h with
 | nil=>intro n;simp;exact .nil
 | cons a b ih=>intro n;cases n with
  | zero=>exact .nil
  | succ n=>simp;exact .cons a (ih n)
theorem BK {α:Type} (xs:List α) (lo hi:Option Int):(cut xs lo hi).length<=xs.length:=by
 unfold cut;rw [Vj,Vg];omega
theorem part_of {v:Ux} {o:Option Int} (p:IsPart v o):∃q:Option (Int × Tok),v=partValue q/\q.map (·.1)=o:=by
 cases p with
 | none=>exact⟨none,rfl,rfl⟩
 | int i t=>exact⟨some (i,t),rfl,rfl⟩
theorem Fl {fz:Bool} {x w:T} {u vl vu:Ux} {lo hi:Option Int} {sl:U9} {L':aa} (I:Inv X pins φ g L s) (rx:RT g none x u) (hs:s.heap.IsSliceOf sl vl vu .none) (pl:IsPart vl lo) (pu:IsPart vu hi) (h:i9 fz x lo hi L=.ok w L') :
  ∃T id,typeLookup (.type T) "__getitem__"=pure (some (.builtin id))/\s.TypeIs u T/\UR (model X.prog X.w) X.A (getItem u (.ref sl)) (EP X pins φ g w L') F0 s:=by
 obtain⟨p,vx⟩:=I.view rx;unfold i9 at h;generalize vw L x=x' at h vx;cases x' with
 | str z =>
  match lo,hi,pl,pu,h with
  | some i,some j,pl,pu,h =>
   obtain⟨⟨h0,h1,h2⟩,h⟩:=aA h;cases h;cases vx with
   | str _ t hz =>
    obtain⟨ql,rfl,el⟩:=part_of pl;obtain⟨qu,rfl,eu⟩:=part_of pu;refine⟨"str",_,F.slot_str_getitem.lookup,typeIs_str _ _ _,wpAny_getItem_str_slice (l:=ql) (u:=qu) (st:=none) hs rfl ?_⟩;have e:sliceMade ⟨z.toArray⟩ t ql qu none=if ((1:Int) == 1 && (YD (some i) (some j) 1 (⟨z.toArray⟩:Str).length).length == (⟨z.toArray⟩:Str).length)=true then .val (.str ⟨z.toArray⟩ t) else .str ⟨((YD (some i) (some j) 1 (⟨z.toArray⟩:Str).length).filterMap ((⟨z.toArray⟩:Str).cps[·]?)).toArray⟩:=by
     unfold sliceMade slicePicked;rw [el,eu];rfl
    rw [e];have hlen:(⟨z.toArray⟩:Str).length=z.length:=by show z.toArray.size=_;simp
    have es:aaw ⟨z.toArray⟩ (some i) (some j)=⟨((z.drop i.toNat).take (j - i).toNat).toArray⟩:=by
     have e:=eq_of_beq (slice_closesL (x:=⟨z.toArray⟩) h0 h1 (by rw [hlen];exact h2));have e2:(aaw ⟨z.toArray⟩ (some i) (some j)).cps.toList=(z.drop i.toNat).take (j - i).toNat:=by rw [e]
     have e3:∀z:Str,z=⟨z.cps.toList.toArray⟩:=fun z=>by cases z;simp
     rw [e3 (aaw ⟨z.toArray⟩ (some i) (some j)),e2]
    have LR:((z.drop i.toNat).take (j - i).toNat).length<=U1:=by rw [Vj,Vg];omega
    exact post_val_or_str ⟨UW (Txt.slice_le _ _ _) (by rw [hlen];exact hz),fun t' k=>(I.tok _).ep (by show RT g none _ (Ym (aaw ⟨z.toArray⟩ (some i) (some j)) t');rw [es];exact .str _ _ LR)⟩
 | tup xs =>
  cases h;obtain⟨a,its,rfl,ht,r,hz⟩:=I.tupP vx;have hlen:its.size=xs.length:=by have:=US r;simp at this;omega
  refine⟨"tuple",_,VX.lookup,ht.typeIs,?_⟩;by_cases hw:clip its.size 0 lo=0/\clip its.size its.size hi=its.size
  ·refine jE ht hs pl pu hw (I.ep ?_)
   have e:cut xs lo hi=xs:=by
    unfold cut;rw [hlen] at hw;rw [hw.1,hw.2];simp
   rw [e];exact vx.tI.1
  ·refine jD ht hs pl pu hw ?_ (by rw [hlen];exact hz)
   rw [hlen];exact ye (w:=.bZ) (t':=s.toks) I ((r.drop _).take _) (UW (BK xs lo hi) hz) (fun b u e=>Ur _ e) (UM _) (Uy _ rfl)
 | lst xs =>
  obtain⟨a,its,n,rfl,e,r,hz⟩:=I.lst vx;have hlen:its.size=xs.length:=by have:=US r;simp at this;omega
  refine⟨"list",_,slot_list_getitem.lookup,(af e).typeIs,?_⟩;refine wpAny_getItem_list_slice (af e) hs pl pu .none (by simp) ?_ (by omega);rw [show its=its.toList.toArray by simp,nO,VR,hlen];exact j7 (t':=s.toks) I ((r.drop _).take _) h (fun b u e=>Ur _ e) (Uy _ rfl)
 | _=>cases h
theorem Fm {fz:Bool} {lo hi:Option Expr} {ml mh:Option SE} (he:PE X e m) (hl:PO X lo ml) (hh:PO X hi mh):PE X (.Subscript e (.Slice lo hi none p2) pos) (sl fz m ml mh):=fun I h=>by
 obtain⟨x,L1,e1,h⟩:=R.of h;obtain⟨l,L2,e2,h⟩:=R.of h;obtain⟨r,L3,e3,h⟩:=R.of h;refine Subscript_ (thn (he I e1) fun v s1 ⟨g1,l1,I1,r1⟩=>wpAny_Slice (thn (hl I1 e2) fun vl s2 ⟨g2,l2,I2,pl⟩=>thn (hh I2 e3) fun vu s3 ⟨g3,l3,I3,pu⟩=>?_));rw [evalPart_none];refine Us ?_;have I4:=I3.kept (h':=s3.heap.push { cls:=.type "slice",data:=.fields #[vl,vu,.none] }) (t':=s3.toks) fun b ob q=>Ur _ q
 obtain⟨T,id,hT,ht,hg⟩:=Fl I4 (r1.le (l2.trans l3)) (Heap.IsSliceOf.new ..) pl pu h;exact tail_any (ops:=[.ref s3.heap.objs.size,v]) ht hT (thn hg fun _ _ z=>z.le ((l1.trans l2).trans l3)) (by with_unfolding_all rfl)
end
section
variable {X:Cx} {pins:aY} {φ:Fr} {g:G} {L L':aa} {s:UB} {xs ys:List T} {us vs:List Ux} {e o:Expr} {es:List Expr} {m:SE} {ms:List SE} {pos p apos:Pos} {x:Str} {F:Fn} {t w:T} {u v:Ux}
theorem Fo (hc:∃f,bootBuiltins x=some f/\dN X f F/\((∃id,f=.builtin id)\/∃T,f=.type T)) (hg:Gl X x) (hm:X.mg x=none) (hn:x≠"__name__") (IV:(x == ("__debug__":Str))=false) (ha:PA X (e::es) (iA ms)) (hs:(e::es).all bf=true):PE X (.Call (.Name x p) (e::es) [] pos) (ae F ms):=fun I h=>by
 obtain⟨ts,L1,e1,h⟩:=R.of h;obtain⟨f,hv,hF,hk⟩:=hc;rw [Vl,UC] at hs;refine wpAny_Call_Name_kw (fN I hg hm hv ?_ hn IV);have A:=thn (E:=F0) (Q':=fun us s1=>UR (model X.prog X.w) X.A (call f us) (EP X _ _ _ _ _) F0 s1) (ha pos I e1) fun us s1 ⟨g1,l1,I1,r1⟩=>thn (hF I1 r1 h) fun _ _ z=>z.le l1
 rcases hk with⟨id,rfl⟩|⟨T,rfl⟩
 ·exact callWith_builtin1 A (ay hs.1) (bR hs.2)
 ·exact callWith_type1 A (ay hs.1) (bR hs.2)
theorem bM (r:cE g [t] us):∃u,us=[u]/\RT g none t u:=by
 cases r with|cons a b=>cases b;exact⟨_,rfl,a⟩
theorem kh {t1 t2:T} (r:cE g [t1,t2] us):∃u1 u2,us=[u1,u2]/\RT g none t1 u1/\RT g none t2 u2:=by
 cases r with|cons a b=>obtain⟨u,rfl,c⟩:=bM b;exact⟨_,_,rfl,a,c⟩
theorem str_len {z:Cs}:(⟨z.toArray⟩:Str).length=z.length:=by show z.toArray.size=_;simp
theorem yj:dN X (.builtin "len") bH:=fun {_ _ _ _ _ xs _ _ _} I r h=>by
 have hn:=tN;unfold bH at h;split at h
 ·obtain⟨u,rfl,ru⟩:=bM r
  obtain⟨p,v⟩:=I.view ru;split at h
  ·rename_i ev
   cases h;rw [ev] at v;obtain⟨t,rfl,hz⟩:=v.jb;refine len_str (by rw [str_len];omega) ?_;rw [str_len];exact(I.tok _).ep (.int _ _)
  ·rename_i ev
   cases h;rw [ev] at v;obtain⟨a,its,rfl,e,rr,hz⟩:=I.tupP v;have hl:=US rr
   exact len_tuple e (by simp at hl;omega) (by rw [show its.size=_ from by simpa using hl.symm];exact(I.tok _).ep (.int _ _))
  ·rename_i ev
   cases h;rw [ev] at v;obtain⟨a,its,n,rfl,e,rr,hz⟩:=I.lst v;have hl:=US rr
   exact Calls.call_len_list (af e) (by simp at hl;omega) (by rw [show its.size=_ from by simpa using hl.symm];exact(I.tok _).ep (.int _ _))
  ·cases h
 ·cases h
theorem Inv.seq {q:Option (U9 × U9)} (I:Inv X pins φ g L s) (r:RT g q t u) (h:t=.lst xs\/t=.tup xs):∃a its o n T,u=.ref a/\s.heap.get? a=some o/\o.cls=.type T/\o.data=.seq its n/\(T="list"\/T="tuple")/\cE g xs its.toList/\its.size=xs.length/\xs.length<=U1:=by
 rcases h with rfl|rfl
 ·obtain⟨a,its,n,rfl,e,rr,hz⟩:=I.lst r
  exact⟨a,its,_,n,_,rfl,e,rfl,rfl,.inl rfl,rr,by simpa using (US rr).symm,hz⟩
 ·obtain⟨a,its,rfl,⟨o,ho,hc,n,hd⟩,rr,hz⟩:=I.tupP r
  exact⟨a,its,o,n,_,rfl,ho,hc,hd,.inr rfl,rr,by simpa using (US rr).symm,hz⟩
theorem u9 {fz:Bool} (I:Inv X pins φ g L s) (ru:RT g none t u) (ht:vw L t=.lst xs\/vw L t=.tup xs) (h:fo fz xs L=.ok w L'):UR (model X.prog X.w) X.A (call (.type "list") [u]) (EP X pins φ g w L') F0 s:=by
 obtain⟨p,v⟩:=I.view ru;obtain⟨a,its,o,n,T,rfl,ho,hc,hd,hT,rr,hl,hz⟩:=I.seq v ht;exact call_list_seq a hT ho hc hd (fun h' c' kp e=>j7 (t':=s.toks) (n:=c') I rr h kp (by simpa using e)) (by omega)
theorem yk:dN X (.type "tuple") iO:=fun {_ _ _ _ s _ _ _ _} I r h=>by
 unfold iO at h;split at h
 ·obtain⟨u,rfl,ru⟩:=bM r
  obtain⟨p,v⟩:=I.view ru;split at h
  ·rename_i ev
   rw [ev] at v;cases h;obtain⟨a,its,rfl,e,rr,hz⟩:=I.tupP v;exact call_tuple_same e (I.ep v.tI.1)
  ·rename_i ev
   rw [ev] at v;cases h;obtain⟨a,its,n,rfl,e,rr,hz⟩:=I.lst v;have hl:=US rr
   refine call_tuple_list (af e) (fun h' kp=>?_) (by simp at hl;omega);have J:=I.kept (t':=s.toks) kp
   exact ye (w:=.bZ) (t':=s.toks) (n:=0) J rr hz (fun b o e=>Ur _ e) (UM _) (by simpa using Uy h' (o:={ cls:=.type "tuple",data:=.seq its }) rfl)
  ·cases h
 ·cases h
theorem va {α:Type} {f:T->Option α}:∀{ys:List T} {bs:List α},ys.mapM f=some bs->ys.length=bs.length/\∀(i:Nat) y,ys[i]?=some y->∃b,bs[i]?=some b/\f y=some b
 | [],bs,h=>by simp at h;subst h;exact⟨rfl,fun i y e=>by simp at e⟩
 | y::ys,bs,h=>by
  rw [Wy] at h;cases e1:f y with
  | none=>rw [e1] at h;cases h
  | some b =>
   rw [e1] at h;cases e2:ys.mapM f with
   | none=>rw [e2] at h;cases h
   | some r =>
    rw [e2] at h;have h:some (b::r)=some bs:=h
    cases h;obtain⟨h1,h2⟩:=va e2;refine⟨by simp [h1],fun i z e=>?_⟩;cases i with
    | zero=>cases e;exact⟨b,rfl,e1⟩
    | succ i=>exact h2 i z (by simpa using e)
theorem yl {α:Type} {f:T->Option α} {k:List α->T} (I:Inv X pins φ g L s) (r:cE g xs us) (h:Et f k xs L=.ok w L'):∃a its n bs,us=[.ref a]/\L'=L/\w=k bs/\s.heap.get? a=some { cls:=.type "list",data:=.seq its n }/\its.size=bs.length/\a<s.heap.objs.size /\
  ∀(i:Nat) v,its[i]?=some v->∃b y,bs[i]?=some b/\f y=some b/\RT g none y v:=by
 unfold Et at h;split at h
 ·obtain⟨u,rfl,ru⟩:=bM r
  obtain⟨p,v⟩:=I.view ru;split at h
  ·rename_i ev
   rw [ev] at v;obtain⟨q,rfl⟩:=iE h;obtain⟨bs,q2,rfl⟩:=UI.mp q;obtain⟨h1,h2⟩:=va q2;obtain⟨a,its,n,rfl,e,rr,hz⟩:=I.lst v;have hl:=US rr
   refine⟨a,its,n,bs,rfl,rfl,rfl,e,by simp at hl;omega,UX e,fun i v hv=>?_⟩;have hi:=(XA.mp hv).1
   have e1:=Ge9 (l:=_) (i:=i) (show i<_ from by rw [hl];simpa using hi);obtain⟨b,b1,b2⟩:=h2 i _ e1;exact⟨b,_,b1,b2,wx rr i _ v e1 (by simpa using hv)⟩
  ·cases h
 ·cases h
theorem all_range (bs:List Bool):((Vx bs.length).all fun i=>(bs[i]?).getD true)=bs.all id:=by
 rw [Wf,Uu,Uu];constructor
 ·intro h b hb
  obtain⟨i,hi,rfl⟩:=Wi hb;have z:=h i (Vv.mpr hi)
  simpa [hi] using z
 ·intro h i hi
  have hi':=Vv.mp hi;have z:=h _ (UQ hi')
  simpa [hi'] using z
theorem any_range (bs:List Bool):((Vx bs.length).any fun i=>(bs[i]?).getD true)=bs.any id:=by
 rw [Wf,Wb,Wb];constructor
 ·rintro⟨i,hi,h⟩
  have hi':=Vv.mp hi;exact⟨bs[i],UQ hi',by simpa [hi'] using h⟩
 ·rintro⟨b,hb,h⟩
  obtain⟨i,hi,rfl⟩:=Wi hb;exact⟨i,Vv.mpr hi,by simpa [hi] using h⟩
theorem Inv.over {h':Heap} {tk:Nat} {o:Obj} (I:Inv X pins φ g L s) (hk:∀b ob,b∉[s.heap.objs.size]->(s.heap.push o).get? b=some ob->h'.get? b=some ob):Inv X pins φ g L { s with heap:=h',toks:=tk } :=
 I.kept fun b ob e=>hk b ob (fun hm=>by rw [UY.mp hm] at e;exact V8 _ (UX e)) (Ur _ e)
theorem ym {y:T} {b:Bool} {v:Ux} (h:HV y=some b) (r:RT g none y v):v=.bool b:=by
 cases r <;> cases h;rfl
theorem MI {y:T} {b:Int} {v:Ux} (h:QL y=some b) (r:RT g none y v):∃t,v=.int b t:=by
 cases r <;> cases h;exact⟨_,rfl⟩
theorem Fp {y:T} {b:Cs} {v:Ux} (h:HW y=some b) (r:RT g none y v):∃t,v=.str ⟨b.toArray⟩ t/\b.length<=U1:=by
 cases y <;> cases h;exact r.jb
theorem yn:dN X (.builtin "all") qK:=fun {_ _ _ _ s _ _ _ _} I r h=>by
 obtain⟨a,its,n,bs,rfl,rfl,rfl,e,hl,bJ,hi⟩:=yl I r h;refine call_all_walk (wpAny_pyIter_list (af e) ?_);refine⟨s.heap.objs.size,[s.heap.objs.size,a],[s.heap.objs.size],its.size,_,_,fun i=>(bs[i]?).getD true,rfl,Walks.list (A:=X.A.in1) I.ok.hd _ a (U6 bJ) its,
  ⟨⟨_,Uy _ rfl,rfl,rfl⟩,(af e).push _⟩,fun i v s' Q' E' hP hQ=>?_,fun h' tk hk=>?_⟩
 ·obtain⟨b,y,b1,b2,b3⟩:=hi i v hP
  rw [ym b2 b3];simp only [b1,WH] at hQ;exact wpAny_truthy_bool hQ
 ·rw [hl,all_range]
  exact(I.over hk).ep (.bl _)
theorem yo:dN X (.builtin "any") wt:=fun {_ _ _ _ s _ _ _ _} I r h=>by
 obtain⟨a,its,n,bs,rfl,rfl,rfl,e,hl,bJ,hi⟩:=yl I r h;refine call_any_walk (wpAny_pyIter_list (af e) ?_);refine⟨s.heap.objs.size,[s.heap.objs.size,a],[s.heap.objs.size],its.size,_,_,fun i=>(bs[i]?).getD true,rfl,Walks.list (A:=X.A.in1) I.ok.hd _ a (U6 bJ) its,
  ⟨⟨_,Uy _ rfl,rfl,rfl⟩,(af e).push _⟩,fun i v s' Q' E' hP hQ=>?_,fun h' tk hk=>?_⟩
 ·obtain⟨b,y,b1,b2,b3⟩:=hi i v hP
  rw [ym b2 b3];simp only [b1,WH] at hQ;exact wpAny_truthy_bool hQ
 ·rw [hl,any_range]
  exact(I.over hk).ep (.bl _)
theorem BL (l:List Int):∀j,preSum (fun i=>l.getD i 0) j=(l.take j).sum
 | 0=>by simp [preSum]
 | j+1=>by
  rw [preSum,BL l j];by_cases h:j<l.length
  ·rw [aaa,List.sum_append,Gd9,Ge9 h];simp
  ·rw [Vu (by omega),Vu (by omega),Gd9,Wm (by omega)];simp
theorem yp:dN X (.type "str") tc:=fun I r h=>by
 unfold tc at h;split at h
 ·obtain⟨⟨h1,h2⟩,h⟩:=aA h
  cases h;obtain⟨u,rfl,ru⟩:=bM r;obtain⟨_,rfl⟩:=ru.iI;exact PySem.P.str_of_int h1 ((I.tok _).ep (.str _ _ h2))
 ·cases h
theorem yq:dN X (.type "int") wu:=fun I r h=>by
 unfold wu at h;split at h
 ·obtain⟨u,rfl,ru⟩:=bM r
  obtain⟨t,rfl,hz⟩:=ru.jb;split at h
  ·obtain⟨h1,h⟩:=aA h
   cases h;exact PySem.W.KIN.call_text (by assumption) (by rw [str_len];exact h1) ((I.tok _).ep (.int _ _))
  ·cases h
 ·cases h
theorem MJ {n:String} {x w:T} {L':aa} (h:O9 L n x=.ok w L'):L'=L/\((n="bool"/\∃b,x=.bl b/\w=.bl true)\/(n="bool"/\∃i,x=.int i/\w=.bl false)\/(n="int"/\∃b,x=.bl b/\w=.bl true)\/(n="int"/\∃i,x=.int i/\w=.bl true)):=by
 have key:∀{b k:Bool},(if n="bool" then R.ok (T.bl b) L else if n="int" then .ok (.bl k) L else .bad)=.ok w L'->L'=L/\((n="bool"/\w=.bl b)\/(n="int"/\w=.bl k)):=fun h=>by
  split at h
  ·cases h;exact⟨rfl,.inl ⟨‹_›,rfl⟩⟩
  ·split at h
   ·cases h;exact⟨rfl,.inr ⟨‹_›,rfl⟩⟩
   ·cases h
 cases x with
 | bl b =>
  obtain⟨e,⟨a,c⟩|⟨a,c⟩⟩:=key h
  ·exact⟨e,.inl ⟨a,b,rfl,c⟩⟩
  ·exact⟨e,.inr (.inr (.inl ⟨a,b,rfl,c⟩))⟩
 | int i =>
  obtain⟨e,⟨a,c⟩|⟨a,c⟩⟩:=key h
  ·exact⟨e,.inr (.inl ⟨a,i,rfl,c⟩)⟩
  ·exact⟨e,.inr (.inr (.inr ⟨a,i,rfl,c⟩))⟩
 | _=>cases h
noncomputable def yr (X:Cx) (id:String) (m:T->Fn):Prop:=∀{pins:aY} {φ:Fr} {g:G} {L:aa} {s:UB} {x:T} {xs:List T} {w:T} {L':aa} {v:Ux} {us:List Ux},Inv X pins φ g L s->RT g none x v->cE g xs us->m x xs L=.ok w L'->UR (model X.prog X.w) X.A (call (.builtin id) (v::us)) (EP X pins φ g w L') F0 s
noncomputable def Ty.nm:Ty->String
 | .s=>"str"|.l=>"list"|.t=>"tuple"|.d=>"dict"
theorem Fq {n:Ty} (I:Inv X pins φ g L s) (r:RT g none t u) (h:Dw L t=some n):s.TypeIs u n.nm/\(∀a,u=.ref a->∃o,s.heap.get? a=some o/\o.dict=none):=by
 obtain⟨p,v⟩:=I.view r;unfold Dw at h;split at h <;> first|cases h|skip
 all_goals (rename_i ev;rw [ev] at v)
 ·obtain⟨t,rfl,_⟩:=v.jb
  exact⟨typeIs_str _ _ _,fun a e=>by cases e⟩
 ·obtain⟨a,its,n,rfl,e,_⟩:=I.lst v
  exact⟨⟨_,e,rfl⟩,fun b q=>by cases q;exact⟨_,e,rfl⟩⟩
 ·obtain⟨_,_,_,_,_,rfl,hk,hc,_⟩:=v.tI
  exact⟨⟨_,I.kn hk,hc.1⟩,fun b q=>by cases q;exact⟨_,I.kn hk,hc.2⟩⟩
 ·cases v with
  | aP _ hk hx=>exact⟨⟨_,I.kn hk,hx.1⟩,fun b q=>by cases q;exact⟨_,I.kn hk,hx.2.1⟩⟩
noncomputable def Fs (X:Cx) (x:Str) (y:Ty) (F:T->Fn):Prop:=∃id,PlainAttrs y.nm/\Slot y.nm x id/\typeOf (.builtin id)=pure (.type "method_descriptor")/\yr X id F
theorem BM {f:Ty->Option (T->Fn)} (hM:∀T F,f T=some F->Fs X x T F) (ho:PE X o m) (ha:PA X es (iA ms)) (h0:es=[]->ms=[]) (hs:es.all bf=true) (hl:es.length<30) (hb:okBase o=true) (mB:(apos.endLine == pos.line)=true) :
  PE X (.Call (.Attribute o x apos) es [] pos) (aM f m ms):=fun I h=>by
 obtain⟨t,L1,e1,h⟩:=R.of h;cases ef:(Dw L1 t).bind f with
 | none=>simp only [ef] at h;cases h
 | some F =>
  simp only [ef] at h;obtain⟨T,hT,hF⟩:=Wu.mp ef;obtain⟨ts,L2,e2,h⟩:=R.of h;obtain⟨id,pa,slot,H5,hm⟩:=hM T F hF;refine wpAny_Call_method_late (base_ok hb) (tH hs hl) mB rfl (thn (ho I e1) fun v s1 ⟨g1,l1,I1,r1⟩=>?_);obtain⟨h1,h2⟩:=Fq I1 r1 hT;refine⟨T.nm,id,pa,slot,H5,h1,h2,?_⟩;refine ZM (bR hs) ?_;cases es with
  | nil =>
   rw [h0 rfl] at e2;cases e2;exact aad (thn (hm I1 r1 .nil h) fun _ _ z=>z.le l1)
  | cons e es =>
   rw [Vl,UC] at hs;have A:=ha pos I1 e2
   rw [ay hs.1] at A ⊢;exact Calls.evalArgs_plain (thn A fun us s2 ⟨g2,l2,I2,r2⟩=>thn (hm I2 (r1.le l2) r2 h) fun _ _ z=>z.le (l1.trans l2))
theorem Inv.qS {n:Nat} {its:Array Ux} {cnt:Nat} {a:U9} {f:Array Ux->Array Ux} {t':Nat} (I:Inv X pins φ g L s) (hc:at_ L n=some (.lst xs)) (ru:RT g none (.ref n) (.ref a)) (e:s.heap.get? a=some { cls:=.type "list",data:=.seq its cnt }) (r:cE g ys (f its).toList) (hz:ys.length<=U1) :
  EP X pins φ g .bZ (put L n (.lst ys)) .none { s with heap:=s.heap.update a (VW f),toks:=t' }:=by
 obtain⟨p,hp,rc⟩:=I.rel.cells n _ hc;cases ru with
 | ref hq =>
  rw [hp] at hq;cases hq;generalize vb:(some p:Option (U9 × U9))=pp at rc;generalize MK:Ws p.1=pa at rc;cases rc with
  | lst ht hk T3 hl hi =>
   cases MK;subst vb;have q:=aas e f
   obtain⟨n',hn'⟩:∃n',(s.heap.update p.1 (VW f)).get? p.1=some { cls:=.type "list",data:=.seq (f its) n' }:=⟨_,q⟩;have hH:∃o,g.H p.1=some (false,o):=by
    rcases hk with hk|⟨z,_⟩
    ·exact⟨_,hk⟩
    ·cases z
   obtain⟨o,hH⟩:=hH;have l:=Le.set (o:={ cls:=.type "list",data:=.seq (f its) n' }) hH
   refine⟨_,l,I.set (t':=t') hp (.inl rfl) hH (fun b v hb hv=>(Vd s.heap (VW f) (V0 hb)).trans hv) hn' ?_,.bZ⟩;have:=r.lst (o:=default) (g1:=g.set p.1 { cls:=.type "list",data:=.seq (f its) n' }) (n:=n') l ht (.inl (by rw [show(f its).toList.toArray=f its by simp];exact ar)) hz
   exact this
theorem Inv.vc {n:Nat} (I:Inv X pins φ g L s) (rx:RT g none (.ref n) v) (ea:at_ L n=some (.lst ys)):∃a its cnt,v=.ref a/\s.heap.get? a=some { cls:=.type "list",data:=.seq its cnt }/\cE g ys its.toList/\its.size=ys.length/\ys.length<=U1:=by
 obtain⟨p,v⟩:=I.view rx;rw [show vw L (.ref n)=.lst ys by show(at_ L n).getD T.bZ=_;rw [ea];rfl] at v;obtain⟨a,its,cnt,rfl,e,rr,hz⟩:=I.lst v;exact⟨a,its,cnt,rfl,e,rr,by simpa using (US rr).symm,hz⟩
theorem Ft:yr X "list.append" Bl:=fun I rx rv h=>by
 unfold Bl at h;split at h
 ·split at h
  ·rename_i n t _ ys ea
   obtain⟨hz,h⟩:=aA h;cases h;obtain⟨u,rfl,ru⟩:=bM rv;obtain⟨a,its,cnt,rfl,e,rr,hl,_⟩:=I.vc rx ea;have bJ:ys.length<U1:=hz
   refine call_meets Yt ⟨_,e,rfl⟩ F.entry_list_append (F.args_list_append_2 _ _) (PySem.list_append a its cnt u (by omega)) ⟨e,?_⟩;exact I.qS ea rx e (by simpa using rr.app (.cons ru .nil)) (by simp;omega)
  ·cases h
 ·cases h
theorem mE (l:U9) (xs:Array Ux) (n:Nat) (b:U9) (ys:Array Ux) (k:Nat) (dd:Option U9) (sl:Array (Option Ux)) (pB:¬(!xs.isEmpty && WW (xs.size+ys.size))=true) (h1:xs.size<=U1) (h2:xs.size+ys.size<=U1+1) :
  Meets (Builtin.«list.extend» ⟨[.ref l,.ref b],[]⟩)
   (fun _ R st=>st.heap.get? l=some { cls:=.type "list",dict:=none,data:=.seq xs n,slots:=#[] }/\st.heap.get? b=some { cls:=.type "tuple",dict:=dd,data:=.seq ys k,slots:=sl } /\
    R (.ok (.ret VQ)) { st with heap:=st.heap.update l (VW fun x=>x++ys),toks:=st.toks }) :=
 .of_wp fun prog w A R st h=>by
  obtain⟨hp,gs,dr,tk,os⟩:=st;obtain⟨gl,gb,hR⟩:=h;have i1:=AutoSeq1.idx_int
  have i2:=Za;have i3:=AutoSeq1.sub_list_list
  have i4:=AutoSeq1.sub_tuple_list;have i5:=AutoSeq1.sub_list_tuple
  have both:(xs++ys).size<=U1+1:=by rw [Array.size_append];exact h2
  wp_walk using (wpAny_updateSeq gl rfl (hz:=h1) (_hz':=both)),Zb gl,Zb gb
  exact⟨_,rfl,hR⟩
theorem Fu:yr X "list.extend" xD:=fun I rx rv h=>by
 have long:∀{n:Nat} (b:Bool),n<=U1->¬ (b && WW n)=true:=fun b h=>by
  rw [show WW _=false by unfold WW;exact decide_eq_false (by omega),Yj];exact WL
 unfold xD at h;split at h
 ·split at h
  ·rename_i n t _ _ ys zs ea ev
   obtain⟨hz,h⟩:=aA h;have hz:ys.length+zs.length<=U1:=hz
   cases h;obtain⟨u,rfl,ru⟩:=bM rv;obtain⟨p,v⟩:=I.view ru;rw [ev] at v;obtain⟨a,its,cnt,rfl,e,rr,hl,_⟩:=I.vc rx ea;obtain⟨b,pC,ML,rfl,e2,BN,LR⟩:=I.lst v;have j4:pC.size=zs.length:=by simpa using (US BN).symm
   refine call_meets Yu ⟨_,e,rfl⟩ F.entry_list_extend (F.args_list_extend_2 _ _) (AutoSeq1.list_extend_list_list_0 a its cnt b pC ML (long _ (by omega)) (by omega) (by omega)) ⟨e,e2,?_⟩;exact I.qS ea rx e (by simpa using rr.app BN) (by simp;omega)
  ·rename_i n t _ _ ys zs ea ev
   obtain⟨hz,h⟩:=aA h;have hz:ys.length+zs.length<=U1:=hz
   cases h;obtain⟨u,rfl,ru⟩:=bM rv;obtain⟨p,v⟩:=I.view ru;rw [ev] at v;obtain⟨a,its,cnt,rfl,e,rr,hl,_⟩:=I.vc rx ea;obtain⟨b,pC,rfl,⟨⟨oc,od,dt,sl⟩,e2,hc,n2,hd⟩,BN,LR⟩:=I.tupP v;simp only at hc hd;subst hc hd;have j4:pC.size=zs.length:=by simpa using (US BN).symm
   refine call_meets Yu ⟨_,e,rfl⟩ F.entry_list_extend (F.args_list_extend_2 _ _) (mE a its cnt b pC n2 od sl (long _ (by omega)) (by omega) (by omega)) ⟨e,e2,?_⟩;exact I.qS ea rx e (by simpa using rr.app BN) (by simp;omega)
  ·cases h
 ·cases h
theorem count_eq {α β:Type} {l:List α} {k:List β} {f:α->Bool} {g:β->Bool} (hl:l.length=k.length) (h:∀(i:Nat) a b,l[i]?=some a->k[i]?=some b->f a=g b):l.countP f=k.countP g:=by
 induction l generalizing k with
 | nil=>cases k with
  | nil=>rfl
  | cons _ _=>cases hl
 | cons a l ih=>cases k with
  | nil=>cases hl
  | cons b k =>
   rw [List.countP_cons,List.countP_cons,ih (by simpa using hl) (fun i x y e1 e2=>h (i+1) x y (by simpa using e1) (by simpa using e2)),h 0 a b rfl rfl]
theorem ki {M:Model} {A:Vq} {E:Ux->UB->Prop} {s:UB} {β:Type} {n:Nat} (f:Nat->β->Sem (ForInStep β)) (I:Nat->β->UB->Prop) (Q:β->UB->Prop) {b:β}
  (turn:∀i b s',i<n->I i b s'->UR M A (f i b) (fun r BO=>match r with|.done b'=>Q b' BO|.yield b'=>I (i+1) b' BO) E s')
  (fin:∀b s',I n b s'->Q b s') (h:I 0 b s):UR M A (forIn [0:n] b f) Q E s:=by
 rw [Std.Legacy.Range.forIn_eq_forIn_range'];have hsz:([0:n]:aau).size=n:=by simp [Std.Legacy.Range.size]
 show UR M A (forIn (List.range' 0 ([0:n]:aau).size 1) b f) Q E s;rw [hsz];refine wpAny_forIn_list f (fun rest b s'=>∃i,i<=n/\rest=List.range' i (n - i) 1/\I i b s') Q ?_ ?_ _ _ ⟨0,Vc _,by simp,h⟩
 ·rintro x rest b s' ⟨i,hi,er,hI⟩
  have bJ:i<n:=by
   cases e:n - i with
   | zero=>rw [e] at er;cases er
   | succ m=>omega
  have e2:n - i=(n - (i+1))+1:=by omega
  rw [e2,List.range'_succ] at er;injection er with e3 e4;subst e3;refine wpAny_mono (turn x b s' bJ hI) (fun r BO q=>?_) fun _ _ q=>q
  cases r with
  | done b'=>exact q
  | yield b'=>exact⟨x+1,bJ,e4,q⟩
 ·rintro b s' ⟨i,hi,er,hI⟩
  have:i=n:=by
   cases e:n - i with
   | zero=>omega
   | succ m=>rw [e,List.range'_succ] at er;cases er
  subst this;exact fin b s' hI
open SeqAt in
theorem nP (l:U9) (items:Array Ux) (n:Nat) (dd:Option U9) (sl:Array (Option Ux)) (x:Ux) (e:Ux->Bool) (j:Nat) (hj:j<items.size) (hit:e items[j]=true) (kY:∀m (hm:m<items.size),m<j->e items[m]=false) :
  Meets (Builtin.«tuple.index» ⟨[.ref l,x],[]⟩)
   (fun A R s=>s.heap.get? l=some { cls:=.type "tuple",dict:=dd,data:=.seq items n,slots:=sl }/\(∀y,y∈items->EqAt A.in1 s y x (e y))/\R (.ok (.ret (.int (j:Nat) s.toks))) { s with toks:=s.toks+1 }) :=
 .of_wp fun prog w A R s h=>by
  obtain⟨hp,g,d,tk,os⟩:=s;obtain⟨hl,he,h⟩:=h
  wp_walk using wpAny_loadPart' hl,ki _ (fun i b s'=>b.1=none/\s'=⟨hp,g,d,tk,os⟩/\i<=j) _
  case turn =>
   rintro i b s' hi ⟨hb,rfl,tQ⟩;have hi':i<items.size:=by omega
   rw [UE hi'];refine Uq (he items[i] (Zc hi') prog w _ _ ?_);by_cases hy:i=j
   ·subst hy
    rw [hit]
    wp_walk
    exact⟨_,rfl,h⟩
   ·rw [kY i hi' (by omega)]
    wp_walk
    exact⟨rfl,rfl,by omega⟩
  case fin =>
   rintro⟨b1,b2⟩ s' ⟨hb,rfl,tQ⟩;omega
  case h =>
   exact⟨rfl,rfl,Vc _⟩
theorem yt {A:Vq} {its:Array Ux} (hu:A.units+8<cLine) (I:Inv X pins φ g L s) (h1:dat 8 t=true) (h2:xs.all (dat 8)=true) (ru:RT g none t u) (rr:cE g xs its.toList):∃e:Ux->Bool,(∀w∈its,WI A s w u (e w))/\its.toList.countP e=xs.countP fun y=>eqT y t:=by
 obtain⟨e,he,_,hi⟩:=pz I hu h1 ru h2 rr;exact⟨e,fun w hw=>he w (by simpa using hw),(count_eq (US rr) fun i a b e1 e2=>(hi i a b e1 e2).symm).symm⟩
theorem BP (hu:X.A.units+20<cLine):yr X "list.count" uS:=fun I rx rv h=>by
 have hV:X.A.in1.units+8<cLine:=by show X.A.units+1+8<cLine;omega
 obtain⟨p,v⟩:=I.view rx;unfold uS at h;split at h
 ·rename_i ev
  obtain⟨⟨h1,h2⟩,h⟩:=aA h;cases h;obtain⟨u,rfl,ru⟩:=bM rv;rw [ev] at v;obtain⟨a,its,n,rfl,e,rr,_⟩:=I.lst v;obtain⟨f,f1,f2⟩:=yt hV I h1 h2 ru rr;exact call_meets Zs (af e).typeIs PySem.F.entry_list_count (PySem.F.args_list_count_2 _ _) (SeqAt.list_countAt a its n none #[] u f) ⟨e,f1,by rw [f2];exact(I.tok _).ep (.int _ _)⟩
 ·cases h
theorem BQ (hu:X.A.units+20<cLine):yr X "tuple.count" uT:=fun I rx rv h=>by
 have hV:X.A.in1.units+8<cLine:=by show X.A.units+1+8<cLine;omega
 obtain⟨p,v⟩:=I.view rx;unfold uT at h;split at h
 ·rename_i ev
  obtain⟨⟨h1,h2⟩,h⟩:=aA h;cases h;obtain⟨u,rfl,ru⟩:=bM rv;rw [ev] at v;obtain⟨a,its,rfl,⟨⟨oc,od,dt,sl⟩,e2,hc,n2,hd⟩,rr,_⟩:=I.tupP v;simp only at hc hd;subst hc hd;obtain⟨f,f1,f2⟩:=yt hV I h1 h2 ru rr;exact call_meets Zd ⟨_,e2,rfl⟩ PySem.F.entry_tuple_count (PySem.F.args_tuple_count_2 _ _) (SeqAt.tuple_countAt a its n2 od sl u f) ⟨e2,f1,by rw [f2];exact(I.tok _).ep (.int _ _)⟩
 ·cases h
theorem Fv (hu:X.A.units+20<cLine):yr X "tuple.index" Bm:=fun I rx rv h=>by
 have hV:X.A.in1.units+8<cLine:=by show X.A.units+1+8<cLine;omega
 obtain⟨p,v⟩:=I.view rx;unfold Bm at h;split at h
 ·rename_i xs t
  obtain⟨⟨h1,h2⟩,h⟩:=aA h;obtain⟨u,rfl,ru⟩:=bM rv;split at h
  ·rename_i j hj
   cases h;obtain⟨a,its,rfl,⟨⟨oc,od,dt,sl⟩,e2,hc,n2,hd⟩,rr,_⟩:=I.tupP v;simp only at hc hd;subst hc hd;obtain⟨f,f1,_,f3⟩:=pz I hV h1 ru h2 rr;have hl:its.size=xs.length:=by simpa using (US rr).symm
   obtain⟨j1,j2,j3⟩:=VO.mp hj;have at_:∀m (hm:m<its.size),f its[m]=eqT (xs[m]'(by omega)) t:=fun m hm=>f3 m _ _ (Ge9 (by omega)) (by simp [hm])
   refine call_meets Ze ⟨_,e2,rfl⟩ PySem.F.entry_tuple_index (PySem.F.args_tuple_index_2 _ _) (nP a its n2 od sl u f j (by omega) (by rw [at_];exact j2) (fun m hm Rk=>?_)) ⟨e2,fun w hw=>f1 w (by simpa using hw),(I.tok _).ep (.int _ _)⟩;rw [at_];simpa using j3 m Rk
  ·cases h
 ·cases h
theorem yu {prog:VI} {w:WE} {A:Vq} {P:Nat->Ux->Prop} (f:Nat->Cs) (hf:∀i v,P i v->∃t,v=.str ⟨(f i).toArray⟩ t):CmpOf prog w A .Lt P (fun i j=>decide (f i<f j)):=fun i j vi vj s Q E hi hj h=>by
 obtain⟨t,rfl⟩:=hf i vi hi;obtain⟨u,rfl⟩:=hf j vj hj;have h:Q (.bool (decide ((⟨(f i).toArray⟩:Str).cps.toList<(⟨(f j).toArray⟩:Str).cps.toList))) s:=h
 exact(aae h:UR (model prog w) A (compareOp .Lt _ _) Q E s)
theorem yw:dN X (.builtin "min") xC:=fun {_ _ g _ s _ _ _ _} I r h=>by
 unfold xC at h;split at h
 ·cases h
  rename_i i j;obtain⟨u,v,rfl,r1,r2⟩:=kh r;cases r1;cases r2;refine min_two_ints I.ok.hd fun h' tk k=>(I.kept k).ep ?_
  by_cases hj:j<i
  ·rw [if_pos hj,if_pos hj];exact .int _ _
  ·rw [if_neg hj,if_neg hj];exact .int _ _
 ·cases h
  rename_i a b;obtain⟨u,v,rfl,r1,r2⟩:=kh r;obtain⟨t,rfl,ha⟩:=r1.jb;obtain⟨t',rfl,hb⟩:=r2.jb;have hT:(s.heap.push { cls:=.type "tuple",data:=.seq #[.str ⟨a.toArray⟩ t,.str ⟨b.toArray⟩ t'] }).IsTuple s.heap.objs.size #[.str ⟨a.toArray⟩ t,.str ⟨b.toArray⟩ t']:=⟨_,Uy _ rfl,rfl,0,rfl⟩
  refine call_min_two (wpAny_pyIter_tuple hT ?_);have hsz:(s.heap.push { cls:=.type "tuple",data:=.seq #[.str ⟨a.toArray⟩ t,.str ⟨b.toArray⟩ t'] }).objs.size=s.heap.objs.size+1:=VJ ..
  refine⟨_,[_,s.heap.objs.size],[_],_,_,_,fun i j=>decide ([a,b].getD i [] < [a,b].getD j []),rfl,Walks.tuple (A:=X.A.in1) I.ok.hd _ s.heap.objs.size (by rw [hsz];exact U6 (Wg _)) #[.str ⟨a.toArray⟩ t,.str ⟨b.toArray⟩ t'],
   ⟨⟨_,Uy _ rfl,rfl,rfl⟩,hT.push _⟩,fun b hb=>?_,(by show 0<2;decide),yu (fun i=>[a,b].getD i []) (fun i v hP=>?_),fun v h' tk hP hk=>?_⟩
  ·show _<((s.heap.push _).push _).objs.size
   rw [VJ,hsz];rcases UN.mp hb with rfl|hb
   ·rw [hsz];exact Wg _
   ·rcases UN.mp hb with rfl|hb
    ·exact VK (Wg _)
    ·cases hb
  ·have hP:#[Ym ⟨a.toArray⟩ t,Ym ⟨b.toArray⟩ t'][i]?=some v:=hP
   match i,hP with
   | 0,hP=>exact⟨t,by simpa using hP.symm⟩
   | 1,hP=>exact⟨t',by simpa using hP.symm⟩
   | i+2,hP=>simp at hP
  ·have hold:∀c o,s.heap.get? c=some o->h'.get? c=some o:=fun c o e=>by
    refine hk c o (fun hm=>?_) (Ur _ (Ur _ e));rcases UN.mp hm with e1|hm
    ·have:=UX e;rw [e1,hsz] at this;exact V8 _ (Nat.lt_of_succ_lt this)
    ·cases hm
   have hP:#[Ym ⟨a.toArray⟩ t,Ym ⟨b.toArray⟩ t'][argBest (fun i j=>decide ([a,b].getD i [] < [a,b].getD j [])) 1]?=some v:=hP;refine(I.kept (t':=tk) hold).ep ?_;by_cases hb':b<a
   ·rw [if_pos hb']
    have e:argBest (fun i j=>decide ([a,b].getD i [] < [a,b].getD j [])) 1=1:=by
     show(if decide (b<a)=true then 1 else 0)=1;rw [decide_eq_true hb'];rfl
    rw [e] at hP;have:Ym ⟨b.toArray⟩ t'=v:=by simpa using hP
    rw [<- this];exact .str _ _ hb
   ·rw [if_neg hb']
    have e:argBest (fun i j=>decide ([a,b].getD i [] < [a,b].getD j [])) 1=0:=by
     show(if decide (b<a)=true then 1 else 0)=0;rw [decide_eq_false hb'];rfl
    rw [e] at hP;have:Ym ⟨a.toArray⟩ t=v:=by simpa using hP
    rw [<- this];exact .str _ _ ha
 ·cases h
theorem RT.IZ {z:Str} {t:Tok} (h:z.cps.toList.length<=lim):RT g none (.str z.cps.toList) (.str z t):=by
 have:=RT.str (g:=g) z.cps.toList t h;simpa using this
theorem yx:yr X "str.strip" mq:=fun I rx rv h=>by
 unfold mq at h;split at h
 ·obtain⟨hz,h⟩:=aA h
  cases h;obtain⟨u,rfl,ru⟩:=bM rv;obtain⟨t,rfl,h1⟩:=rx.jb;obtain⟨t',rfl,h2⟩:=ru.jb;exact SC.stripChars (fun t2 k=>(I.tok _).ep (.IZ hz)) (by rw [str_len];exact h1)
 ·cases h
open Builtin Builtin.Str in
theorem yy {prog:VI} {w:WE} {A:Vq} {E:Ux->UB->Prop} {s:UB} {x y:Str} {t u:Tok} {Q:Ux->UB->Prop} (hy:(y.length == 0)=false) (hsz:x.length<=U1) (hsz2:(XG x y).length<=U1)
  (h:∀l k,l.map (·.1)=XG x y->Q (.ref s.heap.objs.size) { s with heap:=s.heap.push { cls:=.type "list",data:=.seq (strValues l).toArray },toks:=k }) :
  UR (model prog w) A (call (.builtin "str.split") [.str x t,.str y u]) Q E s:=by
 unfold XG at hsz2 h;cases h1:(decide (x.length<y.length) || decide (strKind x<strKind y))
 ·rw [if_neg (ne_true_of_eq_false h1)] at hsz2 h
  cases hf:(occurrences x y 0 x.length (x.length+1)).isEmpty
  ·rw [if_neg (ne_true_of_eq_false hf)] at hsz2 h
   refine call_meets Xd (typeIs_str _ _ _) X2 (XY _ _) (meets_str_split_sep x y t u h1 hy hf hsz hsz2) ?_;show wants Q E _ { s with toks:=_,heap:=s.heap.push { cls:=.type "list",data:=.seq (strsFrom s.toks (partsBetween x (occurrences x y 0 x.length (x.length+1)) y.length)).toArray } }
   rw [strsFrom_eq];exact h (numbered s.toks _) _ (numbered_texts _ _)
  ·rw [if_pos hf] at h
   exact call_meets Xd (typeIs_str _ _ _) X2 (XY _ _) (meets_str_split_not_found x y t u h1 hy hf) (h [(x,t)] s.toks rfl)
 ·rw [if_pos h1] at h
  exact call_meets Xd (typeIs_str _ _ _) X2 (XY _ _) (meets_str_split_cannot_occur x y t u h1) (h [(x,t)] s.toks rfl)
theorem qU:∀{l:List (Str × Tok)} {zs:List Str},l.map (·.1)=zs->(zs.all fun s=>decide (s.cps.toList.length<=lim))=true->cE g (zs.map fun s=>.str s.cps.toList) (strValues l)
 | [],_,e,_=>by subst e;exact .nil
 | (z,t)::r,_,e,h=>by
  subst e;rw [UG,Vl,UC] at h;exact .cons (.IZ (of_decide_eq_true h.1)) (qU rfl h.2)
theorem yz {fz:Bool}:yr X "str.split" (mj fz):=fun {_ _ _ _ s _ _ _ _ _ _} I rx rv h=>by
 unfold mj at h;split at h
 ·rename_i z y
  obtain⟨⟨h1,h2⟩,h⟩:=aA h;obtain⟨u,rfl,ru⟩:=bM rv;obtain⟨t,rfl,h3⟩:=rx.jb;obtain⟨t',rfl,_⟩:=ru.jb;have hz:=ph h
  refine yy (by rw [str_len];cases y with|nil=>exact absurd rfl h1|cons a b=>rfl) (by rw [str_len];exact h3) (by rw [Lm9] at hz;exact hz) fun l k e=>?_
  exact j7 (t':=k) I (qU e h2) h (fun b u e=>Ur _ e) (Uy _ rfl)
 ·cases h
theorem I0 (sep:Cs) (zs:List Cs):Txt.join (toS sep) (zs.map toS)=toS (jn sep zs)/\(jn sep zs).length<=(zs.map (·.length)).sum+zs.length * sep.length:=by
 have e:Txt.join (toS sep) (zs.map toS)=Str.join (toS sep) (zs.map toS):=eq_of_beq (PyProof.Rows.join_plain_closes _ _);rw [e];clear e;induction zs with
 | nil=>exact⟨rfl,by simp [jn]⟩
 | cons x r ih =>
  cases r with
  | nil=>exact⟨rfl,by simp [jn]⟩
  | cons y r =>
   obtain⟨h1,h2⟩:=ih;constructor
   ·show toS x++toS sep++Str.join (toS sep) ((y::r).map toS)=_
    rw [h1];show(⟨x.toArray++sep.toArray++(jn sep (y::r)).toArray⟩:Str)=⟨(x++sep++jn sep (y::r)).toArray⟩
    simp
   ·show(x++sep++jn sep (y::r)).length<=_
    rw [Ut,Ut,UG,List.sum_cons,UA,Nat.add_mul];omega
theorem pD:∀{ys:List T} {zs:List Cs} {us:List Ux},ys.mapM HW=some zs->cE g ys us->StrsAre us (zs.map toS)
 | [],zs,us,h,r=>by simp at h;subst h;cases r;exact .nil
 | y::ys,zs,us,h,r=>by
  rw [Wy] at h;cases e1:HW y with
  | none=>rw [e1] at h;cases h
  | some b =>
   rw [e1] at h;cases e2:ys.mapM HW with
   | none=>rw [e2] at h;cases h
   | some q =>
    rw [e2] at h;have h:some (b::q)=some zs:=h
    cases h;cases r with
    | cons a1 a2 =>
     obtain⟨t,rfl,_⟩:=Fp e1 a1;exact .cons _ t (pD e2 a2)
theorem BR:yr X "str.join" kW:=fun {_ _ g L s _ _ w1 L1 _ _} I rx rv h=>by
 unfold kW at h;split at h
 ·rename_i sep t
  obtain⟨u,rfl,ru⟩:=bM rv;obtain⟨tk,rfl,_⟩:=rx.jb;obtain⟨p,v⟩:=I.view ru;split at h
  ·rename_i zs ez
   obtain⟨ys,y1,y2⟩:=Wu.mp ez;unfold items at y1;have fin:cb ((zs.map (·.length)).sum+zs.length * sep.length<=16777216) (R.ok (T.str (jn sep zs)) L)=.ok w1 L1->(vw L t=.lst ys\/vw L t=.tup ys)->UR (model X.prog X.w) X.A (call (.builtin "str.join") [.str ⟨sep.toArray⟩ tk,u]) (EP X _ _ g w1 L1) F0 s:=fun h hv=>by
    obtain⟨hz,h⟩:=aA h;cases h;obtain⟨e1,e2⟩:=I0 sep zs;have hz':((zs.map toS).map (·.length)).sum+(zs.map toS).length * (toS sep).length<=16777216:=by
     have:(fun z:Cs=>(toS z).length)=fun z=>z.length:=funext fun z=>str_len
     simp only [UZ,Lm9,VY,this];rw [show(toS sep).length=sep.length from str_len];exact hz
    have rj:∀t',RT g none (.str (jn sep zs)) (.str (Txt.join (toS sep) (zs.map toS)) t'):=fun t'=>by
     rw [e1];exact .str _ _ (UW e2 hz)
    rcases hv with hv|hv
    ·rw [hv] at v
     obtain⟨a,its,n,rfl,e,rr,_⟩:=I.lst v;exact join_list (items:=its) (af e) (pD y2 rr) hz' fun t' k=>(I.tok _).ep (rj t')
    ·rw [hv] at v
     obtain⟨a,its,rfl,e,rr,_⟩:=I.tupP v;exact join_tuple (items:=its) e (pD y2 rr) hz' fun t' k=>(I.tok _).ep (rj t')
   cases ev:vw L t with
   | str z=>simp only [ev] at h;cases h
   | lst Rn=>simp only [ev] at h y1;cases y1;exact fin h (.inl ev)
   | tup Rn=>simp only [ev] at h y1;cases y1;exact fin h (.inr ev)
   | _=>simp only [ev] at y1;cases y1
  ·cases h
 ·cases h
end
instance Ro:DecidableEq T:=fun a b=>VG _
mutual
noncomputable def dr:T->Nat
 | .tup xs=>xl xs+1
 | _=>1
noncomputable def xl:List T->Nat
 | []=>0
 | x::xs=>dr x+xl xs
end
inductive cM (h:Heap):T->Ux->Prop
 | int (i t):cM h (.int i) (.int i t)
 | str (s t):cM h (.str s) (.str ⟨s.toArray⟩ t)
 | tup {a o its n xs} (ho:h.get? a=some o) (hc:o.cls=.type "tuple") (hd:o.data=.seq its n) (hl:xs.length=its.size) (hi:∀(i:Nat) x v,xs[i]?=some x->its[i]?=some v->cM h x v):cM h (.tup xs) (.ref a)
section
variable {X:Cx} {pins:aY} {φ:Fr} {g:G} {L L':aa} {s:UB} {h h':Heap} {xs ys:List T} {t t2:T} {u v:Ux} {n:Nat} {a d:U9} {P:VI} {w:WE} {A:Vq} {E:Ux->UB->Prop}
theorem Fw {t:T} (h:kd 0 t=true):False:=by cases t <;> cases h
theorem gR (hk:xs.all (kd n)=true) {i:Nat} {x:T} (e:xs[i]?=some x):kd n x=true:=Uu.mp hk x (Ve e)
theorem Inv.Fx (I:Inv X pins φ g L s):∀(n:Nat) {t:T} {u:Ux},kd n t=true->RT g none t u->cM s.heap t u
 | 0,t,_,h,_=>(Fw h).elim
 | n+1,t,u,h,r=>by
  cases r with
  | int i t=>exact .int i t
  | str z t hz=>exact .str z t
  | tup hk hc hd hz hl hi=>exact .tup (I.kn hk) hc.1 hd hl fun i x v e1 e2=>I.Fx n (gR h e1) (hi i x v e1 e2)
  | _=>cases h
theorem cM.same (k1:cM h t u):∀{t2:T},cM h t2 u->t=t2:=by
 induction k1 with
 | int i t=>intro t2 k;cases k;rfl
 | str z t =>
  intro t2 k;generalize hv:Ym ⟨z.toArray⟩ t=v at k;cases k <;> cases hv;rfl
 | tup ho hc hd hl hi ih =>
  rename_i a o its nn xs;intro t2 k;cases k with
  | tup ho' hc' hd' hl' hi' =>
   rw [ho] at ho';cases ho';rw [hd] at hd';cases hd';congr 1;refine Wa (by omega) fun i h1 h2=>?_
   have e:=UE (xs:=its) (i:=i) (by omega);exact ih i _ _ (Ge9 h1) e (hi' i _ _ (Ge9 h2) e)
theorem cM.keeps {o:Obj} {es:Array DictEntry} {ep:Nat} (k:cM h t u) (ho:h.get? d=some o) (hd:o.data=.dict es ep) (hs:Wc d h h'):cM h' t u:=by
 induction k with
 | int i t=>exact .int i t
 | str z t=>exact .str z t
 | tup ho' hc hd' hl hi ih =>
  refine .tup ((hs.2 _ fun e=>?_).trans ho') hc hd' hl ih;rw [e,ho] at ho';cases ho';rw [hd] at hd';cases hd'
theorem vd:∀xs:List T,A9 w xs=xs.map (hT w)
 | []=>by rw [A9];rfl
 | x::xs=>by rw [A9,vd xs];rfl
theorem qV:∀(xs:List T) (i:Nat) (x:T),xs[i]?=some x->xl (xs.take (i+1))=xl (xs.take i)+dr x
 | x::xs,0,y,h=>by cases h;simp [xl]
 | x::xs,i+1,y,h=>by
  rw [aaf,aaf,xl,xl,qV xs i y (by simpa using h)];omega
theorem cM.hash:∀(n:Nat) {A:Vq} {s:UB} {t:T} {u:Ux} {Q:Int->UB->Prop},kd n t=true->A.units+n<cLine->cM s.heap t u->Q (hT w t) { s with toks:=s.toks+dr t }->UR (model P w) A (pyHash u) Q E s
 | 0,_,_,t,_,_,hk,_,_,_=>(Fw hk).elim
 | n+1,A,s,t,u,Q,hk,hu,k,h=>by
  cases k with
  | int i t=>rw [hT,dr] at h;exact wpAny_pyHash_int h;all_goals (intro _ z;cases z)
  | str z t=>rw [hT,dr] at h;exact wpAny_pyHash_str h;all_goals (intro _ z;cases z)
  | tup ho hc hd hl hi =>
   rename_i a o its nn xs;have hT':s.TypeIs (.ref a) "tuple":=⟨o,ho,hc⟩
   unfold pyHash
   first|unfold pyHashByItsType|skip
   first|refine Uq (wpAny_cRoomFor_or (.inr (by omega)) ?_)|skip
   refine Uq (wpAny_specialOf hT' Xe.lookup ?_);show UR _ _ (if (some (Yy "tuple.__hash__") == some VQ)=true then _ else _) Q E s
   rw [if_neg (by rw [beq_builtin_none];exact WL)];refine Uq (wpAny_specialOf hT' Xe.lookup ?_);show UR _ _ (callSpecialIfBoundUnlessNone? (.ref a) "__hash__" _ >>= _) Q E s
   refine Uq (wpAny_callSpecialIfBoundUnlessNone?_slot hT' Xe (wpAny_call_entry Xe hT' F.entry_tuple_hash ?_ (F.args_tuple_hash_1 _)));show UR _ _ (Xz (.ref a) >>= _) _ _ s
   refine Uq (wpAny_tupleItemsOf ho hd ?_);refine Uq ?_;rw [<- X3];refine wpAny_forIn_list _ (fun rest (b:Array Int) s'=>∃i,i<=xs.length/\rest=its.toList.drop i/\b.toList=(xs.take i).map (hT w)/\s'={ s with toks:=s.toks+xl (xs.take i) }) _ ?_ ?_ _ _ ⟨0,Vc _,rfl,by simp,by simp [xl]⟩
   ·rintro v rest b s' ⟨i,xm,hr,hb,rfl⟩
    have bJ:i<its.size:=by
     rcases ZZ i its.size with z|z
     ·exact z
     ·rw [Xf (by simpa using z)] at hr;cases hr
    rw [V7 (by simpa using bJ)] at hr;injection hr with e1 e2;have ex:=Ge9 (l:=xs) (i:=i) (by omega)
    have kv:cM s.heap xs[i] v:=hi i _ v ex (by rw [e1];simp [bJ]);refine Uq (cM.hash n (s:={ s with toks:=s.toks+xl (xs.take i) }) (gR hk ex) (by show A.units+1+n<cLine;omega) kv ?_);have fin:∃j,j<=xs.length/\rest=its.toList.drop j/\(b.push (hT w xs[i])).toList=(xs.take j).map (hT w)/\({ s with toks:=s.toks+xl (xs.take i)+dr xs[i] }:UB)={ s with toks:=s.toks+xl (xs.take j) } :=
     ⟨i+1,by omega,e2,by rw [aaa,ex,UL,Zf,hb];rfl,by rw [qV xs i _ ex,Xu]⟩
    first
     | exact Us fin
     | exact Uq (Us (Us fin))
   ·rintro b s' ⟨i,xm,hr,hb,rfl⟩
    have sS:its.size<=i:=by
     have:=congrArg WR hr;rw [Vg,VR] at this;simp at this;omega
    rw [Vu (by omega)] at hb;show UR _ _ (retInt (XH b.toList)) _ _ _
    rw [hb,Vu (show xs.length<=i by omega)];refine wpAny_ret_mkInt ?_;rw [hT,vd,dr] at h;generalize XH (xs.map (hT w))=g at h;show UR _ _ (if (decide (-(2:Int) ^ 63<=g) && decide (g<2 ^ 63))=true then _ else _) Q E _
    unfold reduceHash at h;by_cases hr:(decide (-(2:Int) ^ 63<=g) && decide (g<2 ^ 63))=true
    ·rw [if_pos hr]
     rw [if_pos hr] at h;exact Us (by simpa [Xu] using h)
    ·rw [if_neg hr]
     rw [if_neg hr] at h;exact Uq (wpAny_rule (Us (by simpa [Xu] using h)))
theorem cM.quiet:∀(n m:Nat) {s:UB} {t:T} {u:Ux},kd n t=true->n<=m->cM s.heap t u->UR (model P w) A (eqIsQuiet m u) (fun b s'=>b=true/\s'=s) E s
 | 0,_,_,t,_,hk,_,_=>(Fw hk).elim
 | n+1,m,s,t,u,hk,hm,k=>by
  cases k with
  | int i t=>cases m with
   | zero=>omega
   | succ m=>exact Us ⟨rfl,rfl⟩
  | str z t=>cases m with
   | zero=>omega
   | succ m=>exact Us ⟨rfl,rfl⟩
  | tup ho hc hd hl hi =>
   rename_i a o its nn xs;have hT':s.TypeIs (.ref a) "tuple":=⟨o,ho,hc⟩
   obtain⟨m,rfl⟩:∃k,m=k+1:=⟨m - 1,by omega⟩;unfold eqIsQuiet;refine Uq (wpAny_specialOf hT' F.slot_tuple_eq.lookup ?_);show UR _ _ (isInstance (.ref a) (.type "tuple") >>= _) _ _ s
   refine Uq (wpAny_isInstance hT' isSubtype_tuple_tuple ?_);simp only [Wv,UJ,if_false];refine Uq (wpAny_seqItems ho hd ?_);refine Uq ?_;show UR _ _ (forIn its _ _) _ _ s
   rw [<- X3];refine wpAny_forIn_list _ (fun rest r s'=>r.1=none/\s'=s/\∀v∈rest,v∈its) _ ?_ ?_ _ _ ⟨rfl,rfl,fun v hv=>by simpa using hv⟩
   ·rintro v rest r s' ⟨hr,rfl,hall⟩
    obtain⟨i,xm,rfl⟩:=Wt (hall v Uv);have ex:=Ge9 (l:=xs) (i:=i) (by omega)
    refine Uq (wpAny_mono (cM.quiet n m (gR hk ex) (by omega) (hi i _ _ ex (UE xm))) (fun b BO hb=>?_) fun _ _ e=>e);obtain⟨rfl,rfl⟩:=hb;simp only [Wv,UJ,if_false];exact Us ⟨rfl,rfl,fun u hV=>hall u (Uw _ hV)⟩
   ·rintro⟨r1,r2⟩ s' ⟨hr,rfl,_⟩
    simp only at hr;subst hr;exact Us ⟨rfl,rfl⟩
theorem ve:∀xs ys:List T,nH (fun a b=>decide (a=b)) xs ys=decide (xs=ys)
 | [],[]=>by simp [nH]
 | [],_::_=>by simp [nH]
 | _::_,[]=>by simp [nH]
 | x::xs,y::ys=>by rw [nH,ve xs ys];simp [Bool.decide_and]
open SeqAt in
theorem cM.eq:∀(n:Nat) {A:Vq} {a b:T} {u v:Ux},kd n a=true->kd n b=true->A.units+n<cLine->cM s.heap a u->cM s.heap b v->EqAt A s u v (decide (a=b))
 | 0,_,a,_,_,_,h,_,_,_,_=>(Fw h).elim
 | n+1,A,a,b,u,v,ha,hb,hu,ka,kb=>by
  have hV:A.units<cLine:=by omega
  have sm:u=v->decide (a=b)=true:=fun e=>decide_eq_true (ka.same (by rw [e];exact kb))
  cases ka with
  | int i t =>
   cases kb with
   | int j t2=>rw [show decide (T.int i=T.int j)=(i == j) by rw [Wf];simp];exact .int_int _ _ _ _
   | str=>rw [decide_eq_false (by intro e;cases e)];exact .int_str _ _ _ _
   | tup ho hc hd hl hi=>rw [decide_eq_false (by intro e;cases e)];exact .int_tuple _ _ ⟨_,ho,hc,_,hd⟩ hV
  | str z t =>
   cases kb with
   | int=>rw [decide_eq_false (by intro e;cases e)];exact .str_int _ _ _ _
   | str z2 t2=>rw [show decide (T.str z=T.str z2)=(z == z2) by rw [Wf];simp,<- str_beq];exact .str_str _ _ _ _
   | tup ho hc hd hl hi=>rw [decide_eq_false (by intro e;cases e)];exact .str_tuple _ _ ⟨_,ho,hc,_,hd⟩ hV
  | tup ho hc hd hl hi =>
   have T1:s.heap.IsTuple _ _:=⟨_,ho,hc,_,hd⟩;cases kb with
   | int=>rw [decide_eq_false (by intro e;cases e)];exact .tuple_int _ _ T1 hV
   | str=>rw [decide_eq_false (by intro e;cases e)];exact .tuple_str _ _ T1 hV
   | tup ho' hc' hd' hl' hi' =>
    rename_i a1 o1 i1 n1 x1 a2 o2 i2 n2 x2;have:=RcAt.tuples (e:=fun j=>decide (x1.getD j .bZ=x2.getD j .bZ)) T1 ⟨_,ho',hc',_,hd'⟩ hV fun j j1 j2 =>
     cM.eq n (gR ha (getD_at (by omega))) (gR hb (getD_at (by omega))) (by show A.units+1+n<cLine;omega) (hi j _ _ (getD_at (by omega)) (UE j1)) (hi' j _ _ (getD_at (by omega)) (UE j2))
    rw [<- hl,<- hl',iD (f:=fun a b=>decide (a=b)),ve] at this;rw [show decide (T.tup x1=T.tup x2)=decide (x1=x2) by rw [Wf];simp];exact(both this fun e=>by have:=sm (by rw [e]);simpa using this).2
def DA (P:VI) (w:WE):HeapKind P w T where
 is:=fun h k a=>cM h k (.ref a)/\kd 7 k=true
 hash:=hT w
 draws:=dr
 room:=fun A=>A.units+8<cLine
 inj:=fun a b=>a.1.same b.1
 keeps:=fun k ho hd hs=>⟨k.1.keeps ho hd hs,k.2⟩
 pyHash:=fun hu k h=>cM.hash 7 k.2 (by omega) k.1 h
 eqBool:=fun hu a b h=>cM.eq 7 a.2 b.2 (by omega) a.1 b.1 _ _ _ _ h
 quiet:=fun k h=>wpAny_mono (cM.quiet 7 8 k.2 (by omega) k.1) (fun b s' hb=>by obtain⟨rfl,rfl⟩:=hb;exact h) fun _ _ e=>e
end
end M
namespace M
open PySem PySem.Spec PyProof.Rows
noncomputable def yA:T->Ux->Bool
 | .int i,.int j _=>i == j
 | .str z,.str x _=>x == ⟨z.toArray⟩
 | _,_=>false
theorem fP {k:T} {v:Ux} (h:yA k v=true):(∃i t,k=.int i/\v=.int i t)\/∃z t,k=.str z/\v=.str ⟨z.toArray⟩ t:=by
 unfold yA at h;split at h
 ·exact .inl ⟨_,_,rfl,by rw [eq_of_beq h]⟩
 ·exact .inr ⟨_,_,rfl,by rw [eq_of_beq h]⟩
 ·cases h
theorem toA {z z':Cs} (e:(⟨z.toArray⟩:Str)=⟨z'.toArray⟩):z=z':=by simpa using congrArg (fun x:Str=>x.cps.toList) e
def gS (P:VI) (w:WE):KeyKind P w T where
 is:=yA
 hash:=hT w
 inj:=fun v a b ha hb=>by
  rcases fP ha with⟨i,t,rfl,rfl⟩|⟨z,t,rfl,rfl⟩
  ·rcases fP hb with⟨j,t',rfl,e⟩|⟨z',t',rfl,e⟩
   ·injection e with e1 _;rw [e1]
   ·cases e
  ·rcases fP hb with⟨j,t',rfl,e⟩|⟨z',t',rfl,e⟩
   ·cases e
   ·injection e with e1 _;rw [toA e1]
 byValue:=fun k v h=>by rcases fP h with⟨i,t,rfl,rfl⟩|⟨z,t,rfl,rfl⟩ <;> rfl
 pyHash:=fun h q=>by
  rcases fP h with⟨i,t,rfl,rfl⟩|⟨z,t,rfl,rfl⟩
  ·rw [hT] at q;exact wpAny_pyHash_int q
  ·rw [hT] at q;exact wpAny_pyHash_str q
 eqBool:=fun {A E s a b u v Q} ha hb q=>by
  rcases fP ha with⟨i,t,rfl,rfl⟩|⟨z,t,rfl,rfl⟩
  ·rcases fP hb with⟨j,t',rfl,rfl⟩|⟨z',t',rfl,rfl⟩
   ·rw [show decide (T.int i=T.int j)=(i == j) by rw [Wf];simp] at q;exact wpAny_eqBool_int q
   ·rw [decide_eq_false (by intro e;cases e)] at q;exact SeqAt.EqAt.int_str _ _ _ _ _ _ _ _ q
  ·rcases fP hb with⟨j,t',rfl,rfl⟩|⟨z',t',rfl,rfl⟩
   ·rw [decide_eq_false (by intro e;cases e)] at q;exact SeqAt.EqAt.str_int _ _ _ _ _ _ _ _ q
   ·rw [show decide (T.str z=T.str z')=(z == z') by rw [Wf];simp,<- str_beq] at q;exact SeqAt.EqAt.str_str _ _ _ _ _ _ _ _ q
 «strs»:=fun k x t v h=>by
  rcases fP h with⟨i,t',rfl,e⟩|⟨z,t',rfl,e⟩
  ·cases e
  ·injection e with e1 _
   subst e1;cases v <;> rfl
def pl (ks:List (T × T)) (y:T):Option Nat:=ks.findIdx? fun p=>decide (p.1=y)
section
variable {X:Cx} {pins:aY} {φ:Fr} {g:G} {L L':aa} {s:UB} {ks:List (T × T)} {t y x:T} {u v:Ux} {n:Nat} {a d:U9} {A:Vq} {q:Option (U9 × U9)} {E:Ux->UB->Prop}
theorem lP (h:j6 t=true) (r:RT g none t u):yA t u=true:=by
 cases r <;> first|cases h|skip
 ·exact beq_self_eq_true _
 ·exact beq_self_eq_true _
theorem vg (I:Inv X pins φ g L s) (h:En t=true) (r:RT g none t u):∃a,u=.ref a/\cM s.heap t u/\kd 7 t=true:=by
 cases t <;> first|cases h|skip
 have k:kd 7 (.tup _)=true:=h;have z:=I.Fx 7 k r
 cases z with
 | tup ho hc hd hl hi=>exact⟨_,rfl,.tup ho hc hd hl hi,k⟩
structure bK (X:Cx) (g:G) (s:UB) (ks:List (T × T)) (a:U9) (o:Obj) (es:Array DictEntry) (ep:Nat):Prop where
 ho:s.heap.get? a=some o
 hx:o.ExactDict
 hd:o.data=.dict es ep
 hz:ks.length<=U1
 hl:ks.length=es.size
 hn:(ks.map (·.1)).Nodup
 hm:gq (ks.map (·.1))=true
 hs:(a == sysModules)=false
 hh:∀(i:Nat) x e,ks[i]?=some x->es[i]?=some e->e.hash=hT X.w x.1
 h1:∀(i:Nat) x e,ks[i]?=some x->es[i]?=some e->RT g none x.1 e.key
 h2:∀(i:Nat) x e,ks[i]?=some x->es[i]?=some e->RT g none x.2 e.val
theorem Inv.aP (I:Inv X pins φ g L s) (r:RT g q (.aP ks) u):∃a o es ep,u=.ref a/\td q a a/\g.kn q.isNone a o/\bK X g s ks a o es ep:=by
 cases r with
 | aP ht hk hx hd hz hl hn hs hh h1 h2=>exact⟨_,_,_,_,rfl,ht,hk,I.kn hk,hx,hd,hz,hl,hn.1,hn.2,hs,by rw [<- I.gw];exact hh,h1,h2⟩
theorem bK.at (D:bK X g s ks a o es ep) {i:Nat} {p:T × T} (h:ks[i]?=some p):∃e,es[i]?=some e:=by
 have:=(UO.mp h).1;exact⟨_,UE (by rw [<- D.hl];exact this)⟩
theorem bK.find (D:bK X g s ks a o es ep) (I:Inv X pins φ g L s) (hu:A.units+8<cLine) (hf:dM ks y) (ry:RT g none y v) :
  ∃n,(∀(Q:Int->UB->Prop) (E:Ux->UB->Prop),Q (hT X.w y) { s with toks:=s.toks+n }->UR (model X.prog X.w) A (pyHash v) Q E s) /\
   ∀(tk:Nat) (Q:Option Nat->UB->Prop) (E:Ux->UB->Prop),Q (pl ks y) { s with toks:=tk }->UR (model X.prog X.w) A (dictFind a v (hT X.w y)) Q E { s with toks:=tk }:=by
 unfold dM gq at hf;rw [Xm] at hf;rcases hf with hf|hf
 ·rw [Vl,UC] at hf
  have hv:=lP hf.1 ry;have sc:∀(i:Nat) p e,ks[i]?=some p->es[i]?=some e->yA p.1 e.key=true:=fun i p e e1 e2 =>
   lP (Uu.mp hf.2 _ (UP (Ve e1))) (D.h1 i p e e1 e2)
  refine⟨1,fun Q E hq=>(gS X.prog X.w).pyHash hv hq,fun tk Q E hq=>?_⟩;refine wpAny_dictFind_of (knd:=gS X.prog X.w) (s:={ s with toks:=tk }) hv D.ho D.hd (fun e he=>?_) ?_
  ·obtain⟨i,hi,rfl⟩:=Wt he
   have e1:=Ge9 (l:=ks) (i:=i) (by rw [D.hl];exact hi);exact⟨_,sc i _ _ e1 (UE hi),D.hh i _ _ e1 (UE hi)⟩
  ·have e:(es.findIdx? fun e=>(gS X.prog X.w).is y e.key)=pl ks y:=by
    obtain⟨es⟩:=es;rw [List.findIdx?_toArray];unfold pl;have go:∀(l:List DictEntry) (ks:List (T × T)),ks.length=l.length->(∀(i:Nat) p e,ks[i]?=some p->l[i]?=some e->yA p.1 e.key=true)->(l.findIdx? fun e=>(gS X.prog X.w).is y e.key)=ks.findIdx? fun p=>decide (p.1=y):=fun l=>by
     induction l with
     | nil=>intro ks hl _;cases ks with
      | nil=>rfl
      | cons _ _=>cases hl
     | cons e l ih=>intro ks hl h;cases ks with
      | nil=>cases hl
      | cons p ks =>
       rw [YR,YR,ih ks (by simpa using hl) (fun i p e e1 e2=>h (i+1) p e (by simpa using e1) (by simpa using e2)),KeyKind.is_eq_decide (knd:=gS X.prog X.w) (h 0 p e rfl rfl) y];rw [show decide (y=p.1)=decide (p.1=y) by rw [Wf];simp [eq_comm]]
    exact go es ks (by simpa using D.hl) fun i p e e1 e2=>sc i p e e1 (by simpa using e2)
   rw [e];exact hq
 ·rw [Vl,UC] at hf
  obtain⟨b,rfl,kb,db⟩:=vg I hf.1 ry;refine⟨dr y,fun Q E hq=>(DA X.prog X.w).pyHash hu ⟨kb,db⟩ hq,fun tk Q E hq=>?_⟩;have ex:∃xs:List (T × U9 × Ux),xs.length=ks.length/\∀(i:Nat) p e,ks[i]?=some p->es[i]?=some e->∃c,xs[i]?=some (p.1,c,e.val)/\e.key=.ref c/\cM s.heap p.1 (.ref c)/\kd 7 p.1=true:=by
   refine⟨(ks.zip es.toList).map fun z=>(z.1.1,(match z.2.key with|.ref c=>c|_=>0),z.2.val),by simp [D.hl],fun i p e e1 e2=>?_⟩;obtain⟨c,ec,kc,dc⟩:=vg I (Uu.mp hf.2 _ (UP (Ve e1))) (D.h1 i p e e1 e2);refine⟨c,?_,ec,by rw [<- ec];exact kc,dc⟩;have ez:(ks.zip es.toList)[i]?=some (p,e):=List.getElem?_zip_eq_some.mpr ⟨e1,by simpa using e2⟩
   rw [UT,ez];show some (p.1,(match e.key with|.ref c=>c|_=>0),e.val)=_
   rw [ec]
  obtain⟨xs,Pp,Pq⟩:=ex;have LS:∀(i:Nat) z,xs[i]?=some z->∃p e,ks[i]?=some p/\es[i]?=some e/\z=(p.1,z.2.1,e.val)/\e.key=.ref z.2.1/\cM s.heap p.1 (.ref z.2.1)/\kd 7 p.1=true:=fun i z hz=>by
   have hi:=(UO.mp hz).1;have e1:=Ge9 (l:=ks) (i:=i) (by omega)
   obtain⟨e,e2⟩:=D.at e1;obtain⟨c,c1,c2,c3,c4⟩:=Pq i _ e e1 e2;rw [hz] at c1;cases c1;exact⟨_,e,e1,e2,rfl,c2,c3,c4⟩
  have keys:xs.map (·.1)=ks.map (·.1):=Wa (by simp [Pp]) fun i h1 h2=>by
   rw [WJ,WJ];have hi:i<xs.length:=by simpa using h1
   obtain⟨p,e,e1,_,e3,_⟩:=LS i _ (Ge9 hi);have:=(UO.mp e1).2
   rw [e3,<- this]
  have Rp:∀(j:Nat) (p:U9 × Ux),xs[j]?=some (y,p)->pl ks y=some j:=fun j p hj=>by
   obtain⟨p',e,e1,_,e3,_⟩:=LS j _ hj;have ey:p'.1=y:=by injection e3 with e4;exact e4.symm
   obtain⟨Rr,Rt⟩:=UO.mp e1;refine VO.mpr ⟨Rr,by rw [Rt];exact decide_eq_true ey,fun i hi=>?_⟩;have ne:¬ ks[i].1=y:=fun z=>by
    have h1:(ks.map (·.1))[i]?=some y:=by rw [UT,Ge9 (by omega)];exact congrArg some z
    have h2:(ks.map (·.1))[j]?=some y:=by rw [UT,e1];exact congrArg some ey
    have:=(List.getElem?_inj (by simp;omega) D.hn).mp (h1.trans h2.symm);omega
   simpa using ne
  refine wpAny_dictFind_heap (knd:=DA X.prog X.w) (xs:=xs) (s:={ s with toks:=tk }) hu ⟨kb,db⟩ D.ho D.hd ?_ (fun z hz=>?_) (by rw [keys];exact D.hn) (fun kY=>?_) fun j p hj=>?_
  ·refine Wa (by simp [Pp,D.hl]) fun i h1 h2=>?_
   have hi:i<xs.length:=by simpa using h2
   obtain⟨p,e,e1,e2,e3,e4,_⟩:=LS i _ (Ge9 hi);rw [WJ];have I8:es.toList[i]=e:=by
    have:=(XA.mp e2).2;simpa using this
   rw [I8];have I9:=D.hh i p e e1 e2
   rw [e3];show e=⟨hT X.w p.1,.ref xs[i].2.1,e.val⟩
   rw [<- e4,<- I9]
  ·obtain⟨i,hi,rfl⟩:=Wi hz
   obtain⟨p,e,_,_,e3,_,e5,e6⟩:=LS i _ (Ge9 hi);rw [e3];exact⟨e5,e6⟩
  ·have:pl ks y=none:=by
    refine Y1.mpr fun p hp=>?_
    obtain⟨i,hi,rfl⟩:=Wi hp;obtain⟨e,e2⟩:=D.at (Ge9 hi);obtain⟨c,c1,_⟩:=Pq i _ e (Ge9 hi) e2;refine decide_eq_false fun z=>kY i (c,e.val) ?_
    rw [c1,z]
   rw [this] at hq;exact hq
  ·rw [Rp j p hj] at hq;exact hq
end
section
variable {X:Cx} {pins:aY} {φ:Fr} {g:G} {L L':aa} {s:UB} {ks:List (T × T)} {t y x w:T} {u v:Ux} {n:Nat} {a d:U9} {A:Vq} {q:Option (U9 × U9)} {E:Ux->UB->Prop} {o:Obj} {es:Array DictEntry} {ep:Nat}
theorem pE {i:Nat} (h:pl ks y=some i):∃p,ks[i]?=some p/\p.1=y/\du ks y=some p.2:=by
 obtain⟨h1,h2,h3⟩:=VO.mp h;refine⟨ks[i],Ge9 h1,of_decide_eq_true h2,?_⟩;have:(ks.find? fun p=>decide (p.1=y))=some ks[i]:=by
  rw [List.find?_eq_some_iff_getElem];exact⟨h2,i,h1,rfl,fun j hj=>by simpa using h3 j hj⟩
 unfold du;rw [show(ks.find? fun p=>@decide (p.1=y) (VG _))=some ks[i] from this];rfl
theorem pF (h:pl ks y=none):du ks y=none/\∀p∈ks,p.1≠y:=by
 have h':=Y1.mp h;have h2:∀p∈ks,p.1≠y:=fun p hp=>of_decide_eq_false (h' p hp)
 refine⟨?_,h2⟩;have:(ks.find? fun p=>decide (p.1=y))=none:=V6.mpr fun p hp=>by simpa using h2 p hp
 unfold du;rw [show(ks.find? fun p=>@decide (p.1=y) (VG _))=none from this];rfl
noncomputable def Ja (g:G) (o:Option Ux) (x:Option T):Prop:=(o=none/\x=none)\/∃u t,o=some u/\x=some t/\RT g none t u
theorem bK.val (D:bK X g s ks a o es ep):Ja g ((pl ks y).bind fun i=>es[i]?.map (·.val)) (du ks y):=by
 cases e:pl ks y with
 | none=>exact .inl ⟨rfl,(pF e).1⟩
 | some i =>
  obtain⟨p,p1,p2,p3⟩:=pE e;obtain⟨d,d1⟩:=D.at p1;exact .inr ⟨d.val,p.2,by rw [WK,d1];rfl,p3,D.h2 i p d p1 d1⟩
theorem bK.get (D:bK X g s ks a o es ep) (I:Inv X pins φ g L s) (hu:A.units+8<cLine) (hf:dM ks y) (ry:RT g none y v) {Q:Option Ux->UB->Prop} (h:∀tk u,Ja g u (du ks y)->Q u { s with toks:=tk }):UR (model X.prog X.w) A (dictGet a v) Q E s:=by
 obtain⟨n,h1,h2⟩:=D.find I hu hf ry;unfold dictGet
 try with_reducible refine wpAny_holding ?_
 refine Uq (h1 _ _ (Uq (h2 _ _ _ ?_)));have z:=D.val (y:=y)
 cases e:pl ks y with
 | none=>rw [e] at z;exact Us (h _ _ z)
 | some i=>rw [e] at z;exact Uq (wpAny_dictEntries (s:={ s with toks:=s.toks+n }) D.ho D.hd (Us (h _ _ z)))
theorem bK.typeIs (D:bK X g s ks a o es ep):s.TypeIs (.ref a) "dict":=⟨o,D.ho,D.hx.1⟩
theorem bK.in (D:bK X g s ks a o es ep) (I:Inv X pins φ g L s) (hu:X.A.units+20<cLine) (hf:dM ks y) (ry:RT g none y v):(∀Q:Ux->UB->Prop,(∀tk,Q (.bool (du ks y).isSome) { s with toks:=tk })->UR (model X.prog X.w) X.A (compareOp .In v (.ref a)) Q F0 s) /\
  ∀Q:Ux->UB->Prop,(∀tk,Q (.bool (!(du ks y).isSome)) { s with toks:=tk })->UR (model X.prog X.w) X.A (compareOp .NotIn v (.ref a)) Q F0 s:=by
 have hV:X.A.in1.units+8<cLine:=by show X.A.units+1+8<cLine;omega
 have go:∀Q:Bool->UB->Prop,(∀tk,Q (du ks y).isSome { s with toks:=tk })->UR (model X.prog X.w) X.A (contains (.ref a) v) Q F0 s:=fun Q h=>by
  unfold contains
  try with_reducible refine wpAny_holding ?_
  refine Uq (wpAny_specialOf D.typeIs slot_dict_contains.lookup ?_);show UR _ _ (if (some (Yy "dict.__contains__") == some VQ)=true then _ else _) _ _ s
  rw [if_neg (by rw [beq_builtin_none];exact WL)];refine Uq (wpAny_callSpecialUnlessNone?_slot (name:=V5 "__contains__") D.typeIs slot_dict_contains
   (wpAny_call_entry slot_dict_contains D.typeIs entry_dict_contains ?_ (args_dict_contains _ _)))
  show UR _ _ (dictGet a v >>= _) _ _ s;refine Uq (D.get I hV hf ry fun tk u hu=>?_);rcases hu with⟨rfl,e⟩|⟨u,t,rfl,e,_⟩
  ·show UR _ _ (Builtin.Dict.pendingKey? a v >>= _) _ _ _
   refine Uq (wpAny_pendingKey_other D.hs (Us ⟨_,rfl,wpAny_truthy_bool ?_⟩));have:=h tk;rw [e] at this;exact this
  ·show UR _ _ (PySem.ret (.bool true)) _ _ _
   refine Us ⟨_,rfl,wpAny_truthy_bool ?_⟩;have:=h tk;rw [e] at this;exact this
 exact⟨fun Q h=>Uq (go _ fun tk=>Us (h tk)),fun Q h=>Uq (go _ fun tk=>Us (h tk))⟩
theorem bK.item (D:bK X g s ks a o es ep) (I:Inv X pins φ g L s) (hu:X.A.units+20<cLine) (hf:dM ks y) (ry:RT g none y v) (hx:du ks y=some x) {Q:Ux->UB->Prop} (h:∀tk u,RT g none x u->Q u { s with toks:=tk }):UR (model X.prog X.w) X.A (getItem (.ref a) v) Q F0 s:=by
 have hV:X.A.in1.units+8<cLine:=by show X.A.units+1+8<cLine;omega
 unfold getItem
 try with_reducible refine wpAny_holding ?_
 refine Uq (wpAny_sequenceKey D.typeIs (by decide) ?_);refine Uq (wpAny_callSpecial?_slot (name:=V5 "__getitem__") D.typeIs slot_dict_getitem
  (wpAny_call_entry slot_dict_getitem D.typeIs entry_dict_getitem ?_ (args_dict_getitem _ _)))
 show UR _ _ (dictGet a v >>= _) _ _ s;refine Uq (D.get I hV hf ry fun tk u hu=>?_);rcases hu with⟨rfl,e⟩|⟨u,t,rfl,e,r⟩
 ·rw [hx] at e;cases e
 ·rw [hx] at e;cases e
  exact Us ⟨u,rfl,Us (h tk u r)⟩
theorem yB {ks:List T} (h:gq (y::ks)=true):gq ks=true/\gq (ks++[y])=true:=by
 unfold gq at h ⊢;simp only [Vl,Xm,UC,List.all_append,YS,and_true] at h ⊢;rcases h with h|h
 ·exact⟨.inl h.2,.inl ⟨h.2,h.1⟩⟩
 ·exact⟨.inr h.2,.inr ⟨h.2,h.1⟩⟩
theorem eX (h:∀p∈ks,p.1≠y):dput ks y t=ks++[(y,t)]:=by
 unfold dput;rw [if_neg];intro z;obtain⟨p,hp,e⟩:=Wb.mp z;exact h p hp (of_decide_eq_true e)
theorem yC {i:Nat} (hn:(ks.map (·.1)).Nodup) (h:pl ks y=some i):dput ks y t=ks.set i (y,t):=by
 obtain⟨h1,h2,h3⟩:=VO.mp h;unfold dput;rw [if_pos (Wb.mpr ⟨_,UQ h1,by rw [decide_eq_true (of_decide_eq_true h2)]⟩)];refine Wa (by simp) fun j j1 j2=>?_
 rw [WJ,List.getElem_set];have hj:j<ks.length:=by simpa using j1
 by_cases e:i=j
 ·subst e
  rw [if_pos rfl,if_pos (of_decide_eq_true h2),of_decide_eq_true h2]
 ·rw [if_neg e,if_neg]
  intro z;have hi':(ks.map (·.1))[i]?=some y:=by rw [UT,Ge9 h1];exact congrArg some (of_decide_eq_true h2)
  have hj':(ks.map (·.1))[j]?=some y:=by rw [UT,Ge9 hj];exact congrArg some z
  exact e ((List.getElem?_inj (by simpa using h1) hn).mp (hi'.trans hj'.symm))
theorem Inv.Jb {p:U9 × U9} {o':Obj} {fM:Array DictEntry} {H0:Nat} {tR:List (T × T)} {h':Heap} {tk:Nat} (I:Inv X pins φ g L s) (hp:at_ g.α n=some p) (hk:g.H p.1=some (false,o)) (vb:p.2=p.1) (D:bK X g s ks p.1 o es ep) (keep:∀b v,b≠p.1->s.heap.get? b=some v->h'.get? b=some v) (new:h'.get? p.1=some o') (hx:o'.ExactDict) (hd:o'.data=.dict fM H0)
  (hz:tR.length<=U1) (hl:tR.length=fM.size) (hn:(tR.map (·.1)).Nodup) (hm:gq (tR.map (·.1))=true) (hh:∀(i:Nat) x e,tR[i]?=some x->fM[i]?=some e->e.hash=hT X.w x.1/\RT g none x.1 e.key/\RT g none x.2 e.val) :
  ∃g',Le g g'/\Inv X pins φ g' (put L n (.aP tR)) { s with heap:=h',toks:=tk }/\∀b,b≠p.1->g'.H b=g.H b:=by
 have l:=Le.set (o:=o') hk;refine⟨_,l,I.set (t':=tk) hp (.inl rfl) hk keep new ?_,fun b hb=>az hb⟩;have ht:td (some p) p.1 p.1:=.inr (congrArg some (Prod.ext rfl vb))
 exact .aP ht (.inl ar) hx hd hz hl ⟨hn,hm⟩ D.hs (fun i x e e1 e2=>by show e.hash=hT g.w x.1;rw [I.gw];exact(hh i x e e1 e2).1) (fun i x e e1 e2=>(hh i x e e1 e2).2.1.le l) fun i x e e1 e2=>(hh i x e e1 e2).2.2.le l
theorem Inv.vh (I:Inv X pins φ g L s) (ru:RT g none (.ref n) u) (hc:at_ L n=some (.aP ks)):∃p o es ep,u=.ref p.1/\at_ g.α n=some p/\p.2=p.1/\g.H p.1=some (false,o)/\bK X g s ks p.1 o es ep:=by
 obtain⟨p,hp,rc⟩:=I.rel.cells n _ hc;cases ru with
 | ref hq =>
  rw [hp] at hq;cases hq;obtain⟨a,o,es,ep,e,ht,hk,D⟩:=I.aP rc;have ea:p.1=a:=by injection e
  subst ea;refine⟨p,o,es,ep,rfl,hp,?_,?_,D⟩
  ·rcases ht with z|z
   ·cases z
   ·exact congrArg Prod.snd (We z)
  ·rcases hk with hk|⟨z,_⟩
   ·exact hk
   ·cases z
theorem bK.new {p:U9 × U9} {tk:Nat} (D:bK X g s ks p.1 o es ep) (I:Inv X pins φ g L s) (hp:at_ g.α n=some p) (vb:p.2=p.1) (hk:g.H p.1=some (false,o)) (hf:dM ks y) (hz:ks.length<U1) (kY:pl ks y=none) (ry:RT g none y v) (rt:RT g none t u) :
  ∃g',Le g g'/\Inv X pins φ g' (put L n (.aP (dput ks y t))) { s with heap:=s.heap.update p.1 (Obj.mapDictKeys (·.push ⟨hT X.w y,v,u⟩)),toks:=tk }/\∀b,b≠p.1->g'.H b=g.H b:=by
 have hne:=(pF kY).2;rw [eX hne];refine I.Jb hp hk vb D (fun b v hb hv=>(Vd s.heap _ (V0 hb)).trans hv) (VS _ D.ho (Obj.isFreed_of_dict (Z4 D.hd _))) (D.hx.mapDictKeys _) (Z4 D.hd _) (by simp;omega) (by simp [D.hl]) ?_ ?_ fun i x e e1 e2=>?_
 ·rw [UL,Wd]
  refine⟨D.hn,by simp,fun x hx y' hy=>?_⟩;obtain⟨q,hq,rfl⟩:=Uz.mp hx;have:y'=y:=by simpa using hy
  rw [this];exact hne q hq
 ·rw [UL];exact(yB hf).2
 ·rw [List.getElem?_append] at e1
  rw [XS] at e2;split at e1
  ·rename_i hi
   rw [if_neg (by rw [<- D.hl];exact U6 hi)] at e2;exact⟨D.hh i x e e1 e2,D.h1 i x e e1 e2,D.h2 i x e e1 e2⟩
  ·rename_i hi
   have DB:i=es.size:=by
    have:=(UO.mp e1).1;simp at this;have:=D.hl
    omega
   rw [if_pos DB] at e2;cases e2;have e1':i - ks.length=0:=by have:=D.hl;omega
   rw [e1'] at e1;cases e1;exact⟨rfl,ry,rt⟩
theorem bK.old {p:U9 × U9} {tk i:Nat} (D:bK X g s ks p.1 o es ep) (I:Inv X pins φ g L s) (hp:at_ g.α n=some p) (vb:p.2=p.1) (hk:g.H p.1=some (false,o)) (hi:pl ks y=some i) (rt:RT g none t u) :
  ∃g',Le g g'/\Inv X pins φ g' (put L n (.aP (dput ks y t))) { s with heap:=s.heap.update p.1 (Obj.mapDict (·.modify i fun e=>{ e with val:=u })),toks:=tk }/\∀b,b≠p.1->g'.H b=g.H b:=by
 rw [yC D.hn hi];obtain⟨q,q1,q2,_⟩:=pE hi;have keys:(ks.set i (y,t)).map (·.1)=ks.map (·.1):=by
  refine Wa (by simp) fun j h1 h2=>?_
  rw [WJ,WJ,List.getElem_set];by_cases e:i=j
  ·subst e
   rw [if_pos rfl,(UO.mp q1).2,q2]
  ·rw [if_neg e]
 refine I.Jb hp hk vb D (fun b v hb hv=>(Vd s.heap _ (V0 hb)).trans hv) (VS _ D.ho (Obj.isFreed_of_dict (Obj.data_mapDict D.hd _))) (D.hx.mapDict _) (Obj.data_mapDict D.hd _) (by simpa using D.hz) (by simp [D.hl]) (by rw [keys];exact D.hn) (by rw [keys];exact D.hm) fun j x e e1 e2=>?_
 rw [Array.getElem?_modify] at e2;rw [List.getElem?_set] at e1;by_cases ej:i=j
 ·subst ej
  rw [if_pos rfl] at e1 e2;obtain⟨e0,f1,f2⟩:=UI.mp e2;have bJ:=(UO.mp q1).1
  rw [if_pos bJ] at e1;cases e1;subst f2;exact⟨by rw [<- q2];exact D.hh i q e0 q1 f1,by rw [<- q2];exact D.h1 i q e0 q1 f1,rt⟩
 ·rw [if_neg ej] at e1 e2
  exact⟨D.hh j x e e1 e2,D.h1 j x e e1 e2,D.h2 j x e e1 e2⟩
theorem vm {A:Vq} (I:Inv X pins φ g L s) (hu:A.units+8<cLine) (hc:at_ L n=some (.aP ks)) (rd:RT g none (.ref n) (.ref a)) (ry:RT g none y v) {tv:Ux} (rt:RT g none t tv) (hz:ks.length<U1) (hf:dM ks y) :
  UR (model X.prog X.w) A (dictSet a v tv) (fun _ s'=>(∃g',Le g g'/\Inv X pins φ g' (put L n (.aP (dput ks y t))) s'/\∀b,b≠a->g'.H b=g.H b)/\∀b,b≠a->s'.heap.get? b=s.heap.get? b) E s:=by
 obtain⟨p,o,es,ep,ea,hp,vb,hk,D⟩:=I.vh rd hc;cases ea;obtain⟨m,h1,h2⟩:=D.find I hu hf ry;unfold dictSet
 try with_reducible refine wpAny_holding ?_
 refine Uq (h1 _ _ ?_);unfold dictSetHashed
 try with_reducible refine wpAny_holding ?_
 refine Uq (h2 _ _ _ ?_);cases e:pl ks y with
 | none =>
  exact Uq (wpAny_rule (wpAny_updateDictKeys (hz:=by have:=D.hl;omega) (s:={ s with toks:=s.toks+m }) D.ho D.hd ⟨D.new I hp vb hk hf hz e ry rt,fun b hb=>Vd s.heap _ (V0 hb)⟩))
 | some i =>
  exact Uq (wpAny_rule (Uq (wpAny_updateDict (s:={ s with toks:=s.toks+m }) D.ho D.hd (wpAny_point ⟨D.old I hp vb hk e rt,fun b hb=>Vd s.heap _ (V0 hb)⟩))))
theorem BU (I:Inv X pins φ g L s) (hu:X.A.units+20<cLine) (hc:at_ L n=some (.aP ks)) (rd:RT g none (.ref n) u) (ry:RT g none y v) {tv:Ux} (rt:RT g none t tv) (hz:ks.length<U1) (hf:dM ks y) :
  UR (model X.prog X.w) X.A (setItem u v tv) (fun _ s'=>∃g',Le g g'/\Inv X pins φ g' (put L n (.aP (dput ks y t))) s') F0 s:=by
 have hV:X.A.in1.units+8<cLine:=by show X.A.units+1+8<cLine;omega
 obtain⟨p,o,es,ep,rfl,hp,vb,hk,D⟩:=I.vh rd hc;unfold setItem
 try with_reducible refine wpAny_holding ?_
 refine Uq (wpAny_sequenceKey D.typeIs (by decide) ?_);refine Uq (wpAny_callSpecial?_slot (name:=V5 "__setitem__") D.typeIs slot_dict_setitem
  (wpAny_call_entry slot_dict_setitem D.typeIs entry_dict_setitem ?_ (args_dict_setitem _ _ _)))
 show UR _ _ (Builtin.Dict.notOrdered "__setitem__" ⟨[.ref p.1,v,tv],[]⟩ >>= _) _ _ s;refine Uq (wpAny_notOrdered_dict D.typeIs ?_);show UR _ _ (dictSet p.1 v tv >>= _) _ _ s
 refine Uq (wpAny_mono (vm I hV hc rd ry rt hz hf) (fun _ s' ⟨⟨g',l,J,_⟩,_⟩=>Us ⟨.none,rfl,Us ⟨g',l,J⟩⟩) fun _ _ e=>e)
end
section
variable {X:Cx} {pins:aY} {φ:Fr} {g:G} {L:aa} {s:UB} {xs ys:List T} {us vs:List Ux} {e a b:Expr} {m ma mb:SE} {pos p2:Pos}
theorem Fy {α:Type} {y:T} {f:Int->R α} {w:α} {L':aa} (h:(match y with|.int i=>f i|_=>.bad)=.ok w L'):∃i,y=.int i/\f i=.ok w L':=by
 cases y with
 | int i=>exact⟨i,rfl,h⟩
 | _=>cases h
theorem Jc {α:Type} {y:T} {f:R α} {w:α} {L':aa} (h:(match y with|.bZ=>f|_=>.bad)=.ok w L'):y=.bZ/\f=.ok w L':=by
 cases y with
 | bZ=>exact⟨rfl,h⟩
 | _=>cases h
theorem Ru {α:Type} {y:T} {f:Nat->R α} {w:α} {L':aa} (h:(match y with|.str [ch]=>f ch|_=>.bad)=.ok w L'):∃ch,y=.str [ch]/\f ch=.ok w L':=by
 split at h
 ·exact⟨_,rfl,h⟩
 ·cases h
theorem DC (hu:X.A.units+20<cLine) {x y:T} {u v:Ux} {k:Bool} {L':aa} (I:Inv X pins φ g L s) (rx:RT g none x u) (ry:RT g none y v) (h:nL x y L=.ok k L') :
  L'=L/\(∀Q:Ux->UB->Prop,(∀tk,Q (.bool k) { s with toks:=tk })->UR (model X.prog X.w) X.A (compareOp .In u v) Q F0 s)/\∀Q:Ux->UB->Prop,(∀tk,Q (.bool (!k)) { s with toks:=tk })->UR (model X.prog X.w) X.A (compareOp .NotIn u v) Q F0 s:=by
 obtain⟨p,vy⟩:=I.view ry;unfold nL at h;generalize vw L y=y' at h vy;have hV:X.A.in1.units+8<cLine:=by show X.A.units+1+8<cLine;omega
 cases y' with
 | str b =>
  obtain⟨ch,rfl,h⟩:=Ru h;cases h;obtain⟨_,rfl⟩:=rx.sI;obtain⟨_,rfl⟩:=vy.sI;exact⟨rfl,fun Q q=>in_str (by rw [u5];exact q s.toks),fun Q q=>notIn_str (by rw [u5];exact q s.toks)⟩
 | lst ys =>
  obtain⟨⟨h1,h2⟩,h⟩:=aA h;cases h;obtain⟨a,its,n,rfl,e,r,_⟩:=I.lst vy;obtain⟨f,f1,f2,_⟩:=pz I hV h1 rx h2 r;rw [<- f2,<- show its.any f=its.toList.any f by simp];exact⟨rfl,fun Q q=>SeqAt.in_listAt f (af e) (fun w hw=>f1 w (by simpa using hw)) (q s.toks),fun Q q=>SeqAt.notIn_listAt f (af e) (fun w hw=>f1 w (by simpa using hw)) (q s.toks)⟩
 | tup ys =>
  obtain⟨⟨h1,h2⟩,h⟩:=aA h;cases h;obtain⟨a,its,rfl,e,r,_⟩:=I.tupP vy;obtain⟨f,f1,f2,_⟩:=pz I hV h1 rx h2 r;rw [<- f2,<- show its.any f=its.toList.any f by simp];exact⟨rfl,fun Q q=>SeqAt.in_tupleAt f e (fun w hw=>f1 w (by simpa using hw)) (q s.toks),fun Q q=>SeqAt.notIn_tupleAt f e (fun w hw=>f1 w (by simpa using hw)) (q s.toks)⟩
 | aP ks =>
  obtain⟨h1,h⟩:=aA h;cases h;obtain⟨a,o,es,ep,rfl,_,_,D⟩:=I.aP vy;obtain⟨d1,d2⟩:=D.in I hu h1 rx;exact⟨rfl,fun Q q=>d1 Q q,fun Q q=>d2 Q q⟩
 | _=>cases h
theorem pG {op:CmpOp} (hu:X.A.units+20<cLine):xH X (compareOp op) (cmp op):=fun {pins φ g L s x y w L' u v} I rx ry h=>by
 obtain⟨k,h',rfl⟩:=pd h;clear h;have fin:∀k,EP X pins φ g (.bl k) L (.bool k) s:=fun k=>I.ep (.bl k)
 cases op with
 | Eq =>
  obtain⟨h1,h2,rfl,rfl⟩:=Fj h';obtain⟨p,vx⟩:=I.view rx;obtain⟨q,vy⟩:=I.view ry;exact(I.rc 8 h1 h2 (by omega) vx vy).1 _ _ _ _ (fin _)
 | NotEq =>
  have h:LI x y L=.ok k L':=h';unfold LI at h;split at h
  ·obtain⟨_,rfl⟩:=rx.iI;obtain⟨_,rfl⟩:=ry.iI;cases h;exact ne_int (fin _)
  ·obtain⟨_,rfl⟩:=rx.sI;obtain⟨_,rfl⟩:=ry.sI;cases h;refine ne_str ?_;simp only [bne,str_beq];exact fin _
  ·cases h
 | Lt =>
  have h:LJ x y L=.ok k L':=h';unfold LJ at h;split at h
  ·obtain⟨_,rfl⟩:=rx.iI;obtain⟨_,rfl⟩:=ry.iI;cases h;exact lt_int (fin _)
  ·obtain⟨_,rfl⟩:=rx.sI;obtain⟨_,rfl⟩:=ry.sI;cases h;exact lt_str (fin _)
  ·cases h
 | Gt =>
  have h:LK x y L=.ok k L':=h';unfold LK at h;split at h
  ·obtain⟨_,rfl⟩:=rx.iI;obtain⟨_,rfl⟩:=ry.iI;cases h;exact gt_int (fin _)
  ·cases h
 | LtE =>
  have h:Er x y L=.ok k L':=h';unfold Er at h;split at h
  ·obtain⟨_,rfl⟩:=rx.iI;obtain⟨_,rfl⟩:=ry.iI;cases h;exact le_int (fin _)
  ·cases h
 | GtE =>
  have h:Er y x L=.ok k L':=h';unfold Er at h;split at h
  ·obtain⟨_,rfl⟩:=rx.iI;obtain⟨_,rfl⟩:=ry.iI;cases h;exact ge_int (fin _)
  ·cases h
 | Is =>
  obtain⟨rfl,h'⟩:=Jc h';obtain rfl:=ry.nI;cases h';exact is_none_gen (by rw [yg rx];exact fin _)
 | IsNot =>
  obtain⟨rfl,h'⟩:=Jc h';obtain rfl:=ry.nI;cases h';exact isnot_none_gen (by rw [yg rx];exact fin _)
 | In =>
  obtain⟨rfl,a,_⟩:=DC hu I rx ry h';exact a _ fun tk=>(I.tok tk).ep (.bl _)
 | NotIn =>
  obtain⟨k,h2,rfl⟩:=pd h';obtain⟨rfl,_,a⟩:=DC hu I rx ry h2;exact a _ fun tk=>(I.tok tk).ep (.bl _)
theorem Jd (hu:X.A.units+20<cLine) (hb:wG b=true):xH X (fun o i=>subscriptTail a b o i) ix:=fun {pins φ g L s x y w L' u v} I rx ry h=>by
 obtain⟨p,vx⟩:=I.view rx;have hn:=tN
 unfold ix at h;generalize vw L x=x' at h vx;have hs:=fun o i=>yi hb o i
 cases x' with
 | str z =>
  obtain⟨i,rfl,h⟩:=Fy h;obtain⟨q1,rfl⟩:=iE h;obtain⟨ch,q2,rfl⟩:=UI.mp q1;obtain⟨j,hj,hc⟩:=Wu.mp q2;obtain⟨h1,h2,h3,h4,_⟩:=mD hj;obtain⟨_,rfl⟩:=ry.iI;obtain⟨t,rfl,hz⟩:=vx.jb
  ·have hl:(⟨z.toArray⟩:Str).length=z.length:=by show z.toArray.size=_;simp
   exact tail_any (typeIs_str s _ t) slot_str_getitem.lookup (getItem_str (c:=ch) (by
    have e1:decide (i < -(2 ^ 63:Int))=false:=decide_eq_false (by omega);have e2:decide (i≥2 ^ 63)=false:=decide_eq_false (by omega)
    rw [e1,e2,Bool.or_false]) (by rw [hl,h1];simpa using hc) ((I.tok _).ep (.str [ch] _ (by show 1<=U1;decide)))) (hs _ _)
 | tup xs =>
  obtain⟨i,rfl,h⟩:=Fy h;obtain⟨q1,rfl⟩:=iE h;obtain⟨j,hj,hc⟩:=Wu.mp q1;obtain⟨h1,h2,h3,h4,_⟩:=mD hj;obtain⟨_,rfl⟩:=ry.iI;obtain⟨a,its,rfl,e,r,hz⟩:=I.tupP vx;obtain⟨u,hu,ru⟩:=tf r hc;have hl:xs.length=its.size:=by have:=US r;simp at this;omega
  exact subscriptTail_builtinR (x:=u) e.typeIs slot_tuple_getitem.lookup
   (getItem_tuple (j:=j) (Q:=fun r s'=>r=u/\EP X pins φ g w L' r s') e (by omega) (by omega) (by rw [<- hl];exact h1) (by simpa using hu) ⟨rfl,I.ep ru⟩) (hs _ _)
 | lst xs =>
  obtain⟨i,rfl,h⟩:=Fy h;obtain⟨q1,rfl⟩:=iE h;obtain⟨j,hj,hc⟩:=Wu.mp q1;obtain⟨h1,h2,h3,h4,h5⟩:=mD hj;obtain⟨_,rfl⟩:=ry.iI;obtain⟨a,its,n,rfl,e,r,hz⟩:=I.lst vx;obtain⟨u,hu,ru⟩:=tf r hc;have hl:xs.length=its.size:=by have:=US r;simp at this;omega
  rcases h5 with⟨h0,hj⟩|⟨h0,hj⟩
  ·exact item_listR (af e) h0 (by omega) (by rw [hj];simpa using hu) (I.ep ru) (hs _ _)
  ·exact subscriptTail_builtinR (x:=u) (af e).typeIs slot_list_getitem.lookup
    (wpAny_getItem_list_neg (Q:=fun r s'=>r=u/\EP X pins φ g w L' r s') (af e) (by omega) (by omega) (by omega) (by rw [<- hl,hj];simpa using hu) ⟨rfl,I.ep ru⟩) (hs _ _)
 | aP ks =>
  obtain⟨h1,q1⟩:=aA h;obtain⟨q2,rfl⟩:=iE q1;obtain⟨d,o,es,ep,rfl,_,_,D⟩:=I.aP vx;exact tail_any D.typeIs slot_dict_getitem.lookup (D.item I hu h1 ry q2 fun tk u r=>(I.tok tk).ep r) (hs _ _)
 | _=>cases h
theorem bK.j6 {a:U9} {o:Obj} {es:Array DictEntry} {ep:Nat} {ks:List (T × T)} (D:bK X g s ks a o es ep) (h:(ks.map (·.1)).all j6=true):∃kvs,s.heap.DictAt (gS X.prog X.w) a kvs ep/\kvs.length=ks.length/\kvs.map (·.1)=ks.map (·.1):=by
 have sc:∀(i:Nat) p e,ks[i]?=some p->es[i]?=some e->yA p.1 e.key=true:=fun i p e e1 e2 =>
  lP (Uu.mp h _ (UP (Ve e1))) (D.h1 i p e e1 e2)
 have go:∀(l:List DictEntry) (ks:List (T × T)),ks.length=l.length->(∀(i:Nat) p e,ks[i]?=some p->l[i]?=some e->yA p.1 e.key=true)->∃kvs,Pairs (gS X.prog X.w) l kvs/\kvs.length=ks.length/\kvs.map (·.1)=ks.map (·.1):=fun l=>by
  induction l with
  | nil=>intro ks hl _;cases ks with
   | nil=>exact⟨[],.nil,rfl,rfl⟩
   | cons _ _=>cases hl
  | cons e l ih=>intro ks hl h;cases ks with
   | nil=>cases hl
   | cons p ks =>
    obtain⟨kvs,k1,k2,k3⟩:=ih ks (by simpa using hl) fun i p e e1 e2=>h (i+1) p e (by simpa using e1) (by simpa using e2)
    exact⟨(p.1,e.val)::kvs,.cons (h 0 p e rfl rfl) rfl k1,by simp [k2],by simp [k3]⟩
 obtain⟨kvs,k1,k2,k3⟩:=go es.toList ks (by simpa using D.hl) fun i p e e1 e2=>sc i p e e1 (by simpa using e2)
 refine⟨kvs,⟨o,es,D.ho,D.hx,D.hd,fun e he=>?_,k1,by rw [k3];exact D.hn⟩,k2,k3⟩;obtain⟨i,hi,rfl⟩:=Wt he;have e1:=Ge9 (l:=ks) (i:=i) (by rw [D.hl];exact hi)
 exact⟨_,sc i _ _ e1 (UE hi),D.hh i _ _ e1 (UE hi)⟩
theorem yD {t:T} {u v:Ux} (h:yA t v=true) (r:RT g none t u):RT g none t v:=by
 rcases fP h with⟨i,k,rfl,rfl⟩|⟨z,k,rfl,rfl⟩
 ·exact .int _ _
 ·obtain⟨_,_,hz⟩:=r.jb;exact .str _ _ hz
theorem Fz (hu:X.A.units+20<cLine):yr X "dict.get" iP:=fun {_ _ g _ s _ _ _ _ _ _} I rx rv h=>by
 have hV:X.A.in1.units+8<cLine:=by show X.A.units+1+8<cLine;omega
 unfold iP at h;split at h
 ·rename_i ks y t ev
  obtain⟨h1,h⟩:=aA h;cases h;obtain⟨p,v⟩:=I.view rx;rw [ev] at v;obtain⟨a,o,es,ep,rfl,_,_,D⟩:=I.aP v;obtain⟨u1,u2,rfl,r1,r2⟩:=kh rv;have M:MeetsIn X.prog X.w (Builtin.«dict.get» ⟨[.ref a,u1,u2],[]⟩) (fun A R s'=>A=X.A/\s'=s/\∀tk u,RT g none ((du ks y).getD t) u->R (.ok (.ret u)) { s with toks:=tk }) :=
   .of_wp fun A R s' ⟨eA,fM,h⟩=>by
    subst eA fM;show UR _ _ (dictGet a u1 >>= _) _ _ _
    refine Uq (D.get I hV h1 r1 fun tk u hu=>?_);rcases hu with⟨rfl,e⟩|⟨u,z,rfl,e,r⟩
    ·rw [e] at h
     show UR _ _ (Builtin.Dict.missed a u1 >>= _) _ _ _;exact Uq (wpAny_missed_other D.hs (Us ⟨u2,rfl,h tk u2 r2⟩))
    ·rw [e] at h
     exact Us ⟨u,rfl,h tk u r⟩
  exact call_meetsIn Z0 D.typeIs PySem.F.entry_dict_get (PySem.F.args_dict_get_3 _ _ _) M ⟨rfl,rfl,fun tk u r=>(I.tok tk).ep r⟩
 ·cases h
theorem FC (hu:X.A.units+20<cLine):yr X "dict.setdefault" xE:=fun {pins φ g L s _ _ _ _ _ _} I rx rv h=>by
 have hV:X.A.in1.units+8<cLine:=by show X.A.units+1+8<cLine;omega
 unfold xE at h;split at h
 ·split at h
  ·rename_i n y t _ ks ea
   obtain⟨⟨hz,h1⟩,h⟩:=aA h;obtain⟨p,o,es,ep,rfl,hp,vb,hk,D⟩:=I.vh rx ea;obtain⟨u1,u2,rfl,r1,r2⟩:=kh rv;obtain⟨m,f1,f2⟩:=D.find I hV h1 r1;have hz:ks.length<U1:=hz
   have M:MeetsIn X.prog X.w (Builtin.«dict.setdefault» ⟨[.ref p.1,u1,u2],[]⟩) (fun A R s'=>A=X.A/\s'=s/\(∀tk u x,du ks y=some x->RT g none x u->R (.ok (.ret u)) { s with toks:=tk })/\(du ks y=none->∀s',(∃g',Le g g'/\Inv X pins φ g' (put L n (.aP (dput ks y t))) s')->R (.ok (.ret u2)) s')) :=
    .of_wp fun A R s' ⟨eA,fM,h1',h2'⟩=>by
     subst eA fM;unfold Builtin.«dict.setdefault»;refine Uq ?_;unfold Builtin.Dict.keyAndDefault;refine Uq (wpAny_notOrdered_dict D.typeIs ?_);show UR _ _ (pure (p.1,u1,some u2)) _ _ _
     refine Us ?_;show UR _ _ (if (p.1 == sysModules)=true then _ else (dictSetDefault p.1 u1 u2 >>= _)) _ _ _
     rw [if_neg (by rw [D.hs];exact WL)];refine Uq ?_;unfold dictSetDefault
     try with_reducible refine wpAny_holding ?_
     refine Uq (f1 _ _ (Uq (f2 _ _ _ ?_)));cases e:pl ks y with
     | none =>
      exact Uq (wpAny_rule (Uq (wpAny_updateDictKeys (hz:=by have:=D.hl;omega) (s:={ s' with toks:=s'.toks+m }) D.ho D.hd (Us (Us ⟨u2,rfl,h2' (pF e).1 _ (let ⟨g',l,J,_⟩:=D.new I hp vb hk h1 hz e r1 r2;⟨g',l,J⟩)⟩)))))
     | some i =>
      obtain⟨q,q1,q2,q3⟩:=pE e;obtain⟨d,d1⟩:=D.at q1;refine Uq (wpAny_dictEntries (s:={ s' with toks:=s'.toks+m }) D.ho D.hd ?_);rw [d1];exact Uq (wpAny_rule (Us (Us ⟨d.val,rfl,h1' _ _ _ q3 (D.h2 i q d q1 d1)⟩)))
   refine call_meetsIn Yz D.typeIs PySem.F.entry_dict_setdefault (PySem.F.args_dict_setdefault_3 _ _ _) M ⟨rfl,rfl,fun tk u x e r=>?_,fun e s' ⟨g',l,J⟩=>?_⟩
   ·simp only [e] at h
    cases h;exact(I.tok tk).ep r
   ·simp only [e] at h
    cases h;exact⟨g',l,J,r2.le l⟩
  ·cases h
 ·cases h
theorem wH {fz:Bool}:dN X (.type "list") (eV fz):=fun {_ _ g _ s _ _ _ _} I r h=>by
 unfold eV at h;split at h
 ·obtain⟨u,rfl,ru⟩:=bM r
  split at h
  ·exact u9 I ru (.inr (by assumption)) h
  ·exact u9 I ru (.inl (by assumption)) h
  ·rename_i ks ev
   obtain⟨h1,h⟩:=aA h;obtain⟨p,v⟩:=I.view ru;rw [ev] at v;obtain⟨a,o,es,ep,rfl,_,_,D⟩:=I.aP v;obtain⟨kvs,dk,hl,hk⟩:=D.j6 h1;refine PySem.W.kdl_call (PySem.W.kdl_dict (knd:=gS X.prog X.w) (kvs:=kvs) (ep:=ep) D.hs) I.ok.hd dk (by have:=D.hz;omega) fun h' tk acc c' kp hg mF=>?_
   refine j7 (t':=tk) (n:=c') (us:=acc.toList) I (dy ?_ fun i x v e1 e2=>?_) h kp (by simpa using hg)
   ·have:acc.size=kvs.length:=mF.1
    rw [Lm9,<- hl];simpa using this.symm
   ·obtain⟨k,z,f1,f2⟩:=mF.2 i v (by rw [<- Yn];exact e2)
    have ek:(kvs.map (·.1))[i]?=some k:=by rw [UT,f1];rfl
    rw [hk,e1] at ek;cases ek;rw [UT] at e1;obtain⟨q,q1,q2⟩:=UI.mp e1;obtain⟨e,e3⟩:=D.at q1;refine yD f2 (u:=e.key) ?_;rw [<- q2];exact D.h1 i q e q1 e3
  ·cases h
 ·cases h
theorem BV {i:Expr} (h:wG i=true):∀ov iv new,augStore i ov iv new=(do holding [new,ov,iv] (setItem ov iv new);release [new,ov,iv] [];pure .next):=fun _ _ _=>by
 cases i <;> first|rfl|cases h
theorem set_list {Md:VI} {w:WE} {A:Vq} {E:Ux->UB->Prop} {l:U9} {items:Array Ux} {n:Nat} {k:Int} {t:Tok} {v:Ux} {Q:Unit->UB->Prop} (ho:s.heap.get? l=some { cls:=.type "list",data:=.seq items n }) (h0:0<=k) (hfit:k<2 ^ 63) (hn:k<items.size)
  (hQ:Q () { s with heap:=s.heap.update l (VW (·.setIfInBounds k.toNat v)) }):UR (model Md w) A (setItem (.ref l) (.int k t) v) Q E s:=by
 have hl:=af ho;unfold setItem
 try with_reducible refine wpAny_holding ?_
 first|refine Uq (Us ?_)|skip
 refine Uq (wpAny_sequenceKey hl.typeIs (by decide) ?_);refine Uq (wpAny_callSpecial?_slot (name:=V5 "__setitem__") hl.typeIs slot_list_setitem
  (wpAny_call_entry slot_list_setitem hl.typeIs entry_list_setitem ?_ (args_list_setitem _ _ _)))
 show UR _ _ (Builtin.List.listSubscript? (.int k t) >>= _) _ _ s;refine Uq (wpAny_listSubscript_int (fitsIndex_of h0 hfit) ?_);clear hfit;obtain⟨j,rfl⟩:=Int.eq_ofNat_of_zero_le h0;have hj:j<items.size:=by omega
 have hx':items[j]?=some items[j]:=UE hj;show UR _ _ ((seqItemAt l j >>= fun r=>pure (r.map (j,·))) >>= _) _ _ s
 refine Uq (Uq (wpAny_seqItemAt ho rfl (Us ?_)));rw [hx'];show UR _ _ (setSeqItemAt l j v >>= _) _ _ s
 refine Uq (wpAny_setSeqItemAt ho rfl ?_)
 first
  | exact Uq (Us (Us ⟨.none,rfl,Us hQ⟩))
  | exact Us ⟨.none,rfl,Us hQ⟩
theorem cE.set {i:Nat} {t:T} {u:Ux} (h:cE g xs us) (r:RT g none t u):∀i,cE g (xs.set i t) (us.set i u):=by
 induction h with
 | nil=>intro i;simp;exact .nil
 | cons a b ih=>intro i;cases i with
  | zero=>exact .cons r b
  | succ i=>exact .cons a (ih i)
theorem pH (hu:X.A.units+20<cLine) {x y t:T} {xv yv tv:Ux} {L':aa} (I:Inv X pins φ g L s) (rx:RT g none x xv) (ry:RT g none y yv) (rt:RT g none t tv) (h:jr x y t L=some L'):UR (model X.prog X.w) X.A (setItem xv yv tv) (fun _ s'=>SP X pins g (.nx φ L') .next s') F0 s:=by
 unfold jr at h;split at h
 ·split at h
  ·split at h
   ·rename_i hc
    cases h;exact thn (BU I hu (by assumption) rx ry rt hc.1 hc.2) fun _ s' z=>z
   ·cases h
  ·rename_i ea
   split at h
   ·split at h
    ·rename_i hc
     cases h;obtain⟨_,rfl⟩:=ry.iI;obtain⟨a,its,cnt,rfl,e,rr,hl,hz⟩:=I.vc rx ea;have hn:=tN
     refine set_list e hc.1 (by omega) (by omega) ?_;obtain⟨g',l,J,_⟩:=I.qS (t':=s.toks) (f:=(·.setIfInBounds _ tv)) ea rx e (by simpa using rr.set rt (i:=0) _) (by simpa using hz);exact⟨g',l,J⟩
    ·cases h
   ·cases h
  ·cases h
 ·cases h
theorem BW {o i:Expr} {mo mi:SE} (hu:X.A.units+20<cLine) (ho:PE X o mo) (hi:PE X i mi) (he:PE X e m) (hs:iQ e=true):PS X (.Assign [.Subscript o i p2] e pos) (qJ mo mi m):=fun {pins φ g L s} I h=>by
 obtain⟨t,L1,e1,q1,h⟩:=gZ h;rw [show qJ mo mi m φ L=_ from q1];obtain⟨x,L2,e2,q2,h⟩:=gZ h;rw [q2];obtain⟨y,L3,e3,q3,h⟩:=gZ h;rw [q3];cases ep:jr x y t L3 with
 | none=>simp only [ep] at h;exact absurd rfl h
 | some L4 =>
  simp only [ep];exact wpAny_Assign_Subscript (thn (he I e1) fun tv s1 ⟨g1,l1,I1,r1⟩=>thn (ho I1 e2) fun xv s2 ⟨g2,l2,I2,r2⟩=>thn (hi I2 e3) fun yv s3 ⟨g3,l3,I3,r3⟩ =>
   thn (pH hu I3 (r2.le l3) r3 (r1.le (l2.trans l3)) ep) fun _ s4 z=>z.le ((l1.trans l2).trans l3)) (jv hs)
theorem BX {o i:Expr} {mo mi:SE} {op:Operator} (hu:X.A.units+20<cLine) (ho:PE X o mo) (hi:PE X i mi) (he:PE X e m) (hx:wG i=true):PS X (.AugAssign (.Subscript o i p2) op e pos) (xB op mo mi m):=fun {pins φ g L s} I h=>by
 obtain⟨x,L1,e1,q1,h⟩:=gZ h;rw [show xB op mo mi m φ L=_ from q1];obtain⟨y,L2,e2,q2,h⟩:=gZ h;rw [q2];obtain⟨z,L3,e3,q3,h⟩:=gZ h;rw [q3];obtain⟨t,L4,e4,q4,h⟩:=gZ h;rw [q4];obtain⟨r,L5,e5,q5,h⟩:=gZ h;rw [q5];cases ep:jr x y r L5 with
 | none=>simp only [ep] at h;exact absurd rfl h
 | some L6 =>
  simp only [ep];refine wpAny_AugAssign_Subscript_any (thn (ho I e1) fun xv s1 ⟨g1,l1,I1,r1⟩=>thn (hi I1 e2) fun yv s2 ⟨g2,l2,I2,r2⟩=>?_) (BV hx);have hg:UR (model X.prog X.w) X.A (getItem xv yv) (EP X pins φ g2 z L3) F0 s2:=by
   unfold Iz at e3;obtain⟨p,v⟩:=I2.view (r1.le l2);split at e3
   ·rename_i ev
    rw [ev] at v;obtain⟨h1,k1⟩:=aA e3;obtain⟨k2,k3⟩:=iE k1;subst k3;obtain⟨d,o,es,ep,rfl,_,_,D⟩:=I2.aP v;exact D.item I2 hu h1 r2 k2 fun tk u r=>(I2.tok tk).ep r
   ·cases e3
  exact thn hg fun zv s3 ⟨g3,l3,I3,r3⟩=>thn (he I3 e4) fun tv s4 ⟨g4,l4,I4,r4⟩=>thn (yf I4 (r3.le l4) r4 e5) fun rv s5 ⟨g5,l5,I5,r5⟩ =>
   thn (pH hu I5 ((r1.le l2).le ((l3.trans l4).trans l5)) (r2.le ((l3.trans l4).trans l5)) r5 ep) fun _ s6 w=>w.le ((((l1.trans l2).trans l3).trans l4).trans l5)
theorem FD {fz:Bool} {ks:List (T × T)} {o:Obj} {es:Array DictEntry} {ep tk:Nat} {h':Heap} {w:T} {L2:aa} (I:Inv X pins φ g L s) (h:mk fz (.aP ks) L=.ok w L2) (k:∀b u,s.heap.get? b=some u->h'.get? b=some u) (new:h'.get? s.heap.objs.size=some o) (hx:o.ExactDict) (hd:o.data=.dict es ep)
  (hz:ks.length<=U1) (hl:ks.length=es.size) (hn:(ks.map (·.1)).Nodup) (hm:gq (ks.map (·.1))=true) (hh:∀(i:Nat) x e,ks[i]?=some x->es[i]?=some e->e.hash=hT X.w x.1/\RT g none x.1 e.key/\RT g none x.2 e.val) :
  EP X pins φ g w L2 (.ref s.heap.objs.size) { s with heap:=h',toks:=tk }:=by
 have big:(s.heap.objs.size == sysModules)=false:=by
  have h1:sysModules<s.heap.objs.size:=Wz (by decide) (I.mod.glob.keeps I.bk).lt;simpa using VF h1
 have rt:∀(g1:G) (q:Option (U9 × U9)),Le g g1->td q s.heap.objs.size s.heap.objs.size->g1.kn q.isNone s.heap.objs.size o->RT g1 q (.aP ks) (.ref s.heap.objs.size):=fun g1 q l ht hk =>
  .aP ht hk hx hd hz hl ⟨hn,hm⟩ big (fun i x e e1 e2=>by rw [l.w,I.gw];exact(hh i x e e1 e2).1) (fun i x e e1 e2=>(hh i x e e1 e2).2.1.le l) fun i x e e1 e2=>(hh i x e e1 e2).2.2.le l
 unfold mk at h;split at h
 ·cases h
  exact⟨_,Le.lay I.fresh,I.laid k (UM _) new,rt _ none (Le.lay I.fresh) (.inl rfl) (.inl ar)⟩
 ·cases h
  refine⟨_,Le.new I.fresh,I.new k (UM _) new (rt _ _ (Le.new I.fresh) (.inr rfl) (.inl ar)),?_⟩;have:=I.rel.len
  exact .ref (p:=(s.heap.objs.size,s.heap.objs.size)) (by show at_ ((_,_)::g.α) _=_;rw [<- this];exact eW)
theorem BY {fz:Bool}:PE X (.Dict [] [] pos) (wq fz):=fun {_ _ _ _ s _ _} I h =>
 wpAny_Dict_empty (FD (tk:=s.toks) I h (fun b u e=>Ur _ e) (Uy _ rfl) ⟨rfl,rfl,rfl⟩ rfl (Vc _) rfl Xb rfl fun i x e e1 _=>by simp at e1)
end
theorem FE {prog:VI} {w:WE} {A:Vq} {E:Ux->UB->Prop} {s:UB} {a:U9} {o:Obj} {xs:Array Ux} {k:Nat} {Q:Option Ux->UB->Prop}
  (hx:s.heap.get? a=some o) (hc:o.cls=.type "list") (Je:o.data=.seq xs k) (hd:o.dict=none) (hA:A.handled=none)
  (h:∀h' tk e,aal s.heap h' e "AttributeError"->Q none { s with heap:=h',toks:=tk }) :
  UR (model prog w) A (getAttr? (.ref a) "keys") Q E s:=by
 obtain⟨c,aP,dat,sl⟩:=o;simp only at hc Je hd;subst hc Je hd;obtain⟨hp,g,d,tk,os⟩:=s;have hT:∀tk',(⟨hp,g,d,tk',os⟩:UB).TypeIs (.ref a) "list":=fun _=>⟨_,hx,rfl⟩
 have f1:=sub_AttributeError;have f3:=W3.lookup
 have f4:=W3.bind (.ref a);have f5:=am_list_getattr_none
 have hmiss:typeLookup (.type "list") "keys"=pure none:=by rw [typeLookup_type,builtinLookup_eq_fast];kernel_rfl
 unfold getAttr? getAttrBy? getAttrBy
 repeat (any_goals (first|assumption|exact hT _|((with_reducible show UR _ _ (call (Yy "list.__getattribute__") _ _) _ _ _);refine call_meets W3 (hT _) am_entry_list_getattribute (PySem.F.args_list_getattribute_2 _ _) (meets_getattribute_miss_list a xs k sl "keys" _ hmiss (by decide +kernel) (by decide)) ⟨hx,hA,fun h' tk' e hx'=>?_⟩)|wp_step))
 obtain⟨t',u',he⟩:=hx'.there;show UR _ _ (getattributeRaised _ _ _ _ _ _ _) _ _ _
 unfold getattributeRaised
 repeat (any_goals (first|assumption|wp_step))
 exact h _ _ _ hx'.of
theorem noKeysT {prog:VI} {w:WE} {A:Vq} {E:Ux->UB->Prop} {s:UB} {a:U9} {xs:Array Ux} {k:Nat} {sl:Array (Option Ux)} {Q:Option Ux->UB->Prop}
  (hx:s.heap.get? a=some ⟨.type "tuple",none,.seq xs k,sl⟩) (hA:A.handled=none)
  (h:∀h' tk e,aal s.heap h' e "AttributeError"->Q none { s with heap:=h',toks:=tk }) :
  UR (model prog w) A (getAttr? (.ref a) "keys") Q E s:=by
 obtain⟨hp,g,d,tk,os⟩:=s;have hT:∀tk',(⟨hp,g,d,tk',os⟩:UB).TypeIs (.ref a) "tuple":=fun _=>⟨_,hx,rfl⟩
 have f1:=sub_AttributeError;have f3:=WX.lookup
 have f4:=WX.bind (.ref a);have f5:=am_tuple_getattr_none
 have hmiss:typeLookup (.type "tuple") "keys"=pure none:=by rw [typeLookup_type,builtinLookup_eq_fast];kernel_rfl
 unfold getAttr? getAttrBy? getAttrBy
 repeat (any_goals (first|assumption|exact hT _|((with_reducible show UR _ _ (call (Yy "tuple.__getattribute__") _ _) _ _ _);refine call_meets WX (hT _) am_entry_tuple_getattribute (PySem.F.args_tuple_getattribute_2 _ _) (meets_getattribute_miss_tuple a xs k sl "keys" _ hmiss (by decide +kernel) (by decide)) ⟨hx,hA,fun h' tk' e hx'=>?_⟩)|wp_step))
 obtain⟨t',u',he⟩:=hx'.there;show UR _ _ (getattributeRaised _ _ _ _ _ _ _) _ _ _
 unfold getattributeRaised
 repeat (any_goals (first|assumption|wp_step))
 exact h _ _ _ hx'.of
theorem entry_dul:entryFor table "dict.update.loop"=some Builtin.«dict.update.loop»:=entryFor_of_tree (by kernel_rfl)
theorem plain_dul:plainId "dict.update.loop"=true:=by decide +kernel
theorem prsOf_at:∀{ys:List T} {ps:List (T × T)},prsOf ys=some ps->ys.length=ps.length/\∀(i:Nat) p,ps[i]?=some p->ys[i]?=some (.tup [p.1,p.2])
 | [],ps,h=>by cases h;exact⟨rfl,fun i p e=>by simp at e⟩
 | y::ys,ps,h=>by
  unfold prsOf at h;split at h
  ·rename_i k x T4 h2
   cases h;obtain⟨h3,h4⟩:=prsOf_at h2;refine⟨by simp [h3],fun i p e=>?_⟩;cases i with
   | zero=>cases e;rfl
   | succ i=>exact h4 i p (by simpa using e)
  ·cases h
theorem yE (ks:List (T × T)) (y t:T):(dput ks y t).length<=ks.length+1:=by
 unfold dput;split
 ·simp
 ·simp
theorem wI {ks:List (T × T)} {y t:T} {q:T->Prop} (h:∀p∈ks,q p.1) (hy:q y):∀p∈dput ks y t,q p.1:=by
 unfold dput;split
 ·intro p hp
  obtain⟨p',h1,rfl⟩:=Uz.mp hp;split
  ·exact h p' h1
  ·exact h p' h1
 ·intro p hp
  rcases UH.mp hp with h1|h1
  ·exact h p h1
  ·have:p=(y,t):=by simpa using h1
   rw [this];exact hy
theorem BZ (ps:List (T × T)):(qC ps).length<=ps.length:=by
 have key:∀(ps acc:List (T × T)),(ps.foldl (fun acc p=>dput acc p.1 p.2) acc).length<=acc.length+ps.length:=by
  intro ps;induction ps with
  | nil=>intro acc;simp
  | cons p r ih =>
   intro acc;have z:=ih (dput acc p.1 p.2)
   have z2:=yE acc p.1 p.2;rw [X1,UA];omega
 have:=key ps [];unfold qC;simpa using this
theorem yF {ps:List (T × T)} {q:T->Prop} (h:∀p∈ps,q p.1):∀p∈qC ps,q p.1:=by
 have key:∀(ps acc:List (T × T)),(∀p∈ps,q p.1)->(∀p∈acc,q p.1)->∀p∈ps.foldl (fun acc p=>dput acc p.1 p.2) acc,q p.1:=by
  intro ps;induction ps with
  | nil=>intro acc _ h;exact h
  | cons p r ih =>
   intro acc h1 h2;exact ih _ (fun p hp=>h1 p (Uw _ hp)) (wI h2 (h1 p Uv))
 exact key ps [] h fun p hp=>by simp at hp
theorem yG {ps:List (T × T)} {i:Nat} {p:T × T} (h:ps[i]?=some p):qC (ps.take (i+1))=dput (qC (ps.take i)) p.1 p.2:=by
 unfold qC;rw [aaa,h,List.foldl_append];rfl
theorem yH {ps:List (T × T)} {i:Nat} {p:T × T} (hm:gq (ps.map (·.1))=true) (h:ps[i]?=some p):dM (qC (ps.take i)) p.1:=by
 unfold dM;unfold gq at hm ⊢;rw [Xm] at hm ⊢;have part:∀(f:T->Bool),(ps.map (·.1)).all f=true->(p.1::(qC (ps.take i)).map (·.1)).all f=true:=fun f hf=>by
  have hf:=Uu.mp hf;refine Uu.mpr fun x hx=>?_
  rcases UN.mp hx with rfl|hx
  ·exact hf _ (UP (Ve h))
  ·obtain⟨q,hq,rfl⟩:=Uz.mp hx
   exact yF (q:=fun x=>f x=true) (fun q hq=>hf _ (UP (V4 hq))) q hq
 rcases hm with hm|hm
 ·exact .inl (part _ hm)
 ·exact .inr (part _ hm)
section
variable {X:Cx} {pins:aY} {φ:Fr} {g g0:G} {L L':aa} {s:UB} {ys:List T} {us:List Ux} {ps:List (T × T)} {a it l:U9} {ol:Obj} {A:Vq} {R:Result->UB->Prop}
theorem tS (hu:A.in1.units+8<cLine) (ch:List U9) (W:Nat->Heap->Prop) (hm:gq (ps.map (·.1))=true) (hlen:ps.length<=100000) (qE:∀c∈ch,c≠a)
  (frame:∀i h h',W i h->(∀c,c≠a->h'.get? c=h.get? c)->W i h')
  (next:∀{E:Ux->UB->Prop} (i:Nat) (s':UB) (g':G) (p:T × T) (Q:Option Ux->UB->Prop),ps[i]?=some p->Le g0 g'->a<s'.heap.objs.size->(∀h1,(∀b o,b∉ch->s'.heap.get? b=some o->h1.get? b=some o)->Inv X pins φ g' (.aP (qC (ps.take i))::L) { s' with heap:=h1 })->W i s'.heap ->
   (∀h1 t o uk uv n,W (i+1) h1->(∀b o,b∉ch->s'.heap.get? b=some o->h1.get? b=some o)->h1.get? t=some o->o.cls=.type "tuple"->o.data=.seq #[uk,uv] n->RT g' none p.1 uk->RT g' none p.2 uv->Q (some (.ref t)) { s' with heap:=h1 })->UR (model X.prog X.w) A.in1 (pyNext (.ref it)) Q E s')
  (last:∀{E:Ux->UB->Prop} (s':UB) (Q:Option Ux->UB->Prop),W ps.length s'.heap->(∀h2,(∀b o,b∉ch->s'.heap.get? b=some o->h2.get? b=some o)->Q none { s' with heap:=h2 })->UR (model X.prog X.w) A.in1 (pyNext (.ref it)) Q E s')
  (fin:∀s' g',Le g0 g'->Inv X pins φ g' (.aP (qC ps)::L) s'->RT g' none (.ref L.length) (.ref a)->R (.ok (.ret .none)) s') :
  ∀(k i:Nat) (s':UB) (g':G),ps.length - i=k->i<=ps.length->Le g0 g'->Inv X pins φ g' (.aP (qC (ps.take i))::L) s'->RT g' none (.ref L.length) (.ref a)->(∀c∈ch,fY X pins g'.H c)->W i s'.heap ->
   UR (model X.prog X.w) A.in1 (Builtin.«dict.update.loop» ⟨[.ref a,.ref it,rawInt (i:Int),.none],[]⟩) (fun fin s'=>match fin with|.done f=>R (.ok f) s'|.again c'=>c'.quiet=true/\codeAny (model X.prog X.w) A c' R s') (fun e s'=>R (.error e) s') s':=by
 intro k;induction k with
 | zero =>
  intro i s' g' hk hi l0 J rd hf hW;obtain rfl:i=ps.length:=by omega
  unfold Builtin.«dict.update.loop»;dsimp only [rawInt];refine Uq (last s' _ hW fun h2 hx=>?_);dsimp only;show UR _ _ (Builtin.Dict.addKeywords a [] >>= _) _ _ _
  refine Uq (Us (Us ?_));rw [Vu (UM _)] at J;exact fin _ g' l0 (J.turned (t':=s'.toks) (ch:=ch) hx hf) rd
 | succ k ih =>
  intro i s' g' hk hi l0 J rd hf hW;have Rw:i<ps.length:=by omega
  have ep:=Ge9 Rw;have MM:a<s'.heap.objs.size:=by
   obtain⟨p,o,es,ep,ea,hp,vb,B0,D2⟩:=J.vh rd (by unfold at_;rw [if_pos rfl]);cases ea;exact UX D2.ho
  unfold Builtin.«dict.update.loop»;dsimp only [rawInt];refine Uq (next i s' g' _ _ ep l0 MM (fun h1 k=>J.turned (t':=s'.toks) (ch:=ch) k hf) hW fun h1 t ot uk uv n Rx tw LU FF MN rk rv=>?_);dsimp only;have J1:=J.turned (t':=s'.toks) (ch:=ch) tw hf
  have Ry:YA { s' with heap:=h1 } (.ref t) "tuple":=⟨ot,LU,FF⟩;refine Uq (wpAny_holding (Uq ?_));have MO:∀{E':Ux->UB->Prop} {Q':List Ux->UB->Prop},Q' [uk,uv] { s' with heap:=h1 }->UR (model X.prog X.w) A.in1 (ZN (.ref t)) Q' E' { s' with heap:=h1 }:=fun {E' Q'} hq'=>by
   unfold ZN;refine Uq (wpAny_typeOf Ry ?_);rw [if_pos (by decide)];refine Uq (wpAny_seqItems LU MN (Us ?_));exact hq'
  refine wpAny_tryCatch (MO ?_);dsimp only;have hz:(qC (ps.take i)).length<U1:=by
   have z:=BZ (ps.take i);rw [Vj] at z;rw [V3];omega
  refine wpAny_holding (wpAny_mono (vm (n:=L.length) (E:=fun e s'=>R (.error e) s') J1 hu (by unfold at_;rw [if_pos rfl]) rd rk rv hz (yH hm ep)) (fun _ s2 h2=>?_) fun _ _ e=>e);obtain⟨⟨g2,l2,J2,hH⟩,Rz⟩:=h2;refine Us ?_;refine⟨plainId_quiet plain_dul _,codeAny_builtin entry_dul ?_⟩;rw [VM plain_dul _];have ei:((i:Int)+1)=((i+1:Nat):Int):=by push_cast;rfl
  rw [ei];have J3:Inv X pins φ g2 (.aP (qC (ps.take (i+1)))::L) s2:=by
   rw [yG ep];have z:put (.aP (qC (ps.take i))::L) L.length (.aP (dput (qC (ps.take i)) ps[i].1 ps[i].2))=.aP (dput (qC (ps.take i)) ps[i].1 ps[i].2)::L:=by unfold put;rw [if_pos rfl]
   rw [<- z];exact J2
  exact ih (i+1) s2 g2 (by omega) (by omega) (l0.trans l2) J3 (rd.le l2) (fun c hc=>⟨by rw [hH c (qE c hc)];exact(hf c hc).1,(hf c hc).2⟩) (frame _ _ _ Rx Rz)
theorem yI {u:Ux} {x y:T} {g':G} {s':UB} (J:Inv X pins φ g' L s') (ru:RT g' none (.tup [x,y]) u):∃t o uk uv n,u=.ref t/\s'.heap.get? t=some o/\o.cls=.type "tuple"/\o.data=.seq #[uk,uv] n/\RT g' none x uk/\RT g' none y uv:=by
 obtain⟨t,RA,et,⟨ot,LU,FF,n,MN⟩,rt,_⟩:=J.tup ru;obtain⟨uk,uv,e2,rk,rv⟩:=kh rt;have e3:RA = #[uk,uv]:=by apply Array.ext';simpa using e2
 subst e3;exact⟨t,ot,uk,uv,n,et,LU,FF,MN,rk,rv⟩
theorem yJ {i:Nat} {p:T × T} (r0:cE g0 ys us) (hp:prsOf ys=some ps) (ep:ps[i]?=some p):∃u,us[i]?=some u/\RT g0 none (.tup [p.1,p.2]) u:=by
 have ey:=(prsOf_at hp).2 i p ep;have hl:=US r0
 have hi:=(UO.mp ey).1;have eu:=Ge9 (l:=us) (i:=i) (by omega)
 exact⟨_,eu,wx r0 i _ _ ey eu⟩
theorem yK (r0:cE g0 ys us) (hp:prsOf ys=some ps):us.length<=ps.length:=by
 have h1:=US r0;have h2:=(prsOf_at hp).1
 omega
theorem vn {t:T} {u:Ux} {w:T} (hu:X.A.units+20<cLine) (I:Inv X pins φ g L s) (ru:RT g none t u) (ht:vw L t=.lst ys\/vw L t=.tup ys) (h:xF ys L=.ok w L'):UR (model X.prog X.w) X.A (call (.type "dict") [u]) (EP X pins φ g w L') F0 s:=by
 have hV:X.A.in1.in1.units+8<cLine:=by show X.A.units+1+1+8<cLine;omega
 unfold xF at h;split at h
 ·rename_i ps B1
  obtain⟨⟨hm,hlen⟩,h⟩:=aA h;cases h;have xV:g.H s.heap.objs.size=none:=I.fresh
  have big:(s.heap.objs.size == sysModules)=false:=by
   have h1:sysModules<s.heap.objs.size:=Wz (by decide) (I.mod.glob.keeps I.bk).lt;simpa using VF h1
  have J0:=I.new (c:=.aP []) (o:={ cls:=.type "dict",data:=.dict #[] }) (h':=s.heap.push { cls:=.type "dict",data:=.dict #[] }) (t':=s.toks) (fun b u e=>Ur _ e) (UM _) (Uy _ rfl)
   (.aP (.inr rfl) (.inl ar) ⟨rfl,rfl,rfl⟩ rfl (Vc _) rfl ⟨Xb,rfl⟩ big (fun i x e e1 _=>by simp at e1) (fun i x e e1 _=>by simp at e1) fun i x e e1 _=>by simp at e1)
  have l0:=Le.new (o:={ cls:=.type "dict",data:=.dict #[] }) xV;have rd:RT (g.new s.heap.objs.size { cls:=.type "dict",data:=.dict #[] }) none (.ref L.length) (.ref s.heap.objs.size):=by
   have:=I.rel.len;exact .ref (p:=(s.heap.objs.size,s.heap.objs.size)) (by show at_ ((_,_)::g.α) _=_;rw [<- this];exact eW)
  refine callType_codes (Q₁:=fun obj s₁=>obj=.ref s.heap.objs.size/\s₁={ s with heap:=s.heap.push { cls:=.type "dict",data:=.dict #[] } }) ZO (YK _) Zt (kt_code_dict_new _ ⟨rfl,rfl⟩) ?_;rintro obj s₁ ⟨rfl,rfl⟩;have tU:YA { s with heap:=s.heap.push { cls:=.type "dict",data:=.dict #[] } } (.ref s.heap.objs.size) "dict":=⟨_,Uy _ rfl,rfl⟩
  refine⟨tU,Zg _ _,?_⟩;unfold Builtin.«dict.__init__»;refine Uq ?_;unfold Zh;refine Uq (wpAny_notOrdered_dict tU ?_);show UR _ _ (pure (s.heap.objs.size,[u])) _ _ _
  refine Us ?_;show UR _ _ (W4 "dict.__init__" s.heap.objs.size u [] .none) _ _ _
  unfold W4;obtain⟨q,v⟩:=I.view ru;rcases ht with ht|ht
  ·rw [ht] at v
   obtain⟨l,its,n,rfl,hg,rr,hz⟩:=I.lst v;have yL:(s.heap.push { cls:=.type "dict",data:=.dict #[] }).get? l=some { cls:=.type "list",data:=.seq its n }:=Ur _ hg
   refine Uq (wpAny_typeOf (T:="list") ⟨_,yL,rfl⟩ ?_);rw [if_pos (by decide)];refine Uq (FE yL rfl rfl rfl I.ok.hd fun h1 B2 e hx=>?_);rw [if_pos (show(none:Option Ux).isNone=true from rfl)];refine Uq (wpAny_rule ?_);have B3:=hx.keeps _ _ yL
   have J1:=J0.kept (t':=B2) (h':=h1) fun b o e=>hx.keeps b o e
   refine Uq (wpAny_pyIter_list (s:={ s with heap:=h1,toks:=B2 }) (af B3) ?_);refine Us ⟨plainId_quiet plain_dul _,codeAny_builtin entry_dul ?_⟩;rw [VM plain_dul _];have J2:=J1.kept (t':=B2) (h':=h1.push { cls:=.type "list_iterator",data:=.fields #[.ref l,.int 0 0] }) fun b o e=>Ur _ e
   have hsz:s.heap.objs.size<h1.objs.size:=UX (hx.keeps _ _ (Uy s.heap (o:={ cls:=.type "dict",data:=.dict #[] }) rfl));refine tS (A:=X.A.in1) (a:=s.heap.objs.size) (it:=h1.objs.size) (L:=L) hV [h1.objs.size] (fun i h=>h.get? l=some { cls:=.type "list",data:=.seq its n }/\h.IsListIter h1.objs.size l i) hm hlen (fun c hc=>by rw [UY.mp hc];exact VF hsz)
    (fun i h h' ⟨q0,o,q1,q2⟩ e=>⟨(e l (U6 (UX hg))).trans q0,o,(e _ (VF hsz)).trans q1,q2⟩) (fun i s' g' p Q ep lg _ J ⟨pJ,ht⟩ hQ=>?_) (fun s' Q ⟨pJ,ht⟩ hQ=>?_) (fun s' g' lg J Jf=>?_)
    ps.length 0 _ _ rfl (Vc _) (Le.refl _) J2 rd (fun c hc=>by rw [UY.mp hc];exact J1.th (UM _) (J1.hok.fresh (UM _))) ⟨Ur _ B3,_,Uy _ rfl,rfl,rfl⟩
   ·obtain⟨u,eu,ru⟩:=yJ (rr.le l0) B1 ep
    refine wpAny_pyNext_list_item (x:=u) ht (af pJ) (by simpa using eu) fun h2 a b=>?_
    have kp:∀c o,c∉[h1.objs.size]->s'.heap.get? c=some o->h2.get? c=some o:=fun c o hc e=>(b.2 c fun z=>hc (by simp [z])).trans e
    obtain⟨t,o,uk,uv,n,rfl,e1,e2,e3,rk,rv⟩:=yI (J h2 kp) (ru.le lg);exact hQ h2 t o uk uv n ⟨kp l _ (by simpa using U6 (Wz (UX hg) hsz)) pJ,a⟩ kp e1 e2 e3 rk rv
   ·exact wpAny_pyNext_list_end I.ok.hd ht (af pJ) (by simpa using yK (rr.le l0) B1) fun h2 hx=>hQ h2 fun c o hc e=>hx c o (fun z=>hc (by simp [z])) e
   ·exact⟨rfl,g',l0.trans lg,J,Jf⟩
  ·rw [ht] at v
   obtain⟨l,its,n,sl,rfl,hg,rr,hz⟩:∃l its n sl,u=.ref l/\s.heap.get? l=some ⟨.type "tuple",none,.seq its n,sl⟩/\cE g ys its.toList/\ys.length<=U1:=by
    have v':=v;cases v with
    | tup hk hc hd hz hl hi =>
     rename_i a o its n;obtain⟨oc,od,dt,sl⟩:=o;obtain⟨h1,h2⟩:=hc;simp only at h1 h2 hd;subst h1 h2 hd;exact⟨_,_,_,_,rfl,I.kn hk,dy (by simpa using hl) fun i x v e1 e2=>hi i x v e1 (by simpa using e2),hz⟩
   have tV:∀{h:Heap},h.get? l=some ⟨.type "tuple",none,.seq its n,sl⟩->h.IsTuple l its:=fun e=>⟨_,e,rfl,n,rfl⟩
   have yL:(s.heap.push { cls:=.type "dict",data:=.dict #[] }).get? l=some ⟨.type "tuple",none,.seq its n,sl⟩:=Ur _ hg;refine Uq (wpAny_typeOf (T:="tuple") ⟨_,yL,rfl⟩ ?_);rw [if_pos (by decide)];refine Uq (noKeysT yL I.ok.hd fun h1 B2 e hx=>?_);rw [if_pos (show(none:Option Ux).isNone=true from rfl)];refine Uq (wpAny_rule ?_);have B3:=hx.keeps _ _ yL
   have J1:=J0.kept (t':=B2) (h':=h1) fun b o e=>hx.keeps b o e
   refine Uq (wpAny_pyIter_tuple (s:={ s with heap:=h1,toks:=B2 }) (tV B3) ?_);refine Us ⟨plainId_quiet plain_dul _,codeAny_builtin entry_dul ?_⟩;rw [VM plain_dul _];have J2:=J1.kept (t':=B2) (h':=h1.push { cls:=.type "tuple_iterator",data:=.fields #[.ref l,.int 0 0] }) fun b o e=>Ur _ e
   have hsz:s.heap.objs.size<h1.objs.size:=UX (hx.keeps _ _ (Uy s.heap (o:={ cls:=.type "dict",data:=.dict #[] }) rfl));refine tS (A:=X.A.in1) (a:=s.heap.objs.size) (it:=h1.objs.size) (L:=L) hV [h1.objs.size] (fun i h=>h.get? l=some ⟨.type "tuple",none,.seq its n,sl⟩/\h.IsTupleIter h1.objs.size l i) hm hlen (fun c hc=>by rw [UY.mp hc];exact VF hsz)
    (fun i h h' ⟨q0,o,q1,q2⟩ e=>⟨(e l (U6 (UX hg))).trans q0,o,(e _ (VF hsz)).trans q1,q2⟩) (fun i s' g' p Q ep lg _ J ⟨pJ,ht⟩ hQ=>?_) (fun s' Q ⟨pJ,ht⟩ hQ=>?_) (fun s' g' lg J Jf=>?_)
    ps.length 0 _ _ rfl (Vc _) (Le.refl _) J2 rd (fun c hc=>by rw [UY.mp hc];exact J1.th (UM _) (J1.hok.fresh (UM _))) ⟨Ur _ B3,_,Uy _ rfl,rfl,rfl⟩
   ·obtain⟨u,eu,ru⟩:=yJ (rr.le l0) B1 ep
    refine wpAny_pyNext_tuple_item (x:=u) ht (tV pJ) (by simpa using eu) fun h2 a b=>?_
    have kp:∀c o,c∉[h1.objs.size]->s'.heap.get? c=some o->h2.get? c=some o:=fun c o hc e=>(b.2 c fun z=>hc (by simp [z])).trans e
    obtain⟨t,o,uk,uv,n,rfl,e1,e2,e3,rk,rv⟩:=yI (J h2 kp) (ru.le lg);exact hQ h2 t o uk uv n ⟨kp l _ (by simpa using U6 (Wz (UX hg) hsz)) pJ,a⟩ kp e1 e2 e3 rk rv
   ·exact wpAny_pyNext_tuple_end I.ok.hd ht (tV pJ) (by simpa using yK (rr.le l0) B1) fun h2 hx=>hQ h2 fun c o hc e=>hx c o (fun z=>hc (by simp [z])) e
   ·exact⟨rfl,g',l0.trans lg,J,Jf⟩
 ·cases h
theorem wJ (hu:X.A.units+20<cLine):dN X (.type "dict") jt:=fun I r h=>by
 unfold jt at h;split at h
 ·obtain⟨u,rfl,ru⟩:=bM r
  split at h
  ·exact vn hu I ru (.inl (by assumption)) h
  ·exact vn hu I ru (.inr (by assumption)) h
  ·cases h
 ·cases h
end
end M
namespace L2
open PySem PySem.W PyProof.Rows
noncomputable def cK {α:Type} (lt:Nat->Nat->Bool) (n:Nat):KasT α->(α->Prop)->Prop
 | .ret a,Q=>Q a
 | .ask i j k,Q=>i<n/\j<n/\cK lt n (k (lt i j)) Q
theorem cK.mono {α:Type} {lt:Nat->Nat->Bool} {n:Nat} {Q Q':α->Prop} (hq:∀a,Q a->Q' a):∀{t:KasT α},cK lt n t Q->cK lt n t Q'
 | .ret _,h=>hq _ h
 | .ask _ _ _,⟨h1,h2,h3⟩=>⟨h1,h2,cK.mono hq h3⟩
theorem cK.bind {α β:Type} {lt:Nat->Nat->Bool} {n:Nat} {f:α->KasT β} {Q:β->Prop}:∀{t:KasT α},cK lt n t (fun a=>cK lt n (f a) Q)->cK lt n (t.bind f) Q
 | .ret _,h=>h
 | .ask _ _ _,⟨h1,h2,h3⟩=>⟨h1,h2,cK.bind h3⟩
theorem cK.wp {α:Type} {lt:Nat->Nat->Bool} {n:Nat} {Q:α->Prop} {cmp:Nat->Nat->(Bool->UB->Prop)->UB->Prop} {R:α->UB->Prop} {s:UB} (hc:∀i j C,i<n->j<n->C (lt i j) s->cmp i j C s) (hq:∀a,Q a->R a s) :
  ∀{t:KasT α},cK lt n t Q->t.kasWp cmp R s
 | .ret _,h=>hq _ h
 | .ask _ _ _,⟨h1,h2,h3⟩=>hc _ _ _ h1 h2 (cK.wp hc hq h3)
structure WO (lt:Nat->Nat->Bool):Prop where
 wK:∀a b,lt a b=true->lt b a=false
 tr:∀a b c,lt b a=false->lt c b=false->lt c a=false
theorem WO.DD {lt:Nat->Nat->Bool} (W:WO lt) (a:Nat):lt a a=false:=by
 cases h:lt a a with
 | false=>rfl
 | true=>have:=W.wK a a h;rw [h] at this;exact this
theorem WO.up {lt:Nat->Nat->Bool} (W:WO lt) {a b c:Nat} (h1:lt a b=true) (h2:lt c b=false):lt a c=true:=by
 cases h:lt a c with
 | true=>rfl
 | false=>have:=W.tr b c a h2 h;rw [h1] at this;exact this.symm
noncomputable def qW (lt:Nat->Nat->Bool) (p:Array Nat) (m:Nat):Prop:=∀i j,i<j->j<m->lt (p.getD j 0) (p.getD i 0)=false
noncomputable def xn (lt:Nat->Nat->Bool) (p:Array Nat) (m:Nat):Prop:=∀i j,i<j->j<m->lt (p.getD i 0) (p.getD j 0)=false
noncomputable def Arr (n:Nat) (p:Array Nat):Prop:=p.size=n/\p.toList.Perm (Vx n)
theorem Arr.lt {n:Nat} {p:Array Nat} (h:Arr n p) {k:Nat} (hk:k<n):p.getD k 0<n:=by
 have hs:k<p.size:=by rw [h.1];exact hk
 have e:p.getD k 0=p[k]:=by simp [Wj,hs]
 rw [e];have m:p[k]∈p.toList:=by simp
 exact Vv.mp (h.2.mem_iff.mp m)
theorem Arr.of {n:Nat} {p q:Array Nat} (h:Arr n p) (hp:q.Perm p):Arr n q:=⟨hp.size_eq.trans h.1,(Array.perm_iff_toList_perm.mp hp).trans h.2⟩
theorem dO {p:Array Nat} {i j:Nat} (hj:j<=p.size) (k:Nat):(kas_rev p i j).getD k 0=if i<=k/\k<j then p.getD (i+j - 1 - k) 0 else p.getD k 0:=by
 rw [U7,U7,U7];unfold kas_rev;rw [getElem?_mirror_all hj k];split <;> rfl
theorem qX {p:Array Nat} {src d:Nat} (hs:src<p.size) (hd:d<=src) (k:Nat):(bubble p src d).getD k 0=if k=src - d then p.getD src 0 else if src - d<k/\k<=src then p.getD (k - 1) 0 else p.getD k 0:=by
 rw [U7,U7,U7,U7];rw [getElem?_bubble hs d hd k];split
 ·rfl
 ·split <;> rfl
theorem Arr.rev {n:Nat} {p:Array Nat} (h:Arr n p) (i j:Nat):Arr n (kas_rev p i j):=h.of (mirror_perm _ _ _ _)
theorem Arr.RB {n:Nat} {p:Array Nat} (h:Arr n p) (i j:Nat):Arr n (bubble p i j):=h.of (bubble_perm _ _ _)
section
variable {lt:Nat->Nat->Bool} {n:Nat} (W:WO lt)
include W
theorem qW.more {p:Array Nat} {m:Nat} (h:qW lt p m) (h1:1<=m) (hl:lt (p.getD m 0) (p.getD (m - 1) 0)=false):qW lt p (m+1):=fun i j tQ hj=>by
 by_cases e:j=m
 ·subst e
  by_cases e2:i=j - 1
  ·subst e2;exact hl
  ·exact W.tr _ _ _ (h i (j - 1) (by omega) (by omega)) hl
 ·exact h i j tQ (by omega)
theorem xn.more {p:Array Nat} {m:Nat} (h:xn lt p m) (h1:1<=m) (hl:lt (p.getD (m - 1) 0) (p.getD m 0)=false):xn lt p (m+1):=fun i j tQ hj=>by
 by_cases e:j=m
 ·subst e
  by_cases e2:i=j - 1
  ·subst e2;exact hl
  ·exact W.tr _ _ _ hl (h i (j - 1) (by omega) (by omega))
 ·exact h i j tQ (by omega)
theorem tW {p:Array Nat} (hp:Arr n p):∀(f m:Nat),1<=m->m+f<=n->qW lt p m ->
  cK lt n (kas_asc p f m) (fun r=>m<=r/\r<=m+f/\qW lt p r/\(r<m+f->lt (p.getD r 0) (p.getD (r - 1) 0)=true))
 | 0,m,_,_,h=>⟨UM _,UM _,h,fun z=>absurd z (by omega)⟩
 | f+1,m,h1,h2,h=>by
  refine⟨hp.lt (by omega),hp.lt (by omega),?_⟩;cases e:lt (p.getD m 0) (p.getD (m - 1) 0) with
  | true=>exact⟨UM _,by omega,h,fun _=>e⟩
  | false =>
   show cK lt n (kas_asc p f (m+1)) _;exact(tW hp f (m+1) (by omega) (by omega) (h.more W h1 e)).mono fun r ⟨a,b,c,d⟩=>⟨by omega,by omega,c,fun z=>d (by omega)⟩
noncomputable def Jg (lt:Nat->Nat->Bool) (p:Array Nat) (a b:Nat):Prop:=∀i j,a<=i->i<b->a<=j->j<b->lt (p.getD i 0) (p.getD j 0)=false
omit W in
theorem xn.rev {p:Array Nat} {a m:Nat} (hm:m<=p.size) (h:xn lt p m) (he:Jg lt p a m):xn lt (kas_rev p a m) m:=fun i j tQ hj=>by
 rw [dO hm,dO hm];by_cases h1:a<=i
 ·rw [if_pos ⟨h1,by omega⟩,if_pos ⟨by omega,hj⟩]
  exact he _ _ (by omega) (by omega) (by omega) (by omega)
 ·rw [if_neg (by omega)]
  by_cases h2:a<=j
  ·rw [if_pos ⟨h2,hj⟩]
   exact h _ _ (by omega) (by omega)
  ·rw [if_neg (by omega)]
   exact h i j tQ hj
theorem lQ:∀(f:Nat) (p:Array Nat) (m q:Nat),Arr n p->q+1<=m->m+f=n->xn lt p m->Jg lt p (m - (q+1)) m ->
  cK lt n (kas_desc f p m q) (fun r=>Arr n r.1/\r.2.1<=n/\r.2.2+1<=r.2.1/\xn lt r.1 r.2.1/\Jg lt r.1 (r.2.1 - (r.2.2+1)) r.2.1)
 | 0,p,m,q,hp,hq,hm,h,he=>⟨hp,by show m<=n;omega,hq,h,he⟩
 | f+1,p,m,q,hp,hq,hm,h,he=>by
  have hB:m - 1<m:=by omega
  have hA:m - (q+1)<=m - 1:=by omega
  have B4:m<n:=by omega
  have FH:m+1+f=n:=by omega
  have l0:=hp.lt B4;have l1:=hp.lt (Wz hB B4)
  refine⟨l0,l1,?_⟩;have hsz:m<=p.size:=by rw [hp.1];exact XU B4
  have one:∀{p:Array Nat},Jg lt p (m+1 - (0+1)) (m+1):=fun i j a1 a2 a3 a4=>by
   obtain rfl:i=j:=by omega
   exact W.DD _
  cases e:lt (p.getD m 0) (p.getD (m - 1) 0) with
  | true =>
   show cK lt n (if q > 0 then _ else _) _;split
   ·have hr:=h.rev hsz he
    have e1:(kas_rev p (m - (q+1)) m).getD m 0=p.getD m 0:=by rw [dO hsz,if_neg (fun z=>V8 _ z.2)]
    have hl:lt ((kas_rev p (m - (q+1)) m).getD (m - 1) 0) ((kas_rev p (m - (q+1)) m).getD m 0)=false:=by
     rw [e1,dO hsz,if_pos ⟨hA,hB⟩];have e2:m - (q+1)+m - 1 - (m - 1)=m - (q+1):=by omega
     rw [e2];exact W.tr _ _ _ (W.wK _ _ e) (he (m - (q+1)) (m - 1) (UM _) (YO hA hB) hA hB)
    exact lQ f _ (m+1) 0 (hp.rev _ _) (X4 _ _) FH (hr.more W (UW (X4 1 q) hq) hl) one
   ·exact lQ f p (m+1) 0 hp (X4 _ _) FH (h.more W (UW (X4 1 q) hq) (W.wK _ _ e)) one
  | false =>
   show cK lt n (.ask (p.getD (m - 1) 0) (p.getD m 0) _) _;refine⟨l1,l0,?_⟩;cases e2:lt (p.getD (m - 1) 0) (p.getD m 0) with
   | true=>exact⟨hp,XU B4,hq,h,he⟩
   | false =>
    show cK lt n (kas_desc f p (m+1) (q+1)) _;have lo:∀i,m+1 - (q+1+1)<=i->m - (q+1)<=i:=fun i a=>by omega
    have hi:∀i,i<m+1->i≠m->i<m:=fun i a b=>by omega
    refine lQ f p (m+1) (q+1) hp (ZG hq) FH (h.more W (UW (X4 1 q) hq) e2) fun i j a1 a2 a3 a4=>?_
    by_cases c1:i=m
    ·by_cases c2:j=m
     ·rw [c1,c2];exact W.DD _
     ·rw [c1];exact W.tr _ _ _ (he (m - 1) j hA hB (lo j a3) (hi j a4 c2)) e
    ·by_cases c2:j=m
     ·rw [c2];exact W.tr _ _ _ e2 (he i (m - 1) (lo i a1) (hi i a2 c1) hA hB)
     ·exact he i j (lo i a1) (hi i a2 c1) (lo j a3) (hi j a4 c2)
theorem qY {p:Array Nat} {m:Nat} (hp:Arr n p) (h1:1<=m) (hm:m<=n) (h:xn lt p m):cK lt n (kas_tail3 m n p) (fun r=>Arr n r.2/\1<=r.1/\r.1<=n/\qW lt r.2 r.1):=by
 have hsz:m<=p.size:=by rw [hp.1];exact hm
 have hr:qW lt (kas_rev p 0 m) m:=fun i j tQ hj=>by
  rw [dO hsz,dO hsz,if_pos ⟨by omega,hj⟩,if_pos ⟨by omega,by omega⟩];exact h _ _ (by omega) (by omega)
 refine cK.bind ((tW W (hp.rev 0 m) (n - m) m h1 (by omega) hr).mono fun r ⟨a,b,c,_⟩=>?_);exact⟨hp.rev 0 m,by show 1<=r;omega,by show r<=n;omega,c⟩
theorem kZ {p:Array Nat} {m:Nat} (hp:Arr n p) (hm:m+1<=n) (h:xn lt p (m+1)):cK lt n (kas_descPart m n p) (fun r=>Arr n r.2/\1<=r.1/\r.1<=n/\qW lt r.2 r.1):=by
 refine cK.bind ((lQ W (n - (m+1)) p (m+1) 0 hp (by omega) (by omega) h fun i j a1 a2 a3 a4=>?_).mono fun r ⟨a,b,c,d,e⟩=>?_)
 ·obtain rfl:i=j:=by omega
  exact W.DD _
 ·split
  ·exact qY W (a.rev _ _) (by omega) b (d.rev (by rw [a.1];exact b) e)
  ·exact qY W a (by omega) b d
theorem yM {p:Array Nat} (hp:Arr n p) (h1:1<=n):cK lt n (kas_count n p) (fun r=>Arr n r.2/\1<=r.1/\r.1<=n/\qW lt r.2 r.1):=by
 refine cK.bind ((tW W hp (n - 1) 1 (UM _) (by omega) fun i j a b=>absurd a (by omega)).mono fun m ⟨a,b,c,d⟩=>?_);have B4:m<=n:=by omega
 split
 ·exact⟨hp,a,B4,c⟩
 ·rename_i hne
  have hne':m≠n:=fun z=>hne (beq_iff_eq.mpr z)
  have bJ:m<n:=Nat.lt_of_le_of_ne B4 hne';have FH:m - 1<m:=Nat.sub_lt a Nat.one_pos
  have hd:=d (by omega);split
  ·refine⟨hp.lt h1,hp.lt (Wz FH bJ),?_⟩
   cases e:lt (p.getD 0 0) (p.getD (m - 1) 0) with
   | true=>exact⟨hp,a,B4,c⟩
   | false =>
    show cK lt n (kas_descPart m n (kas_rev p 0 m)) _;have hsz:m<=p.size:=by rw [hp.1];exact B4
    have all:Jg lt p 0 m:=fun i j _ hi _ hj=>by
     have z1:lt (p.getD (m - 1) 0) (p.getD j 0)=false:=by
      by_cases cj:j=m - 1
      ·subst cj;exact W.DD _
      ·exact c j (m - 1) (by omega) FH
     have z2:lt (p.getD i 0) (p.getD 0 0)=false:=by
      by_cases ci:i=0
      ·subst ci;exact W.DD _
      ·exact c 0 i (Nat.pos_of_ne_zero ci) hi
     exact W.tr _ _ _ (W.tr _ _ _ z1 e) z2
    have hf:xn lt (kas_rev p 0 m) m:=xn.rev hsz (fun i j tQ hj=>all i j (Vc _) (Wz tQ hj) (Vc _) hj) all;refine kZ W (hp.rev 0 m) bJ (hf.more W a ?_);rw [dO hsz,dO hsz,if_pos ⟨Vc _,FH⟩,if_neg (fun z=>V8 _ z.2)];have e2:0+m - 1 - (m - 1)=0:=by omega
    rw [e2];exact W.tr _ _ _ (W.wK _ _ hd) e
  ·obtain rfl:m=1:=by omega
   refine kZ W hp bJ fun i j tQ hj=>?_
   obtain rfl:i=0:=by omega
   obtain rfl:j=1:=by omega
   exact W.wK _ _ hd
theorem mG {p:Array Nat} {k:Nat} (hp:Arr n p) (hk:k<n) (h:qW lt p k):∀(f l r:Nat),l<=r->r<=k->r - l<=f->(∀i,i<l->lt (p.getD k 0) (p.getD i 0)=false)->(∀i,r<=i->i<k->lt (p.getD k 0) (p.getD i 0)=true) ->
  cK lt n (kas_place p k f l r) (fun x=>x<=k/\(∀i,i<x->lt (p.getD k 0) (p.getD i 0)=false)/\∀i,x<=i->i<k->lt (p.getD k 0) (p.getD i 0)=true)
 | 0,l,r,a,b,c,d,e=>by
  obtain rfl:l=r:=by omega
  exact⟨b,d,e⟩
 | f+1,l,r,a,b,c,d,e=>by
  show cK lt n (if l≥r then _ else _) _;split
  ·obtain rfl:l=r:=by omega
   exact⟨b,d,e⟩
  ·have m1:l<=(l+r) / 2:=by omega
   have m2:(l+r) / 2<r:=by omega
   have m3:(l+r) / 2<k:=U4 m2 b;refine⟨hp.lt hk,hp.lt (Wz m3 hk),?_⟩;cases q:lt (p.getD k 0) (p.getD ((l+r) / 2) 0) with
   | true =>
    refine mG hp hk h f l ((l+r) / 2) m1 (XU m3) (by omega) d fun i h1 h2=>?_
    by_cases c1:i=(l+r) / 2
    ·subst c1;exact q
    ·exact W.up q (h _ i (by omega) h2)
   | false =>
    refine mG hp hk h f ((l+r) / 2+1) r m2 b (by omega) (fun i h1=>?_) e;by_cases c1:i=(l+r) / 2
    ·subst c1;exact q
    ·exact W.tr _ _ _ (h i ((l+r) / 2) (by omega) m3) q
theorem yN:∀(f:Nat) (p:Array Nat) (k:Nat),Arr n p->k+f=n->qW lt p k->cK lt n (kas_bin f p k) (fun q=>Arr n q/\qW lt q n)
 | 0,p,k,hp,hk,h=>by
  obtain rfl:k=n:=by omega
  exact⟨hp,h⟩
 | f+1,p,k,hp,hk,h=>by
  have hkn:k<n:=by omega
  refine cK.bind ((mG W hp hkn h k 0 k (Vc _) (UM _) (Nat.sub_le _ _) (fun i z=>absurd z (Nat.not_lt_zero _)) fun i z1 z2=>absurd z1 (Nat.not_le_of_lt z2)).mono fun l ⟨a,b,c⟩=>?_);have hs:k<p.size:=by rw [hp.1];exact hkn
  refine yN f _ (k+1) (hp.RB _ _) (by omega) fun i j tQ hj=>?_
  have e:k - (k - l)=l:=Nat.sub_sub_self a;have kl:k - l<=k:=Nat.sub_le _ _
  rw [qX hs kl,qX hs kl,e];by_cases j1:j=l
  ·rw [if_pos j1,if_neg (by omega),if_neg (by omega)]
   exact b i (by omega)
  ·rw [if_neg j1]
   by_cases j2:l<j/\j<=k
   ·rw [if_pos j2]
    by_cases i1:i=l
    ·rw [if_pos i1]
     exact W.wK _ _ (c (j - 1) (by omega) (by omega))
    ·rw [if_neg i1]
     by_cases i2:l<i/\i<=k
     ·rw [if_pos i2];exact h _ _ (by omega) (by omega)
     ·rw [if_neg i2];exact h _ _ (by omega) (by omega)
   ·rw [if_neg j2,if_neg (by omega),if_neg (by omega)]
    exact h i j tQ (by omega)
theorem B5 (h1:1<=n):cK lt n (kas_sort n) (fun p=>Arr n p/\qW lt p n):=by
 have h0:Arr n (Yo (Vx n)):=⟨by simp,by simp⟩;refine cK.bind ((yM W h0 h1).mono fun r ⟨a,b,c,d⟩=>?_);have hm:max r.1 1=r.1:=by omega
 split
 ·rw [hm]
  exact yN W _ _ _ a (by omega) d
 ·have e:r.1=n:=by omega
  rw [e] at d;exact⟨a,d⟩
end
end L2
namespace L2
open PySem PySem.W PySem.Calls PyProof.Rows
section
variable {prog:VI} {w:WE} {A:Vq} {E:Ux->UB->Prop} {s:UB}
theorem nQ {a:U9} {vs:List Ux} {n:Nat} {κ:SortKind} {lt:Nat->Nat->Bool} {P:PySem.Fin->UB->Prop} (W:WO lt) (ho:s.heap.get? a=some (seqObj "list" vs.toArray n)) (LV:vs.length<64)
  (hk:2<=vs.length->∀h',(∀b o,b≠a->s.heap.get? b=some o->h'.get? b=some o)->∀Q:SortKind->UB->Prop,Q κ { s with heap:=h' }->UR (model prog w) A (keyKind' vs.toArray) Q (fun _ _=>False) { s with heap:=h' })
  (hc:∀h',(∀b o,b≠a->s.heap.get? b=some o->h'.get? b=some o)->∀i j (C:Bool->UB->Prop),i<vs.length->j<vs.length->C (lt i j) { s with heap:=h' } ->
   UR (model prog w) A (keyLt' κ (vs.getD i VQ) (vs.getD j VQ)) C (fun _ _=>False) { s with heap:=h' })
  (fin:∀p h' c,Arr vs.length p->qW lt p vs.length->(∀b o,b≠a->s.heap.get? b=some o->h'.get? b=some o)->h'.get? a=some (seqObj "list" (Yo (p.toList.map fun i=>vs.getD i VQ)) c)->P (.done (.ret .none)) { s with heap:=h' }) :
  UR (model prog w) A (Builtin.«list.sort» ⟨[.ref a],[]⟩) P E s:=by
 have ha:a<s.heap.objs.size:=UX ho;obtain⟨e1,LW⟩:∃e1,(s.heap.update a (VW fun _=>(#[]:Array Ux))).get? a=some (seqObj "list" #[] e1):=⟨_,get?_update_seq ho fun _=>#[]⟩;have Jh:(((s.heap.update a (VW fun _=>(#[]:Array Ux))).push (seqObj "tuple" vs.toArray 0)).push (seqObj "list" #[] 0)).get? a=some (seqObj "list" #[] e1):=by
  rw [Xv _ _ _ (by rw [size_push',Yr];exact U6 (VK ha)),Xv _ _ _ (by rw [Yr];exact U6 ha)];exact LW
 have keep:∀b o,b≠a->s.heap.get? b=some o->(((s.heap.update a (VW fun _=>(#[]:Array Ux))).push (seqObj "tuple" vs.toArray 0)).push (seqObj "list" #[] 0)).get? b=some o:=fun b o hb q=>by
  have bJ:b<s.heap.objs.size:=UX q;rw [Xv _ _ _ (by rw [size_push',Yr];exact U6 (VK bJ)),Xv _ _ _ (by rw [Yr];exact U6 bJ),YE _ _ _ _ hb];exact q
 have Ji:∀p (arr:Array Ux),Arr vs.length p->qW lt p vs.length->arr=Yo (p.toList.map fun i=>vs.getD i VQ)->P (.done (.ret .none)) { s with heap:=((((s.heap.update a (VW fun _=>(#[]:Array Ux))).push (seqObj "tuple" vs.toArray 0)).push (seqObj "list" #[] 0))).update a (VW fun _=>arr) }:=fun p arr h1 h2 h3=>by
  subst h3;refine fin p _ _ h1 h2 (fun b o hb q=>?_) (get?_update_seq Jh fun _=>_);rw [YE _ _ _ _ hb];exact keep b o hb q
 rw [list_sort_plain];refine Uq (listItems_at ho rfl ?_);refine Uq (listUpdate_at ho rfl ?_ (by rw [VV,V3];omega) (Vc _));refine Uq (seqEpoch_at LW rfl ?_);refine Uq (wpAny_newTuple ?_ (by show vs.length<=_;rw [V3];omega));refine Uq (wpAny_newList ?_ (Vc _));refine wpAny_holding ?_;show UR (model prog w) A _ P E { s with heap:=((s.heap.update a (VW fun _=>(#[]:Array Ux))).push (seqObj "tuple" vs.toArray 0)).push (seqObj "list" #[] 0) }
 dsimp only;by_cases h2:vs.toArray.size<2
 ·rw [if_pos h2,if_pos h2]
  refine Uq (Us ?_);rw [StateT.run_pure];refine Uq (Us ?_);dsimp only;have hr:(Vx vs.length).map (fun i=>vs.getD i VQ)=vs:=by
   apply Wa (by simp);intro i a1 a2;simp [a2]
  refine Uq (seqEpoch_at Jh rfl ?_);refine Uq (listUpdate_at Jh rfl ?_ (hsz2:=by rw [VE];show(pairsOf vs).size<=_;rw [pairsOf_size,V3];omega));simp only [bne_self_eq_false,UJ,if_false];refine Us (Ji (Yo (Vx vs.length)) _ ⟨by simp,by simp⟩ (fun i j h1 h3=>?_) ?_)
  ·rw [VV] at h2;omega
  ·show Array.map (·.2) (pairsOf vs)=_
   apply Array.toList_inj.mp;rw [ZH,pairsOf_toList];show _=(Vx vs.length).map (fun i=>vs.getD i VQ)
   rw [hr];exact List.map_snd_zip (by simp)
 ·rw [if_neg h2,if_neg h2]
  rw [VV] at h2;refine Uq (wpAny_mono (hk (by omega) _ keep _ ?_) (fun κ' s' hq=>hq) fun _ _ x=>x.elim);refine Uq (wpAny_mono (kat_run (κ:=κ) (Q:=fun dY s'=>∃p:Array Nat,arrOf dY=p.map (kas_item (vs.toArray.zip vs.toArray))/\failedOf dY=none/\Arr vs.length p/\qW lt p vs.length/\s'={ s with heap:=((s.heap.update a (VW fun _=>(#[]:Array Ux))).push (seqObj "tuple" vs.toArray 0)).push (seqObj "list" #[] 0) })
   (G:=fun p s'=>Arr vs.length p/\qW lt p vs.length/\s'={ s with heap:=((s.heap.update a (VW fun _=>(#[]:Array Ux))).push (seqObj "tuple" vs.toArray 0)).push (seqObj "list" #[] 0) })
   rfl (by omega) LV (fun p' dY s' a1 a2 a3 a4=>⟨p',a2,a3,a4.1,a4.2.1,a4.2.2⟩) ((B5 W (n:=vs.length) (by omega)).wp (fun i j C h3 h4 h5=>hc _ keep i j C h3 h4 h5) fun p hp=>⟨hp.1,hp.2,rfl⟩)) ?_ fun _ _ e=>e)
  rintro⟨⟨⟩,dY⟩ s' ⟨p,RC,hf,hp,MP,rfl⟩;dsimp only;have MQ:=kat_snds (ks:=vs) rfl RC
  have hsz:(Yo (p.toList.map fun i=>vs.getD i VQ)).size=vs.length:=by rw [VV,Lm9,VR,hp.1]
  rw [MQ];refine Uq (seqEpoch_at Jh rfl ?_);refine Uq (listUpdate_at Jh rfl ?_ (Vc _) (UW (XW hsz) (by rw [V3];omega)));rw [hf];simp only [bne_self_eq_false,UJ,if_false];exact Us (Ji p _ hp MP rfl)
end
noncomputable def tX (A:Vq) (s:UB) (u v:Ux) (b:Bool):Prop :=
 ∀(prog:VI) (w:WE) (E:Ux->UB->Prop) (Q:Ux->UB->Prop),Q (.bool b) s->UR (model prog w) A (richCompare .Lt u v) Q E s
inductive Be (A:Vq) (s:UB):List Ux->List Ux->Bool->Prop
 | nn:Be A s [] [] false
 | nc {w:Ux} {ws:List Ux}:Be A s [] (w::ws) true
 | cn {v:Ux} {vs:List Ux}:Be A s (v::vs) [] false
 | eq {v w:Ux} {vs ws:List Ux} {r:Bool} (e:WI A s v w true) (h:Be A s vs ws r):Be A s (v::vs) (w::ws) r
 | ne {v w:Ux} {vs ws:List Ux} {r:Bool} (e:WI A s v w false) (h:tX A s v w r):Be A s (v::vs) (w::ws) r
section
open PySem.SeqAt
open PySem.AutoSeq1 (wpAny_loadPart')
open PySem.MeetsSeq PySem.MeetsSeq2 PySem.MeetsSeq3
theorem pK (l b:U9) (items gA:Array Ux) (n n2:Nat) (dd MR:Option U9) (sl MS:Array (Option Ux)) (r:Bool) :
  Meets (Builtin.«tuple.__lt__» ⟨[.ref l,.ref b],[]⟩)
   (fun A R s=>s.heap.get? l=some { cls:=.type "tuple",dict:=dd,data:=.seq items n,slots:=sl }/\s.heap.get? b=some { cls:=.type "tuple",dict:=MR,data:=.seq gA n2,slots:=MS } /\
    Be A.in1 s items.toList gA.toList r/\R (.ok (.ret (.bool r))) s) :=
 .of_wp fun prog w A R s h=>by
  obtain⟨hp,g,d,tk,os⟩:=s;obtain⟨hl,hb,hd,h⟩:=h;have f2:=Za
  wp_walk using wpAny_loadPart' hl,wpAny_loadPart' hb,wpAny_forIn_list _ (fun rest b s'=>b.1=none/\s'=⟨hp,g,d,tk,os⟩/\∃(vs ws:List Ux),rest=vs.zip ws /\
   Be A.in1 ⟨hp,g,d,tk,os⟩ vs ws r/\vs.length+gA.size=ws.length+items.size) _
  case turn =>
   rintro⟨y,x⟩ rest b s' ⟨hb',rfl,vs,ws,hz,MT,hlen⟩;cases MT with
   | nn=>cases hz
   | nc=>cases hz
   | cn=>rw [List.zip_nil_right] at hz;cases hz
   | @eq v w' vs' ws' _ e hr =>
    rw [VP] at hz;injection hz with MU hrest;injection MU with hy hx;subst hy hx;simp only [UA] at hlen;refine Uq (e prog w _ _ ?_)
    wp_walk
    exact⟨rfl,rfl,_,_,hrest,hr,by omega⟩
   | @ne v w' vs' ws' _ e hr =>
    rw [VP] at hz;injection hz with MU hrest;injection MU with hy hx;subst hy hx;refine Uq (e prog w _ _ ?_);have MP:=hr prog w
    wp_walk using MP
    exact⟨_,rfl,by simpa using h⟩
  case fin =>
   rintro⟨b1,b2⟩ s' ⟨hb',rfl,vs,ws,hz,MT,hlen⟩;simp only at hb';subst hb';have hv:r=decide (items.size<gA.size):=by
    cases MT with
    | nn=>simp only [U8] at hlen;exact(decide_eq_false (by omega)).symm
    | nc=>simp only [U8,UA] at hlen;exact(decide_eq_true (by omega)).symm
    | cn=>simp only [U8,UA] at hlen;exact(decide_eq_false (by omega)).symm
    | eq e hr=>rw [VP] at hz;cases hz
    | ne e hr=>rw [VP] at hz;cases hz
   rw [hv] at h
   wp_walk
   exact⟨_,rfl,by simpa [Builtin.Tuple.tupleCompareSizes] using h⟩
  case h =>
   exact⟨rfl,rfl,items.toList,gA.toList,rfl,hd,by simp;omega⟩
end
theorem tY {A:Vq} {s:UB} {l b:U9} {items gA:Array Ux} {r:Bool} (hl:IsTup s.heap l items) (hb:IsTup s.heap b gA) (hu:A.units<cLine) (hd:Be A.in1 s items.toList gA.toList r):tX A s (.ref l) (.ref b) r:=by
 intro prog w E Q h;obtain⟨⟨cls,dd,data,sl⟩,ho,hc,n,sT⟩:=id hl;obtain⟨⟨RD,MR,data2,MS⟩,H6,DE,n2,hd2⟩:=id hb;simp only at hc sT DE hd2;subst hc sT DE hd2;exact richCompare_meets_room (op:=.Lt) ⟨_,ho,rfl⟩ ⟨_,H6,rfl⟩ PySem.F.slot_tuple_lt PySem.F.entry_tuple_lt (PySem.F.args_tuple_lt_2 _ _) (pK l b items gA n n2 dd MR sl MS r)
  ⟨ho,H6,hd,show Value.bool r≠Value.notImplemented/\Q (.bool r) s from⟨(fun x=>nomatch x),h⟩⟩ hu
end L2
namespace M
open PySem PySem.Spec PyProof.Rows
def nK (f:T->T->Bool):List T->List T->Bool
 | [],[]=>false
 | [],_::_=>true
 | _::_,[]=>false
 | a::r,b::q=>if a=b then nK f r q else f a b
def ltN:Nat->T->T->Bool
 | _+1,.int a,.int b=>decide (a<b)
 | _+1,.int _,.str _=>true
 | _+1,.int _,.tup _=>true
 | _+1,.str a,.str b=>decide (a<b)
 | _+1,.str _,.tup _=>true
 | n+1,.tup a,.tup b=>nK (ltN n) a b
 | _,_,_=>false
noncomputable def shl (f:T->T->Bool):List T->List T->Bool
 | a::r,b::q=>f a b && shl f r q
 | _,_=>true
noncomputable def qZ:Nat->T->T->Bool
 | _+1,.int _,.int _=>true
 | _+1,.str _,.str _=>true
 | n+1,.tup a,.tup b=>shl (qZ n) a b
 | _,_,_=>false
theorem vo {f:T->T->Bool}:∀a:List T,nK f a a=false
 | []=>rfl
 | a::r=>by rw [nK,if_pos rfl];exact vo r
theorem lR:∀(n:Nat) (a:T),ltN n a a=false
 | 0,a=>by cases a <;> rfl
 | n+1,a=>by
  cases a <;> first|rfl|skip
  ·exact decide_eq_false (Zu _)
  ·exact decide_eq_false (Y2 _)
  ·exact vo _
theorem vq {f:T->T->Bool} {n:Nat} (hf:∀a b,kd n a=true->kd n b=true->a≠b->f a b=true\/f b a=true):∀a b:List T,a.all (kd n)=true->b.all (kd n)=true->a≠b->nK f a b=true\/nK f b a=true
 | [],[],_,_,h=>absurd rfl h
 | [],_::_,_,_,_=>.inl rfl
 | _::_,[],_,_,_=>.inr rfl
 | a::r,b::q,ha,hb,h=>by
  rw [Vl,UC] at ha hb;rw [nK,nK];by_cases e:a=b
  ·subst e
   rw [if_pos rfl,if_pos rfl];exact vq hf r q ha.2 hb.2 fun z=>h (by rw [z])
  ·rw [if_neg e,if_neg (V0 e)]
   exact hf a b ha.1 hb.1 e
theorem pL {a b:Cs} (h:a≠b):a<b\/b<a:=by
 by_cases h1:a<b
 ·exact .inl h1
 ·by_cases h2:b<a
  ·exact .inr h2
  ·exact absurd (List.le_antisymm (List.not_lt.mp h2) (List.not_lt.mp h1)) h
theorem jF:∀(n:Nat) (a b:T),kd n a=true->kd n b=true->a≠b->ltN n a b=true\/ltN n b a=true
 | 0,a,_,h,_,_=>(Fw h).elim
 | n+1,a,b,ha,hb,h=>by
  cases a <;> first|cases ha|skip
  ·cases b <;> first|cases hb|skip
   ·rename_i i j
    show decide (i<j)=true\/decide (j<i)=true;rw [decide_eq_true_eq,decide_eq_true_eq];have:i≠j:=fun e=>h (by rw [e])
    omega
   ·exact .inl rfl
   ·exact .inl rfl
  ·cases b <;> first|cases hb|skip
   ·exact .inr rfl
   ·rename_i i j
    show decide (i<j)=true\/decide (j<i)=true;rw [decide_eq_true_eq,decide_eq_true_eq];exact pL fun e=>h (by rw [e])
   ·exact .inl rfl
  ·cases b <;> first|cases hb|skip
   ·exact .inr rfl
   ·exact .inr rfl
   ·exact vq (fun a b=>jF n a b) _ _ ha hb fun e=>h (by rw [e])
theorem ou {f:T->T->Bool} (DD:∀a,f a a=false) (hf:∀a b c,f a b=true->f b c=true->f a c=true):∀a b c:List T,nK f a b=true->nK f b c=true->nK f a c=true
 | [],[],_,h1,_=>by cases h1
 | [],_::_,[],_,h2=>by cases h2
 | [],_::_,_::_,_,_=>rfl
 | _::_,[],_,h1,_=>by cases h1
 | _::_,_::_,[],_,h2=>by cases h2
 | a::r,b::q,c::t,h1,h2=>by
  rw [nK] at h1 h2 ⊢;by_cases e1:a=b
  ·subst e1
   rw [if_pos rfl] at h1;by_cases e2:a=c
   ·subst e2
    rw [if_pos rfl] at h2 ⊢;exact ou DD hf r q t h1 h2
   ·rw [if_neg e2] at h2 ⊢;exact h2
  ·rw [if_neg e1] at h1
   by_cases e2:b=c
   ·subst e2
    rw [if_neg e1];exact h1
   ·rw [if_neg e2] at h2
    have h3:=hf a b c h1 h2;have e3:a≠c:=fun z=>by subst z;rw [DD] at h3;cases h3
    rw [if_neg e3];exact h3
theorem MV {n:Nat} {a b:T} (h:ltN (n+1) a b=true):(∃i,a=.int i)\/(∃z,a=.str z)\/∃xs,a=.tup xs:=by
 cases a with
 | int i=>exact .inl ⟨i,rfl⟩
 | str z=>exact .inr (.inl ⟨z,rfl⟩)
 | tup xs=>exact .inr (.inr ⟨xs,rfl⟩)
 | _=>cases h
theorem Jj {n:Nat} {i:Int} {b:T} (h:ltN (n+1) (.int i) b=true):(∃j,b=.int j/\i<j)\/(∃z,b=.str z)\/∃xs,b=.tup xs:=by
 cases b with
 | int j=>exact .inl ⟨j,rfl,of_decide_eq_true h⟩
 | str z=>exact .inr (.inl ⟨z,rfl⟩)
 | tup xs=>exact .inr (.inr ⟨xs,rfl⟩)
 | _=>cases h
theorem FI {n:Nat} {z:Cs} {b:T} (h:ltN (n+1) (.str z) b=true):(∃y,b=.str y/\z<y)\/∃xs,b=.tup xs:=by
 cases b with
 | str y=>exact .inl ⟨y,rfl,of_decide_eq_true h⟩
 | tup xs=>exact .inr ⟨xs,rfl⟩
 | _=>cases h
theorem B6 {n:Nat} {xs:List T} {b:T} (h:ltN (n+1) (.tup xs) b=true):∃ys,b=.tup ys/\nK (ltN n) xs ys=true:=by
 cases b with
 | tup ys=>exact⟨ys,rfl,h⟩
 | _=>cases h
theorem dz:∀(n:Nat) (a b c:T),ltN n a b=true->ltN n b c=true->ltN n a c=true
 | 0,a,b,_,h,_=>by cases h
 | n+1,a,b,c,h1,h2=>by
  rcases MV h1 with⟨i,rfl⟩|⟨z,rfl⟩|⟨xs,rfl⟩
  ·rcases Jj h1 with⟨j,rfl,hj⟩|⟨y,rfl⟩|⟨ys,rfl⟩
   ·rcases Jj h2 with⟨k,rfl,hk⟩|⟨_,rfl⟩|⟨_,rfl⟩
    ·exact decide_eq_true (Int.lt_trans hj hk)
    ·rfl
    ·rfl
   ·rcases FI h2 with⟨_,rfl,_⟩|⟨_,rfl⟩ <;> rfl
   ·obtain⟨_,rfl,_⟩:=B6 h2;rfl
  ·rcases FI h1 with⟨y,rfl,hy⟩|⟨ys,rfl⟩
   ·rcases FI h2 with⟨x,rfl,hx⟩|⟨_,rfl⟩
    ·exact decide_eq_true (aam hy hx)
    ·rfl
   ·obtain⟨_,rfl,_⟩:=B6 h2;rfl
  ·obtain⟨ys,rfl,hy⟩:=B6 h1
   obtain⟨zs,rfl,hz⟩:=B6 h2;exact ou (lR n) (dz n) _ _ _ hy hz
theorem FJ {n:Nat} {f:Nat->T} (hk:∀i,kd n (f i)=true):L2.WO (fun i j=>ltN n (f i) (f j)):=by
 refine⟨fun a b h=>?_,fun a b c h1 h2=>?_⟩
 ·cases e:ltN n (f b) (f a) with
  | false=>rfl
  | true=>have z:=dz n _ _ _ h e;rw [lR] at z;cases z
 ·cases e:ltN n (f c) (f a) with
  | false=>rfl
  | true =>
   by_cases e1:f a=f b
   ·rw [e1] at e;rw [e] at h2;cases h2
   ·rcases jF n _ _ (hk a) (hk b) e1 with q|q
    ·rw [dz n _ _ _ e q] at h2;cases h2
    ·rw [q] at h1;cases h1
noncomputable def g6 (l:List T):Prop:=l.Pairwise fun x y=>ltN 8 y x=false
theorem jG {a b:List T} (hk:a.all (kd 8)=true) (p:a.Perm b) (ha:g6 a) (hb:g6 b):a=b :=
 List.Perm.eq_of_pairwise (fun x y hx hy h1 h2=>by
  by_cases e:x=y
  ·exact e
  ·have k:=Uu.mp hk
   rcases jF 8 _ _ (k x hx) (k y (p.mem_iff.mpr hy)) e with q|q
   ·rw [q] at h2;cases h2
   ·rw [q] at h1;cases h1) ha hb p
open Classical in
def jH (l:List T):List T:=if h:∃l',l'.Perm l/\g6 l' then choose h else l
theorem pM {l l':List T} (hk:l.all (kd 8)=true) (p:l'.Perm l) (h:g6 l'):jH l=l':=by
 have ex:∃l',l'.Perm l/\g6 l':=⟨l',p,h⟩;unfold jH;rw [dif_pos ex];have z:=Classical.choose_spec ex
 have hk':(Classical.choose ex).all (kd 8)=true:=Uu.mpr fun x hx=>Uu.mp hk x (z.1.mem_iff.mp hx)
 exact jG hk' (z.1.trans p.symm) z.2 h
noncomputable def qF:T->Bool
 | .tup (.str _::_)=>true
 | _=>false
noncomputable def B7:T->Bool
 | .tup (.int _::_)=>true
 | _=>false
def ib (fz:Bool):Fn:=fun xs L=>match xs with
 | [x]=>match vw L x with
  | .lst ys=>cb (ys.length<64/\ys.all (kd 8)=true/\(ys.all qF=true\/ys.all B7=true)/\(ys.all fun a=>ys.all fun b=>qZ 8 a b)=true) (fo fz (jH ys) L)
  | _=>.bad
 | _=>.bad
end M
namespace M
open PySem PySem.W PySem.Calls PyProof.Rows L2
section
variable {A:Vq} {s:UB}
theorem DF {n:Nat}:∀(a b:List T) (vs ws:List Ux),vs.length=a.length->ws.length=b.length->shl (qZ n) a b=true ->
  (∀j (h1:j<a.length) (h2:j<b.length) (h3:j<vs.length) (h4:j<ws.length),WI A s vs[j] ws[j] (decide (a[j]=b[j]))/\(qZ n a[j] b[j]=true->tX A s vs[j] ws[j] (ltN n a[j] b[j])))->Be A s vs ws (nK (ltN n) a b)
 | [],[],[],[],_,_,_,_=>.nn
 | [],b::q,[],w::ws,_,_,_,_=>.nc
 | a::r,[],v::vs,[],_,_,_,_=>.cn
 | a::r,b::q,v::vs,w::ws,l1,l2,hs,h=>by
  rw [shl,UC] at hs;obtain⟨h0,h0'⟩:=h 0 (by simp) (by simp) (by simp) (by simp);have h0:WI A s v w (decide (a=b)):=h0
  have h0':qZ n a b=true->tX A s v w (ltN n a b):=h0';rw [nK];by_cases e:a=b
  ·rw [decide_eq_true e] at h0
   rw [if_pos e];exact .eq h0 (DF r q vs ws (by simpa using l1) (by simpa using l2) hs.2 fun j a1 a2 a3 a4=>h (j+1) (by simpa using a1) (by simpa using a2) (by simpa using a3) (by simpa using a4))
  ·rw [decide_eq_false e] at h0
   rw [if_neg e];exact .ne h0 (h0' hs.1)
 | [],[],_::_,_,l,_,_,_=>by simp at l
 | [],[],[],_::_,_,l,_,_=>by simp at l
 | [],_::_,_::_,_,l,_,_,_=>by simp at l
 | [],_::_,[],[],_,l,_,_=>by simp at l
 | _::_,_,[],_,l,_,_,_=>by simp at l
 | _::_,[],_::_,_::_,_,l,_,_=>by simp at l
 | _::_,_::_,_::_,[],_,l,_,_=>by simp at l
theorem cM.lt:∀(n:Nat) {A:Vq} {a b:T} {u v:Ux},kd n a=true->kd n b=true->qZ n a b=true->A.units+n<cLine->cM s.heap a u->cM s.heap b v->tX A s u v (ltN n a b)
 | 0,_,a,_,_,_,h,_,_,_,_,_=>(Fw h).elim
 | n+1,A,a,b,u,v,ha,hb,hs,hu,ka,kb=>by
  cases ka with
  | int i t =>
   cases kb with
   | int j t2=>exact fun prog w E Q h=>(PyProof.Rows.lt_int h:UR (model prog w) A (compareOp .Lt _ _) Q E s)
   | _=>cases hs
  | str z t =>
   cases kb with
   | str z2 t2=>exact fun prog w E Q h=>(aae (show Q (.bool (decide ((⟨z.toArray⟩:Str).cps.toList<(⟨z2.toArray⟩:Str).cps.toList))) s from h):UR (model prog w) A (compareOp .Lt _ _) Q E s)
   | _=>cases hs
  | tup ho hc hd hl hi =>
   cases kb with
   | tup ho' hc' hd' hl' hi' =>
    rename_i a1 o1 i1 n1 x1 a2 o2 i2 n2 x2;refine tY ⟨_,ho,hc,_,hd⟩ ⟨_,ho',hc',_,hd'⟩ (by omega) (DF x1 x2 i1.toList i2.toList (by simp [hl]) (by simp [hl']) hs fun j c1 c2 c3 c4=>?_);have k1:=hi j _ _ (Ge9 c1) (show i1[j]?=some i1.toList[j] by simp)
    have k2:=hi' j _ _ (Ge9 c2) (show i2[j]?=some i2.toList[j] by simp);have d1:=gR ha (Ge9 c1)
    have d2:=gR hb (Ge9 c2);exact⟨cM.eq n d1 d2 (by show A.units+1+n<cLine;omega) k1 k2,fun sh=>cM.lt n d1 d2 sh (by show A.units+1+n<cLine;omega) k1 k2⟩
   | _=>cases hs
end
section
variable {prog:VI} {w:WE} {A:Vq} {E:Ux->UB->Prop} {s:UB} {Q:Bool->UB->Prop} {n:Nat}
theorem kat_tail:∀(a b:List T) (vs ws:List Ux) (i:Nat),0<i->vs.length=a.length->ws.length=b.length->shl (qZ n) a b=true ->
  (∀j (h1:j<a.length) (h2:j<b.length) (h3:j<vs.length) (h4:j<ws.length),WI A s vs[j] ws[j] (decide (a[j]=b[j]))/\(qZ n a[j] b[j]=true->tX A s vs[j] ws[j] (ltN n a[j] b[j]))) ->
  ∀fin,fin=decide (vs.length<ws.length)->Q (nK (ltN n) a b) s->KatLex prog w A true fin Q (vs.zip ws) i s
 | [],[],[],[],i,_,_,_,_,_,fin,hf,h=>by rw [nK] at h;simp at hf;subst hf;exact kat_nil h
 | [],b::q,[],w'::ws,i,_,_,_,_,_,fin,hf,h=>by rw [nK] at h;simp at hf;subst hf;exact kat_nil h
 | a::r,[],v::vs,[],i,_,_,_,_,_,fin,hf,h=>by rw [nK] at h;simp at hf;subst hf;exact kat_nil h
 | a::r,b::q,v::vs,w'::ws,i,hi,l1,l2,hs,hx,fin,hf,h=>by
  rw [shl,UC] at hs;obtain⟨h0,h0'⟩:=hx 0 (by simp) (by simp) (by simp) (by simp);have h0:WI A s v w' (decide (a=b)):=h0
  have h0':qZ n a b=true->tX A s v w' (ltN n a b):=h0';rw [nK] at h;rw [VP];refine kat_cons (h0 prog w _ _ ?_);by_cases e:a=b
  ·rw [if_pos e] at h
   rw [decide_eq_true e];exact kat_yes (kat_tail r q vs ws (i+1) (by omega) (by simpa using l1) (by simpa using l2) hs.2 (fun j a1 a2 a3 a4=>hx (j+1) (by simpa using a1) (by simpa using a2) (by simpa using a3) (by simpa using a4)) fin (by simpa using hf) h)
  ·rw [if_neg e] at h
   rw [decide_eq_false e];refine kat_no ?_;have ei:(true && i == 0)=false:=by
    simp only [Xw,beq_eq_false_iff_ne];omega
   rw [ei];exact kat_one _ _ (h0' hs.1 prog w _ _ h)
 | [],[],_::_,_,_,_,l,_,_,_,_,_,_=>by simp at l
 | [],[],[],_::_,_,_,_,l,_,_,_,_,_=>by simp at l
 | [],_::_,_::_,_,_,_,l,_,_,_,_,_,_=>by simp at l
 | [],_::_,[],[],_,_,_,l,_,_,_,_,_=>by simp at l
 | _::_,_,[],_,_,_,l,_,_,_,_,_,_=>by simp at l
 | _::_,[],_::_,_::_,_,_,_,l,_,_,_,_,_=>by simp at l
 | _::_,_::_,_::_,[],_,_,_,l,_,_,_,_,_=>by simp at l
theorem Jk {t u:T} {vx vy:Ux} (hA:A.units+8<cLine) (hk:kd 8 t=true) (hk':kd 8 u=true) (hh:(qF t=true/\qF u=true)\/(B7 t=true/\B7 u=true)) (hs:qZ 8 t u=true) (k1:cM s.heap t vx) (k2:cM s.heap u vy) (hC:Q (ltN 8 t u) s) :
  UR (model prog w) A (keyLt' (tuples' true) vx vy) Q E s:=by
 have go:∀{a b:T} {r q:List T},t=.tup (a::r)->u=.tup (b::q)->((∃x y,a=.str x/\b=.str y)\/∃x y,a=.int x/\b=.int y)->UR (model prog w) A (keyLt' (tuples' true) vx vy) Q E s:=fun {a b r q} et eu hab=>by
  subst et eu;cases k1 with
  | tup ho hc hd hl hi =>
   cases k2 with
   | tup ho' hc' hd' hl' hi' =>
    rename_i a1 o1 i1 n1 a2 o2 i2 n2;have Pt:∀j (h:j<(a::r).length) (h':j<i1.toList.length),cM s.heap (a::r)[j] i1.toList[j]:=fun j h h'=>hi j _ _ (Ge9 h) (by simp)
    have at2:∀j (h:j<(b::q).length) (h':j<i2.toList.length),cM s.heap (b::q)[j] i2.toList[j]:=fun j h h'=>hi' j _ _ (Ge9 h) (by simp)
    refine kat_lt ho hd ho' hd' ?_;obtain⟨l1⟩:=i1;obtain⟨l2⟩:=i2;simp only [VV] at hl hl';cases l1 with
    | nil=>simp at hl
    | cons v vs =>
     cases l2 with
     | nil=>simp at hl'
     | cons w' ws =>
      have e0:=Pt 0 (by simp) (by simp);have f0:=at2 0 (by simp) (by simp)
      have e0:cM s.heap a v:=e0;have f0:cM s.heap b w':=f0
      have hs:shl (qZ 7) (a::r) (b::q)=true:=hs;rw [shl,UC] at hs;have Pu:(a::r).all (kd 7)=true:=hk
      have Pw:(b::q).all (kd 7)=true:=hk';have hC:Q (nK (ltN 7) (a::r) (b::q)) s:=hC
      rw [nK] at hC;have q0:=cM.eq 7 (s:=s) (A:=A) (gR Pu (i:=0) rfl) (gR Pw (i:=0) rfl) (by omega) e0 f0
      show KatLex prog w A true _ Q ((v::vs).zip (w'::ws)) 0 s;rw [VP];refine kat_cons (q0 prog w _ _ ?_);by_cases e:a=b
      ·rw [if_pos e] at hC
       rw [decide_eq_true e];refine kat_yes (kat_tail (n:=7) r q vs ws 1 (by omega) (by simpa using hl.symm) (by simpa using hl'.symm) hs.2 (fun j c1 c2 c3 c4=>?_) _ (by simp) hC);have z1:cM s.heap r[j] vs[j]:=Pt (j+1) (by simpa using c1) (by simpa using c3)
       have z2:cM s.heap q[j] ws[j]:=at2 (j+1) (by simpa using c2) (by simpa using c4);have d1:kd 7 r[j]=true:=gR Pu (i:=j+1) (by simp [c1])
       have d2:kd 7 q[j]=true:=gR Pw (i:=j+1) (by simp [c2]);exact⟨cM.eq 7 d1 d2 (by omega) z1 z2,fun sh=>cM.lt 7 d1 d2 sh (by omega) z1 z2⟩
      ·rw [if_neg e] at hC
       rw [decide_eq_false e];refine kat_no ?_;show UR (model prog w) A (oneLt' true v w') Q _ s
       rcases hab with⟨x,y,rfl,rfl⟩|⟨x,y,rfl,rfl⟩
       ·cases e0;cases f0
        exact oneLt_str hC
       ·cases e0;cases f0
        exact oneLt_int hC
 rcases hh with⟨h1,h2⟩|⟨h1,h2⟩
 ·unfold qF at h1 h2
  split at h1
  ·split at h2
   ·exact go rfl rfl (.inl ⟨_,_,rfl,rfl⟩)
   ·cases h2
  ·cases h1
 ·unfold B7 at h1 h2
  split at h1
  ·split at h2
   ·exact go rfl rfl (.inr ⟨_,_,rfl,rfl⟩)
   ·cases h2
  ·cases h1
end
section
variable {X:Cx}
theorem ow {h:Heap}:∀{vs fs:List Ux},vs.length=fs.length->(∀i (h1:i<vs.length) (h2:i<fs.length),∃a o xs n,vs[i]=.ref a/\h.get? a=some o/\o.cls=.type "tuple"/\o.data=.seq xs n/\xs[0]?=some fs[i])->KatTups h vs fs
 | [],[],_,_=>.nil
 | [],_::_,l,_=>by simp at l
 | _::_,[],l,_=>by simp at l
 | v::vs,f::fs,l,hh=>by
  obtain⟨a,o,xs,n,e,e1,e2,e3,e4⟩:=hh 0 (by simp) (by simp);have e:v=.ref a:=e
  have e4:xs[0]?=some f:=e4;subst e;exact .cons e1 e2 e3 e4 (ow (by simpa using l) fun i h1 h2=>hh (i+1) (by simpa using h1) (by simpa using h2))
theorem vt {g:G} {ys:List T} {us:List Ux} (r:cE g ys us):∀(p:List Nat),(∀i∈p,i<ys.length)->cE g (p.map fun i=>ys.getD i (.int 0)) (p.map fun i=>us.getD i VQ)
 | [],_=>.nil
 | i::p,h=>by
  refine .cons ?_ (vt r p fun j hj=>h j (Uw _ hj));have hi:=h i Uv
  obtain⟨u,e,q⟩:=tf r (Ge9 hi);simp only [Gd9,e,Ge9 hi,WH];exact q
theorem B8 {pins:aY} {φ:Fr} {g:G} {L L2:aa} {s:UB} {fz:Bool} {xs:List T} {us:List Ux} {w:T} {t' n:Nat} {h':Heap} {a:U9} (I:Inv X pins φ g L s) (r:cE g xs us) (h:fo fz xs L=.ok w L2) (k:∀b u,s.heap.get? b=some u->h'.get? b=some u) (ha:s.heap.objs.size<=a) (new:h'.get? a=some { cls:=.type "list",data:=.seq us.toArray n }) :
  EP X pins φ g w L2 (.ref a) { s with heap:=h',toks:=t' }:=by
 have f:=I.hok.fresh ha;unfold fo cb at h;split at h
 ·rename_i hz
  unfold mk at h;split at h
  ·cases h
   exact⟨_,Le.lay f,I.laid k ha new,r.lst (n:=n) (o:=default) (Le.lay f) (.inl rfl) (.inl ar) hz⟩
  ·cases h
   refine⟨_,Le.new f,I.new k ha new (r.lst (n:=n) (o:=default) (Le.new f) (.inr rfl) (.inl ar) hz),?_⟩;have:=I.rel.len
   exact .ref (p:=(a,a)) (by show at_ ((_,_)::g.α) _=_;rw [<- this];exact eW)
 ·cases h
end
end M
namespace M
open PySem PySem.Spec PyProof.Rows
open Classical in
def q8:List T->List T
 | []=>[]
 | x::r=>if x∈r then q8 r else x::q8 r
noncomputable def cH (ys:List T):Prop:=ys.length<64/\ys.all (kd 8)=true/\(ys.all qF=true\/ys.all B7=true)/\(ys.all fun a=>ys.all fun b=>qZ 8 a b)=true
noncomputable instance (ys:List T):Decidable (cH ys):=by unfold cH;exact inferInstance
def mH (fz:Bool):Fn:=fun xs L=>match xs with
 | [x]=>match vw L x with
  | .lst ys=>cb (cH ys/\ys.all (kd 6)=true/\ys.all qF=true) (fo fz (jH (q8 ys)) L)
  | _=>.bad
 | _=>.bad
def kj (fz:Bool):Fn:=fun xs L=>match xs with
 | [x]=>match vw L x with
  | .aP ks=>cb (cH (br ks)) (fo fz (jH (br ks)) L)
  | _=>.bad
 | _=>.bad
def gT:Fn:=fun xs L=>match xs with
 | [x,y]=>match vw L x,vw L y with
  | .lst a,.lst b=>cb (a.length<=b.length) (xF (zp a b) L)
  | .lst a,.tup b=>cb (a.length<=b.length) (xF (zp a b) L)
  | _,_=>.bad
 | _=>.bad
def RE:T->Fn:=fun x ts L=>match x,ts with
 | .ref n,[t]=>match at_ L n with
  | some (.lst xs)=>cb (dat 8 t=true/\xs.all (dat 8)=true) (match xs.findIdx? fun y=>eqT y t with
   | some j=>.ok .bZ (put L n (.lst (xs.eraseIdx j)))
   | none=>.bad)
  | _=>.bad
 | _,_=>.bad
def FL (L:aa) (t:T) (L':aa):R T:=match t with
 | .ref n=>match at_ L' n with
  | some (.lst xs)=>cb (L.length<=n) (fin L (.lst xs) (put L' n (.ref n)) |>.bind fun t L1=>.ok (.ref L.length) (t::L1))
  | _=>.bad
 | _=>.bad
def Ca (np nn:Nat) (b:SS):Fn:=fun xs L=>if xs.length=np then match b (xs.map some++Va (nn - np) none) L with
  | .rt t L'=>FL L t L'
  | _=>.bad
 else .bad
end M
namespace M
open PySem
structure Ct where
 fn:List (Str × Fn)
 co:List (Str × T)
 me:List (Str × List (Str × Fn))
 fl:List Str
 us:List Str
 lv:List (Nat × Nat)
structure Sg where
 N:List Str
 sc:Scope
structure Bd where
 E:Expr->SE
 T:Expr->ST
 S:Stmt->SS
noncomputable def Ct.fz (Γ:Ct) (p:Pos):Bool:=!(Γ.lv.any fun q=>q.1 == p.line && q.2 == p.col)
noncomputable def H7 (N:List Str) (x:Str):Option Nat:=N.findIdx? (· == x)
noncomputable def Sg.at (S:Sg) (x:Str):Option Nat:=match S.sc.names.lookup x with
 | some .local=>H7 S.N x
 | some .cell=>H7 S.N x
 | some .free=>H7 S.N x
 | _=>none
noncomputable def Sg.own (S:Sg) (x:Str):Option Nat:=match S.sc.names.lookup x with
 | some .local=>H7 S.N x
 | some .cell=>H7 S.N x
 | _=>none
noncomputable def Sg.gl (S:Sg) (x:Str):Bool:=match S.sc.names.lookup x with
 | some .globalImplicit=>true
 | _=>false
def vi (n:Nat) (k:Int):SE:=b2 (v n) (c (.int k)) ix
def blt (x:Str) (fz:Bool):Option Fn:=[(("len":Str),bH),("list",eV fz),("tuple",iO),("all",qK),("any",wt),("min",xC),("str",tc),("int",wu),("dict",jt),("sorted",ib fz)].lookup x
noncomputable def S (s:String):Cs:=(V5 s).cps.toList
noncomputable def aE:Ty->Option (T->Fn):=fun y=>match y with|.l=>some Bl|_=>none
noncomputable def ic:Ty->Option (T->Fn):=fun y=>match y with|.l=>some xD|_=>none
noncomputable def iF:Ty->Option (T->Fn):=fun y=>match y with|.l=>some uS|.t=>some uT|_=>none
noncomputable def pN:Ty->Option (T->Fn):=fun y=>match y with|.t=>some Bm|_=>none
noncomputable def km:Ty->Option (T->Fn):=fun y=>match y with|.s=>some kW|_=>none
noncomputable def lS (fz:Bool):Ty->Option (T->Fn):=fun y=>match y with|.s=>some (mj fz)|_=>none
noncomputable def lU:Ty->Option (T->Fn):=fun y=>match y with|.s=>some mq|_=>none
def cF:Ty->Option (T->Fn):=fun y=>match y with|.d=>some iP|_=>none
def gC:Ty->Option (T->Fn):=fun y=>match y with|.d=>some xE|_=>none
def Px (x:Str) (fz:Bool):Option (Ty->Option (T->Fn)):=[(("append":Str),aE),("extend",ic),("count",iF),("index",pN),("join",km),("split",lS fz),("strip",lU),("get",cF),("setdefault",gC)].lookup x
noncomputable def kq:List SE->SE
 | []=>no
 | a::r=>match r with
  | []=>a
  | _::_=>Bj a (kq r)
noncomputable def Bf:List SE->SE
 | []=>no
 | a::r=>match r with
  | []=>a
  | _::_=>LM a (Bf r)
noncomputable def jI:List ST->ST
 | []=>no
 | a::r=>match r with
  | []=>a
  | _::_=>Bi a (jI r)
noncomputable def vz:List ST->ST
 | []=>no
 | a::r=>match r with
  | []=>a
  | _::_=>LL a (vz r)
noncomputable def eName (Γ:Ct) (S:Sg) (x:Str):SE:=match S.at x with
 | some i=>v i
 | none=>match S.gl x with
  | true=>match Γ.co.lookup x with
   | some t=>c t
   | none=>match Γ.us.contains x,([(("bool":Str),"bool"),("int","int"),("str","str"),("list","list"),("tuple","tuple")]:List (Str × String)).lookup x with
    | true,some n=>c (.cl (.type n))
    | _,_=>no
  | false=>no
noncomputable def FN:Const->SE
 | .int i=>c (.int i)
 | .bool b=>c (.bl b)
 | .none=>c .bZ
 | .str x=>match decide (x.cps.toList.length<=lim) with
  | true=>c (.str x.cps.toList)
  | false=>no
 | _=>no
def yO (B:Bd) (a:Expr) (ops:List CmpOp) (es:List Expr):SE:=match ops with
 | []=>no
 | op::r=>match r with
  | []=>match es with
   | [b]=>match behindInMarks op b with
    | false=>b2 (B.E a) (B.E b) (cmp op)
    | true=>no
   | _=>no
  | n6::r'=>match r' with
   | []=>match es with
    | [b,d]=>match lastMarks [op,n6] [b,d] with
     | false=>wo op n6 (B.E a) (B.E b) (B.E d)
     | true=>no
    | _=>no
   | _::_=>no
def LX (B:Bd) (a b:Expr):SE:=match wG b with
 | true=>b2 (B.E a) (B.E b) ix
 | false=>no
def Jl (Γ:Ct) (B:Bd) (a b:Expr) (p:Pos):SE:=match b with
 | .Slice lo hi st _=>match st with
  | none=>sl (Γ.fz p) (B.E a) (lo.map B.E) (hi.map B.E)
  | some _=>LX B a b
 | _=>LX B a b
noncomputable def FO (a:Option Nat) (b:Option (List Nat)):Option (List Nat):=match a with
 | some i=>match b with
  | some is=>some (i::is)
  | none=>none
 | none=>none
noncomputable def yP (S:Sg):List Expr->Option (List Nat)
 | []=>some []
 | .Name x _::r=>FO (S.own x) (yP S r)
 | _=>none
noncomputable def MW (S:Sg):Expr->Option Tg
 | .Name x _=>(S.own x).map .one
 | .Tuple ts _ _=>(yP S ts).map .many
 | _=>none
noncomputable def isTup:Expr->Bool
 | .Tuple ..=>true
 | _=>false
def DG (Γ:Ct) (B:Bd) (S:Sg) (tg e:Expr) (x:Str) (es:List Expr):SI:=match S.gl x && Γ.us.contains x && es.all bf with
 | true=>match x == ("range":Str) with
  | true=>match es with
   | [a]=>xA (c (.int 0)) (B.E a)
   | [a,b]=>xA (B.E a) (B.E b)
   | _=>src (B.E e)
  | false=>match es with
   | [a]=>match x == ("enumerate":Str) with
    | true=>match isTup tg with
     | true=>LN (B.E a)
     | false=>src (B.E e)
    | false=>src (B.E e)
   | _=>src (B.E e)
 | false=>src (B.E e)
def stI (Γ:Ct) (B:Bd) (S:Sg) (tg e:Expr):SI:=match e with
 | .Call (.Name x _) es [] _=>DG Γ B S tg e x es
 | e=>src (B.E e)
noncomputable def inN (sc:Scope):List Str:=(sc.names.filter fun y=>match y.2 with
 | .local=>true
 | .free=>true
 | _=>false).map (·.1)
noncomputable def yQ (x:Str):Bool:=!(x == ("__debug__":Str)) && !(x == ("__classdict__":Str))
noncomputable def tZ (S:Sg) (sc:Scope):Bool:=(match sc.kind with
  | .function=>true
  | _=>false) && (sc.names.all fun y=>match y.2 with
  | .cell=>false
  | .local=>(match sc.names.lookup y.1 with
   | some .local=>true
   | _=>false)
  | .free=>(match S.sc.names.lookup y.1 with
   | some .cell=>true
   | some .free=>true
   | _=>false)
  | _=>true) && decide (inN sc).Nodup && (inN sc).all yQ
noncomputable def aU (S:Sg) (sc:Scope):List (Option Nat):=(inN sc).map fun y=>match sc.names.lookup y with
 | some .free=>S.at y
 | _=>none
noncomputable def tests (B:Bd):List Expr->ST
 | []=>yes
 | [k]=>B.T k
 | _=>no
def ox (Γ:Ct) (B:Sg->Bd) (S:Sg) (elt tg iter:Expr) (ifs:List Expr) (sc:Scope) (p:Pos):SE :=
 match MW ⟨inN sc,sc⟩ tg with
 | some t=>match tZ S sc && jd iter && t.slots.all (fun i=>match (aU S sc)[i]? with
   | some none=>true
   | _=>false) with
  | true=>comp (Γ.fz p) (stI Γ (B S) S tg iter) (aU S sc) t (tests (B ⟨inN sc,sc⟩) ifs) ((B ⟨inN sc,sc⟩).E elt)
  | false=>no
 | none=>no
def DH (Γ:Ct) (S:Sg) (fz:Bool) (x y:Str) (es:List Expr):Option (Fn × List Expr):=match S.gl y && Γ.us.contains y && es.all bf && (Γ.fn.lookup y).isNone with
 | true=>match x == ("sorted":Str) && y == ("set":Str) with
  | true=>match es with
   | [e]=>some (mH fz,[e])
   | _=>none
  | false=>match x == ("dict":Str) && y == ("zip":Str) with
   | true=>match es with
    | [a,b]=>some (gT,[a,b])
    | _=>none
   | false=>none
 | false=>none
def DI (fz:Bool) (x:Str) (o:Expr) (m:Str) (ap q:Pos):Option (Fn × List Expr):=match okBase o && (ap.endLine == q.line) && x == ("sorted":Str) && m == ("items":Str) && bf o with
 | true=>some (kj fz,[o])
 | false=>none
def nest (Γ:Ct) (S:Sg) (fz:Bool) (x:Str) (l:List Expr):Option (Fn × List Expr):=match l with
 | [e]=>match e with
  | .Call f es ks q=>match ks with
   | []=>match f with
    | .Name y _=>DH Γ S fz x y es
    | .Attribute o m ap=>match es with
     | []=>DI fz x o m ap q
     | _=>none
    | _=>none
   | _=>none
  | _=>none
 | _=>none
def yR (Γ:Ct) (B:Bd) (S:Sg) (x:Str) (es:List Expr) (p:Pos):SE:=match S.gl x && es.all bf with
 | true=>match Γ.fn.lookup x with
  | some F=>ae F (es.map B.E)
  | none=>match Γ.us.contains x && !es.isEmpty,blt x (Γ.fz p) with
   | true,some F=>match nest Γ S (Γ.fz p) x es with
    | some q=>ae q.1 (q.2.map B.E)
    | none=>ae F (es.map B.E)
   | _,_=>no
 | false=>no
def yS (Γ:Ct) (B:Bd) (o:Expr) (m:Str) (ap:Pos) (es:List Expr) (p:Pos):SE:=match okBase o && es.all bf && decide (es.length<30) && ap.endLine == p.line with
 | true=>match Γ.me.lookup m with
  | some mf=>oX m (fun y=>mf.lookup y) (B.E o) (es.map B.E)
  | none=>match Px m (Γ.fz p) with
   | some f=>aM f (B.E o) (es.map B.E)
   | none=>no
 | false=>no
def DJ (Γ:Ct) (B:Sg->Bd) (S:Sg):Expr->SE
 | .Name x _=>eName Γ S x
 | .Constant k _ _=>FN k
 | .BinOp a op b p=>b2 ((B S).E a) ((B S).E b) (aX (Γ.fz p) op)
 | .UnaryOp .Not a _=>mc ((B S).E a)
 | .UnaryOp .USub a _=>b1 ((B S).E a) neg
 | .BoolOp .And es _=>kq (es.map (B S).E)
 | .BoolOp .Or es _=>Bf (es.map (B S).E)
 | .Compare a ops es _=>yO (B S) a ops es
 | .IfExp k a b _=>Mo ((B S).T k) ((B S).E a) ((B S).E b)
 | .List es p=>match es.all bf with
  | true=>lst (Γ.fz p) (es.map (B S).E)
  | false=>no
 | .Tuple es _ _=>match es.all bf && decide (es.length<=1000) with
  | true=>tup (es.map (B S).E)
  | false=>no
 | .Dict [] [] p=>wq (Γ.fz p)
 | .Subscript a b p=>Jl Γ (B S) a b p
 | .Attribute o f _=>match okBase o && Γ.fl.contains f with
  | true=>b1 ((B S).E o) (fld f)
  | false=>no
 | .ListComp elt [⟨tg,iter,ifs,0⟩] sc p=>ox Γ B S elt tg iter ifs sc p
 | .Call (.Name x _) es [] p=>yR Γ (B S) S x es p
 | .Call (.Attribute o m ap) es [] p=>yS Γ (B S) o m ap es p
 | _=>no
def Py (B:Bd) (own:Expr->SE):Expr->ST
 | .UnaryOp .Not a _=>d9 (B.T a)
 | .BoolOp .And es _=>jI (es.map B.T)
 | .BoolOp .Or es _=>vz (es.map B.T)
 | .Compare a ops es p=>tv (own (.Compare a ops es p))
 | .Name x p=>tv (own (.Name x p))
 | .Call f es ks p=>tv (own (.Call f es ks p))
 | .Subscript a b p=>tv (own (.Subscript a b p))
 | .Attribute o f p=>tv (own (.Attribute o f p))
 | .Constant k n p=>tv (own (.Constant k n p))
 | _=>no
noncomputable def DK:Expr->Bool
 | .Call ..=>true
 | .Name ..=>true
 | .Subscript ..=>true
 | .Attribute ..=>true
 | _=>false
noncomputable def MX (gs:List Comprehension):Option (Expr × Expr × List Expr):=match gs with
 | [⟨tg,iter,ifs,0⟩]=>some (tg,iter,ifs)
 | _=>none
def Cb (B:Sg->Bd) (S:Sg) (i:Nat) (e:Expr):SS:=match iQ e with
 | true=>asg (.one i) ((B S).E e)
 | false=>fW
def wL (Γ:Ct) (B:Sg->Bd) (S:Sg) (tg e:Expr):SS:=match tg with
 | .Name x p=>match S.own x with
  | some i=>match e with
   | .ListComp elt gs sc p=>match MX gs with
    | some (tg,iter,ifs)=>asg (.one i) (ox Γ B S elt tg iter ifs sc p)
    | none=>Cb B S i e
   | _=>Cb B S i e
  | none=>fW
 | .Tuple ts _ _=>match yP S ts,DK e with
  | some is,true=>asg (.many is) ((B S).E e)
  | _,_=>fW
 | .Attribute o f _=>match Γ.fl.contains f && iQ e with
  | true=>ja ((B S).E o) f ((B S).E e)
  | false=>fW
 | .Subscript o i _=>match iQ e with
  | true=>qJ ((B S).E o) ((B S).E i) ((B S).E e)
  | false=>fW
 | _=>fW
def H8 (Γ:Ct) (B:Sg->Bd) (S:Sg):Stmt->SS
 | .Pass _=>pass
 | .Break _=>brk
 | .Continue _=>cnt
 | .Expr e _=>match iQ e with
  | true=>fX ((B S).E e)
  | false=>fW
 | .Return none _=>ret (c .bZ)
 | .Return (some e) _=>ret ((B S).E e)
 | .If k a b _=>iff ((B S).T k) (ab (a.map (B S).S)) (ab (b.map (B S).S))
 | .Assign [tg] e _=>wL Γ B S tg e
 | .AugAssign (.Name x _) op e _=>match S.own x with
  | some i=>aug op i ((B S).E e)
  | none=>fW
 | .AugAssign (.Subscript o i _) op e _=>match wG i with
  | true=>xB op ((B S).E o) ((B S).E i) ((B S).E e)
  | false=>fW
 | .For tg e b [] _=>match MW S tg,jd e with
  | some t,true=>bQ (stI Γ (B S) S tg e) t (ab (b.map (B S).S))
  | _,_=>fW
 | .While k b [] _=>qB ((B S).T k) (ab (b.map (B S).S)) lim
 | _=>fW
def step (Γ:Ct) (B:Sg->Bd) (S:Sg):Bd:=⟨DJ Γ B S,Py (B S) (DJ Γ B S),H8 Γ B S⟩
def cX (Γ:Ct):Nat->Sg->Bd
 | 0,_=>⟨fun _=>no,fun _=>no,fun _=>fW⟩
 | n+1,S=>step Γ (cX Γ n) S
def code (Γ:Ct) (S:Sg) (b:List Stmt):SS:=ab (b.map (cX Γ 40 S).S)
end M
namespace M
open PySem PySem.W PySem.Calls PyProof.Rows L2
section
variable {X:Cx} {pins:aY} {φ:Fr} {g:G} {L L':aa} {s:UB}
theorem mI {A:Vq} {E:Ux->UB->Prop} {fz:Bool} {ts:List T} {its:List Ux} {w:T} (hu:A.units+8<cLine) (I:Inv X pins φ g L s) (rr:cE g ts its) (ok:cH ts) (h:fo fz (jH ts) L=.ok w L') :
  UR (model X.prog X.w) A (Builtin.«list.sort» ⟨[.ref s.heap.objs.size],[]⟩) (fun fin s'=>fin=.done (.ret .none)/\EP X pins φ g w L' (.ref s.heap.objs.size) s') E { s with heap:=s.heap.push (seqObj "list" its.toArray 0) }:=by
 obtain⟨LV,hk,hh,hs⟩:=ok;have nD:∀b o,s.heap.get? b=some o->b≠s.heap.objs.size:=fun b o q=>U6 (UX q)
 have FP:∀b o,s.heap.get? b=some o->(s.heap.push (seqObj "list" its.toArray 0)).get? b=some o:=fun b o q=>Ur _ q
 have hlen:its.length=ts.length:=(US rr).symm;have hk':=Uu.mp hk
 have RF:∀i,kd 8 (ts.getD i (.int 0))=true:=fun i=>by
  cases e:ts[i]? with
  | none=>simp only [Gd9,e,ZF];rfl
  | some x=>simp only [Gd9,e,WH];exact hk' x (Ve e)
 have MY:∀{h':Heap},(∀b o,s.heap.get? b=some o->h'.get? b=some o)->∀i (hi:i<ts.length) (hi':i<its.length),cM h' ts[i] its[i]:=fun {h'} kp i hi hi' =>
  (I.kept (t':=s.toks) kp).Fx 8 (hk' _ (UQ hi)) (wx rr i _ _ (Ge9 hi) (Ge9 hi'))
 refine nQ (κ:=tuples' true) (lt:=fun i j=>ltN 8 (ts.getD i (.int 0)) (ts.getD j (.int 0))) (FJ RF) (Uy _ rfl) (by omega) (fun h2 h' kp Q' hQ=>?_) (fun h' kp i j C hi hj hC=>?_) fun p h' c hp hr kp e'=>?_
 ·have hf:∀i:_root_.Fin its.length,∃f:Ux,(∃a o xs n,its[i.1]=.ref a/\h'.get? a=some o/\o.cls=.type "tuple"/\o.data=.seq xs n/\xs[0]?=some f)/\((ts.all qF=true->typeOf f=pure (.type "str"))/\(ts.all B7=true->typeOf f=pure (.type "int"))):=fun⟨i,hi⟩=>by
   have hit:i<ts.length:=by omega
   have k:=MY (fun b o q=>kp b o (nD b o q) (FP b o q)) i hit hi;have tup:∃b r,ts[i]=.tup (b::r):=by
    rcases hh with hh|hh
    ·have z:=Uu.mp hh _ (UQ hit)
     unfold qF at z;split at z
     ·rename_i e;exact⟨_,_,e⟩
     ·cases z
    ·have z:=Uu.mp hh _ (UQ hit)
     unfold B7 at z;split at z
     ·rename_i e;exact⟨_,_,e⟩
     ·cases z
   obtain⟨b,r,et⟩:=tup;have hS:ts.all qF=true->∃x,b=.str x:=fun z=>by
    have z:=Uu.mp z _ (UQ hit);rw [et] at z;cases b <;> first|exact⟨_,rfl⟩|cases z
   have hI:ts.all B7=true->∃x,b=.int x:=fun z=>by
    have z:=Uu.mp z _ (UQ hit);rw [et] at z;cases b <;> first|exact⟨_,rfl⟩|cases z
   rw [et] at k;generalize hv:its[i]=vv at k;cases k with
   | tup ho hc hd hl DB =>
    rename_i a1 o1 i1 n1;have wM:0<i1.size:=by simp at hl;omega
    have k0:=DB 0 b i1[0] rfl (UE wM);refine⟨i1[0],⟨a1,o1,i1,n1,rfl,ho,hc,hd,UE wM⟩,fun z=>?_,fun z=>?_⟩
    ·obtain⟨x,rfl⟩:=hS z
     generalize i1[0]=y at k0;cases k0;rfl
    ·obtain⟨x,rfl⟩:=hI z
     generalize i1[0]=y at k0;cases k0;rfl
  obtain⟨f,hf⟩:=aav.mp hf;have kt:KatTups h' its (List.ofFn f):=ow (by simp) fun i h1 h2=>by
   rw [List.getElem_ofFn];exact(hf ⟨i,h1⟩).1
  rcases hh with hh|hh
  ·refine kat_kind (s:={ s with heap:=h' }) (T:=.type "str") (by simpa using kt) (by simp at h2 ⊢;omega) (fun v hv=>?_) (by decide) ?_
   ·obtain⟨i,rfl⟩:=(List.mem_ofFn (f:=f) (a:=v)).mp hv
    exact Looks.of_pure ((hf i).2.1 hh)
   ·exact hQ
  ·refine kat_kind (s:={ s with heap:=h' }) (T:=.type "int") (by simpa using kt) (by simp at h2 ⊢;omega) (fun v hv=>?_) (by decide) ?_
   ·obtain⟨i,rfl⟩:=(List.mem_ofFn (f:=f) (a:=v)).mp hv
    exact Looks.of_pure ((hf i).2.2 hh)
   ·exact hQ
 ·have i1:i<ts.length:=by omega
  have j1:j<ts.length:=by omega
  have t1:ts.getD i (.int 0)=ts[i]:=by simp [i1]
  have t2:ts.getD j (.int 0)=ts[j]:=by simp [j1]
  have g1:its.getD i VQ=its[i]:=by rw [Gd9,Ge9 hi];rfl
  have g2:its.getD j VQ=its[j]:=by rw [Gd9,Ge9 hj];rfl
  rw [g1,g2];have hC:C (ltN 8 (ts.getD i (.int 0)) (ts.getD j (.int 0))) _:=hC
  rw [t1,t2] at hC;refine Jk hu (hk' _ (UQ i1)) (hk' _ (UQ j1)) ?_ (Uu.mp (Uu.mp hs _ (UQ i1)) _ (UQ j1)) (MY (fun b o q=>kp b o (nD b o q) (FP b o q)) i i1 hi) (MY (fun b o q=>kp b o (nD b o q) (FP b o q)) j j1 hj) hC;rcases hh with hh|hh
  ·exact .inl ⟨Uu.mp hh _ (UQ i1),Uu.mp hh _ (UQ j1)⟩
  ·exact .inr ⟨Uu.mp hh _ (UQ i1),Uu.mp hh _ (UQ j1)⟩
 ·have hpl:p.toList.Perm (Vx its.length):=hp.2
  have e1:(Vx its.length).map (fun i=>ts.getD i (.int 0))=ts:=by
   rw [hlen];apply Wa (by simp);intro i a1 a2;simp [a2]
  have MZ:jH ts=p.toList.map (fun i=>ts.getD i (.int 0)):=by
   refine pM hk ?_ ?_
   ·have z:=hpl.map (fun i=>ts.getD i (.int 0))
    rw [e1] at z;exact z
   ·unfold g6
    rw [Xx,Y3];intro i j hi hj tQ;have hi':i<p.size:=by simpa using hi
    have hj':j<p.size:=by simpa using hj
    have z:=hr i j tQ (by rw [<- hp.1];exact hj');have g1:p.getD i 0=p.toList[i]:=by simp [Wj,hi']
    have g2:p.getD j 0=p.toList[j]:=by simp [Wj,hj']
    rw [g1,g2] at z;exact z
  rw [MZ] at h;exact⟨rfl,B8 (s:=s) (t':=s.toks) (n:=c) I (vt rr p.toList fun i hi=>by have:=Vv.mp (hpl.mem_iff.mp hi);omega) h (fun b o q=>kp b o (nD b o q) (FP b o q)) (UM _) e'⟩
theorem Inv.Jm {h':Heap} {tk:Nat} {as:List U9} (I:Inv X pins φ g L s) (kp:∀b o,s.heap.get? b=some o->h'.get? b=some o) (ha:∀a∈as,s.heap.objs.size<=a) :
  ∃g1,Le g g1/\Inv X pins φ g1 L { s with heap:=h',toks:=tk }/\∀a∈as,∀o,h'.get? a=some o->g1.H a=some (true,o):=by
 classical
 let g1:G:={ g with H:=fun b=>if b∈as then (h'.get? b).map fun o=>(true,o) else g.H b }
 have old:∀b,b<s.heap.objs.size->g1.H b=g.H b:=fun b hb=>if_neg fun z=>V8 _ (U4 hb (ha b z))
 have lt:∀b x,g.H b=some x->b<s.heap.objs.size:=fun b x q=>UX (I.hok b x.1 x.2 q)
 have l:Le g g1:=⟨fun b o q=>(old b (lt b _ q)).trans q,fun _ _ q=>q,rfl,rfl,rfl⟩;refine⟨g1,l,I.un l ⟨fun b o q _ _=>kp b o q,fun b o q n _=>(old b (UX q)).trans n,l.f⟩ (fun b c o q=>?_) (I.rel.le l rfl fun b o q=>old b (lt b _ q)),fun a hm o q=>?_⟩
 ·by_cases hb:b∈as
  ·have q:(if b∈as then (h'.get? b).map fun o=>(true,o) else g.H b)=some (c,o):=q
   rw [if_pos hb] at q;obtain⟨z,z1,z2⟩:=UI.mp q;cases z2;exact z1
  ·have q:(if b∈as then (h'.get? b).map fun o=>(true,o) else g.H b)=some (c,o):=q
   rw [if_neg hb] at q;exact kp b o (I.hok b c o q)
 ·show(if a∈as then (h'.get? a).map fun o=>(true,o) else g.H a)=_
  rw [if_pos hm,q];rfl
theorem DL {a:U9} {o:Obj} {es:Array DictEntry} {ep:Nat} {ks:List (T × T)} (D:bK X g s ks a o es ep) (h:(ks.map (·.1)).all j6=true):∃kvs,s.heap.DictAt (gS X.prog X.w) a kvs ep/\kvs.length=ks.length/\∀(i:Nat) k x,kvs[i]?=some (k,x)->∃p,ks[i]?=some p/\p.1=k/\(∃u,RT g none k u)/\RT g none p.2 x:=by
 have sc:∀(i:Nat) p e,ks[i]?=some p->es[i]?=some e->yA p.1 e.key=true:=fun i p e e1 e2 =>
  lP (Uu.mp h _ (UP (Ve e1))) (D.h1 i p e e1 e2)
 have go:∀(l:List DictEntry) (ks:List (T × T)),ks.length=l.length->(∀(i:Nat) p e,ks[i]?=some p->l[i]?=some e->yA p.1 e.key=true)->∃kvs,Pairs (gS X.prog X.w) l kvs/\kvs.length=ks.length/\kvs.map (·.1)=ks.map (·.1)/\kvs.map (·.2)=l.map (·.val):=fun l=>by
  induction l with
  | nil=>intro ks hl _;cases ks with
   | nil=>exact⟨[],.nil,rfl,rfl,rfl⟩
   | cons _ _=>cases hl
  | cons e l ih=>intro ks hl h;cases ks with
   | nil=>cases hl
   | cons p ks =>
    obtain⟨kvs,k1,k2,k3,k4⟩:=ih ks (by simpa using hl) fun i p e e1 e2=>h (i+1) p e (by simpa using e1) (by simpa using e2)
    exact⟨(p.1,e.val)::kvs,.cons (h 0 p e rfl rfl) rfl k1,by simp [k2],by simp [k3],by simp [k4]⟩
 obtain⟨kvs,k1,k2,k3,k4⟩:=go es.toList ks (by simpa using D.hl) fun i p e e1 e2=>sc i p e e1 (by simpa using e2)
 refine⟨kvs,⟨o,es,D.ho,D.hx,D.hd,fun e he=>?_,k1,by rw [k3];exact D.hn⟩,k2,fun i k x q=>?_⟩
 ·obtain⟨i,hi,rfl⟩:=Wt he
  have e1:=Ge9 (l:=ks) (i:=i) (by rw [D.hl];exact hi);exact⟨_,sc i _ _ e1 (UE hi),D.hh i _ _ e1 (UE hi)⟩
 ·have e1:(ks.map (·.1))[i]?=some k:=by rw [<- k3,UT,q];rfl
  have e2:(es.toList.map (·.val))[i]?=some x:=by rw [<- k4,UT,q];rfl
  rw [UT] at e1 e2;obtain⟨p,p1,p2⟩:=UI.mp e1;obtain⟨e,q1,q2⟩:=UI.mp e2;have q1:es[i]?=some e:=by simpa using q1
  subst p2 q2;exact⟨p,p1,rfl,⟨_,D.h1 i p e p1 q1⟩,D.h2 i p e p1 q1⟩
theorem q9 {ks:List (T × T)} (h:(br ks).all qF=true\/(br ks).all B7=true):(ks.map (·.1)).all j6=true:=by
 rw [Uu];intro k hk;obtain⟨p,hp,rfl⟩:=Uz.mp hk;have m:T.tup [p.1,p.2]∈br ks:=Uz.mpr ⟨p,hp,rfl⟩
 rcases h with h|h
 ·have z:=Uu.mp h _ m
  generalize p.1=q at z ⊢;cases q <;> first|rfl|cases z
 ·have z:=Uu.mp h _ m
  generalize p.1=q at z ⊢;cases q <;> first|rfl|cases z
theorem t4 {fz:Bool} {ks:List (T × T)} {w:T} {a r:U9} {o:Obj} {es:Array DictEntry} {ep:Nat} (hu:X.A.units+20<cLine) (I:Inv X pins φ g L s) (D:bK X g s ks a o es ep) (hr:s.heap.get? r=some { cls:=.type "dict_items",data:=.fields #[.ref a] }) (ok:cH (br ks)) (h:fo fz (jH (br ks)) L=.ok w L') :
  UR (model X.prog X.w) X.A (call (.builtin "sorted") [.ref r]) (EP X pins φ g w L') F0 s:=by
 obtain⟨kvs,d1,d2,d3⟩:=DL D (q9 ok.2.2.1);refine XJ kind_sorted plain_sorted entry_sorted (args_sorted1 _) ?_;unfold Builtin.«sorted»;refine Uq (m:=checkCount "sorted" 1 1 _) (Us ?_);refine Uq (PySem.W.kdx_collect (A:=X.A.in1) (knd:=gS X.prog X.w) (kvs:=kvs) (ep:=ep) (d:=a) I.ok.hd ⟨_,hr,rfl,rfl⟩ d1 (by rw [d2];exact D.hz) fun h' tk as kp Pz hG=>?_);obtain⟨g1,l1,I1,n1⟩:=I.Jm (tk:=tk) (as:=as) kp fun a ha=>XU (hG.above a ha)
 have rr:cE g1 (br ks) (as.map Ws):=by
  refine dy (by simp [br,Pz,d2]) fun i x v e1 e2=>?_
  unfold br at e1;rw [UT] at e1 e2;obtain⟨p,p1,rfl⟩:=UI.mp e1;obtain⟨b,b1,rfl⟩:=UI.mp e2;obtain⟨key,k,y,f1,f2,f3⟩:=hG.pairs i b b1;obtain⟨p',q1,q2,⟨u,q3⟩,q4⟩:=d3 i k y f1;rw [p1] at q1;cases q1;subst q2;have rk:RT g none p.1 key:=yD f2 q3
  refine .tup (.inl (n1 b (Ve b1) _ f3)) ⟨rfl,rfl⟩ rfl (by rw [V3];simp) rfl fun j z v e1 e2=>?_
  match j,e1,e2 with
  | 0,e1,e2=>cases e1;cases e2;exact rk.le l1
  | 1,e1,e2=>cases e1;cases e2;exact q4.le l1
  | j+2,e1,e2=>simp at e1
 refine Uq (wpAny_newList ?_ (by rw [Lm9,Pz,d2];exact D.hz));have jB:=fun E'=>mI (s:={ s with heap:=h',toks:=tk }) (E:=E') (A:=X.A.in1.in1) (by show X.A.units+1+1+8<cLine;omega) I1 rr ok h
 refine Uq (wpAny_holding (wpAny_call_entry slot_list_sort ⟨_,Uy _ rfl,rfl⟩ entry_list_sort ?body (args_list_sort _)))
 case body =>
  refine wpAny_mono (jB _) (fun fin s' z=>?_) fun _ _ z=>z
  obtain⟨rfl,z⟩:=z;exact⟨_,rfl,Us ⟨_,rfl,z.le l1⟩⟩
theorem wN {fz:Bool} (hu:X.A.units+20<cLine):dN X (.builtin "sorted") (ib fz):=fun {pins φ g L s _ w L' _} I r h=>by
 unfold ib at h;split at h
 ·obtain⟨u,rfl,ru⟩:=bM r
  obtain⟨q,v⟩:=I.view ru;split at h
  ·rename_i ts ev
   rw [ev] at v;obtain⟨ok,h⟩:=aA h;obtain⟨a,its,n,rfl,e,rr,hz⟩:=I.lst v;obtain⟨vs⟩:=its;have hlen:=US rr
   have LV:=ok.1;refine XJ kind_sorted plain_sorted entry_sorted (args_sorted1 _) ?_;unfold Builtin.«sorted»;refine Uq (m:=checkCount "sorted" 1 1 _) (Us ?_);refine Uq (collect_list (af e) ?_ (by rw [V3];simp at hlen ⊢;omega));refine Uq (wpAny_newList ?_ (by rw [V3];simp at hlen ⊢;omega));have keep:∀b o,s.heap.get? b=some o->((s.heap.push (seqObj "list" #[] 0)).update s.heap.objs.size (VW (·++vs.toArray))).get? b=some o:=fun b o q=>by
    have bJ:b<s.heap.objs.size:=UX q;rw [YE _ _ _ _ (U6 bJ),Xv _ _ _ (U6 bJ)];exact q
   have I1:=I.kept (t':=s.toks) keep;have jB:=fun E'=>mI (s:={ s with heap:=(s.heap.push (seqObj "list" #[] 0)).update s.heap.objs.size (VW (·++vs.toArray)) }) (E:=E') (A:=X.A.in1.in1) (by show X.A.units+1+1+8<cLine;omega) I1 rr ok h
   refine Uq (wpAny_holding (wpAny_call_entry slot_list_sort ⟨_,Uy _ rfl,rfl⟩ entry_list_sort ?body (args_list_sort _)))
   case body =>
    refine wpAny_mono (jB _) (fun fin s' z=>?_) fun _ _ z=>z
    obtain⟨rfl,z⟩:=z;exact⟨_,rfl,Us ⟨_,rfl,z⟩⟩
  ·cases h
 ·cases h
end
end M
namespace L2
open PySem
theorem noKeysZ:typeLookup (.type "zip") "keys"=pure none:=by rw [typeLookup_type,builtinLookup_eq_fast];kernel_rfl
theorem zip_getattr_none:typeLookup (.type "zip") "__getattr__"=pure none:=by rw [typeLookup_type,builtinLookup_eq_fast];kernel_rfl
theorem entry_zip_getattribute:entryFor table "zip.__getattribute__"=some Builtin.«object.__getattribute__» :=
 entryFor_alias (id':="object.__getattribute__") (by kernel_rfl) (by decide +kernel) (by decide +kernel) (by kernel_rfl)
theorem meets_miss_zip (a:U9) (xs:Array Ux) (sl:Array (Option Ux)) (name:Str) (u:Tok) (hmiss:typeLookup (.type "zip") name=pure none) (hname:(["__module__","__name__","__qualname__","__doc__","__annotations__"]:List Str).contains name=false) (hsz:name.length+100<=U1:=by size_fits) :
  Meets (Builtin.«object.__getattribute__» ⟨[.ref a,.str name u],[]⟩) (fun A R s=>s.heap.get? a=some { cls:=.type "zip",dict:=none,data:=.fields xs,slots:=sl }/\raisesAttr (.ref a) name A R s) :=
 Meets.of_wp fun prog w A R s hs=>by
  obtain⟨hp,g,d,tk,os⟩:=s;obtain⟨hx,hs⟩:=hs;have hT:(⟨hp,g,d,tk,os⟩:UB).TypeIs (.ref a) "zip":=⟨_,hx,rfl⟩
  unfold Builtin.«object.__getattribute__»
  repeat (any_goals (first|assumption|wp_step))
  simp only [hname,UJ,if_false]
  repeat (any_goals (first|assumption|wp_step))
  exact wpAny_raiseAttrError hs.1 hs.2 (attrMsg_fits (by decide +kernel) hsz)
end L2
namespace L2
open PySem PySem.Spec PyProof.Rows
theorem wO {prog:VI} {w:WE} {A:Vq} {E:Ux->UB->Prop} {s:UB} {a:U9} {xs:Array Ux} {sl:Array (Option Ux)} {Q:Option Ux->UB->Prop}
  (hx:s.heap.get? a=some { cls:=.type "zip",dict:=none,data:=.fields xs,slots:=sl }) (hA:A.handled=none)
  (h:∀h' tk e,aal s.heap h' e "AttributeError"->Q none { s with heap:=h',toks:=tk }) :
  UR (model prog w) A (getAttr? (.ref a) "keys") Q E s:=by
 obtain⟨hp,g,d,tk,os⟩:=s;have hT:∀tk',(⟨hp,g,d,tk',os⟩:UB).TypeIs (.ref a) "zip":=fun _=>⟨_,hx,rfl⟩
 have f1:=sub_AttributeError;have f3:=W6.lookup
 have f4:=W6.bind (.ref a);have f5:=zip_getattr_none
 have hmiss:=noKeysZ;unfold getAttr? getAttrBy? getAttrBy
 repeat (any_goals (first|assumption|exact hT _|((with_reducible show UR _ _ (call (Yy "zip.__getattribute__") _ _) _ _ _);refine call_meets W6 (hT _) entry_zip_getattribute (PySem.F.args_zip_getattribute_2 _ _) (meets_miss_zip a xs sl "keys" _ hmiss (by decide +kernel) (by decide)) ⟨hx,hA,fun h' tk' e hx'=>?_⟩)|wp_step))
 obtain⟨t',u',he⟩:=hx'.there;show UR _ _ (getattributeRaised _ _ _ _ _ _ _) _ _ _
 unfold getattributeRaised
 repeat (any_goals (first|assumption|wp_step))
 exact h _ _ _ hx'.of
abbrev IsZipF (h:Heap) (z TI TO:U9) (f0:Ux) (f1:Bool):Prop :=
 h.get? z=some { cls:=.type "zip",dict:=none,data:=.fields #[f0,.bool f1,.bool false,.ref TI,.ref TO],slots:=#[] }
noncomputable def Cc (h:Heap) (b:Bool) (i l:U9) (k:Nat):Prop:=match b with|true=>h.IsTupleIter i l k|false=>h.IsListIter i l k
noncomputable def Cd (h:Heap) (b:Bool) (l:U9) (xs:Array Ux):Prop:=match b with|true=>h.IsTuple l xs|false=>h.IsList l xs
theorem Cc.at {h h':Heap} {b:Bool} {i l:U9} {k:Nat} (x:Cc h b i l k) (e:∀o,h.get? i=some o->h'.get? i=some o):Cc h' b i l k:=by
 cases b with
 | false=>obtain⟨o,ho,r⟩:=x;exact⟨o,e _ ho,r⟩
 | true=>obtain⟨o,ho,r⟩:=x;exact⟨o,e _ ho,r⟩
theorem Cd.at {h h':Heap} {b:Bool} {l:U9} {xs:Array Ux} (x:Cd h b l xs) (e:∀o,h.get? l=some o->h'.get? l=some o):Cd h' b l xs:=by
 cases b with
 | false=>obtain⟨o,ho,r⟩:=x;exact⟨o,e _ ho,r⟩
 | true=>obtain⟨o,ho,r⟩:=x;exact⟨o,e _ ho,r⟩
theorem Cc.there {h:Heap} {b:Bool} {i l:U9} {k:Nat} (x:Cc h b i l k):∃o,h.get? i=some o:=by
 cases b with
 | false=>obtain⟨o,ho,r⟩:=x;exact⟨o,ho⟩
 | true=>obtain⟨o,ho,r⟩:=x;exact⟨o,ho⟩
section
variable {prog:VI} {w:WE} {A:Vq} {E:Ux->UB->Prop} {s:UB}
theorem pO {it t:U9} {i:Nat} {items:Array Ux} {x:Ux} {Q:Ux->UB->Prop} (hit:s.heap.IsTupleIter it t i)
  (ht:s.heap.IsTuple t items) (hx:items[i]?=some x)
  (hQ:∀h',h'.IsTupleIter it t (i+1)->Wc it s.heap h'->Q x { s with heap:=h' }) :
  UR (model prog w) A (Vr (.ref it)) Q E s:=by
 obtain⟨o,ho,hc,hd⟩:=id hit;obtain⟨ol,pJ,_,nl,M0⟩:=ht;unfold Vr;refine Uq (wpAny_callSpecial?_slot (name:=V5 "__next__") hit.typeIs X8
  (wpAny_call_entry X8 hit.typeIs PySem.F.entry_tuple_iterator_next ?_ (PySem.F.args_tuple_iterator_next_1 _)))
 show UR _ _ (field (.ref it) 0 >>= _) _ _ s;refine Uq (wpAny_field ho hd (x:=.ref t) rfl ?_);show UR _ _ (if (Ws t == VQ)=true then _ else _) _ _ s
 rw [if_neg (show ¬ ((Ws t == VQ)=true) from WL)];show UR _ _ (field (.ref it) 1 >>= _) _ _ s
 refine Uq (wpAny_field ho hd (x:=.int i 0) rfl ?_);show UR _ _ (seqItems? (.ref t) >>= _) _ _ s
 refine Uq (wpAny_seqItems pJ M0 ?_);simp only [WY,hx];refine Uq (wpAny_setField ho hd (by simp) (Us ⟨x,rfl,Us (hQ _ ?_ (VT ..))⟩));exact⟨_,VS _ ho (Yp (WM hd _)),(Zi ..).trans hc,by
  rw [WM hd];simp [rawInt]⟩
theorem rf {b:Bool} {it t:U9} {i:Nat} {items:Array Ux} {x:Ux} {Q:Ux->UB->Prop} (hit:Cc s.heap b it t i)
  (ht:Cd s.heap b t items) (hx:items[i]?=some x)
  (hQ:∀h',Cc h' b it t (i+1)->Wc it s.heap h'->Q x { s with heap:=h' }) :
  UR (model prog w) A (Vr (.ref it)) Q E s:=by
 cases b with
 | false=>exact wpAny_nextOf_list_item hit ht hx hQ
 | true=>exact pO hit ht hx hQ
structure ZD (z TI TO i1 i2 l1 l2 a:U9):Prop where
 TIz:TI≠z
 TOz:TO≠z
 i1z:i1≠z
 i2z:i2≠z
 TITO:TI≠TO
 TIi1:TI≠i1
 TIi2:TI≠i2
 TOi1:TO≠i1
 TOi2:TO≠i2
 i12:i1≠i2
 l1z:l1≠z
 l1TO:l1≠TO
 l1i1:l1≠i1
 l1i2:l1≠i2
 l2z:l2≠z
 l2TO:l2≠TO
 l2i1:l2≠i1
 l2i2:l2≠i2
 za:z≠a
 RG:TI≠a
 RH:TO≠a
 RI:i1≠a
 RJ:i2≠a
structure yT (h:Heap) (b:Bool) (z TI TO i1 i2 l1 l2 a:U9) (k:Nat):Prop where
 z:∃f0 f1,IsZipF h z TI TO f0 f1/\(f0=.none\/∃T o,f0=rawInt ((T:Nat):Int)/\h.get? T=some o/\T≠z/\T≠TO/\T≠i1/\T≠i2/\T≠a)
 ti:IsPair h TI (.ref i1) (.ref i2)
 to:∃x y,IsPair h TO x y
 j1:h.IsListIter i1 l1 k
 j2:Cc h b i2 l2 k
theorem yT.ext {h h':Heap} {b:Bool} {z TI TO i1 i2 l1 l2 a:U9} {k:Nat} (D:ZD z TI TO i1 i2 l1 l2 a) (x:yT h b z TI TO i1 i2 l1 l2 a k) (e:∀c o,c≠a->h.get? c=some o->h'.get? c=some o):yT h' b z TI TO i1 i2 l1 l2 a k:=by
 obtain⟨⟨f0,f1,hz,hf⟩,RK,⟨u,v,RL⟩,h1,h2⟩:=x;refine⟨⟨f0,f1,e _ _ D.za hz,?_⟩,e _ _ D.RG RK,⟨u,v,e _ _ D.RH RL⟩,h1.at fun o q=>e _ o D.RI q,h2.at fun o q=>e _ o D.RJ q⟩;rcases hf with hf|⟨T,o,e0,ho,n1,n2,n3,n4,n5⟩
 ·exact .inl hf
 ·exact .inr ⟨T,o,e0,e _ _ n5 ho,n1,n2,n3,n4,n5⟩
theorem rg {z TI TO T0:U9} {f1:Bool} {o0:Obj} {C:Bool->UB->Prop} (hz:IsZipF s.heap z TI TO (rawInt ((T0:Nat):Int)) f1) (ho:s.heap.get? T0=some o0)
  (h:∀h₁,IsZipF h₁ z TI TO (rawInt ((T0:Nat):Int)) true->Wc z s.heap h₁->C false { s with heap:=h₁ }):UR (model prog w) A (Vs (.ref z)) C E s:=by
 unfold Vs;refine Uq (wpAny_field hz rfl (x:=rawInt ((T0:Nat):Int)) rfl ?_);show UR _ _ (loadIfAlive (((T0:Nat):Int).toNat) >>= _) _ _ _
 rw [WY];refine Uq (Q:=_) ?_;have al:∀{Q:Option Obj->UB->Prop},Q (some o0) s->UR (model prog w) A (loadIfAlive T0) Q E s:=fun {Q} q=>by
  have q':Q (s.heap.get? T0) s:=ho ▸ q;exact fun _ _ _=>q'
 refine al ?_;rw [if_neg (by simp)];refine Uq (wpAny_field hz rfl (x:=.bool f1) rfl ?_);cases f1 with
 | true =>
  rw [if_neg (by decide)];exact Us (h s.heap hz ⟨rfl,fun _ _=>rfl⟩)
 | false =>
  rw [if_pos (by decide)];refine Uq (wpAny_setField_rec hz (by simp) fun h₁ xo oy=>Us (h h₁ xo oy))
theorem yU {b:Bool} {z TI TO i1 i2 l1 l2 a:U9} {k:Nat} {xs ys:Array Ux} {x y:Ux} {Q:Ux->UB->Prop} (D:ZD z TI TO i1 i2 l1 l2 a) (ha:a<s.heap.objs.size)
  (Z:yT s.heap b z TI TO i1 i2 l1 l2 a k) (pP:s.heap.IsList l1 xs) (j4:Cd s.heap b l2 ys) (hx:xs[k]?=some x) (hy:ys[k]?=some y)
  (hQ:∀h' T,yT h' b z TI TO i1 i2 l1 l2 a (k+1)->IsPair h' T x y->s.heap.objs.size<=T ->
   (∀c o,c≠z->c≠TO->c≠i1->c≠i2->s.heap.get? c=some o->h'.get? c=some o)->Q (.ref T) { s with heap:=h' }) :
  UR (model prog w) A (Builtin.«zip.__next__» ⟨[.ref z],[]⟩) (fun fin s'=>∃v,fin=.done (.ret v)/\Q v s') E s:=by
 obtain⟨⟨f0,f1,hz,hf⟩,Jn,⟨u,v,M3⟩,h1,h2⟩:=Z;show UR _ _ (field (.ref z) 2 >>= _) _ _ _
 refine Uq (wpAny_field hz rfl (x:=.bool false) rfl ?_);show UR _ _ (field (.ref z) 3 >>= _) _ _ _
 refine Uq (wpAny_field hz rfl (x:=.ref TI) rfl ?_);refine Uq (wpAny_seqItems Jn rfl ?_);show UR _ _ (Vs (.ref z) >>= _) _ _ _
 rcases hf with rfl|⟨T0,o0,rfl,LY,n1,n2,n3,n4,n5⟩
 ·refine Uq ?_
  unfold Vs;refine Uq (wpAny_field hz rfl (x:=.none) rfl (Us ?_));simp only [if_true];refine Uq (wpAny_rule ?_);refine Uq (wpAny_field hz rfl (x:=.ref TO) rfl ?_);refine Uq (wpAny_setField_rec hz (by simp) fun h₁ xo oy=>?_)
  replace xo:IsZipF h₁ z TI TO .ellipsis f1:=xo
  refine Uq ?_;simp only [List.zipIdx_cons,List.zipIdx_nil,Xk,Y4];refine Uq (Uq (wpAny_onRaise ?_));show UR _ _ (Vr (.ref i1) >>= _) _ _ _
  refine Uq (wpAny_nextOf_list_item (h1.extBut oy.extBut D.i1z) (pP.extBut oy.extBut D.l1z) hx fun h₂ M4 wQ=>Us ?_);have Jo:IsPair h₂ TO u v:=wQ.extBut _ _ D.TOi1 (oy.extBut _ _ D.TOz M3)
  refine Uq (wpAny_seqItems Jo rfl ?_);refine Uq (wpAny_updateSeq_pair Jo fun h₃ FQ xp=>?_)
  replace FQ:IsPair h₃ TO x v:=FQ
  refine Uq (wpAny_letGo (Us ?_));refine Uq (Uq (wpAny_onRaise ?_));show UR _ _ (Vr (.ref i2) >>= _) _ _ _
  have DM:∀c o,c≠z->c≠i1->c≠TO->s.heap.get? c=some o->h₃.get? c=some o:=fun c o c1 c2 c3 e=>xp.extBut _ _ c3 (wQ.extBut _ _ c2 (oy.extBut _ _ c1 e))
  refine Uq (rf (h2.at fun o e=>DM _ o D.i2z D.i12.symm D.TOi2.symm e) (j4.at fun o e=>DM _ o D.l2z D.l2i1 D.l2TO e) hy fun h₄ RM Jp=>Us ?_);have Jq:IsPair h₄ TO x v:=Jp.extBut _ _ D.TOi2 FQ
  refine Uq (wpAny_seqItems Jq rfl ?_);refine Uq (wpAny_updateSeq_pair Jq fun h₅ yV Jr=>?_)
  replace yV:IsPair h₅ TO x y:=yV
  refine Uq (wpAny_letGo (Us (Us ?_)));refine Uq (wpAny_seqItems yV rfl ?_);refine Uq (wpAny_newTuple ?_);have hsz:h₅.objs.size=s.heap.objs.size:=by rw [Jr.1,Jp.1,xp.1,wQ.1,oy.1]
  have PB:IsZipF h₅ z TI TO .ellipsis f1:=Jr.extBut _ _ D.TOz.symm (Jp.extBut _ _ D.i2z.symm (xp.extBut _ _ D.TOz.symm (wQ.extBut _ _ D.i1z.symm xo)));have PC:∀c o,c≠z->c≠TO->c≠i1->c≠i2->s.heap.get? c=some o->h₅.get? c=some o:=fun c o c1 c2 c3 c4 e =>
   Jr.extBut _ _ c2 (Jp.extBut _ _ c4 (DM _ _ c1 c3 c2 e))
  have PD:h₅.IsListIter i1 l1 (k+1):=((M4.extBut xp.extBut D.TOi1.symm).extBut Jp.extBut D.i12).extBut Jr.extBut D.TOi1.symm;have PF:Cc h₅ b i2 l2 (k+1):=RM.at fun o e=>Jr.extBut _ _ D.TOi2.symm e
  have FU:z<h₅.objs.size:=UX PB;have Js:TO<h₅.objs.size:=UX yV
  have Jt:i1<h₅.objs.size:=by obtain⟨_,e,_⟩:=PD;exact UX e
  have Ju:i2<h₅.objs.size:=by obtain⟨_,e⟩:=PF.there;exact UX e
  show UR _ _ (XK (.ref z) (.ref h₅.objs.size) >>= _) _ _ _;refine Uq ?_;unfold XK;have RN:IsZipF (h₅.push { cls:=.type "tuple",data:=.seq #[x,y] }) z TI TO .ellipsis f1:=Ur _ PB
  refine Uq (wpAny_setField_rec RN (by simp) fun h₇ M5 PH=>?_)
  replace M5:IsZipF h₇ z TI TO (rawInt h₅.objs.size) f1:=M5
  refine wpAny_setField_rec M5 (by simp) fun h₈ M6 PJ=>?_
  replace M6:IsZipF h₈ z TI TO (rawInt h₅.objs.size) false:=M6
  have up:∀c o,c≠z->h₅.get? c=some o->h₈.get? c=some o:=fun c o c1 e=>PJ.extBut _ _ c1 (PH.extBut _ _ c1 (Ur _ e))
  have PK:IsPair h₈ h₅.objs.size x y:=PJ.extBut _ _ (VF FU) (PH.extBut _ _ (VF FU) (Uy _ rfl));refine Us ⟨_,rfl,?_⟩;show Q (.ref h₅.objs.size) _
  refine hQ h₈ h₅.objs.size ⟨⟨_,_,M6,.inr ⟨h₅.objs.size,_,rfl,PK,VF FU,VF Js,VF Jt,VF Ju,VF (by rw [hsz];exact ha)⟩⟩,up _ _ D.TIz (PC _ _ D.TIz D.TITO D.TIi1 D.TIi2 Jn),⟨x,y,up _ _ D.TOz yV⟩,PD.at fun o e=>up _ o D.i1z e,PF.at fun o e=>up _ o D.i2z e⟩ PK (XW hsz.symm) fun c o c1 c2 c3 c4 e=>up c o c1 (PC c o c1 c2 c3 c4 e)
 ·refine Uq (rg hz LY fun h₁ xo oy=>?_)
  simp only [UJ,if_false,List.forIn_toArray,Xk,Y4];refine Uq ?_;refine Uq (Uq (wpAny_holding ?_));show UR _ _ (Vr (.ref i1) >>= _) _ _ _
  refine Uq (wpAny_nextOf_list_item (h1.extBut oy.extBut D.i1z) (pP.extBut oy.extBut D.l1z) hx fun h₂ M4 wQ=>Us ?_);refine Us ?_;refine Uq (Uq (wpAny_holding ?_));show UR _ _ (Vr (.ref i2) >>= _) _ _ _
  have M7:∀c o,c≠z->c≠i1->s.heap.get? c=some o->h₂.get? c=some o:=fun c o c1 c2 e=>wQ.extBut _ _ c2 (oy.extBut _ _ c1 e)
  refine Uq (rf (h2.at fun o e=>M7 _ o D.i2z D.i12.symm e) (j4.at fun o e=>M7 _ o D.l2z D.l2i1 e) hy fun h₃ RO xp=>Us ?_);refine Us (Us ?_);show UR _ _ (newTuple [x,y] >>= _) _ _ _
  refine Uq (wpAny_newTuple (Us ⟨_,rfl,?_⟩));have hsz:h₃.objs.size=s.heap.objs.size:=by rw [xp.1,wQ.1,oy.1]
  have DM:∀c o,c≠z->c≠i1->c≠i2->s.heap.get? c=some o->h₃.get? c=some o:=fun c o c1 c2 c3 e=>xp.extBut _ _ c3 (M7 _ _ c1 c2 e)
  have RP:IsZipF h₃ z TI TO (rawInt ((T0:Nat):Int)) true:=xp.extBut _ _ D.i2z.symm (wQ.extBut _ _ D.i1z.symm xo);have RQ:h₃.IsListIter i1 l1 (k+1):=M4.extBut xp.extBut D.i12
  have FV:∀c o,h₃.get? c=some o->(h₃.push { cls:=.type "tuple",data:=.seq #[x,y] }).get? c=some o:=fun c o e=>Ur _ e
  refine hQ (h₃.push { cls:=.type "tuple",data:=.seq #[x,y] }) h₃.objs.size ⟨⟨_,_,FV _ _ RP,.inr ⟨T0,o0,rfl,FV _ _ (DM _ _ n1 n3 n4 LY),n1,n2,n3,n4,n5⟩⟩,FV _ _ (DM _ _ D.TIz D.TIi1 D.TIi2 Jn),⟨u,v,FV _ _ (DM _ _ D.TOz D.TOi1 D.TOi2 M3)⟩,RQ.at fun o e=>FV _ o e,RO.at fun o e=>FV _ o e⟩ (Uy _ rfl) (XW hsz.symm) fun c o c1 _ c3 c4 e=>FV _ _ (DM c o c1 c3 c4 e)
theorem Ce {b:Bool} {z TI TO i1 i2 l1 l2 a:U9} {k:Nat} {xs:Array Ux} {Q:Fin->UB->Prop} (hh:A.handled=none) (D:ZD z TI TO i1 i2 l1 l2 a)
  (Z:yT s.heap b z TI TO i1 i2 l1 l2 a k) (pP:s.heap.IsList l1 xs) (hx:xs[k]?=none)
  (hE:∀h' e,(∀c o,c≠z->c≠TO->c≠i1->c≠i2->s.heap.get? c=some o->h'.get? c=some o)->(∃o,h'.get? e=some o/\o.cls=.type "StopIteration")->E (.ref e) { s with heap:=h' }) :
  UR (model prog w) A (Builtin.«zip.__next__» ⟨[.ref z],[]⟩) Q E s:=by
 obtain⟨⟨f0,f1,hz,hf⟩,Jn,⟨u,v,M3⟩,h1,h2⟩:=Z;show UR _ _ (field (.ref z) 2 >>= _) _ _ _
 refine Uq (wpAny_field hz rfl (x:=.bool false) rfl ?_);show UR _ _ (field (.ref z) 3 >>= _) _ _ _
 refine Uq (wpAny_field hz rfl (x:=.ref TI) rfl ?_);refine Uq (wpAny_seqItems Jn rfl ?_);show UR _ _ (Vs (.ref z) >>= _) _ _ _
 rcases hf with rfl|⟨T0,o0,rfl,LY,n1,n2,n3,n4,n5⟩
 ·refine Uq ?_
  unfold Vs;refine Uq (wpAny_field hz rfl (x:=.none) rfl (Us ?_));simp only [if_true];refine Uq (wpAny_rule ?_);refine Uq (wpAny_field hz rfl (x:=.ref TO) rfl ?_);refine Uq (wpAny_setField_rec hz (by simp) fun h₁ xo oy=>?_)
  replace xo:IsZipF h₁ z TI TO .ellipsis f1:=xo
  refine Uq ?_;simp only [List.zipIdx_cons,List.zipIdx_nil,Xk,Y4];refine Uq (Uq (wpAny_onRaise ?_));show UR _ _ (Vr (.ref i1) >>= _) _ _ _
  refine Uq (wpAny_nextOf_list_end hh (h1.extBut oy.extBut D.i1z) (pP.extBut oy.extBut D.l1z) hx fun h₂ e wQ he=>?_);obtain⟨oe,M8,PL⟩:=he;have PM:IsZipF h₂ z TI TO .ellipsis f1:=wQ _ _ D.i1z.symm xo
  have RR:e≠z:=fun x=>by subst x;rw [PM] at M8;cases M8;simp at PL
  refine wpAny_setField_rec PM (by simp) fun h₃ _ xp=>hE h₃ e (fun c o c1 _ c3 _ x=>xp.extBut _ _ c1 (wQ _ _ c3 (oy.extBut _ _ c1 x))) ⟨oe,xp.extBut _ _ RR M8,PL⟩
 ·refine Uq (rg hz LY fun h₁ xo oy=>?_)
  simp only [UJ,if_false,List.forIn_toArray,Xk,Y4];refine Uq ?_;refine Uq (Uq (wpAny_holding ?_));show UR _ _ (Vr (.ref i1) >>= _) _ _ _
  refine Uq (wpAny_nextOf_list_end hh (h1.extBut oy.extBut D.i1z) (pP.extBut oy.extBut D.l1z) hx fun h₂ e wQ he=>?_);exact hE h₂ e (fun c o c1 _ c3 _ x=>wQ _ _ c3 (oy.extBut _ _ c1 x)) he
theorem nR {b:Bool} {z TI TO i1 i2 l1 l2 a:U9} {k:Nat} {xs ys:Array Ux} {x y:Ux} {Q:Option Ux->UB->Prop} (D:ZD z TI TO i1 i2 l1 l2 a) (ha:a<s.heap.objs.size)
  (Z:yT s.heap b z TI TO i1 i2 l1 l2 a k) (pP:s.heap.IsList l1 xs) (j4:Cd s.heap b l2 ys) (hx:xs[k]?=some x) (hy:ys[k]?=some y)
  (hQ:∀h' T,yT h' b z TI TO i1 i2 l1 l2 a (k+1)->IsPair h' T x y->s.heap.objs.size<=T ->
   (∀c o,c≠z->c≠TO->c≠i1->c≠i2->s.heap.get? c=some o->h'.get? c=some o)->Q (some (.ref T)) { s with heap:=h' }) :
  UR (model prog w) A (pyNext (.ref z)) Q E s:=by
 obtain⟨f0,f1,hz,_⟩:=Z.z;have hT:s.TypeIs (.ref z) "zip":=⟨_,hz,rfl⟩
 unfold pyNext;exact Uq (wpAny_attempt (wpAny_callSpecial?_slot (name:=V5 "__next__") hT Xn
  (wpAny_call_entry Xn hT ZP (yU D ha Z pP j4 hx hy fun h' T a1 a2 a3 a4=>Us (hQ h' T a1 a2 a3 a4)) (Zv _))))
theorem pQ {b:Bool} {z TI TO i1 i2 l1 l2 a:U9} {k:Nat} {xs:Array Ux} {Q:Option Ux->UB->Prop} (hh:A.handled=none) (D:ZD z TI TO i1 i2 l1 l2 a)
  (Z:yT s.heap b z TI TO i1 i2 l1 l2 a k) (pP:s.heap.IsList l1 xs) (hx:xs[k]?=none)
  (hQ:∀h',(∀c o,c≠z->c≠TO->c≠i1->c≠i2->s.heap.get? c=some o->h'.get? c=some o)->Q none { s with heap:=h' }):UR (model prog w) A (pyNext (.ref z)) Q E s:=by
 obtain⟨f0,f1,hz,_⟩:=Z.z;have hT:s.TypeIs (.ref z) "zip":=⟨_,hz,rfl⟩
 unfold pyNext;refine Uq (wpAny_attempt (wpAny_callSpecial?_slot (name:=V5 "__next__") hT Xn
  (wpAny_call_entry Xn hT ZP (Ce hh D Z pP hx fun h' e hk he=>?_) (Zv _))))
 obtain⟨o,ho,hc⟩:=he;refine Uq (wpAny_isInstance (T:="StopIteration") (b:=true) ⟨o,ho,hc⟩ isSubtype_stop ?_);exact Us (hQ _ hk)
end
abbrev LZ (h:Heap) (l1 l2:U9):Heap:=(zipH1 h l1).push { cls:=.type "tuple_iterator",data:=.fields #[.ref l2,.int 0 0] }
abbrev L9 (h:Heap) (l1 l2:U9):Heap:=(LZ h l1 l2).push { cls:=.type "tuple",data:=.seq #[.ref h.objs.size,.ref (zipH1 h l1).objs.size] }
abbrev Ma (h:Heap) (l1 l2:U9):Heap:=(L9 h l1 l2).push { cls:=.type "tuple",data:=.seq #[.none,.none] }
abbrev FW (h:Heap) (l1 l2:U9):Heap:=(Ma h l1 l2).push { cls:=.type "zip",data:=.fields #[.none,.bool false,.bool false,.ref (LZ h l1 l2).objs.size,.ref (L9 h l1 l2).objs.size] }
theorem t5 (l1 l2:U9) (xs ys:Array Ux) :
  Meets (Builtin.«zip.__new__» ⟨[.type "zip",.ref l1,.ref l2],[]⟩) (fun _ R s=>s.heap.IsList l1 xs/\s.heap.IsTuple l2 ys /\
   R (.ok (.ret (.ref (Ma s.heap l1 l2).objs.size))) { s with heap:=FW s.heap l1 l2 }) :=
 .of_wp fun prog w A R s h=>by
  obtain⟨hp,g,d,tk,os⟩:=s;obtain⟨pP,j4,h⟩:=h;have Cf:=sub_zip
  have Jv:Heap.IsList (Shared.heap ⟨hp,g,d,tk,os⟩) l1 xs:=pP;have H9:Heap.IsTuple (Shared.heap ⟨hp.push { cls:=.type "list_iterator",data:=.fields #[.ref l1,.int 0 0] },g,d,tk,os⟩) l2 ys:=Heap.IsTuple.push j4 _
  wp_walk using wpAny_pyIter_list Jv,wpAny_pyIter_tuple H9
  exact⟨_,rfl,h⟩
section
variable {prog:VI} {w:WE} {A:Vq} {E:Ux->UB->Prop} {s:UB}
theorem wR {l1 l2:U9} {xs ys:Array Ux} {Q:Ux->UB->Prop} (pP:s.heap.IsList l1 xs) (j4:s.heap.IsTuple l2 ys)
  (h:∀h',IsZip h' (s.heap.objs.size+4) (s.heap.objs.size+2) (s.heap.objs.size+3) .none->IsPair h' (s.heap.objs.size+2) (.ref s.heap.objs.size) (.ref (s.heap.objs.size+1)) ->
   IsPair h' (s.heap.objs.size+3) .none .none->h'.IsListIter s.heap.objs.size l1 0->h'.IsTupleIter (s.heap.objs.size+1) l2 0->h'.objs.size=s.heap.objs.size+5 ->
   (∀c o,s.heap.get? c=some o->h'.get? c=some o)->Q (.ref (s.heap.objs.size+4)) { s with heap:=h' }) :
  UR (model prog w) A (call (.type "zip") [.ref l1,.ref l2]) Q E s:=by
 refine callType_new PySem.F.called_zip (by decide) (PySem.F.typeCall_zip_2 _ _) (PySem.F.newCall_zip_2 _ _) (fun obj=>PySem.F.args_object_init_3 obj _ _) PySem.F.entry_zip_new
  (t5 l1 l2 xs ys) ⟨pP,j4,?_⟩
 have z1:(zipH1 s.heap l1).objs.size=s.heap.objs.size+1:=VJ ..;have z2:(LZ s.heap l1 l2).objs.size=s.heap.objs.size+2:=by rw [VJ,z1]
 have z3:(L9 s.heap l1 l2).objs.size=s.heap.objs.size+3:=by rw [VJ,z2]
 have z4:(Ma s.heap l1 l2).objs.size=s.heap.objs.size+4:=by rw [VJ,z3]
 have z5:(FW s.heap l1 l2).objs.size=s.heap.objs.size+5:=by rw [VJ,z4]
 have g5:(FW s.heap l1 l2).get? (Ma s.heap l1 l2).objs.size=some _:=Uy _ rfl;have g4:(FW s.heap l1 l2).get? (L9 s.heap l1 l2).objs.size=some _:=Ur _ (Uy _ rfl)
 have g3:(FW s.heap l1 l2).get? (LZ s.heap l1 l2).objs.size=some _:=Ur _ (Ur _ (Uy _ rfl));have g2:(FW s.heap l1 l2).get? (zipH1 s.heap l1).objs.size=some _:=Ur _ (Ur _ (Ur _ (Uy _ rfl)))
 have g1:(FW s.heap l1 l2).get? s.heap.objs.size=some _:=Ur _ (Ur _ (Ur _ (Ur _ (Uy _ rfl))));show _/\_
 rw [z2,z3,z4] at g5;rw [z1,z2] at g3;rw [z3] at g4;rw [z1] at g2;rw [z4];exact⟨⟨_,g5,rfl⟩,h _ g5 g3 g4 ⟨_,g1,rfl,rfl⟩ ⟨_,g2,rfl,rfl⟩ z5 fun c o x =>
  Ur _ (Ur _ (Ur _ (Ur _ (Ur _ x))))⟩
theorem t6 {b:Bool} {l1 l2:U9} {xs ys:Array Ux} {Q:Ux->UB->Prop} (pP:s.heap.IsList l1 xs) (j4:Cd s.heap b l2 ys)
  (h:∀h',IsZip h' (s.heap.objs.size+4) (s.heap.objs.size+2) (s.heap.objs.size+3) .none->(∀a,yT h' b (s.heap.objs.size+4) (s.heap.objs.size+2) (s.heap.objs.size+3) s.heap.objs.size (s.heap.objs.size+1) l1 l2 a 0)->h'.objs.size=s.heap.objs.size+5 ->
   (∀c o,s.heap.get? c=some o->h'.get? c=some o)->Q (.ref (s.heap.objs.size+4)) { s with heap:=h' }) :
  UR (model prog w) A (call (.type "zip") [.ref l1,.ref l2]) Q E s:=by
 cases b with
 | false=>exact call_zip_2 pP j4 fun h' a1 a2 a3 a4 a5 a6 a7=>h h' a1 (fun _=>⟨⟨_,_,a1,.inl rfl⟩,a2,⟨_,_,a3⟩,a4,a5⟩) a6 a7
 | true=>exact wR pP j4 fun h' a1 a2 a3 a4 a5 a6 a7=>h h' a1 (fun _=>⟨⟨_,_,a1,.inl rfl⟩,a2,⟨_,_,a3⟩,a4,a5⟩) a6 a7
end
end L2
namespace M
open PySem PySem.Spec PyProof.Rows L2
section
variable {X:Cx} {pins:aY} {φ:Fr} {g g0:G} {L L':aa} {s:UB} {xs ys:List T} {Jw Jy:List Ux} {a z TI TO i1 i2 l1 l2:U9} {T6 T7:Obj} {A:Vq} {R:Result->UB->Prop} {b:Bool}
theorem RS (N l h:Nat) (e:h=N+5) (hl:l<N):l<h:=by omega
theorem PN (N l h:Nat) (e:h=N+5) (hl:l<N):l≠h:=by omega
theorem PQ (N c h:Nat) (e:h=N+5) (hc:c=N+4\/c=N+3\/c=N\/c=N+1):N<=c/\c≠h:=by omega
theorem yW (N l1 l2:Nat) (h1:l1<N) (h2:l2<N):ZD (N+4) (N+2) (N+3) N (N+1) l1 l2 (N+5):=by
 constructor <;> (refine wF ?_;omega)
theorem rh:∀(a b:List T),prsOf (zp a b)=some (a.zip b)
 | [],_=>rfl
 | _::_,[]=>rfl
 | x::a,y::b=>by
  show prsOf (.tup [x,y]::zp a b)=_;unfold prsOf;rw [rh a b];rfl
theorem rm {w:T} (hu:X.A.units+20<cLine) (I:Inv X pins φ g L s) (Jv:s.heap.IsList l1 Jw.toArray) (H9:Cd s.heap b l2 Jy.toArray) (r1:cE g xs Jw) (r2:cE g ys Jy) (hle:xs.length<=ys.length) (h:xF (zp xs ys) L=.ok w L') :
  UR (model X.prog X.w) X.A (call (.type "zip") [.ref l1,.ref l2]) (fun u s'=>UR (model X.prog X.w) X.A (call (.type "dict") [u]) (EP X pins φ g w L') F0 s') F0 s:=by
 have hV:X.A.in1.in1.units+8<cLine:=by show X.A.units+1+1+8<cLine;omega
 unfold xF at h;rw [rh] at h;obtain⟨⟨hm,hlen⟩,h⟩:=aA h;cases h;have ha:l1<s.heap.objs.size:=by
  obtain⟨_,e,_⟩:=Jv;exact UX e
 have hb:l2<s.heap.objs.size:=by
  cases b with
  | false=>obtain⟨_,e,_⟩:=H9;exact UX e
  | true=>obtain⟨_,e,_⟩:=H9;exact UX e
 refine t6 Jv H9 fun h1 Pf hZ pR tw=>?_
 have I1:Inv X pins φ g L { s with heap:=h1 }:=I.kept (t':=s.toks) tw;have xV:g.H h1.objs.size=none:=I1.hok.fresh (UM _)
 have big:(h1.objs.size == sysModules)=false:=by
  have h1':sysModules<s.heap.objs.size:=Wz (by decide) (I.mod.glob.keeps I.bk).lt;simpa using VF (RS _ _ _ pR h1')
 have J0:=I1.new (c:=.aP []) (o:={ cls:=.type "dict",data:=.dict #[] }) (h':=h1.push { cls:=.type "dict",data:=.dict #[] }) (t':=s.toks) (fun b u e=>Ur _ e) (UM _) (Uy _ rfl)
  (.aP (.inr rfl) (.inl ar) ⟨rfl,rfl,rfl⟩ rfl (Vc _) rfl ⟨Xb,rfl⟩ big (fun i x e e1 _=>by simp at e1) (fun i x e e1 _=>by simp at e1) fun i x e e1 _=>by simp at e1)
 have l0:=Le.new (o:={ cls:=.type "dict",data:=.dict #[] }) xV;have rd:RT (g.new h1.objs.size { cls:=.type "dict",data:=.dict #[] }) none (.ref L.length) (.ref h1.objs.size):=by
  have:=I.rel.len;exact .ref (p:=(h1.objs.size,h1.objs.size)) (by show at_ ((_,_)::g.α) _=_;rw [<- this];exact eW)
 refine callType_codes (Q₁:=fun obj s₁=>obj=.ref h1.objs.size/\s₁={ s with heap:=h1.push { cls:=.type "dict",data:=.dict #[] } }) ZO (YK _) Zt (kt_code_dict_new _ ⟨rfl,rfl⟩) ?_;rintro obj s₁ ⟨rfl,rfl⟩;have tU:YA { s with heap:=h1.push { cls:=.type "dict",data:=.dict #[] } } (.ref h1.objs.size) "dict":=⟨_,Uy _ rfl,rfl⟩
 refine⟨tU,Zg _ _,?_⟩;unfold Builtin.«dict.__init__»;refine Uq ?_;unfold Zh;refine Uq (wpAny_notOrdered_dict tU ?_);show UR _ _ (pure (h1.objs.size,[Ws (s.heap.objs.size+4)])) _ _ _
 refine Us ?_;show UR _ _ (W4 "dict.__init__" h1.objs.size (.ref (s.heap.objs.size+4)) [] .none) _ _ _
 unfold W4;have yL:=Ur { cls:=.type "dict",data:=.dict #[] } Pf
 refine Uq (wpAny_typeOf (T:="zip") ⟨_,yL,rfl⟩ ?_);rw [if_pos (by decide)];refine Uq (wO yL I.ok.hd fun h3 PR e hx=>?_);rw [if_pos (show(none:Option Ux).isNone=true from rfl)];refine Uq (wpAny_rule ?_);have RU:=hx.keeps _ _ yL
 have J1:=J0.kept (t':=PR) (h':=h3) fun b o e=>hx.keeps b o e
 refine Uq (wpAny_pyIter_zip (s:={ s with heap:=h3,toks:=PR }) RU ?_);refine Us ⟨plainId_quiet plain_dul _,codeAny_builtin entry_dul ?_⟩;rw [VM plain_dul _];have FP:∀b o,s.heap.get? b=some o->h3.get? b=some o:=fun b o q=>hx.keeps _ _ (Ur _ (tw _ _ q))
 have D:ZD (s.heap.objs.size+4) (s.heap.objs.size+2) (s.heap.objs.size+3) s.heap.objs.size (s.heap.objs.size+1) l1 l2 h1.objs.size:=by
  rw [pR];exact yW _ l1 l2 ha hb
 have pP:=US r1;have j4:=US r2
 have T8:(xs.zip ys).length=xs.length:=by rw [List.length_zip];omega
 have four:∀{c:U9},c∉[s.heap.objs.size+4,s.heap.objs.size+3,s.heap.objs.size,s.heap.objs.size+1]->c≠s.heap.objs.size+4/\c≠s.heap.objs.size+3/\c≠s.heap.objs.size/\c≠s.heap.objs.size+1:=fun {c} h=>by simpa using h
 refine tS (A:=X.A.in1) (a:=h1.objs.size) (L:=L) hV [s.heap.objs.size+4,s.heap.objs.size+3,s.heap.objs.size,s.heap.objs.size+1] (fun i h=>h.IsList l1 Jw.toArray/\Cd h b l2 Jy.toArray/\yT h b (s.heap.objs.size+4) (s.heap.objs.size+2) (s.heap.objs.size+3) s.heap.objs.size (s.heap.objs.size+1) l1 l2 h1.objs.size i) hm hlen (fun c hc=>by
   simp only [UN,Wh,or_false] at hc;exact(PQ _ _ _ pR hc).2)
  (fun i h h' ⟨q1,q2,q3⟩ e=>⟨q1.at fun o q=>(e l1 (PN _ _ _ pR ha)).trans q,q2.at fun o q=>(e l2 (PN _ _ _ pR hb)).trans q,q3.ext D fun c o hc q=>(e c hc).trans q⟩)
  (fun i s' g' p Q ep lg MM J ⟨q1,q2,q3⟩ hQ=>?_) (fun s' Q ⟨q1,q2,q3⟩ hQ=>pQ (s:=s') (A:=X.A.in1.in1) I.ok.hd D q3 q1 (by simp;omega) fun h2 qD=>hQ h2 fun c o hc e=>let ⟨a1,a2,a3,a4⟩:=four hc;qD c o a1 a2 a3 a4 e) (fun s' g' lg J Jf=>?_)
  (xs.zip ys).length 0 _ _ rfl (Vc _) (Le.refl _) J1 rd (fun c hc=>?_) ⟨Jv.at fun o q=>FP _ o q,H9.at fun o q=>FP _ o q,(hZ h1.objs.size).ext D fun c o _ e=>hx.keeps _ _ (Ur _ e)⟩
 ·have hi:=(UO.mp ep).1
  have hx:i<xs.length:=by omega
  have hy:i<ys.length:=by omega
  have xm:i<Jw.length:=by omega
  have DB:i<Jy.length:=by omega
  have ez:(xs.zip ys)[i]?=some (xs[i],ys[i]):=by rw [Ge9 hi,List.getElem_zip]
  obtain rfl:=We (ez.symm.trans ep);have rk:=(wx (r1.le l0) i _ _ (Ge9 hx) (Ge9 xm)).le lg
  have rv:=(wx (r2.le l0) i _ _ (Ge9 hy) (Ge9 DB)).le lg;refine nR (s:=s') (x:=Jw[i]) (y:=Jy[i]) D MM q3 q1 q2 (by simp [xm]) (by simp [DB]) fun h4 t RV hT A9 Ia=>?_
  exact hQ h4 t _ _ _ _ ⟨q1.at fun o q=>Ia l1 o D.l1z D.l1TO D.l1i1 D.l1i2 q,q2.at fun o q=>Ia l2 o D.l2z D.l2TO D.l2i1 D.l2i2 q,RV⟩ (fun c o hc e=>let ⟨a1,a2,a3,a4⟩:=four hc;Ia c o a1 a2 a3 a4 e) hT rfl rfl rk rv
 ·exact⟨rfl,g',l0.trans lg,J,Jf⟩
 ·have DE:s.heap.objs.size<=c/\c≠h1.objs.size:=by
   simp only [UN,Wh,or_false] at hc;exact PQ _ _ _ pR hc
  refine I.th DE.1 ?_;show upd g.H _ _ c=none
  rw [az DE.2];exact I.hok.fresh DE.1
end
end M
namespace cm
open PySem
noncomputable def Ri (xs:Array Nat):Prop:=∀i j,i<j->j<xs.size->xs.getD i 0<xs.getD j 0
theorem getD_in (xs:Array Nat) {i:Nat} (h:i<xs.size) (a b:Nat):xs.getD i a=xs.getD i b:=by simp [Wj,h]
theorem pS (xs:Array Nat) (hr:Ri xs) (j:Nat):∀(fuel lo hi:Nat),lo<=hi->hi<=xs.size->hi - lo<=fuel->(∀i,i<lo->xs.getD i 0<j)->(∀i,hi<=i->i<xs.size->j<=xs.getD i 0) ->
  (Ye xs j fuel lo hi<=xs.size/\(∀i,i<Ye xs j fuel lo hi->xs.getD i 0<j)/\∀i,Ye xs j fuel lo hi<=i->i<xs.size->j<=xs.getD i 0)
 | 0,lo,hi,h1,h2,h3,h4,h5=>by
  obtain rfl:lo=hi:=by omega
  exact⟨h2,h4,h5⟩
 | fuel+1,lo,hi,h1,h2,h3,h4,h5=>by
  unfold Ye;by_cases hl:lo<hi
  ·rw [if_pos hl]
   have hm:(lo+hi) / 2<xs.size:=by omega
   have e:xs.getD ((lo+hi) / 2) j=xs.getD ((lo+hi) / 2) 0:=getD_in xs hm _ _;dsimp only;rw [e];by_cases hc:xs.getD ((lo+hi) / 2) 0<j
   ·rw [if_pos hc]
    refine pS xs hr j fuel ((lo+hi) / 2+1) hi (by omega) h2 (by omega) (fun i hi'=>?_) h5;by_cases ei:i=(lo+hi) / 2
    ·rw [ei];exact hc
    ·exact Wz (hr i _ (by omega) hm) hc
   ·rw [if_neg hc]
    refine pS xs hr j fuel lo ((lo+hi) / 2) (by omega) (by omega) (by omega) h4 fun i xm DB=>?_
    by_cases ei:i=(lo+hi) / 2
    ·rw [ei];omega
    ·have:=hr _ i (show(lo+hi) / 2<i by omega) DB
     omega
  ·rw [if_neg hl]
   obtain rfl:lo=hi:=by omega
   exact⟨h2,h4,h5⟩
theorem gE (xs:Array Nat) (hr:Ri xs) (j:Nat):Vw xs j<=xs.size/\(∀i,i<Vw xs j->xs.getD i 0<j)/\∀i,Vw xs j<=i->i<xs.size->j<=xs.getD i 0 :=
 pS xs hr j xs.size 0 xs.size (Vc _) (UM _) (by omega) (fun i h=>absurd h (by omega)) fun i h1 h2=>absurd h1 (by omega)
structure Tb (t:Vf):Prop where
 ri:Ri t.place
 nd:t.dummies = #[]
theorem f9 {t:Vf} (T:Tb t) {i:Nat} (hi:i<t.place.size):t.slot (t.place.getD i 0)=.live i:=by
 have b:=gE t.place T.ri (t.place.getD i 0);have e:Vw t.place (t.place.getD i 0)=i:=by
  rcases Zj (Vw t.place (t.place.getD i 0)) i with h|h|h
  ·have z:=b.2.2 _ (UM _) (by omega)
   have y:=T.ri _ i h hi;omega
  ·exact h
  ·have z:=b.2.1 i h
   omega
 unfold SetTable.slot;rw [e];have e2:t.place[i]?=some (t.place.getD i 0):=by simp [Wj,hi]
 dsimp only;rw [e2];simp
theorem jf {t:Vf} (T:Tb t) (j:Nat):(∃i,i<t.place.size/\t.place.getD i 0=j/\t.slot j=.live i)\/((∀i,i<t.place.size->t.place.getD i 0≠j)/\t.slot j=.empty):=by
 by_cases h:∃i,i<t.place.size/\t.place.getD i 0=j
 ·obtain⟨i,h1,h2⟩:=h
  exact .inl ⟨i,h1,h2,by rw [<- h2];exact f9 T h1⟩
 ·refine .inr ⟨fun i h1 h2=>h ⟨i,h1,h2⟩,?_⟩
  have hn:∀i,i<t.place.size->t.place.getD i 0≠j:=fun i h1 h2=>h ⟨i,h1,h2⟩
  unfold SetTable.slot;dsimp only;have e1:(t.place[Vw t.place j]? == some j)=false:=by
   cases e:t.place[Vw t.place j]? with
   | none=>rfl
   | some y =>
    obtain⟨h1,h2⟩:=XA.mp e;have z:=hn _ h1
    have e3:t.place.getD (Vw t.place j) 0=y:=by simp [Wj,h1,h2]
    rw [e3] at z;simpa using z
  rw [e1];have e2:Z1 t.dummies j=false:=by rw [T.nd];simp [Z1]
  rw [e2];rfl
end cm
namespace cm
noncomputable def qG:Nat->Nat->Nat
 | 0,s=>s
 | r+1,s=>5 * qG r s+1
noncomputable def T5:Nat->Nat
 | 0=>0
 | r+1=>5 * T5 r+1
theorem mJ:∀r s,qG r s=5 ^ r * s+T5 r
 | 0,s=>by simp [qG,T5]
 | r+1,s=>by
  rw [qG,mJ r s,T5,Xo,Nat.mul_add,<- Nat.mul_assoc,aaq 5 (5 ^ r),Xu]
theorem t8:∀r,4 * T5 r+1=5 ^ r
 | 0=>rfl
 | r+1=>by
  have:=t8 r;rw [T5,Xo,<- this];omega
theorem pU:∀a b s,qG (a+b) s=qG a (qG b s)
 | 0,b,s=>by simp [qG]
 | a+1,b,s=>by
  rw [show a+1+b=(a+b)+1 by omega,qG,qG,pU a b s]
theorem FX (a b:Nat):T5 (a+b)=5 ^ a * T5 b+T5 a:=by
 have h:=pU a b 0;rw [mJ,mJ a,mJ b] at h;simpa using h
theorem yX:∀k,∃o,T5 (2 ^ k)=2 ^ k * (2 * o+1)
 | 0=>⟨0,rfl⟩
 | k+1=>by
  obtain⟨o,h⟩:=yX k;have e:2 ^ (k+1)=2 ^ k+2 ^ k:=by rw [Xo];omega
  rw [e,FX,<- t8];refine⟨2 * T5 (2 ^ k) * o+T5 (2 ^ k)+o,?_⟩;generalize T5 (2 ^ k)=T at *
  generalize 2 ^ k=M at *
  have h3:(4 * T+1) * T+T=(2 * (2 * T+1)) * T:=by grind
  rw [h3];have h4:(2 * (2 * T+1)) * T=(2 * (2 * T+1)) * (M * (2 * o+1)):=by rw [<- h]
  rw [h4];grind
theorem cover:∀(k s j:Nat),j<2 ^ k->∃r,r<2 ^ k/\qG r s % 2 ^ k=j
 | 0,s,j,h=>⟨0,by simp,by simp at h;subst h;simp [Nat.mod_one]⟩
 | k+1,s,j,h=>by
  have e:2 ^ (k+1)=2 * 2 ^ k:=by rw [Xo];omega
  have hM:0<2 ^ k:=Nat.two_pow_pos k;obtain⟨r,hr,hj⟩:=cover k s (j % 2 ^ k) (Yf _ hM);obtain⟨o,ho⟩:=yX k;have hB:qG (2 ^ k+r) s=qG r s+2 ^ k * ((2 * o+1) * (4 * qG r s+1)):=by
   rw [pU,mJ (2 ^ k),<- t8,ho];generalize qG r s=A;generalize 2 ^ k=M;grind
  rw [e] at h ⊢;obtain⟨A,hA⟩:∃A,qG r s=A:=⟨_,rfl⟩;rw [hA] at hB hj;generalize 2 ^ k=M at *
  have a1:=Nat.div_add_mod A M;have j1:=Nat.div_add_mod j M
  rw [hj] at a1;generalize j % M=c at *
  have hc:c<M:=by
   rw [<- hj];exact Yf _ hM
  have hp:j / M=0\/j / M=1:=by
   have:j / M<2:=Nat.div_lt_of_lt_mul (by rw [aaq];exact h)
   revert this
   generalize j / M=p;intro this;omega
  have key:∀q x,x=2 * M * q+j->x % (2 * M)=j:=fun q x e=>by
   rw [e,Nat.mul_add_mod];exact ZI h
  obtain⟨q,hq⟩:∃q,A / M=2 * q\/A / M=2 * q+1:=⟨A / M / 2,by generalize A / M=z;omega⟩;generalize A / M=a at *
  generalize j / M=p at *
  obtain⟨u,hu⟩:∃u,(2 * o+1) * (4 * A+1)=2 * u+1:=⟨4 * A * o+o+2 * A,by grind⟩;rw [hu] at hB;rcases hq with rfl|rfl <;> rcases hp with rfl|rfl
  ·exact⟨r,by omega,key q _ (by grind)⟩
  ·exact⟨M+r,by omega,key (q+u) _ (by grind)⟩
  ·exact⟨M+r,by omega,key (q+u+1) _ (by grind)⟩
  ·exact⟨r,by omega,key q _ (by grind)⟩
end cm
namespace cm
open PySem
noncomputable def bN (t:Vf):Nat->WA->WA
 | 0,p=>p
 | n+1,p=>bN t n (t.advance p)
theorem gF (t:Vf):∀a b p,bN t (a+b) p=bN t b (bN t a p)
 | 0,b,p=>by simp [bN]
 | a+1,b,p=>by rw [show a+1+b=(a+b)+1 by omega,bN,bN,gF t a b]
noncomputable def start (mask i pb:Nat) (d:Option Nat):WA:={ j:=i,more:=Vk mask i - i,i:=i,perturb:=pb,dummy:=d }
theorem jJ (t:Vf):∀(more j i pb:Nat) (d:Option Nat),bN t (more+1) { j:=j,more:=more,i:=i,perturb:=pb,dummy:=d }=start t.mask (VH t.mask i pb).1 (VH t.mask i pb).2 d
 | 0,j,i,pb,d=>by
  simp only [bN,W7];rfl
 | more+1,j,i,pb,d=>by
  rw [bN];have e:t.advance { j:=j,more:=more+1,i:=i,perturb:=pb,dummy:=d }={ j:=j+1,more:=more,i:=i,perturb:=pb,dummy:=d }:=by
   simp [W7]
  rw [e];exact jJ t more (j+1) i pb d
noncomputable def lp (mask:Nat):Nat->Nat × Nat->Nat × Nat
 | 0,x=>x
 | q+1,x=>VH mask (lp mask q x).1 (lp mask q x).2
theorem starts (t:Vf) (d:Option Nat) (i pb:Nat):∀q,∃n,n<=10 * q/\bN t n (start t.mask i pb d)=start t.mask (lp t.mask q (i,pb)).1 (lp t.mask q (i,pb)).2 d
 | 0=>⟨0,UM _,rfl⟩
 | q+1=>by
  obtain⟨n,h1,h2⟩:=starts t d i pb q;have hr:Vk t.mask (lp t.mask q (i,pb)).1 - (lp t.mask q (i,pb)).1<=9:=by
   unfold Vk;split <;> omega
  refine⟨n+(Vk t.mask (lp t.mask q (i,pb)).1 - (lp t.mask q (i,pb)).1+1),by omega,?_⟩;rw [gF,h2,start,jJ];rfl
theorem DN (mask:Nat) (x:Nat × Nat):∀q,(lp mask q x).2=x.2 / 32 ^ q
 | 0=>by simp [lp]
 | q+1=>by
  rw [lp,VH,DN mask x q,Xo,Nat.div_div_eq_div_mul]
theorem Cg {mask:Nat} {x:Nat × Nat} (h:x.2<2 ^ 64) {q:Nat} (hq:13<=q):(lp mask q x).2=0:=by
 rw [DN];apply Nat.div_eq_of_lt
 calc x.2<2 ^ 64:=h
  _<=32 ^ 13:=by decide
  _<=32 ^ q:=Z5 (by decide) hq
theorem t9 {mask:Nat} {x:Nat × Nat} (h:x.2<2 ^ 64):∀r,(lp mask (13+r) x).1 % (mask+1)=qG r (lp mask 13 x).1 % (mask+1)
 | 0=>rfl
 | r+1=>by
  have e:lp mask (13+(r+1)) x=VH mask (lp mask (13+r) x).1 (lp mask (13+r) x).2:=rfl;rw [e,VH,Cg h (by omega)];show((lp mask (13+r) x).1 * 5+1+0 / 32) % (mask+1) % (mask+1)=_
  rw [Nat.mod_mod,qG];simp only [Nat.zero_div,YT];rw [Nat.add_mod,Nat.mul_mod,t9 h r,<- Nat.mul_mod,<- Nat.add_mod,aaq]
theorem FY (t:Vf) {k:Nat} (hk:t.mask+1=2 ^ k) (h:Int) {j:Nat} (hj:j<=t.mask):∃n,n<=10 * (t.mask+14)/\(bN t n (t.probeStart h)).j=j:=by
 have e:t.probeStart h=start t.mask (Vp h % (t.mask+1)) (Vp h) none:=rfl;have hb:Vp h<2 ^ 64:=by
  unfold Vp;have h1:=WN h (show(0:Int)<2 ^ 64 by decide)
  have h2:=WZ h (show(2 ^ 64:Int)≠0 by decide);omega
 let x:Nat × Nat:=(Vp h % (t.mask+1),Vp h)
 obtain⟨r,hr,hx⟩:=cover k (lp t.mask 13 x).1 j (by omega);rw [<- hk] at hx hr;have h1:=t9 (mask:=t.mask) (x:=x) hb r
 have h2:(lp t.mask (13+r) x).1<t.mask+1:=by
  rw [show 13+r=(12+r)+1 by omega,lp,VH];exact Yf _ (YU _)
 rw [ZI h2,hx] at h1;obtain⟨n,h3,h4⟩:=starts t none x.1 x.2 (13+r);refine⟨n,by omega,?_⟩;rw [e];show(bN t n (start t.mask x.1 x.2 none)).j=j
 rw [h4];exact h1
theorem ua {t:Vf} (T:Tb t) (hf:t.place.size<=t.mask):∃j,j<=t.mask/\t.slot j=.empty:=by
 refine Wk fun kY=>?_
 have all:∀j,j<=t.mask->∃i,i<t.place.size/\t.place.getD i 0=j:=fun j hj=>by
  rcases jf T j with⟨i,h1,h2,_⟩|⟨_,h2⟩
  ·exact⟨i,h1,h2⟩
  ·exact absurd ⟨j,hj,h2⟩ kY
 have up:∀j,j<=t.mask->∀i,i<t.place.size->t.place.getD i 0=j->j<=i:=by
  intro j;induction j with
  | zero=>intro _ i _ _;omega
  | succ j ih =>
   intro hj i hi e;obtain⟨i',hi',e'⟩:=all j (by omega);have:=ih (by omega) i' hi' e'
   rcases Zj i i' with q|q|q
   ·have:=T.ri i i' q hi';omega
   ·subst q;omega
   ·omega
 obtain⟨i,hi,e⟩:=all t.mask (UM _);have:=up _ (UM _) i hi e
 omega
theorem first (P:Nat->Prop) (n:Nat) (h:P n):∃m,m<=n/\P m/\∀i,i<m->¬ P i:=by
 induction n using Nat.strongRecOn with
 | ind n ih =>
  by_cases q:∃i,i<n/\P i
  ·obtain⟨i,h1,h2⟩:=q
   obtain⟨m,a,b,c⟩:=ih i h1 h2;exact⟨m,by omega,b,c⟩
  ·exact⟨n,UM _,h,fun i hi hp=>q ⟨i,hi,hp⟩⟩
theorem way {t:Vf} (T:Tb t) {k:Nat} (hk:t.mask+1=2 ^ k) (hf:t.place.size<=t.mask) (h:Int) (hit:Nat->Prop) :
  ∃n,n<=10 * (t.mask+14)/\(t.slot (bN t n (t.probeStart h)).j=.empty\/∃i,i<t.place.size/\t.slot (bN t n (t.probeStart h)).j=.live i/\hit i) /\
   ∀m,m<n->∃i,i<t.place.size/\t.slot (bN t m (t.probeStart h)).j=.live i/\¬ hit i:=by
 obtain⟨j,hj,he⟩:=ua T hf;obtain⟨n,hn,e⟩:=FY t hk h hj;obtain⟨m,hm,hp,hb⟩:=first (fun n=>t.slot (bN t n (t.probeStart h)).j=.empty\/∃i,i<t.place.size/\t.slot (bN t n (t.probeStart h)).j=.live i/\hit i) n (.inl (by rw [e];exact he))
 refine⟨m,by omega,hp,fun i hi=>?_⟩;have kY:=hb i hi
 rcases jf T (bN t i (t.probeStart h)).j with⟨a,h1,h2,h3⟩|⟨_,h2⟩
 ·exact⟨a,h1,h3,fun z=>kY (.inr ⟨a,h1,h3,z⟩)⟩
 ·exact absurd (.inl h2) kY
theorem yY (t:Vf) (hashAt:Nat->Int) (h:Int):∀(n fuel:Nat) (p:WA),(∀m,m<n->∃i,t.slot (bN t m p).j=.live i/\(hashAt i == h)=false)->n<=fuel ->
  W2 t hashAt h fuel p=W2 t hashAt h (fuel - n) (bN t n p)
 | 0,fuel,p,_,_=>rfl
 | n+1,0,p,_,hf=>absurd hf (by omega)
 | n+1,fuel+1,p,hm,hf=>by
  obtain⟨i,h1,h2⟩:=hm 0 (by omega);have h1:t.slot p.j=.live i:=h1
  rw [W2,h1];simp only [h2,UJ,if_false];rw [yY t hashAt h n fuel (t.advance p) (fun m q=>hm (m+1) (by omega)) (by omega)];rw [show fuel+1 - (n+1)=fuel - n by omega];rfl
noncomputable def FZ (t:Vf) (h:Int) (j:Nat):Prop:=∃n,n<10 * (t.mask+15)/\(bN t n (t.probeStart h)).j=j/\∀m,m<n->t.slot (bN t m (t.probeStart h)).j≠.empty
structure qH (t:Vf) (hs:Array Int):Prop where
 tb:Tb t
 sz:t.place.size=hs.size
 le:∀i,i<t.place.size->t.place.getD i 0<=t.mask
 fill:hs.size<=t.mask
 pw:∃k,t.mask+1=2 ^ k
 ub:∀i,i<hs.size->FZ t (hs.getD i 0) (t.place.getD i 0)
theorem gc {t t':Vf} (h:t'.mask=t.mask):∀n p,bN t' n p=bN t n p
 | 0,p=>rfl
 | n+1,p=>by
  have e:t'.advance p=t.advance p:=by simp only [W7,h]
  rw [bN,bN,e,gc h n]
theorem gG {t t':Vf} (hm:t'.mask=t.mask) (h:Int):t'.probeStart h=t.probeStart h:=by simp only [SetTable.probeStart,hm]
theorem cL {α:Type} (xs:Array α) {p:Nat} (hp:p<=xs.size) (x:α):(Vi xs p x).size=xs.size+1:=by
 unfold Vi;simp;omega
theorem gI {α:Type} (xs:Array α) {p:Nat} (hp:p<=xs.size) (x:α) (i:Nat):(Vi xs p x)[i]?=if i<p then xs[i]? else if i=p then some x else xs[i - 1]?:=by
 unfold Vi;rw [Array.getElem?_append];have e:((xs.extract 0 p).push x).size=p+1:=by simp;omega
 rw [e];by_cases h1:i<p
 ·rw [if_pos (VK h1),if_pos h1,XS]
  rw [if_neg (by simp;omega),ZQ];simp;omega
 ·rw [if_neg h1]
  by_cases h2:i=p
  ·rw [if_pos (Nat.lt_succ_of_le (XW h2)),if_pos h2,XS]
   rw [if_pos (by simp;omega)]
  ·rw [if_neg (by omega),if_neg h2,ZQ]
   have e2:p+(i - (p+1))=i - 1:=by omega
   rw [e2];by_cases h3:i - 1<xs.size
   ·rw [if_pos (by omega)]
   ·rw [if_neg (by omega)]
    simp;omega
theorem iR {α:Type} (xs:Array α) {p:Nat} (hp:p<=xs.size) (x d:α) (i:Nat):(Vi xs p x).getD i d=if i<p then xs.getD i d else if i=p then x else xs.getD (i - 1) d:=by
 rw [U7,gI xs hp x i,U7,U7];split
 ·rfl
 ·split <;> rfl
theorem pH {t:Vf} {hs:Array Int} (I:qH t hs) {h:Int} {n:Nat} (hn:n<10 * (t.mask+15)) (he:t.slot (bN t n (t.probeStart h)).j=.empty) (hj:(bN t n (t.probeStart h)).j<=t.mask)
  (hw:∀m,m<n->t.slot (bN t m (t.probeStart h)).j≠.empty) (DO:hs.size+1<=t.mask) :
  qH (t.put (bN t n (t.probeStart h)).j).1 (Vi hs (t.put (bN t n (t.probeStart h)).j).2 h)/\(t.put (bN t n (t.probeStart h)).j).2<=hs.size:=by
 generalize RW:(bN t n (t.probeStart h)).j=j at *
 have Jz:∀i,i<t.place.size->t.place.getD i 0≠j:=fun i hi e=>by
  have z:=f9 I.tb hi;rw [e,he] at z;cases z
 have hb:=gE t.place I.tb.ri j;have sU:(t.put j).2=Vw t.place j:=rfl
 have hm:(t.put j).1.mask=t.mask:=rfl;have hpl:(t.put j).1.place=Vi t.place (Vw t.place j) j:=rfl
 have hd:(t.put j).1.dummies = #[]:=by
  show(if Z1 t.dummies j then _ else t.dummies) = #[];rw [I.tb.nd];simp [Z1]
 have gp:=iR t.place hb.1 j 0;have sp:=cL t.place hb.1 j
 generalize Vw t.place j=bb at hb sU hpl gp sp;have hsz:=I.sz
 have Dx:bb<=hs.size:=by omega
 have ri:Ri (t.put j).1.place:=fun a b hab RX=>by
  rw [hpl,sp] at RX;rw [hpl,gp,gp];have h1:=hb.2.1
  have h2:=hb.2.2;by_cases b1:b<bb
  ·rw [if_pos (Wz hab b1),if_pos b1];exact I.tb.ri a b hab (U4 b1 hb.1)
  ·rw [if_neg b1]
   by_cases b2:b=bb
   ·rw [if_pos b2,if_pos (b2 ▸ hab)];exact h1 a (b2 ▸ hab)
   ·rw [if_neg b2]
    have b3:bb<=b - 1:=by omega
    have b4:b - 1<t.place.size:=by omega
    by_cases a1:a<bb
    ·rw [if_pos a1];exact I.tb.ri a (b - 1) (U4 a1 b3) b4
    ·rw [if_neg a1]
     by_cases a2:a=bb
     ·rw [if_pos a2]
      have z:=h2 (b - 1) b3 b4;have y:=Jz (b - 1) b4
      omega
     ·rw [if_neg a2];exact I.tb.ri (a - 1) (b - 1) (by omega) b4
 have tb:Tb (t.put j).1:=⟨ri,hd⟩;have mono:∀c,t.slot c≠.empty->(t.put j).1.slot c≠.empty:=fun c hc z=>by
  rcases jf I.tb c with⟨i,h1,h2,_⟩|⟨_,h2⟩
  ·have key:∃i',i'<(t.put j).1.place.size/\(t.put j).1.place.getD i' 0=c:=by
    rw [hpl,sp];by_cases q:i<bb
    ·exact⟨i,VK h1,by rw [gp,if_pos q];exact h2⟩
    ·exact⟨i+1,Nat.succ_lt_succ h1,by rw [gp,if_neg (by omega),if_neg (by omega)];exact h2⟩
   obtain⟨i',k1,k2⟩:=key;have y:=f9 tb k1
   rw [k2,z] at y;cases y
  ·exact hc h2
 refine⟨⟨tb,?_,?_,?_,?_,?_⟩,?_⟩
 ·rw [sU,hpl,sp,cL hs Dx,hsz]
 ·intro i hi
  rw [hpl,sp] at hi;rw [hpl,gp,hm];split
  ·exact I.le i (by omega)
  ·split
   ·exact hj
   ·exact I.le (i - 1) (by omega)
 ·rw [sU,cL hs Dx,hm];exact DO
 ·rw [hm];exact I.pw
 ·intro i hi
  rw [sU,cL hs Dx] at hi;rw [sU,hpl,gp,iR hs Dx];have lift:∀h' c,FZ t h' c->FZ (t.put j).1 h' c:=fun h' c ⟨n',k1,k2,k3⟩ =>
   ⟨n',by rw [hm];exact k1,by rw [gG hm,gc hm];exact k2,fun m q=>by rw [gG hm,gc hm];exact mono _ (k3 m q)⟩
  split
  ·exact lift _ _ (I.ub i (by omega))
  ·split
   ·exact lift _ _ ⟨n,hn,RW,hw⟩
   ·exact lift _ _ (I.ub (i - 1) (by omega))
 ·rw [sU];exact Dx
theorem JA {mask k:Nat} (hk:mask+1=2 ^ k) (h:Int) {j:Nat} (hj:j<=mask):∃q,q<=13+mask/\(lp mask q (Vp h % (mask+1),Vp h)).1=j:=by
 have hb:Vp h<2 ^ 64:=by
  unfold Vp;have h1:=WN h (show(0:Int)<2 ^ 64 by decide)
  have h2:=WZ h (show(2 ^ 64:Int)≠0 by decide);omega
 let x:Nat × Nat:=(Vp h % (mask+1),Vp h)
 obtain⟨r,hr,hx⟩:=cover k (lp mask 13 x).1 j (by omega);rw [<- hk] at hx hr;have h1:=t9 (mask:=mask) (x:=x) hb r
 have h2:(lp mask (13+r) x).1<mask+1:=by
  rw [show 13+r=(12+r)+1 by omega,lp,VH];exact Yf _ (YU _)
 rw [ZI h2,hx] at h1;exact⟨13+r,by omega,h1⟩
theorem lV (t:Vf):∀(n more j i pb:Nat) (d:Option Nat),n<=more->bN t n { j:=j,more:=more,i:=i,perturb:=pb,dummy:=d }={ j:=j+n,more:=more - n,i:=i,perturb:=pb,dummy:=d }
 | 0,more,j,i,pb,d,_=>rfl
 | n+1,0,j,i,pb,d,h=>absurd h (by omega)
 | n+1,more+1,j,i,pb,d,h=>by
  rw [bN];have e:t.advance { j:=j,more:=more+1,i:=i,perturb:=pb,dummy:=d }={ j:=j+1,more:=more,i:=i,perturb:=pb,dummy:=d }:=by simp [W7]
  rw [e,lV t n more (j+1) i pb d (by omega)];simp only [SetTable.Probe.mk.injEq,and_true];omega
noncomputable def Fr (owner:Array (Option Nat)) (c:Nat):Prop:=(owner.getD c (some 0)).isNone=true
theorem rz (mask:Nat) (x:Nat × Nat):∀q,lp mask (q+1) x=lp mask q (VH mask x.1 x.2)
 | 0=>rfl
 | q+1=>by rw [lp,rz mask x q,lp]
theorem oz (t:Vf) (owner:Array (Option Nat)):∀(fuel i pb:Nat),(∃q,q<fuel/\Fr owner (lp t.mask q (i,pb)).1) ->
  ∃j n,Ya t.mask owner fuel i pb=some j/\n+1<=10 * fuel/\(bN t n (start t.mask i pb none)).j=j/\Fr owner j/\∀m,m<n->¬ Fr owner (bN t m (start t.mask i pb none)).j
 | 0,i,pb,⟨q,hq,_⟩=>absurd hq (by omega)
 | fuel+1,i,pb,⟨q,hq,hf⟩=>by
  have hr:Vk t.mask i - i<=9/\i<=Vk t.mask i:=by
   unfold Vk;split <;> omega
  unfold Ya;cases e:(Vx (Vk t.mask i+1 - i)).find? fun k=>(owner.getD (i+k) (some 0)).isNone with
  | some k =>
   obtain⟨h1,hk,h3⟩:=List.find?_range_eq_some.mp e;have hk:=Vv.mp hk
   have RY:∀m,m<k->(owner.getD (i+m) (some 0)).isNone=false:=fun m hm=>by simpa using h3 m hm
   refine⟨i+k,k,rfl,by omega,?_,h1,fun m hm=>?_⟩
   ·rw [start,lV t k _ _ _ _ _ (by omega)]
   ·rw [start,lV t m _ _ _ _ _ (by omega)]
    show ¬ (owner.getD (i+m) (some 0)).isNone=true;rw [RY m hm];simp
  | none =>
   have kY:∀k,k<Vk t.mask i+1 - i->(owner.getD (i+k) (some 0)).isNone=false:=fun k hk=>by
    have:=V6.mp e k (Vv.mpr hk);exact Bool.eq_false_iff.mpr this
   obtain⟨q,rfl⟩:∃q',q=q'+1:=by
    cases q with
    | zero =>
     have z:=kY 0 (by omega);have hf:(owner.getD i (some 0)).isNone=true:=hf
     rw [YT,hf] at z;cases z
    | succ q=>exact⟨q,rfl⟩
   rw [rz] at hf;obtain⟨j,n,g1,g2,g3,g4,g5⟩:=oz t owner fuel (VH t.mask i pb).1 (VH t.mask i pb).2 ⟨q,by omega,hf⟩;refine⟨j,(Vk t.mask i - i+1)+n,g1,by omega,?_,g4,fun m hm=>?_⟩
   ·rw [gF,start,jJ];exact g3
   ·by_cases Ga:m<=Vk t.mask i - i
    ·rw [start,lV t m _ _ _ _ _ Ga]
     show ¬ (owner.getD (i+m) (some 0)).isNone=true;rw [kY m (by omega)];simp
    ·have em:m=(Vk t.mask i - i+1)+(m - (Vk t.mask i - i+1)):=by omega
     rw [em,gF,start,jJ];exact g5 _ (by omega)
theorem oA:∀(n:Nat) (l:List Nat),l.Nodup->(∀x∈l,x<n)->l.length<=n
 | 0,l,_,h=>by
  cases l with
  | nil=>simp
  | cons a r=>exact absurd (h a (by simp)) (by omega)
 | n+1,l,hn,h=>by
  have h1:=oA n (l.erase n) (hn.erase n) fun x hx=>by
   have a:=h x (List.mem_of_mem_erase hx);have b:x≠n:=fun e=>by
    subst e;exact(hn.not_mem_erase) hx
   omega
  have h2:l.length<=(l.erase n).length+1:=by
   by_cases hm:n∈l
   ·rw [XZ hm];omega
   ·rw [List.erase_of_not_mem hm];omega
  omega
structure Own (t:Vf) (owner:Array (Option Nat)) (hs:List Int) (pos:Nat->Nat):Prop where
 sz:owner.size=t.mask+1
 at_:∀c,c<=t.mask->∀i,owner.getD c none=some i↔(i<hs.length/\pos i=c)
 le:∀i,i<hs.length->pos i<=t.mask
 ub:∀i (hi:i<hs.length),∃n,n<10 * (t.mask+15)/\(bN t n (t.probeStart hs[i])).j=pos i/\∀m,m<n->¬ Fr owner (bN t m (t.probeStart hs[i])).j
theorem Own.mL {t:Vf} {owner:Array (Option Nat)} {hs:List Int} {pos:Nat->Nat} (O:Own t owner hs pos) (c:Nat):Fr owner c↔(c<=t.mask/\∀i,i<hs.length->pos i≠c):=by
 unfold Fr;constructor
 ·intro h
  have hc:c<=t.mask:=by
   refine Wk fun hc=>?_
   have hs':=O.sz;have:owner.getD c (some 0)=some 0:=by simp [Wj,show ¬ c<owner.size by omega]
   rw [this] at h;cases h
  refine⟨hc,fun i hi e=>?_⟩;have z:=(O.at_ c hc i).mpr ⟨hi,e⟩
  have bJ:c<owner.size:=by rw [O.sz];omega
  have e2:owner.getD c (some 0)=owner.getD c none:=by simp [Wj,bJ]
  rw [e2,z] at h;cases h
 ·rintro⟨hc,h⟩
  have bJ:c<owner.size:=by rw [O.sz];omega
  have e2:owner.getD c (some 0)=owner.getD c none:=by simp [Wj,bJ]
  rw [e2];cases e:owner.getD c none with
  | none=>rfl
  | some i =>
   obtain⟨h1,h2⟩:=(O.at_ c hc i).mp e;exact absurd h2 (h i h1)
theorem Own.wU {t:Vf} {owner:Array (Option Nat)} {hs:List Int} {pos:Nat->Nat} (O:Own t owner hs pos) (hf:hs.length<=t.mask):∃c,c<=t.mask/\Fr owner c:=by
 refine Wk fun kY=>?_
 have all:∀c,c<=t.mask->∃i,i<hs.length/\pos i=c:=fun c hc=>Wk fun hn=>kY ⟨c,hc,(O.mL c).mpr ⟨hc,fun i hi e=>hn ⟨i,hi,e⟩⟩⟩
 have M9:∀c,∃i,c<=t.mask->i<hs.length/\pos i=c:=fun c=>by
  by_cases hc:c<=t.mask
  ·obtain⟨i,h⟩:=all c hc;exact⟨i,fun _=>h⟩
  ·exact⟨0,fun z=>absurd z hc⟩
 obtain⟨g,hg⟩:=aav.mp M9;have h1:=oA hs.length ((Vx (t.mask+1)).map g) (by
  unfold List.Nodup;rw [Xx];refine Zk (R:=fun a b=>a<b) (fun {a b} ha hb bJ e=>?_) ZR;have ha':=(hg a (by have:=Vv.mp ha;omega)).2
  have hb':=(hg b (by have:=Vv.mp hb;omega)).2;rw [e] at ha';omega) fun x hx=>by
   obtain⟨c,hc,rfl⟩:=Uz.mp hx;exact(hg c (by have:=Vv.mp hc;omega)).1
 simp at h1;omega
noncomputable def yZ (mask:Nat) (acc:Option (Array (Option Nat) × Nat)) (h:Int):Option (Array (Option Nat) × Nat):=do
 let (owner,k) <- acc
 let j <- Ya mask owner (Wl mask) (Vp h % (mask+1)) (Vp h)
 pure (owner.setIfInBounds j (some k),k+1)
theorem rA (mask:Nat) (hashes:Array Int):Yg mask hashes=(hashes.toList.foldl (yZ mask) (some (Array.replicate (mask+1) none,0))).map (·.1):=by
 unfold Yg;rw [<- Array.foldl_toList];rfl
theorem Own.step {t:Vf} {k:Nat} (hk:t.mask+1=2 ^ k) {owner:Array (Option Nat)} {hs:List Int} {pos:Nat->Nat} (O:Own t owner hs pos) (hf:hs.length<=t.mask) (h:Int) :
  ∃mM pos',yZ t.mask (some (owner,hs.length)) h=some (mM,hs.length+1)/\Own t mM (hs++[h]) pos':=by
 obtain⟨c,hc,xV⟩:=O.wU hf;obtain⟨q,hq,e⟩:=JA hk h hc;obtain⟨j,n,g1,g2,g3,g4,g5⟩:=oz t owner (Wl t.mask) (Vp h % (t.mask+1)) (Vp h) ⟨q,by unfold Wl;omega,by rw [e];exact xV⟩;have hj:=(O.mL j).mp g4
 have Ib:∀i,i<hs.length+1->i≠hs.length->i<hs.length:=fun i a b=>by omega
 have bJ:j<owner.size:=by rw [O.sz];omega
 have gs:∀c d,(owner.setIfInBounds j (some hs.length)).getD c d=if c=j then some hs.length else owner.getD c d:=fun c d=>by
  rw [U7,U7,Array.getElem?_setIfInBounds];by_cases ec:j=c
  ·subst ec;simp [bJ]
  ·rw [if_neg ec,if_neg (V0 ec)]
 refine⟨owner.setIfInBounds j (some hs.length),fun i=>if i=hs.length then j else pos i,?_,?_⟩
 ·unfold yZ
  simp only [Option.bind_eq_bind,WK,g1];rfl
 ·have PU:∀c,Fr (owner.setIfInBounds j (some hs.length)) c->Fr owner c:=fun c hc=>by
   unfold Fr at hc ⊢;rw [gs] at hc;by_cases ec:c=j
   ·rw [if_pos ec] at hc;cases hc
   ·rw [if_neg ec] at hc;exact hc
  refine⟨by rw [Array.size_setIfInBounds];exact O.sz,fun c hc i=>?_,fun i hi=>?_,fun i hi=>?_⟩
  ·rw [gs,Ut,Vy]
   by_cases ec:c=j
   ·subst ec
    rw [if_pos rfl];constructor
    ·intro e;cases e;exact⟨Wg _,by rw [if_pos rfl]⟩
    ·rintro⟨h1,h2⟩
     by_cases ei:i=hs.length
     ·rw [ei]
     ·rw [if_neg ei] at h2
      exact absurd h2 (hj.2 i (Ib i h1 ei))
   ·rw [if_neg ec,O.at_ c hc i]
    constructor
    ·rintro⟨h1,h2⟩;exact⟨VK h1,by rw [if_neg (U6 h1)];exact h2⟩
    ·rintro⟨h1,h2⟩
     by_cases ei:i=hs.length
     ·rw [if_pos ei] at h2;exact absurd h2.symm ec
     ·rw [if_neg ei] at h2;exact⟨Ib i h1 ei,h2⟩
  ·rw [Ut,Vy] at hi
   by_cases ei:i=hs.length
   ·show(if i=hs.length then j else pos i)<=t.mask
    rw [if_pos ei];exact hj.1
   ·show(if i=hs.length then j else pos i)<=t.mask
    rw [if_neg ei];exact O.le i (Ib i hi ei)
  ·rw [Ut,Vy] at hi
   by_cases ei:i=hs.length
   ·subst ei
    have e2:(hs++[h])[hs.length]=h:=by simp
    rw [e2];refine⟨n,by unfold Wl at g2;omega,by rw [if_pos rfl];exact g3,fun m hm z=>g5 m hm (PU _ z)⟩
   ·obtain⟨n',k1,k2,k3⟩:=O.ub i (Ib i hi ei)
    have e2:(hs++[h])[i]=hs[i]'(Ib i hi ei):=List.getElem_append_left (Ib i hi ei);rw [e2];exact⟨n',k1,by rw [if_neg ei];exact k2,fun m hm z=>k3 m hm (PU _ z)⟩
theorem rB {t:Vf} {k:Nat} (hk:t.mask+1=2 ^ k):∀(l:List Int) (owner:Array (Option Nat)) (pre:List Int) (pos:Nat->Nat),Own t owner pre pos->pre.length+l.length<=t.mask+1 ->
  ∃mM pos',l.foldl (yZ t.mask) (some (owner,pre.length))=some (mM,pre.length+l.length)/\Own t mM (pre++l) pos'
 | [],owner,pre,pos,O,_=>⟨owner,pos,by simp,by simpa using O⟩
 | h::l,owner,pre,pos,O,hf=>by
  simp only [UA] at hf;obtain⟨o1,p1,e1,O1⟩:=O.step hk (by omega) h;obtain⟨o2,p2,e2,O2⟩:=rB hk l o1 (pre++[h]) p1 O1 (by rw [Ut,Vy];omega);refine⟨o2,p2,?_,by simpa using O2⟩;rw [X1,e1];rw [Ut,Vy] at e2;rw [e2];simp only [UA];congr 2;omega
theorem Gb {t:Vf} {k:Nat} (hk:t.mask+1=2 ^ k) (hs:Array Int) (hf:hs.size<=t.mask):∃owner pos,Yg t.mask hs=some owner/\Own t owner hs.toList pos:=by
 have O0:Own t (Array.replicate (t.mask+1) none) [] (fun _=>0):=⟨by simp,fun c hc i=>by simp [Wj,hc],fun i hi=>by simp at hi,fun i hi=>by simp at hi⟩;obtain⟨o,p,e,O⟩:=rB hk hs.toList _ [] _ O0 (by simp;omega);refine⟨o,p,?_,by simpa using O⟩;rw [rA,show(0:Nat)=([]:List Int).length from rfl,e];rfl
theorem oB {mask i:Nat} (h:i<=mask):i<=Vk mask i/\Vk mask i<=mask:=by
 unfold Vk;split <;> omega
theorem uc (t:Vf) (p:WA) (h:p.j+p.more<=t.mask):(t.advance p).j+(t.advance p).more<=t.mask:=by
 unfold W7;split
 ·show p.j+1+(p.more - 1)<=t.mask
  omega
 ·have hl:(VH t.mask p.i p.perturb).1<=t.mask:=by
   unfold VH;exact Nat.le_of_lt_succ (Yf _ (YU _))
  have hr:=oB hl;show(VH t.mask p.i p.perturb).1+(Vk t.mask (VH t.mask p.i p.perturb).1 - (VH t.mask p.i p.perturb).1)<=t.mask
  omega
theorem ud (t:Vf):∀(n:Nat) (p:WA),p.j+p.more<=t.mask->(bN t n p).j<=t.mask
 | 0,p,h=>by show p.j<=t.mask;omega
 | n+1,p,h=>ud t n _ (uc t p h)
theorem rC (t:Vf) (h:Int):(t.probeStart h).j+(t.probeStart h).more<=t.mask:=by
 have hl:Vp h % (t.mask+1)<=t.mask:=Nat.le_of_lt_succ (Yf _ (YU _));have hr:=oB hl
 show Vp h % (t.mask+1)+(Vk t.mask (Vp h % (t.mask+1)) - Vp h % (t.mask+1))<=t.mask;omega
theorem Ci {mask k:Nat} (hk:mask+1=2 ^ k) (finger moves:Nat) (led plain:Bool) (hs:Array Int) (hf:hs.size<=mask) :
  ∃t order,SetTable.laid mask finger moves led plain hs=some (t,order)/\t.mask=mask/\t.led=led/\t.plain=plain/\order.toList.Perm (Vx hs.size)/\qH t (order.map fun i=>hs.getD i 0):=by
 let t0:Vf:={ mask:=mask,place:=#[],dummies:=#[],finger:=finger,led:=led,moves:=moves,plain:=plain }
 obtain⟨owner,pos,e,O⟩:=Gb (t:=t0) hk hs hf;have e:Yg mask hs=some owner:=e
 let live:List (Nat × Nat):=(Vx (mask+1)).filterMap fun j=>(owner.getD j none).map (j,·)
 let t:Vf:={ mask:=mask,place:=(live.map (·.1)).toArray,dummies:=#[],finger:=finger,led:=led,moves:=moves,plain:=plain }
 have hlen:hs.toList.length=hs.size:=by simp
 have mem:∀j i,(j,i)∈live↔(j<=mask/\i<hs.size/\pos i=j):=fun j i=>by
  have z:(j,i)∈live↔∃a,a∈Vx (mask+1)/\(owner.getD a none).map (a,·)=some (j,i):=YQ;rw [z];constructor
  ·rintro⟨a,h1,h2⟩
   obtain⟨b,h3,h4⟩:=UI.mp h2;cases h4;have ha:j<=mask:=by have:=Vv.mp h1;omega
   have:=(O.at_ j ha i).mp h3;exact⟨ha,by rw [<- hlen];exact this.1,this.2⟩
  ·rintro⟨h1,h2,h3⟩
   exact⟨j,Vv.mpr (by omega),by rw [(O.at_ j h1 i).mpr ⟨by rw [hlen];exact h2,h3⟩];rfl⟩
 have rise:live.Pairwise fun a b=>a.1<b.1:=by
  refine List.Pairwise.filterMap (R:=fun a b=>a<b) _ (fun a a' RZ b hb b' hb'=>?_) ZR;obtain⟨_,_,rfl⟩:=UI.mp hb;obtain⟨_,_,rfl⟩:=UI.mp hb';exact RZ
 have R0:(live.map (·.2)).Nodup:=by
  unfold List.Nodup;rw [Xx];refine Zk (fun {a b} ha hb bJ e2=>?_) rise;have h1:=((mem a.1 a.2).mp ha).2.2
  have h2:=((mem b.1 b.2).mp hb).2.2;rw [e2] at h1;omega
 have perm:(live.map (·.2)).Perm (Vx hs.size):=by
  refine(WG R0 List.nodup_range).mpr fun i=>?_
  rw [Vv];constructor
  ·intro hi
   obtain⟨⟨j,i'⟩,h1,rfl⟩:=Uz.mp hi;exact((mem j i').mp h1).2.1
  ·intro hi
   exact Uz.mpr ⟨(pos i,i),(mem _ _).mpr ⟨O.le i (by rw [hlen];exact hi),hi,rfl⟩,rfl⟩
 have ri:Ri t.place:=fun a b hab hb=>by
  show(live.map (·.1)).toArray.getD a 0<(live.map (·.1)).toArray.getD b 0;have hb':b<live.length:=by
   have:(live.map (·.1)).toArray.size=live.length:=by simp
   show b<live.length;rw [<- this];exact hb
  have z:=Y3.mp rise a b (by omega) hb' hab;simpa [Wj,show a<live.length by omega,hb'] using z
 have tb:Tb t:=⟨ri,rfl⟩;have Na:t.place.size=live.length:=by show(live.map (·.1)).toArray.size=_;simp
 have Gd:∀i (hi:i<live.length),t.place.getD i 0=(live[i]).1:=fun i hi=>by
  show(live.map (·.1)).toArray.getD i 0=_;simp [Wj,hi]
 have full:∀c,¬ Fr owner c->c<=mask->t.slot c≠.empty:=fun c hc hle z=>by
  have hex:∃i,i<hs.size/\pos i=c:=Wk fun kY=>hc ((O.mL c).mpr ⟨hle,fun i hi e2=>kY ⟨i,by rw [<- hlen];exact hi,e2⟩⟩)
  obtain⟨i,h1,h2⟩:=hex;obtain⟨a,ha,ea⟩:=XE.mp ((mem c i).mpr ⟨hle,h1,h2⟩);have y:=f9 tb (i:=a) (by rw [Na];exact ha)
  rw [Gd a ha,ea,z] at y;cases y
 have Nb:live.length=hs.size:=by
  have:=perm.length_eq;simpa using this
 have JB:∀h m,(bN t m (t.probeStart h)).j<=mask:=fun h m=>ud t m _ (rC t h)
 refine⟨t,(live.map (·.2)).toArray,?_,rfl,rfl,rfl,by simpa using perm,tb,?_,?_,?_,⟨k,hk⟩,?_⟩
 ·unfold SetTable.laid
  rw [e];rfl
 ·rw [Na];simp
 ·intro i hi
  rw [Na] at hi;rw [Gd i hi];exact((mem _ _).mp (UQ hi)).1
 ·rw [VE,VV,Lm9,Nb];exact hf
 ·intro i hi
  have hi':i<live.length:=by simpa using hi
  have e1:((live.map (·.2)).toArray.map fun i=>hs.getD i 0).getD i 0=hs.getD (live[i]).2 0:=by simp [Wj,hi']
  rw [e1,Gd i hi'];have mm:(live[i]).1<=mask/\(live[i]).2<hs.size/\pos (live[i]).2=(live[i]).1:=(mem _ _).mp (UQ hi')
  obtain⟨m1,m2,m3⟩:=mm;obtain⟨n,k1,k2,k3⟩:=O.ub (live[i]).2 (by rw [hlen];exact m2);have e2:hs.toList[(live[i]).2]'(by rw [hlen];exact m2)=hs.getD (live[i]).2 0:=by simp [Wj,m2]
  rw [e2] at k2 k3;refine⟨n,k1,?_,fun m hm=>?_⟩
  ·rw [gc (t:=t0) (t':=t) rfl,gG (t:=t0) (t':=t) rfl,k2,m3]
  ·refine full _ ?_ (JB _ _)
   rw [gc (t:=t0) (t':=t) rfl,gG (t:=t0) (t':=t) rfl];exact k3 m hm
theorem oC (t:Vf):∀(n:Nat) (p:WA),(bN t n p).dummy=p.dummy
 | 0,p=>rfl
 | n+1,p=>by
  rw [bN,oC t n];unfold W7;split <;> rfl
theorem y0 (t:Vf) (n:Nat) (p:WA):t.advance (bN t n p)=bN t (n+1) p:=by
 rw [gF t n 1 p];rfl
theorem DP {t:Vf} {H:Nat->Int} {h:Int} {m0 c:Nat} (hb:∀c',c'<c->∃i,t.slot (bN t (m0+c') (t.probeStart h)).j=.live i/\(H i == h)=false) (hc:c<10 * Wl t.mask) :
  ∃f,t.probe H h (bN t m0 (t.probeStart h))=W2 t H h (f+1) (bN t (m0+c) (t.probeStart h)):=by
 refine⟨10 * Wl t.mask - c - 1,?_⟩;unfold SetTable.probe;rw [yY t H h c _ _ (fun m hm=>by rw [<- gF];exact hb m hm) (by omega),<- gF];congr 1;omega
theorem y7 {t:Vf} {H:Nat->Int} {h:Int} {m0 c:Nat} (hs:t.slot (bN t (m0+c) (t.probeStart h)).j=.empty) (hc:c<10 * Wl t.mask)
  (hb:∀c',c'<c->∃i,t.slot (bN t (m0+c') (t.probeStart h)).j=.live i/\(H i == h)=false):t.probe H h (bN t m0 (t.probeStart h))=some (.empty (bN t (m0+c) (t.probeStart h)).j none):=by
 obtain⟨f,e⟩:=DP hb hc;rw [e,W2,hs];simp only [oC];rfl
theorem Cj {t:Vf} {H:Nat->Int} {h:Int} {m0 c i:Nat} (hs:t.slot (bN t (m0+c) (t.probeStart h)).j=.live i) (hc:c<10 * Wl t.mask)
  (hb:∀c',c'<c->∃i,t.slot (bN t (m0+c') (t.probeStart h)).j=.live i/\(H i == h)=false) (hi:(H i == h)=true) :
  t.probe H h (bN t m0 (t.probeStart h))=some (.candidate (bN t (m0+c) (t.probeStart h)).j i (bN t (m0+c+1) (t.probeStart h))):=by
 obtain⟨f,e⟩:=DP hb hc;rw [e,W2,hs];simp only [hi,if_true,y0]
section
variable {prog:VI} {w:WE} {A:Vq} {E:Ux->UB->Prop} {s:UB} {a:U9} {o:Obj} {es:Array (Int × Ux)} {ep:Nat} {t:Vf} {x:Ux} {h:Int} {eqv:Nat->Bool} {Q:SetFound->UB->Prop}
theorem wW (ho:s.heap.get? a=some o) (hd:o.data=.set es ep t) (I:qH t (es.map (·.1))) (Ck:(t.mask % 2 == 0)=false)
  (hq:∀i (hi:i<es.size),(es[i]).1=h->WI A s (es[i]).2 x (eqv i)) (JC:∀i (hi:i<es.size),∃b,(es[i]).2=.ref b)
  (y8:t.led=false->∀Q':Bool->UB->Prop,Q' false s->UR (model prog w) A (searchCouldBeSeen x ((es.filter (·.1 == h)).toList.map (·.2))) Q' E s)
  {n:Nat} (hn:n<=10 * (t.mask+14))
  (wX:∀m,m<n->∃i,i<t.place.size/\t.slot (bN t m (t.probeStart h)).j=.live i/\¬ (∃hi:i<es.size,(es[i]).1=h/\eqv i=true))
  (hend:(t.slot (bN t n (t.probeStart h)).j=.empty/\Q (.free (bN t n (t.probeStart h)).j false) s)\/((∃i,t.slot (bN t n (t.probeStart h)).j=.live i/\∃hi:i<es.size,(es[i]).1=h/\eqv i=true)/\Q (.there none) s)) :
  ∀(d m0 fuel:Nat) (y9:Option WA),m0+d=n->d<fuel->y9.getD (t.probeStart h)=bN t m0 (t.probeStart h)->UR (model prog w) A (setSearchFrom a x h true fuel y9) Q E s:=by
 intro d;induction d using Nat.strongRecOn with
 | ind d ih =>
  intro m0 fuel y9 hm T9 lL;obtain⟨fuel,rfl⟩:∃g,fuel=g+1:=⟨fuel - 1,by omega⟩;have hfit:t.fits es.size=true:=by
   have z:=I.sz;have f:=I.fill
   rw [VE] at z f;simp only [SetTable.fits,aan,I.tb.nd,UC,beq_iff_eq,decide_eq_true_eq];exact⟨z,by simp;omega⟩
  unfold setSearchFrom;refine Uq (Vm ho hd hfit ?_);dsimp only;have hg:t.gaveWay=false:=Ck
  rw [hg];simp only [UJ,if_false];rw [lL];have hsz:t.place.size=es.size:=by have z:=I.sz;rw [VE] at z;exact z
  have gH:∀i (hi:i<es.size),((es[i]?.map (·.1)).getD 0)=(es[i]).1:=fun i hi=>by simp [hi]
  obtain⟨c,hcd,hP,Nc⟩:=first (fun c=>m0+c=n\/∃i,t.slot (bN t (m0+c) (t.probeStart h)).j=.live i/\∃hi:i<es.size,(es[i]).1=h) d (.inl hm)
  have FF:c<10 * Wl t.mask:=by unfold Wl;omega
  have hb:∀c',c'<c->∃i,t.slot (bN t (m0+c') (t.probeStart h)).j=.live i/\(((es[i]?.map (·.1)).getD 0) == h)=false:=fun c' hc'=>by
   have kY:=Nc c' hc';obtain⟨i,h1,h2,_⟩:=wX (m0+c') (by omega);refine⟨i,h2,?_⟩;rw [gH i (by omega)];exact beq_eq_false_iff_ne.mpr fun e=>kY (.inr ⟨i,h2,by omega,e⟩)
  have JD:(m0+c=n/\t.slot (bN t (m0+c) (t.probeStart h)).j=.empty)\/∃i,∃hi:i<es.size,t.slot (bN t (m0+c) (t.probeStart h)).j=.live i/\(es[i]).1=h:=by
   rcases hP with e|⟨i,h1,hi,h2⟩
   ·rcases hend with⟨z,_⟩|⟨⟨i,z,hi,h1,_⟩,_⟩
    ·exact .inl ⟨e,by rw [e];exact z⟩
    ·exact .inr ⟨i,hi,by rw [e];exact z,h1⟩
   ·exact .inr ⟨i,hi,h1,h2⟩
  rcases JD with⟨e,hs⟩|⟨i,hi,hs,hh⟩
  ·rw [y7 hs FF]
   rotate_left
   ·exact hb
   dsimp only;rcases hend with⟨_,q⟩|⟨⟨i,z,_⟩,_⟩
   ·refine Us ?_
    rw [e];exact q
   ·rw [<- e,hs] at z;cases z
  ·rw [Cj (i:=i) hs FF]
   case hb=>exact hb
   case hi =>
    show(((es[i]?.map (·.1)).getD 0) == h)=true;rw [gH i hi,hh];simp
   dsimp only;obtain⟨b,Bs⟩:=JC i hi;have ge:es[i]?=some (es[i]):=by simp [hi]
   have tail:UR (model prog w) A (do
     let some (_,y):=es[i]?|unsupported "internal:set-entry"
     let equal <- holding [y] (eqBool y x)
     let (fM,_,t') <- setState a
     if true && equal then return .there none
     let some same:=t'.sameMemory t.moves t.mask|unsupported "set.changed-during-lookup:is-the-new-block-at-the-old-address"
     let JE <- match (if same then t'.slot (bN t (m0+c) (t.probeStart h)).j else .empty) with
      | .live i'=>match fM[i']? with
       | some (_,y')=>do pure (if <- isSame y' y then some i' else none)
       | none=>pure none
      | _=>pure none
     match JE with
     | none=>rule "set.search.anew";setSearchFrom a x h true fuel none
     | some i'=>if equal then return .there (some i') else setSearchFrom a x h true fuel (some (bN t (m0+c+1) (t.probeStart h)))) Q E s:=by
    rw [ge];dsimp only;refine Uq (wpAny_holding (hq i hi hh prog w _ _ ?_));refine Uq (Vm ho hd hfit ?_);dsimp only;cases ev:eqv i with
    | true =>
     simp only [Bool.and_self,if_true];refine Us ?_;rcases hend with⟨z,_⟩|⟨_,q⟩
     ·exfalso
      by_cases en:m0+c=n
      ·rw [<- en,hs] at z;cases z
      ·obtain⟨i',_,h2,h3⟩:=wX (m0+c) (by omega)
       rw [hs] at h2;cases h2;exact h3 ⟨hi,hh,ev⟩
     ·exact q
    | false =>
     simp only [Yj,UJ,if_false];have hmem:t.sameMemory t.moves t.mask=some true:=by simp [SetTable.sameMemory]
     rw [hmem];simp only [if_true];rw [hs];simp only [ge,Bs];refine Uq (wpAny_isSame_ref_self (Uq (Us ?_)));simp only [if_true,UJ,if_false];have bJ:m0+c<n:=by
      refine Nat.lt_of_le_of_ne (by omega) fun en=>?_
      rcases hend with⟨z,_⟩|⟨⟨i',z,hi',h1,h2⟩,_⟩
      ·rw [<- en,hs] at z;cases z
      ·rw [<- en,hs] at z
       cases z;rw [ev] at h2;cases h2
     exact ih (n - (m0+c+1)) (by omega) (m0+c+1) fuel _ (by omega) (by omega) rfl
   cases hl:t.led with
   | true =>
    simp only [Wv,UJ,if_false];exact tail
   | false =>
    simp only [Xc,if_true];refine Uq (y8 hl _ ?_);simp only [UJ,if_false];exact tail
end
theorem rD (n:Nat):∀(fuel k:Nat),n<2 ^ (k+fuel)->2 ^ k<=8+2 * n->∃k',Z2 n fuel (2 ^ k)=2 ^ k'/\n<2 ^ k'/\2 ^ k'<=8+2 * n
 | 0,k,h1,h2=>⟨k,rfl,h1,h2⟩
 | fuel+1,k,h1,h2=>by
  unfold Z2;by_cases h:2 ^ k<=n
  ·rw [if_pos h,<- Xo]
   exact rD n fuel (k+1) (by rw [show k+1+fuel=k+(fuel+1) by omega];exact h1) (by rw [Xo];omega)
  ·rw [if_neg h]
   exact⟨k,rfl,by omega,h2⟩
theorem above {n:Nat} (h:n<2 ^ 60):∃k,YV n=2 ^ k/\n<2 ^ k/\2 ^ k<=8+2 * n :=
 rD n 64 3 (U4 h (Z5 (by decide) (by decide))) (by omega)
theorem qH.plain {t:Vf} {hs:Array Int} (I:qH t hs) (b:Bool):qH { t with plain:=b } hs :=
 ⟨⟨I.tb.ri,I.tb.nd⟩,I.sz,I.le,I.fill,I.pw,fun i hi=>by
  obtain⟨n,h1,h2,h3⟩:=I.ub i hi;have e1:∀m p,bN { t with plain:=b } m p=bN t m p:=fun m p=>gc (t:=t) (t':={ t with plain:=b }) rfl m p
  exact⟨n,h1,by rw [e1];exact h2,fun m hm=>by rw [e1];exact h3 m hm⟩⟩
theorem pV {α β:Type} (f:α->β) (xs:Array α) {p:Nat} (hp:p<=xs.size) (x:α):(Vi xs p x).map f=Vi (xs.map f) p (f x):=by
 apply Array.ext_getElem?;intro i;rw [Array.getElem?_map,gI xs hp,gI (xs.map f) (by rw [VE];exact hp)];split
 ·simp
 ·split <;> simp
theorem nS {α:Type} (xs:Array α) {p:Nat} (hp:p<=xs.size) (x:α):(Vi xs p x).toList.Perm (x::xs.toList):=by
 unfold Vi;rw [Array.toList_append,Zf,Z6,Z6];have e:xs.toList=xs.toList.take p++xs.toList.drop p:=(Xp p _).symm
 have e1:xs.toList.extract 0 p=xs.toList.take p:=by simp [Y5]
 have e2:xs.toList.extract p xs.size=xs.toList.drop p:=by
  rw [Y5];rw [Vu];simp
 rw [e1,e2]
 conv=>rhs;rw [e]
 rw [UU];exact List.perm_middle
noncomputable def SI (l:Bool) (h:Heap) (a:U9) (es:Array (Int × Ux)):Prop :=
 ∃o ep t,h.get? a=some o/\o.ExactSet/\o.data=.set es ep t/\qH t (es.map (·.1))/\es.size * 5<t.mask * 3/\t.mask<=8 * es.size+20/\(t.mask % 2 == 0)=false/\(∀i (hi:i<es.size),∃b,(es[i]).2=.ref b)/\t.led=l/\(1<=es.size->t.plain=false)
theorem qH.fits {t:Vf} {es:Array (Int × Ux)} (I:qH t (es.map (·.1))):t.fits es.size=true:=by
 have z:=I.sz;have f:=I.fill
 rw [VE] at z f;simp only [SetTable.fits,aan,I.tb.nd,UC,beq_iff_eq,decide_eq_true_eq];exact⟨z,by simp;omega⟩
theorem Ge {m k:Nat} (h:m+1=2 ^ k) (hm:1<=m):(m % 2 == 0)=false:=by
 cases k with
 | zero=>simp at h;omega
 | succ k =>
  rw [Xo] at h;have:m % 2=1:=by omega
  rw [this];rfl
theorem vA {h:Heap} {a:U9} {o:Obj} {es:Array (Int × Ux)} {ep:Nat} {t:Vf} (ho:h.get? a=some o) (hd:o.data=.set es ep t) (fM:Array (Int × Ux)) (t':Vf) :
  (h.update a (aap fM t')).get? a=some { o with data:=.set fM (ep+1) t' }:=by
 have:=VS (aap fM t') ho (by rw [putSet_of fM t' hd];rfl);rw [putSet_of fM t' hd] at this;exact this
theorem gU {α:Type}:∀(l:List α),(Vx l.length).filterMap (fun i=>l[i]?)=l
 | []=>rfl
 | a::r=>by
  rw [UA,ZL,aag];simp only [W5,List.filterMap_map];have e:((fun i=>(a::r)[i]?) ∘ Nat.succ)=fun i=>r[i]?:=by funext i;simp
  rw [e,gU r]
theorem mN (es:Array (Int × Ux)):∀(l:List Nat),(∀i∈l,i<es.size)->(l.filterMap (fun i=>es[i]?)).map (·.1)=l.map fun i=>(es.map (·.1)).getD i 0
 | [],_=>rfl
 | i::l,h=>by
  have hi:=h i (by simp);have e:es[i]?=some es[i]:=by simp [hi]
  rw [aag,e];simp only [UG];rw [mN es l fun j hj=>h j (by simp [hj])];congr 1;simp [Wj,hi]
section
variable {prog:VI} {w:WE} {A:Vq} {E:Ux->UB->Prop} {s:UB} {a:U9} {es:Array (Int × Ux)} {x:Ux} {h:Int} {eqv:Nat->Bool} {l:Bool}
theorem zc {o:Obj} {ep:Nat} {t:Vf} {Q:Unit->UB->Prop} (ho:s.heap.get? a=some o) (hx:o.ExactSet) (hd:o.data=.set es ep t) (I:qH t (es.map (·.1))) (h1:1<=es.size) (hs:es.size<50000) (hr:∀i (hi:i<es.size),∃b,(es[i]).2=.ref b) (hL:t.led=l) (hP:t.plain=false)
  (hQ:∀h' fM,Wc a s.heap h'->SI l h' a fM->fM.toList.Perm es.toList->Q () { s with heap:=h' }):UR (model prog w) A (setRelay a (WB es.size)) Q E s:=by
 have hg:WB es.size<=4 * 100000/\WB es.size=4 * es.size:=by
  unfold WB;rw [if_neg (by omega)];omega
 obtain⟨k,e1,e2,e3⟩:=above (n:=WB es.size) (YO hg.1 (by decide));have hm:YV (WB es.size) - 1+1=2 ^ k:=by rw [e1];omega
 obtain⟨t',order,f1,f2,f3,f4,f5,f6⟩:=Ci hm t.finger (t.movedTo (YV (WB es.size) - 1)) t.led t.plain (es.map (·.1)) (by rw [VE,e1];omega);rw [VE] at f5;unfold setRelay;refine Uq (Vm ho hd I.fits ?_);dsimp only;rw [if_neg (by rw [e1,V3];omega)];have Nd:t.relaid (es.map (·.1)) (WB es.size)=some (t',order):=f1
 rw [Nd];have I8:(order.filterMap (es[·]?)).toList.Perm es.toList:=by
  rw [ZS];have z:=f5.filterMap (fun i=>es[i]?)
  refine z.trans (List.Perm.of_eq ?_);have y:=gU es.toList
  simpa using y
 have hsz:(order.filterMap (es[·]?)).size=es.size:=by
  rw [<- VR,I8.length_eq,VR]
 have Nf:(order.filterMap (es[·]?)).map (·.1)=order.map fun i=>(es.map (·.1)).getD i 0:=by
  apply Array.toList_inj.mp;rw [ZH,ZS,ZH];exact mN es order.toList fun i hi=>Vv.mp (f5.mem_iff.mp hi)
 show UR (model prog w) A ((do
  let fM:=order.filterMap (es[·]?)
  if fM.size != es.size then unsupported "internal:set-table-lost-an-element"
  pure (fM,t')) >>= fun(p:Array (Int × Ux) × Vf)=>storeSet a p.1 p.2) Q E s
 refine Uq ?_;dsimp only;rw [hsz];simp only [bne_self_eq_false,UJ,if_false];refine Us (wpAny_storeSet_of ho hd ?_ (by rw [hsz,V3];omega));have I':qH t' ((order.filterMap (es[·]?)).map (·.1)):=by rw [Nf];exact f6
 refine hQ _ (order.filterMap (es[·]?)) (VT _ _ _) ⟨_,_,t',vA ho hd _ _,hx,rfl,I',?_,?_,?_,fun i hi=>?_,f3.trans hL,fun _=>f4.trans hP⟩ I8
 ·rw [hsz,f2,e1];omega
 ·rw [hsz,f2,e1];omega
 ·rw [f2];exact Ge hm (by rw [e1];omega)
 ·have hm:(order.filterMap (es[·]?))[i]∈es.toList:=I8.mem_iff.mp (by rw [XD];exact Zc hi)
  obtain⟨j,hj,e⟩:=XE.mp hm;have hj':j<es.size:=by simpa using hj
  obtain⟨b,hb⟩:=hr j hj';refine⟨b,?_⟩;rw [<- e];simpa using hb
theorem Gf {Q:Bool->UB->Prop} (hS:SI l s.heap a es) (hx:∃b,x=.ref b) (hs:es.size<1000) (hq:∀i (hi:i<es.size),(es[i]).1=h->WI A s (es[i]).2 x (eqv i))
  (y8:∀Q':Bool->UB->Prop,Q' false s->UR (model prog w) A (searchCouldBeSeen x ((es.filter (·.1 == h)).toList.map (·.2))) Q' E s)
  (R1:∀Q':Bool->UB->Prop,Q' false s->UR (model prog w) A (hashByValue 8 x) Q' E s)
  (h1:(∃i,∃hi:i<es.size,(es[i]).1=h/\eqv i=true)->Q false s)
  (h2:(¬ ∃i,∃hi:i<es.size,(es[i]).1=h/\eqv i=true)->∀h' fM,Wc a s.heap h'->SI l h' a fM->fM.toList.Perm ((h,x)::es.toList)->Q true { s with heap:=h' }) :
  UR (model prog w) A (setAddHashed a x h) Q E s:=by
 obtain⟨o,ep,t,ho,hex,hd,I,DO,Ua,Ck,hr,hL,hP⟩:=hS;obtain⟨b,rfl⟩:=hx;have hsz:t.place.size=es.size:=by have z:=I.sz;rw [VE] at z;exact z
 obtain⟨k,hk⟩:=I.pw;obtain⟨n,hn,hend,wX⟩:=way I.tb hk (by omega) h (fun i=>∃hi:i<es.size,(es[i]).1=h/\eqv i=true);have Gg:t.slot (bN t n (t.probeStart h)).j=.empty->¬ ∃i,∃hi:i<es.size,(es[i]).1=h/\eqv i=true:=by
  rintro he ⟨i,hi,e1,e2⟩;obtain⟨n',g1,g2,g3⟩:=I.ub i (by rw [VE];exact hi);have eh:(es.map (·.1)).getD i 0=h:=by simp [Wj,hi,e1]
  rw [eh] at g2 g3;have hl:=f9 I.tb (i:=i) (by omega)
  rw [<- g2] at hl;rcases Zj n n' with q|q|q
  ·exact g3 n q he
  ·subst q;rw [he] at hl;cases hl
  ·obtain⟨i',_,w2,w3⟩:=wX n' q
   rw [hl] at w2;cases w2;exact w3 ⟨hi,e1,e2⟩
 unfold setAddHashed;refine wpAny_holding ?_;unfold setAddHashedIn;refine Uq (Vm ho hd I.fits ?_);dsimp only;have hsc:byScan (.ref b) es=false:=rfl
 rw [hsc];simp only [UJ,if_false];unfold setSearch;refine Uq (wW (n:=n) (eqv:=eqv) ho hd I Ck hq hr (fun _=>y8) hn wX ?_ n 0 100000 none (by omega) (by omega) rfl);rcases hend with he|⟨i,_,hl,hi,e1,e2⟩
 ·refine .inl ⟨he,?_⟩
  dsimp only;refine Uq (Vm ho hd I.fits ?_);dsimp only;have hj:(bN t n (t.probeStart h)).j<=t.mask:=ud t n _ (rC t h)
  obtain⟨I1,hp⟩:=pH I (h:=h) (n:=n) (by omega) he hj (fun m hm=>by obtain⟨i,_,z,_⟩:=wX m hm;rw [z];intro q;cases q) (by rw [VE];omega);rw [VE] at hp;rw [<- pV (·.1) es hp (h,Ws b)] at I1;have zd:=nS es hp (h,Ws b)
  have pR:(Vi es (t.put (bN t n (t.probeStart h)).j).2 (h,Ws b)).size=es.size+1:=cL es hp _;have JF:∀i (hi:i<(Vi es (t.put (bN t n (t.probeStart h)).j).2 (h,Ws b)).size),∃b',((Vi es (t.put (bN t n (t.probeStart h)).j).2 (h,Ws b))[i]).2=.ref b':=fun i hi=>by
   have hm:(Vi es (t.put (bN t n (t.probeStart h)).j).2 (h,Ws b))[i]∈(h,Ws b)::es.toList:=zd.mem_iff.mp (by rw [XD];exact Zc hi);rcases UN.mp hm with e|e
   ·exact⟨b,by rw [e]⟩
   ·obtain⟨j,hj,e⟩:=XE.mp e
    have hj':j<es.size:=by simpa using hj
    obtain⟨b',hb'⟩:=hr j hj';refine⟨b',?_⟩;rw [<- e];simpa using hb'
  have kY:=Gg he;generalize R2:Vi es (t.put (bN t n (t.probeStart h)).j).2 (h,Ws b)=DQ at *
  have tail:∀t2:Vf,qH t2 (DQ.map (·.1))->t2.mask=t.mask->t2.led=l->t2.plain=false->UR (model prog w) A (do
    storeSet a DQ t2
    if (!false && t2.tooFull)=true then setRelay a (WB (es.size+1))
    return true) Q E s:=fun t2 I2 Ga j4 sU=>by
   refine Uq (wpAny_storeSet_of ho hd ?_ (by rw [pR,V3];omega));have hg:=vA ho hd DQ t2
   by_cases hf:t2.tooFull=true
   ·simp only [hf,Xc,Bool.and_self,if_true]
    refine Uq ?_;rw [<- pR];refine zc (s:={ s with heap:=s.heap.update a (aap DQ t2) }) hg hex rfl I2 (by omega) (by omega) JF j4 sU fun h' fM Dz hS' hp'=>Us ?_
    exact h2 kY h' fM ((VT s.heap a (aap DQ t2)).trans Dz) hS' (hp'.trans zd)
   ·have hf':t2.tooFull=false:=by simpa using hf
    simp only [hf',Xc,Yj,UJ,if_false];refine Us ?_;have hnf:DQ.size * 5<t2.mask * 3:=by
     have z:¬ (t2.fill * 5≥t2.mask * 3):=by simpa [SetTable.tooFull] using hf'
     have y:t2.fill=DQ.size:=by
      have q:=I2.sz;rw [VE] at q;simp only [aan,I2.tb.nd];simp [q]
     omega
    exact h2 kY _ DQ (VT _ _ _) ⟨_,_,t2,hg,hex,rfl,I2,hnf,by omega,by rw [Ga];exact Ck,JF,j4,fun _=>sU⟩ zd
  cases hpl:(t.put (bN t n (t.probeStart h)).j).1.plain with
  | false =>
   simp only [UJ,if_false];refine Uq (Us ?_);simp only [if_true];exact tail _ I1 rfl hL hpl
  | true =>
   simp only [if_true];refine Uq (R1 _ ?_);simp only [UJ,if_false];exact tail _ (I1.plain false) rfl hL rfl
 ·refine .inr ⟨⟨i,hl,hi,e1,e2⟩,?_⟩
  exact Us (h1 ⟨i,hi,e1,e2⟩)
end
end cm
namespace PySem
theorem typeCall_set_1 (v:Ux):checkTypeCall "set" ⟨[v],[]⟩=pure ():=by kernel_rfl
theorem newCall_set_1 (v:Ux):checkBuiltinCall "set.__new__" ⟨[.type "set",v],[]⟩=pure ():=by kernel_rfl
theorem sub_list_set:isSubtype (.type "list") (.type "set")=pure false:=by rw [isSubtype_type];kernel_rfl
theorem sub_list_frozenset:isSubtype (.type "list") (.type "frozenset")=pure false:=by rw [isSubtype_type];kernel_rfl
section
variable {prog:VI} {w:WE} {A:Vq} {E:Ux->UB->Prop} {s:UB}
theorem nU {v:Ux} {Q₁:Ux->UB->Prop}
  (h:Q₁ (.ref s.heap.objs.size) { s with heap:=s.heap.push { cls:=.type "set",dict:=none,data:=.set #[] 0 (.fresh 0 0 (!w.params.followText "set-order")) } }) :
  codeAny (model prog w) A (.call (.builtin "set.__new__") ⟨[.type "set",v],[]⟩) (wants Q₁ E) s:=by
 refine codeAny_of_tree ?_;show UR _ A.in1 (do checkBuiltinCall "set.__new__" ⟨[.type "set",v],[]⟩;again (.builtin "set.__new__" ⟨[.type "set",v],[]⟩)) _ _ s
 refine Uq (wpAny_of_eq (newCall_set_1 v) (Us ⟨plainId_quiet F.plain_set_new _,codeAny_builtin F.entry_set_new ?_⟩));rw [VM F.plain_set_new _];unfold Builtin.«set.__new__» Builtin.Frozenset.newClass;have Cf:=sub_set_self
 obtain⟨hp,g,d,tk,os⟩:=s;dsimp only
 wp_walk
 refine wpAny_askSetting (Us ?_);dsimp only;simp only [newObj];refine Uq (wpAny_alloc (Us ?_));exact Us h
theorem lz {M:Model} {self v:Ux} {Q:Unit->UB->Prop} (hT:s.TypeIs self "set") (hQ:Q () s) :
  UR M A (checkBuiltinCall "set.__init__" ⟨[self,v],[]⟩) Q E s:=by
 simp only [checkBuiltinCall,kind_set_init,split_set_init,sig_set_init];refine Uq (wpAny_isInstance hT sub_set_self ?_);simp only [Wv,UJ,if_false];unfold Bind.checkArgs;dsimp only;refine Uq (m:=Bind.printed "set" true _ _) (PyProof.Rows.printed_name (by decide) ?_);refine Uq (m:=Bind.printed "*" false _ _) (PyProof.Rows.printed_star (self:=self) rfl hT fun short=>?_);have R3:(ZT == ZU)=false:=by decide
 have hn:(if (ZT == ZU)=true then [self,v].length else [self,v].length - 1)=1:=by simp [R3]
 rw [hn];simp only [Vz];have hc:Bind.check ⟨.positional,"set","*",.self,[⟨"iterable",.posOnly,false⟩]⟩ "set" short 1 []=pure ():=by
  have hp:(YL == YL)=true:=by decide
  simp [Bind.check,Bind.checkCount,Bind.isPositional,hp]
 rw [hc];exact Us hQ
set_option maxHeartbeats 1000000 in
theorem ue {l:U9} {items:Array Ux} {Q:Ux->UB->Prop} (hl:s.heap.IsList l items)
  {led:Bool} (Ng:led = !w.params.followText "set-order") (h:codeAny (model prog w) A.in1.in1 (.builtin "set.update.loop" ⟨[.ref s.heap.objs.size,.ref (s.heap.objs.size+1)],[]⟩) (wants (fun _ s'=>Q (.ref s.heap.objs.size) s') E)
   { s with heap:=(s.heap.push { cls:=.type "set",dict:=none,data:=.set #[] 0 (.fresh 0 0 led) }).push { cls:=.type "list_iterator",data:=.fields #[.ref l,.int 0 0] } }) :
  UR (model prog w) A (call (.type "set") [.ref l]) Q E s:=by
 obtain⟨c,tl,R4⟩:=Xq.mro;have hmade:=Xq.made
 have Cf:=Xq.sub;refine wpAny_call (codeAny_of_tree ?_);show UR _ _ (callAny (.type "set") _) _ _ _
 refine Us ⟨Code.quiet_builtin _ (by decide +kernel),codeAny_builtin F.entry_type_call ?_⟩;rw [Around.under_plain (weight_type_call_type "set" [.ref l] []) rfl];have h1:=Xq.notType
 have h2:=Xq.canCreate;have FF:=typeCall_set_1 (.ref l)
 repeat (any_goals (first|assumption|wp_step))
 refine codeAny_mono (nU (E:=E) (Q₁:=fun obj s₁=>obj=.ref s.heap.objs.size/\s₁={ s with heap:=s.heap.push { cls:=.type "set",dict:=none,data:=.set #[] 0 (.fresh 0 0 led) } }) ⟨rfl,by rw [Ng]⟩) fun r s₁ hr=>?_
 cases r with
 | error e=>exact hr
 | ok fl =>
  cases fl with
  | ret obj =>
   obtain⟨rfl,rfl⟩:=hr;have hS:(s.heap.push { cls:=.type "set",dict:=none,data:=.set #[] 0 (.fresh 0 0 led) }).get? s.heap.objs.size=some { cls:=.type "set",dict:=none,data:=.set #[] 0 (.fresh 0 0 led) }:=Uy _ rfl
   have hT:YA { s with heap:=s.heap.push { cls:=.type "set",dict:=none,data:=.set #[] 0 (.fresh 0 0 led) } } (.ref s.heap.objs.size) "set":=⟨_,hS,rfl⟩;have Ub:=Xq.init.lookup
   have Uc:=Xq.init.bind (.ref s.heap.objs.size)
   repeat (any_goals (first|assumption|wp_step))
   refine codeAny_mono (codeAny_call_builtin (R:=wants (fun r s₂=>r=.none/\Q (.ref s.heap.objs.size) s₂) E) Xq.init.plain F.entry_set_init (lz hT ?_)) fun r₂ s₂ Nh=>?_
   ·unfold Builtin.«set.__init__» noKeywords
    have hl':(s.heap.push { cls:=.type "set",dict:=none,data:=.set #[] 0 (.fresh 0 0 led) }).IsList l items:=by obtain⟨o,ho,r⟩:=hl;exact⟨o,Ur _ ho,r⟩
    have Ud:YA { s with heap:=s.heap.push { cls:=.type "set",dict:=none,data:=.set #[] 0 (.fresh 0 0 led) } } (.ref l) "list":=hl'.typeIs;have Ue:=sub_list_set
    have sQ:=sub_list_frozenset;have MO:∀{A':Vq} {Q':Ux->UB->Prop} {E':Ux->UB->Prop},Q' (.ref (s.heap.objs.size+1)) { s with heap:=(s.heap.push { cls:=.type "set",dict:=none,data:=.set #[] 0 (.fresh 0 0 led) }).push { cls:=.type "list_iterator",data:=.fields #[.ref l,.int 0 0] } } ->
      UR (model prog w) A' (pyIter (.ref l)) Q' E' { s with heap:=s.heap.push { cls:=.type "set",dict:=none,data:=.set #[] 0 (.fresh 0 0 led) } }:=fun {A' Q' E'} hq=>by
     have e:(s.heap.push { cls:=.type "set",dict:=none,data:=.set #[] 0 (.fresh 0 0 led) }).objs.size=s.heap.objs.size+1:=VJ _ _;refine wpAny_pyIter_list (s:={ s with heap:=s.heap.push { cls:=.type "set",dict:=none,data:=.set #[] 0 (.fresh 0 0 led) } }) hl' ?_;show Q' (.ref (s.heap.push _).objs.size) _
     rw [e];exact hq
    wp_walk using MO
    refine codeAny_mono h fun r3 s3 Ni=>?_
    cases r3 with
    | error e=>exact Ni
    | ok f3 =>
     cases f3 with
     | ret v3=>exact Us (Us ⟨rfl,Ni⟩)
     | _=>exact Ni.elim
   ·cases r₂ with
    | error e=>exact Nh
    | ok R5 =>
     cases R5 with
     | ret r =>
      obtain⟨rfl,hq⟩:=Nh
      repeat (any_goals (first|assumption|wp_step))
     | _=>exact Nh.elim
  | _=>exact hr.elim
end
end PySem
namespace PySem.F
theorem bh:Slot "set_iterator" "__next__" "set_iterator.__next__" :=
 .of (owner:="set_iterator") (n:="__next__") (by rw [typeLookup_type,builtinLookup_eq_fast];kernel_rfl) (by decide +kernel) (by decide +kernel) (by decide +kernel)
  (by first|exact .inl (by decide +kernel)|exact .inr (by decide +kernel)) (by rw [isSubtype_type];kernel_rfl)
theorem gV:entryFor table "set_iterator.__next__"=some Builtin.«set_iterator.__next__»:=entryFor_of_tree (by kernel_rfl)
theorem ie (a:Ux):argsOk "set_iterator.__next__" ⟨[a],[]⟩:=by unfold argsOk;kernel_rfl
theorem ig:Slot "set_iterator" "__iter__" "set_iterator.__iter__" :=
 .of (owner:="set_iterator") (n:="__iter__") (by rw [typeLookup_type,builtinLookup_eq_fast];kernel_rfl) (by decide +kernel) (by decide +kernel) (by decide +kernel)
  (by first|exact .inl (by decide +kernel)|exact .inr (by decide +kernel)) (by rw [isSubtype_type];kernel_rfl)
theorem lA:entryFor table "set_iterator.__iter__"=some Builtin.«dict_keyiterator.__iter__» :=
 entryFor_alias (id':="dict_keyiterator.__iter__") (by kernel_rfl) rfl (by decide +kernel) (by kernel_rfl)
theorem mO (a:Ux):argsOk "set_iterator.__iter__" ⟨[a],[]⟩:=by unfold argsOk;kernel_rfl
theorem lB:entryFor table "set.__iter__"=some Builtin.«frozenset.__iter__» :=
 entryFor_alias (id':="frozenset.__iter__") (by kernel_rfl) rfl (by decide +kernel) (by kernel_rfl)
end PySem.F
namespace cm
open PySem
theorem mP {α:Type} {l:List α} {i:Nat} (h:i<l.length):(l[i]::l.eraseIdx i).Perm l:=by
 rw [List.eraseIdx_eq_take_drop_succ];have e:l=l.take i++l[i]::l.drop (i+1):=by rw [List.getElem_cons_drop,Xp]
 conv=>rhs;rw [e]
 exact List.perm_middle.symm
theorem vB {α:Type} (next:Nat->Nat):∀(n k:Nat) (left:List α) (out:Array α),left.length=n->(pickOrder.go next n k left out).toList.Perm (out.toList++left)
 | 0,k,left,out,h=>by
  have:left=[]:=Zw.mp h;subst this;rw [U2];exact .refl _
 | n+1,k,left,out,h=>by
  have hi:next k % left.length<left.length:=Yf _ (by omega)
  unfold pickOrder.go;rw [Ge9 hi];dsimp only;refine(vB next n (k+1) _ _ (by rw [YM hi];omega)).trans ?_;rw [Zf,UU];exact(mP hi).append_left _
theorem oE {α:Type} (next:Nat->Nat) (xs:Array α):(pickOrder next xs).toList.Perm xs.toList:=by
 have z:=vB next xs.size 0 xs.toList #[] (by simp)
 simpa [pickOrder] using z
section
variable {M:Model} {A:Vq} {E:Ux->UB->Prop} {s:UB}
theorem wY {src:Source} {n:Nat} {Q:Nat->UB->Prop} (hn:n≠0) (h:∀k dr,k<n->Q k { s with drawn:=dr }):UR M A (choose src n) Q E s :=
 fun _ _ _=>⟨hn,h _ _ (Yf _ (Nat.pos_of_ne_zero hn))⟩
theorem vC {α:Type}:∀(n:Nat) (xs:List α) (s:UB) (Q:List α->UB->Prop),xs.length=n->(∀l dr,l.Perm xs->Q l { s with drawn:=dr })->UR M A (drawOrder n xs) Q E s
 | 0,xs,s,Q,h,hQ=>by
  have:xs=[]:=Zw.mp h;subst this;exact Us (hQ [] s.drawn (.refl _))
 | n+1,[],s,Q,h,hQ=>by cases h
 | n+1,x::xs,s,Q,h,hQ=>by
  unfold drawOrder;refine Uq (wY (by simp) fun k dr hk=>?_);rw [Ge9 hk];dsimp only;refine Uq (vC n _ _ _ (by rw [YM hk];omega) fun l R6 hp=>Us ?_);exact hQ _ R6 ((hp.cons _).trans (mP hk))
end
noncomputable def eY (h:Heap) (I a:U9) (first:Ux) (i n ep:Nat):Prop:=∃o,h.get? I=some o/\o.cls=.type "set_iterator"/\o.data=.fields #[first,.int i 0,.ref a,.int n 0,.int ep 0]
noncomputable def cW (h:Heap) (a:U9) (es:Array (Int × Ux)) (ep:Nat) (t:Vf):Prop:=∃o,h.get? a=some o/\o.cls=.type "set"/\o.data=.set es ep t
noncomputable def Way (w:WE) (h:Heap) (a:U9) (es:Array (Int × Ux)) (ep:Nat) (t:Vf) (pl:List Nat) (T:U9) (ord:List Ux) (i:Nat) (first:Ux):Prop :=
 (w.params.followText "set-order"=true/\first=.int 0 0/\ord=(pickOrder (w.params.setOrder a ep) es).toList.map (·.2)) \/
 (w.params.followText "set-order"=false/\first=.ref T/\h.IsTuple T (pl.map fun(j:Nat)=>aax j 0).toArray/\pl.Perm (Vx es.size)/\ord=pl.map fun j=>(es.getD j (0,.none)).2) \/
 (w.params.followText "set-order"=false/\t.led=true/\es.size<=1/\ord=es.toList.map (·.2)/\((i=0/\first=.int 0 0)\/(i=1/\∃k:Nat,first=.int k 0/\∀j,j<t.place.size->t.place.getD j 0<k)))
section
variable {prog:VI} {w:WE} {A:Vq} {E:Ux->UB->Prop} {s:UB} {I a T:U9} {first:Ux} {i ep:Nat} {es:Array (Int × Ux)} {t:Vf} {pl:List Nat} {ord:List Ux}
theorem eY.typeIs {h:Heap} {n:Nat} (x:eY s.heap I a first i n ep):s.TypeIs (.ref I) "set_iterator":=let ⟨o,ho,hc,_⟩:=x;⟨o,ho,hc⟩
theorem jg {Q:Array (Int × Ux)->UB->Prop} (hS:cW s.heap a es ep t) (hf:t.fits es.size=true) (h:Q es s):UR (model prog w) A (setEntries a) Q E s:=by
 obtain⟨o,ho,_,hd⟩:=hS;unfold setEntries;exact Uq (Vm ho hd hf (Us h))
theorem dA {Q:Bool->UB->Prop} (h:Q (w.params.followText "set-order") s):UR (model prog w) A setsByText Q E s:=by
 unfold setsByText;exact Uq (wpAny_askSetting (Us h))
theorem pW (W:Way w s.heap a es ep t pl T ord i first):ord.length=es.size:=by
 rcases W with⟨_,_,e⟩|⟨_,_,_,p,e⟩|⟨_,_,_,e,_⟩
 ·rw [e,Lm9,(oE _ es).length_eq,VR]
 ·rw [e,Lm9,p.length_eq,Xy]
 ·rw [e,Lm9,VR]
theorem range_getD (es:Array (Int × Ux)):∀n,n<=es.size->(Vx n).map (fun j=>(es.getD j (0,.none)).2)=(es.toList.take n).map (·.2):=fun n hn=>by
 apply Wa (by simp;omega);intro j h1 h2;have hj:j<es.size:=by simp at h1;omega
 simp [hj]
theorem zf (W:Way w s.heap a es ep t pl T ord i first):ord.Perm (es.toList.map (·.2)):=by
 rcases W with⟨_,_,e⟩|⟨_,_,_,p,e⟩|⟨_,_,_,e,_⟩
 ·rw [e];exact(oE _ es).map _
 ·rw [e]
  have z:=p.map (fun j=>(es.getD j (0,VQ)).2);rw [range_getD es es.size (UM _),Vu (by simp)] at z;exact z
 ·rw [e]
theorem Gh {h:Heap} {n:Nat} (x:eY h I a first i n ep):eY (h.update I (Zx (·.setIfInBounds 1 (rawInt ((i:Int)+1))))) I a first (i+1) n ep:=by
 obtain⟨o,ho,hc,hd⟩:=x;exact⟨_,VS _ ho (Yp (WM hd _)),(Zi ..).trans hc,by rw [WM hd];simp [rawInt]⟩
theorem Gi {h:Heap} {n:Nat} {f:Ux} (x:eY h I a first i n ep):eY (h.update I (Zx (·.setIfInBounds 0 f))) I a f i n ep:=by
 obtain⟨o,ho,hc,hd⟩:=x;exact⟨_,VS _ ho (Yp (WM hd _)),(Zi ..).trans hc,by rw [WM hd];simp⟩
theorem Gj {n:Nat} {Q:Unit->UB->Prop} (x:eY s.heap I a first i n ep) (h:Q () { s with heap:=s.heap.update I (Zx (·.setIfInBounds 1 (rawInt ((i:Int)+1)))) }):UR (model prog w) A (setField (.ref I) 1 (rawInt ((i:Int)+1))) Q E s:=by
 obtain⟨o,ho,hc,hd⟩:=x;exact wpAny_setField ho hd (by simp) h
theorem Gk {n:Nat} {f:Ux} {Q:Unit->UB->Prop} (x:eY s.heap I a first i n ep) (h:Q () { s with heap:=s.heap.update I (Zx (·.setIfInBounds 0 f)) }):UR (model prog w) A (setField (.ref I) 0 f) Q E s:=by
 obtain⟨o,ho,hc,hd⟩:=x;exact wpAny_setField ho hd (by simp) h
set_option maxHeartbeats 1000000 in
theorem next_item {Q:Option Ux->UB->Prop} (rE:qH t (es.map (·.1))) (JG:I≠T) (hIa:I≠a) (hit:eY s.heap I a first i es.size ep) (hS:cW s.heap a es ep t) (W:Way w s.heap a es ep t pl T ord i first) (hi:i<es.size)
  (hQ:∀v h' zi,ord[i]?=some v->eY h' I a zi (i+1) es.size ep->Way w h' a es ep t pl T ord (i+1) zi->Wc I s.heap h'->Q (some v) { s with heap:=h' }):UR (model prog w) A (pyNext (.ref I)) Q E s:=by
 obtain⟨o,ho,hc,hd⟩:=id hit;have hf:=rE.fits
 have pJ:=pW W;unfold pyNext;refine Uq (wpAny_attempt (wpAny_callSpecial?_slot (name:=V5 "__next__") (eY.typeIs (h:=s.heap) hit) F.bh
  (wpAny_call_entry F.bh (eY.typeIs (h:=s.heap) hit) F.gV ?_ (F.ie _))))
 unfold Builtin.«set_iterator.__next__»;refine Uq (wpAny_of_eq (a:=(Ws I,[])) rfl ?_);dsimp only;refine Uq (wpAny_fieldsOf ho hd ?_);dsimp only;refine Uq (jg hS hf ?_);rw [if_neg (by simp)];rcases id W with⟨hT,rfl,e⟩|⟨hT,rfl,hp,pp,e⟩|⟨hT,hl,h1,e,hw⟩
 ·dsimp only
  unfold setNext;obtain⟨oa,vD,_,sT⟩:=id hS;refine Uq (Uq (Vm vD sT hf ?_));dsimp only;refine Uq (dA ?_);rw [hT];simp only [if_true,WY,bne_self_eq_false,UJ,if_false];unfold setWalk;refine Uq (Uq (Vm vD sT hf ?_));dsimp only;refine Uq (dA ?_);rw [hT];simp only [if_true];refine Uq (wpAny_askSetting (Us ?_));refine Us ?_;have PV:i<ord.length:=by omega
  have hx:(pickOrder (w.params.setOrder a ep) es)[i]?.map (·.2)=some ord[i]:=by
   rw [<- Yn,<- UT,<- e,Ge9 PV]
  obtain⟨y,hy,R7⟩:=UI.mp hx;have hy':(pickOrder ({ program:=(model prog w).prog,params:=(model prog w).w.params:Setting }.params.setOrder a ep) es)[i]?=some y:=hy
  rw [hy'];dsimp only [Option.map];refine Uq (Gk hit ?_);have h0:=Gi (f:=rawInt ((aay 0:Nat):Int)) hit
  refine Uq (Gj (s:={ s with heap:=_ }) h0 ?_);refine Us ⟨_,rfl,Us (hQ _ _ _ (by rw [Ge9 PV,R7]) (Gh h0) (.inl ⟨hT,rfl,e⟩) ((VT ..).trans (VT ..)))⟩
 ·dsimp only
  obtain⟨oT,JH,_,nT,Nj⟩:=id hp;refine Uq (wpAny_seqItems JH Nj ?_);dsimp only;have hpl:i<pl.length:=by rw [pp.length_eq,Xy];exact hi
  have hj:pl[i]<es.size:=Vv.mp (pp.mem_iff.mp (UQ hpl));have hx:(pl.map fun(j:Nat)=>aax j 0).toArray[((i:Nat):Int).toNat]?=some (aax (pl[i]:Nat) 0):=by simp [hpl]
  rw [hx];dsimp only;refine Uq ?_;unfold setNextDrawn;obtain⟨oa,vD,_,sT⟩:=id hS;refine Uq (Vm vD sT hf ?_);dsimp only;simp only [WY,bne_self_eq_false,UJ,if_false,UE hj];refine Us ?_;refine Uq (Gj hit ?_);refine Us ⟨_,rfl,Us (hQ _ _ _ ?_ (Gh hit) (.inr (.inl ⟨hT,rfl,⟨oT,(Vd _ _ JG).trans JH,?_⟩,pp,e⟩)) (VT ..))⟩
  ·subst e
   simp [hpl,hj]
  ·obtain⟨Ug,JI,r⟩:=hp
   rw [JH] at JI;cases JI;exact r
 ·have R8:i=0:=by omega
  subst R8;rcases hw with⟨_,rfl⟩|⟨z,_⟩
  ·dsimp only
   unfold setNext;obtain⟨oa,vD,_,sT⟩:=id hS;refine Uq (Uq (Vm vD sT hf ?_));dsimp only;refine Uq (dA ?_);rw [hT];have B1:t.place.size=es.size:=by have z:=rE.sz;rw [VE] at z;exact z
   have hb:Vw t.place (aay 0)=0:=by
    have z:=gE t.place rE.tb.ri (aay 0);rcases Nat.eq_zero_or_pos (Vw t.place (aay 0)) with q|q
    ·exact q
    ·exact absurd (z.2.1 0 q) (Nat.not_lt_zero _)
   refine wpAny_ite_split (fun hab=>absurd hab (by decide)) fun _=>?_
   refine wpAny_ite_split (fun hab=>absurd hab (show ¬ ((!t.plain && decide (es.size > 1))=true) from by simp;omega)) fun _=>?_
   refine Uq (show UR (model prog w) A.in1 (if (!t.led && !es.isEmpty)=true then unsupported "set:maker-not-led" else pure ()) _ _ s from ?_);rw [hl];refine wpAny_ite_split (fun hab=>absurd hab (by simp)) fun _=>?_
   refine Us (Us ?_);rw [hb,UE (by omega),UE (by omega)];dsimp only;refine Uq (Gk hit ?_);have h0:=Gi (f:=rawInt ((t.place[0]'(by omega)+1:Nat):Int)) hit
   refine Uq (Gj (s:={ s with heap:=_ }) h0 ?_);refine Us ⟨_,rfl,Us (hQ _ _ _ ?_ (Gh h0) (.inr (.inr ⟨hT,hl,h1,e,.inr ⟨rfl,_,rfl,fun j hj=>?_⟩⟩)) ((VT ..).trans (VT ..)))⟩
   ·subst e
    simp [hi]
   ·have:j=0:=by omega
    subst this;simp [hj]
  ·cases z
set_option maxHeartbeats 1000000 in
theorem next_end {Q:Option Ux->UB->Prop} (hh:A.handled=none) (rE:qH t (es.map (·.1))) (hit:eY s.heap I a first es.size es.size ep) (hS:cW s.heap a es ep t) (W:Way w s.heap a es ep t pl T ord es.size first)
  (hQ:∀h',Heap.ExtBut I s.heap h'->Q none { s with heap:=h' }):UR (model prog w) A (pyNext (.ref I)) Q E s:=by
 obtain⟨o,ho,hc,hd⟩:=id hit;have hf:=rE.fits
 have pJ:=pW W;have fin:∀(h1:Heap) (f:Ux),eY h1 I a f es.size es.size ep->Heap.ExtBut I s.heap h1->UR (model prog w) A.in1 (do
   setField (Ws I) 2 VQ
   let e <- newExc (Zl "StopIteration") []
   raiseNew e:Sem PySem.Fin) (fun fin s'=>∃v,fin=PySem.Fin.done (Flow.ret v)/\UR (model prog w) A (pure (some v)) Q E s') (fun e s'=>UR (model prog w) A (do
     let b <- isInstance e (Zl "StopIteration")
     if b=true then pure none else throw e) Q E s') { s with heap:=h1 }:=fun h1 f R9 hex=>by
  obtain⟨o1,LW,Uh,Sa⟩:=R9;refine Uq (wpAny_setField (s:={ s with heap:=h1 }) LW Sa (by simp) ?_);refine Uq ?_;simp only [newExc,newTuple];refine Uq (wpAny_newObj_type ?_ (by size_fits));refine Uq (m:=firstArgMember _ _) (wpAny_of_eq (a:=VQ) (by first|rfl|(simp only [firstArgMember];rfl)) ?_);refine wpAny_newObj_type ?_ (by size_fits);simp only [raiseNew];refine Uq (wpAny_handled ?_);rw [show A.in1.handled=none from hh];refine Uq (Us (wpAny_throw ?_));refine Uq (wpAny_isInstance (T:="StopIteration") (b:=true) ⟨_,Uy _ rfl,rfl⟩ isSubtype_stop ?_);refine Us (hQ _ fun b ob hb Nk=>?_);exact Ur _ (Ur _ ((Vd _ _ (V0 hb)).trans (hex b ob hb Nk)))
 unfold pyNext;refine Uq (wpAny_attempt (wpAny_callSpecial?_slot (name:=V5 "__next__") (eY.typeIs (h:=s.heap) hit) F.bh
  (wpAny_call_entry F.bh (eY.typeIs (h:=s.heap) hit) F.gV ?_ (F.ie _))))
 unfold Builtin.«set_iterator.__next__»;refine Uq (wpAny_of_eq (a:=(Ws I,[])) rfl ?_);dsimp only;refine Uq (wpAny_fieldsOf ho hd ?_);dsimp only;refine Uq (jg hS hf ?_);rw [if_neg (by simp)];rcases id W with⟨hT,rfl,e⟩|⟨hT,rfl,hp,pp,e⟩|⟨hT,hl,h1,e,hw⟩
 ·dsimp only
  unfold setNext;obtain⟨oa,vD,_,sT⟩:=id hS;refine Uq (Uq (Vm vD sT hf ?_));dsimp only;refine Uq (dA ?_);rw [hT];simp only [if_true,WY,bne_self_eq_false,UJ,if_false];unfold setWalk;refine Uq (Uq (Vm vD sT hf ?_));dsimp only;refine Uq (dA ?_);rw [hT];simp only [if_true];refine Uq (wpAny_askSetting (Us ?_));refine Us ?_;have hy:(pickOrder (w.params.setOrder a ep) es)[es.size]?=none:=by
   rw [YN];rw [e,Lm9,VR] at pJ;omega
  have hy':(pickOrder ({ program:=(model prog w).prog,params:=(model prog w).w.params:Setting }.params.setOrder a ep) es)[es.size]?=none:=hy;rw [hy'];exact fin s.heap _ hit fun _ _ _ z=>z
 ·dsimp only
  obtain⟨oT,JH,_,nT,Nj⟩:=id hp;refine Uq (wpAny_seqItems JH Nj ?_);dsimp only;have hpl:pl.length=es.size:=by rw [pp.length_eq,Xy]
  have hx:(pl.map fun(j:Nat)=>aax j 0).toArray[((es.size:Nat):Int).toNat]?=none:=by simp [hpl]
  rw [hx];dsimp only;refine Uq (Gk hit ?_);exact fin _ _ (Gi hit) fun b ob hb Nk=>(Vd _ _ (V0 hb)).trans Nk
 ·have B1:t.place.size=es.size:=by have z:=rE.sz;rw [VE] at z;exact z
  have hk:∃k:Nat,first=.int k 0/\es.size<=Vw t.place k:=by
   rcases hw with⟨z,rfl⟩|⟨z,k,rfl,hk⟩
   ·exact⟨0,rfl,by omega⟩
   ·refine⟨k,rfl,?_⟩
    have q:=gE t.place rE.tb.ri k;rcases ZZ (Vw t.place k) es.size with y|y
    ·have:=q.2.2 (Vw t.place k) (UM _) (by omega)
     have:=hk (Vw t.place k) (by omega);omega
    ·exact y
  obtain⟨k,rfl,hb⟩:=hk;dsimp only;unfold setNext;obtain⟨oa,vD,_,sT⟩:=id hS;refine Uq (Uq (Vm vD sT hf ?_));dsimp only;refine Uq (dA ?_);rw [hT];refine wpAny_ite_split (fun hab=>absurd hab (by decide)) fun _=>?_
  refine wpAny_ite_split (fun hab=>absurd hab (show ¬ ((!t.plain && decide (es.size > 1))=true) from by simp;omega)) fun _=>?_
  refine Uq (show UR (model prog w) A.in1 (if (!t.led && !es.isEmpty)=true then unsupported "set:maker-not-led" else pure ()) _ _ s from ?_);rw [hl];refine wpAny_ite_split (fun hab=>absurd hab (by simp)) fun _=>?_
  refine Us (Us ?_);rw [WY,YN.mpr hb];exact fin s.heap _ hit fun _ _ _ z=>z
theorem Cm {n:Nat} {Q:Ux->UB->Prop} (hit:eY s.heap I a first i n ep) (h:Q (.ref I) s):UR (model prog w) A (pyIter (.ref I)) Q E s:=by
 refine wpAny_pyIter_slot (eY.typeIs (h:=s.heap) hit) F.ig (wpAny_call_entry F.ig (eY.typeIs (h:=s.heap) hit) F.lA ?_ (F.mO _));show UR _ _ (ret (.ref I)) _ _ s
 exact Us ⟨_,rfl,"set_iterator",_,eY.typeIs (h:=s.heap) hit,F.bh.lookup,h⟩
theorem wZ (hh:A.handled=none) (rE:qH t (es.map (·.1))) (JG:I≠T) (hIa:I≠a) :
  Walks prog w A I [I,a,T] [I] es.size (fun i v=>ord[i]?=some v) (fun i h=>∃first,eY h I a first i es.size ep/\cW h a es ep t/\Way w h a es ep t pl T ord i first) where
 sub:=fun b hb=>by simp at hb;simp [hb]
 frame:=fun i h h' ⟨first,⟨o,ho,r⟩,⟨o2,H6,r2⟩,W⟩ hk=>⟨first,⟨o,hk I (by simp) o ho,r⟩,⟨o2,hk a (by simp) o2 H6,r2⟩,by
  rcases W with z|⟨z1,z2,⟨o3,Sb,r3⟩,z4⟩|z
  ·exact .inl z
  ·exact .inr (.inl ⟨z1,z2,⟨o3,hk T (by simp) o3 Sb,r3⟩,z4⟩)
  ·exact .inr (.inr z)⟩
 item:=fun i s Q E hi ⟨first,hit,hS,W⟩ hQ=>next_item rE JG hIa hit hS W hi fun v h' f' hv hit' W' sb=>by
  obtain⟨o2,H6,r2⟩:=hS;exact hQ v h' s.toks hv ⟨f',hit',⟨o2,(sb.2 a (V0 hIa)).trans H6,r2⟩,W'⟩ fun b o hb ho=>(sb.2 b (by simpa using hb)).trans ho
 done:=fun s Q E ⟨first,hit,hS,W⟩ hQ=>next_end hh rE hit hS W fun h' hx=>hQ h' s.toks fun b o hb ho=>hx b o (by simpa using hb) ho
 self:=fun i s Q E ⟨first,hit,hS,W⟩ h=>Cm hit h
end
section
variable {prog:VI} {w:WE} {A:Vq} {E:Ux->UB->Prop} {s:UB} {a:U9} {ep:Nat} {es:Array (Int × Ux)} {t:Vf}
theorem cW.push {h:Heap} (x:cW h a es ep t) (o:Obj):cW (h.push o) a es ep t:=let ⟨o',ho,r⟩:=x;⟨o',Ur _ ho,r⟩
set_option maxHeartbeats 1000000 in
theorem Cn {Q:Ux->UB->Prop} (rE:qH t (es.map (·.1))) (hS:cW s.heap a es ep t) (hl:t.led = !w.params.followText "set-order") (hp:1<=es.size->t.plain=false) (hsz:es.size<1000)
  (hQ:∀I T first pl ord h' dr,s.heap.objs.size<=I->s.heap.objs.size<=T->I≠T->(∀b o,s.heap.get? b=some o->h'.get? b=some o)->eY h' I a first 0 es.size ep->cW h' a es ep t->Way w h' a es ep t pl T ord 0 first->Q (.ref I) { s with heap:=h',drawn:=dr }) :
  UR (model prog w) A (pyIter (.ref a)) Q E s:=by
 obtain⟨o,ho,hc,hd⟩:=id hS;have hT:s.TypeIs (.ref a) "set":=⟨o,ho,hc⟩
 have hf:=rE.fits;refine wpAny_pyIter_slot hT F.slot_set_iter (wpAny_call_entry F.slot_set_iter hT F.lB ?_ (F.args_set_iter_1 _));unfold Builtin.«frozenset.__iter__»;refine Uq (wpAny_of_eq (a:=a) rfl ?_);dsimp only;refine Uq (m:=Builtin.Frozenset.sizeOf a) (show UR _ _ (setEntries a >>= fun es=>pure es.size) _ _ _ from Uq (jg hS hf (Us ?_)));refine Uq (m:=setDrawn a) (show UR _ _ (setState a >>= fun q=>setsByText >>= fun b=>pure (!b && (!q.2.2.plain && decide (q.1.size > 1)))) _ _ _ from Uq (Vm ho hd hf (Uq (dA (Us ?_)))));have PW:∀{A':Vq} {E':Ux->UB->Prop} {s':UB} {Q':Nat->UB->Prop},cW s'.heap a es ep t->Q' ep s'->UR (model prog w) A' (setEpoch a) Q' E' s':=fun {A' E' s' Q'} ⟨o',ho',_,hd'⟩ q=>by
  unfold setEpoch;exact Uq (Vm ho' hd' hf (Us q))
 by_cases hdr:(!w.params.followText "set-order" && (!t.plain && decide (es.size > 1)))=true
 ·rw [if_pos hdr]
  have h1:w.params.followText "set-order"=false:=by simpa using (Bool.and_eq_true_iff.mp hdr).1
  refine Uq (vC _ _ _ _ (Xy) fun l dr hp=>?_);have j4:l.length=es.size:=by rw [hp.length_eq,Xy]
  refine Uq (wpAny_newObj_type (T:="tuple") (data:=.seq (l.map fun(i:Nat)=>rawInt i).toArray) ?_ (by show(l.map fun(i:Nat)=>rawInt i).toArray.size<=U1;simp only [VV,Lm9];rw [V3];omega));refine Uq (PW (cW.push hS _) ?_);refine Uq (wpAny_newObj_type ?_ (by size_fits));refine Us ⟨_,rfl,"set_iterator",_,⟨_,Uy _ rfl,rfl⟩,F.bh.lookup,?_⟩;have e1:∀o,(s.heap.push o).objs.size=s.heap.objs.size+1:=fun o=>VJ _ _
  refine hQ _ s.heap.objs.size (.ref s.heap.objs.size) l _ _ dr (by rw [e1];omega) (UM _) (by rw [e1];omega) (fun b o q=>Ur _ (Ur _ q)) ⟨_,Uy _ rfl,rfl,rfl⟩ (cW.push (cW.push hS _) _) (.inr (.inl ⟨h1,rfl,⟨_,Ur _ (Uy _ rfl),rfl,0,rfl⟩,hp,rfl⟩))
 ·rw [if_neg hdr]
  refine Uq (Us ?_);refine Uq (PW hS ?_);refine Uq (wpAny_newObj_type ?_ (by size_fits));refine Us ⟨_,rfl,"set_iterator",_,⟨_,Uy _ rfl,rfl⟩,F.bh.lookup,?_⟩;cases h1:w.params.followText "set-order" with
  | true=>exact hQ s.heap.objs.size (s.heap.objs.size+1) (.int 0 0) [] _ _ s.drawn (UM _) (by omega) (by omega) (fun b o q=>Ur _ q) ⟨_,Uy _ rfl,rfl,rfl⟩ (cW.push hS _) (.inl ⟨h1,rfl,rfl⟩)
  | false =>
   rw [h1] at hl hdr;refine hQ s.heap.objs.size (s.heap.objs.size+1) (.int 0 0) [] _ _ s.drawn (UM _) (by omega) (by omega) (fun b o q=>Ur _ q) ⟨_,Uy _ rfl,rfl,rfl⟩ (cW.push hS _) (.inr (.inr ⟨h1,hl,?_,rfl,.inl ⟨rfl,rfl⟩⟩));rcases ZZ 1 es.size with q|q
   ·exfalso
    apply hdr;rw [hp (by omega)];simp [q]
   ·exact q
end
end cm
namespace cm
open PySem PySem.W PyProof.Rows
section
variable {prog:VI} {w:WE} {A:Vq} {E:Ux->UB->Prop} {s:UB} {a:U9} {ep:Nat} {es:Array (Int × Ux)} {t:Vf}
theorem zk {Q:Bool->UB->Prop} (hT:s.TypeIs (.ref a) "set") (h:Q false s):UR (model prog w) A (YF (.ref a)) Q E s:=by
 unfold YF;refine Uq (wpAny_specialOf hT PySem.F.slot_set_len.lookup ?_);generalize sP:("set.__len__":String)=Sd
 wp_delta
 rw [show splitId Sd=some ("set","__len__") from by subst sP;decide +kernel];subst sP;refine Uq (wpAny_isInstance (T:="set") (b:=true) hT (by rw [isSubtype_type];kernel_rfl) ?_);refine wpAny_ite_split (fun hab=>absurd hab (by decide)) (fun _=>?_);refine wpAny_ite_split (fun _=>?_) (fun hab=>absurd (by decide +kernel) hab);refine Uq (wpAny_typeOf hT ?_);exact Us h
theorem zm {ord:List Ux} {acc:Array Ux} (h:ItemsOf (fun i v=>ord[i]?=some v) acc ord.length):acc.toList=ord:=by
 apply Y7 fun j=>?_
 rcases ZZ j acc.size with hj|hj
 ·have e:acc[j]?=some acc[j]:=UE hj
  rw [h.2 j _ e,Yn,e]
 ·rw [Wm (by simpa using hj),Wm (by have:=h.1;omega)]
theorem uf {R:Result->UB->Prop} (hh:A.handled=none) (rE:qH t (es.map (·.1))) (hA:cW s.heap a es ep t) (hl:t.led = !w.params.followText "set-order") (hp:1<=es.size->t.plain=false) (hsz:es.size<1000)
  (S:U9) (PX:S≠a) (res:Ux) (c₀:Nat) (hS:s.heap.get? S=some { cls:=.type "list",data:=.seq #[] c₀ })
  (hR:∀h' tk dr eg c',(∀b o,b≠S->s.heap.get? b=some o->h'.get? b=some o)->h'.get? S=some { cls:=.type "list",dict:=none,data:=.seq eg c',slots:=#[] }->eg.toList.Perm (es.toList.map (·.2))->R (.ok (.ret res)) { s with heap:=h',toks:=tk,drawn:=dr }) :
  UR (model prog w) A.in1 (Xr (.ref S) (.ref a) res)
   (fun fin s'=>match fin with|.done f=>R (.ok f) s'|.again c'=>c'.quiet=true/\codeAny (model prog w) A c' R s') (fun e s'=>R (.error e) s') s:=by
 have hn:es.size<=U1:=by rw [V3];omega
 have JJ:s.TypeIs (.ref a) "set":=let ⟨o,ho,hc,_⟩:=hA;⟨o,ho,hc⟩
 unfold Xr;refine Uq (wpAny_typeOf (T:="set") JJ ?_);have h1:Zm (.ref S) (.ref a)=false:=by simp [Zm,PX]
 have h2:(Zl "set" == Zl "list")=false:=by decide
 have h3:(Zl "set" == Zl "tuple")=false:=by decide
 simp only [h1,h2,h3,Bool.or_false,UJ,if_false];refine Uq (Cn rE hA hl hp hsz fun I T first pl ord h1 dr hI hT JG kp hit Nl W=>?_);have PY:=UX hS
 have Nm:S≠I:=U6 (U4 PY hI);have Se:S≠T:=U6 (U4 PY hT)
 have hIa:I≠a:=by
  obtain⟨o,ho,_⟩:=hA;exact VF (U4 (UX ho) hI)
 have PZ:=wZ (prog:=prog) (A:=A.in1) (w:=w) (ep:=ep) (pl:=pl) (ord:=ord) (T:=T) hh rE JG hIa;have pJ:=pW (s:={ s with heap:=h1 }) W
 have Nn:=zf (s:={ s with heap:=h1 }) W;have hS1:=kp S _ hS
 have P4:S∉[I,a,T]:=by simp only [UN,Wh,or_false,not_or];exact⟨Nm,PX,Se⟩
 have key:∀(h:Heap) (c₁ tk:Nat),(∃first,eY h I a first 0 es.size ep/\cW h a es ep t/\Way w h a es ep t pl T ord 0 first)->(∀b o,b≠S->s.heap.get? b=some o->h.get? b=some o) ->
   h.get? S=some { cls:=.type "list",data:=.seq #[] c₁ }->codeAny (model prog w) A (.builtin "list.extend.loop" ⟨[.ref S,.ref I,res],[]⟩) R { s with heap:=h,toks:=tk,drawn:=dr }:=by
  intro h c₁ tk lL hk Np;refine codeAny_extend_loopS PZ.toS hn S P4 res es.size 0 _ #[] c₁ rfl (Vc _) lL Np (ItemsOf.nil _) fun s' eg c' hm hS' mF=>?_
  rw [Moved.eq_with hm];refine hR s'.heap s'.toks dr eg c' (fun b o hb e=>hm.heap b o (fun hmem=>?_) (hk b o hb e)) hS' ?_
  ·rcases UN.mp hmem with e'|hmem
   ·exact hb e'
   ·exact absurd (UX e) (by rw [UY.mp hmem];exact Nat.not_lt.mpr hI)
  ·rw [<- pJ] at mF
   rw [zm mF];exact Nn
 refine Uq (wpAny_holding (zk (s:={ s with heap:=h1,drawn:=dr }) (let ⟨o,ho,hc,_⟩:=Nl;⟨o,ho,hc⟩) ?_));refine wpAny_ite_split (fun _=>?_) (fun _=>Us ⟨plainId_quiet Y6 _,key _ c₀ s.toks ⟨first,hit,Nl,W⟩ (fun b o _ e=>kp b o e) hS1⟩);refine Uq (wpAny_rule ?_);refine Uq ?_;show UR _ _ (updateSeq S (·.push .none) >>= fun _=>updateSeq S (·.pop)) _ _ _
 refine Uq (wpAny_updateSeq (s:={ s with heap:=h1,drawn:=dr }) hS1 rfl ?_);have P5:=VS (VW (·.push VQ)) hS1 rfl
 refine wpAny_updateSeq (s:={ s with heap:=h1.update S (VW (·.push VQ)),drawn:=dr }) (hz:=by seq_fits) P5 rfl ?_;have Sf:=VS (VW (·.pop)) P5 rfl
 refine Us ⟨plainId_quiet Y6 _,key _ _ s.toks ?_ (fun b o hb e=>?_) Sf⟩
 ·refine PZ.frame 0 _ _ ⟨first,hit,Nl,W⟩ fun b hb o e=>?_
  have P6:b≠S:=fun h=>P4 (h ▸ hb)
  exact(Vd _ _ (V0 P6)).trans ((Vd _ _ (V0 P6)).trans e)
 ·exact(Vd _ _ (V0 hb)).trans ((Vd _ _ (V0 hb)).trans (kp b o e))
theorem rF {R:List Ux->UB->Prop} {ld:Bool} (hh:A.handled=none) (hS:SI ld s.heap a es) (hl:ld = !w.params.followText "set-order") (hsz:es.size<1000)
  (h:∀h' tk dr acc,(∀b o,s.heap.get? b=some o->h'.get? b=some o)->acc.Perm (es.toList.map (·.2))->R acc { s with heap:=h',toks:=tk,drawn:=dr }):UR (model prog w) A (collect (.ref a)) R E s:=by
 obtain⟨oa,ep,t,vD,hex,sT,rE,_,_,_,_,hL,hP⟩:=hS;have hA:cW s.heap a es ep t:=⟨oa,vD,hex.1,sT⟩
 unfold collect;refine Uq (wpAny_runValue (codeAny_builtin entry_proto_collect' ?_));rw [VM PySem.F.plain_proto_collect _];show UR _ A.in1 (newList [] >>= fun l=>again (.builtin "list.__iadd__" ⟨[l,.ref a],[]⟩)) _ _ s
 refine Uq (wpAny_newObj_type ?_);refine Us ⟨plainId_quiet Zy _,codeAny_builtin entry_list_iadd' ?_⟩;rw [VM Zy _];have Np:(s.heap.push { cls:=.type "list",data:=.seq ([]:List Ux).toArray }).get? s.heap.objs.size=some { cls:=.type "list",data:=.seq #[] }:=Uy _ rfl
 show UR _ A.in1 (Xr (.ref s.heap.objs.size) (.ref a) (.ref s.heap.objs.size)) _ _ _;have key:=uf (A:=A) (w:=w) (prog:=prog) (s:={ s with heap:=s.heap.push { cls:=.type "list",data:=.seq ([]:List Ux).toArray } })
  (R:=fun(q:Result) (s':UB)=>∃(h':Heap) (tk:Nat) (dr:_) (eg:Array Ux) (c':Nat),q=.ok (.ret (.ref s.heap.objs.size))/\s'={ s with heap:=h',toks:=tk,drawn:=dr } /\
   (∀b o,s.heap.get? b=some o->h'.get? b=some o)/\h'.get? s.heap.objs.size=some { cls:=.type "list",dict:=none,data:=.seq eg c',slots:=#[] }/\eg.toList.Perm (es.toList.map (·.2)))
  hh rE (cW.push hA _) (hL.trans hl) hP hsz s.heap.objs.size (VF (UX vD)) (.ref s.heap.objs.size) 0 Np
  (fun h' tk dr eg c' hk hS' mF=>⟨h',tk,dr,eg,c',rfl,rfl,fun b o e=>hk b o (U6 (UX e)) (Ur _ e),hS',mF⟩)
 refine wpAny_mono key (fun fin s' x=>?_) fun e s' x=>?_
 ·cases fin with
  | done f =>
   obtain⟨h',tk,dr,eg,c',e,rfl,hk,hS',mF⟩:=x;cases e;show UR _ A (load s.heap.objs.size >>= _) _ _ _
   refine Uq (wpAny_load hS' ?_);exact Us (h h' tk dr _ hk mF)
  | again c₁ =>
   refine⟨x.1,codeAny_mono x.2 fun q s₂ y=>?_⟩;obtain⟨h',tk,dr,eg,c',rfl,rfl,hk,hS',mF⟩:=y;show UR _ A (load s.heap.objs.size >>= _) _ _ _
   refine Uq (wpAny_load hS' ?_);exact Us (h h' tk dr _ hk mF)
 ·obtain⟨_,_,_,_,_,e',_⟩:=x
  cases e'
end
end cm
namespace M
open PySem PySem.Spec PyProof.Rows L2 cm
section
variable {P:VI} {w:WE} {A:Vq} {E:Ux->UB->Prop}
theorem cM.zo:∀(n m:Nat) {A:Vq} {E:Ux->UB->Prop} {s:UB} {t:T} {u:Ux},kd n t=true->n<=m->cM s.heap t u->UR (model P w) A (ofAClassStatement m u) (fun b s'=>b=false/\s'=s) E s
 | 0,_,_,_,_,t,_,hk,_,_=>(Fw hk).elim
 | n+1,m,A,E,s,t,u,hk,hm,k=>by
  cases k with
  | int i t=>cases m with
   | zero=>omega
   | succ m=>exact Us ⟨rfl,rfl⟩
  | str z t=>cases m with
   | zero=>omega
   | succ m=>exact Us ⟨rfl,rfl⟩
  | tup ho hc hd hl hi =>
   rename_i a o its nn xs;have JJ:s.TypeIs (.ref a) "tuple":=⟨o,ho,hc⟩
   obtain⟨m,rfl⟩:∃k,m=k+1:=⟨m - 1,by omega⟩;unfold ofAClassStatement;refine Uq (wpAny_typeOf JJ ?_);dsimp only;simp only [beq_self_eq_true,if_true];refine Uq (Us ?_);simp only [Wv,UJ,if_false];refine Uq (wpAny_seqItems ho hd ?_);dsimp only;refine Uq ?_;show UR _ _ (forIn its _ _) _ _ s
   rw [<- X3];refine wpAny_forIn_list _ (fun rest r s'=>r.1=none/\s'=s/\∀v∈rest,v∈its) _ ?_ ?_ _ _ ⟨rfl,rfl,fun v hv=>by simpa using hv⟩
   ·rintro v rest r s' ⟨hr,rfl,hall⟩
    obtain⟨i,xm,rfl⟩:=Wt (hall v Uv);have ex:=Ge9 (l:=xs) (i:=i) (by omega)
    refine Uq (wpAny_mono (cM.zo n m (gR hk ex) (by omega) (hi i _ _ ex (UE xm))) (fun b BO hb=>?_) fun _ _ e=>e);obtain⟨rfl,rfl⟩:=hb;simp only [UJ,if_false];exact Us ⟨rfl,rfl,fun u hV=>hall u (Uw _ hV)⟩
   ·rintro⟨r1,r2⟩ s' ⟨hr,rfl,_⟩
    simp only at hr;subst hr;exact Us ⟨rfl,rfl⟩
theorem cM.JK {s:UB} {t:T} {u:Ux} {Q:Bool->UB->Prop} (hh:qF t=true) (k:cM s.heap t u) (q:Q false s):UR (model P w) A (hashByValue 8 u) Q E s:=by
 unfold qF at hh;split at hh
 ·rename_i z r
  cases k with
  | tup ho hc hd hl hi =>
   rename_i a o its nn;have JJ:s.TypeIs (.ref a) "tuple":=⟨o,ho,hc⟩
   unfold hashByValue;refine Uq (wpAny_specialOf JJ Xe.lookup ?_);show UR _ _ (seqItems? (.ref a) >>= _) _ _ s
   refine Uq (wpAny_seqItems ho hd ?_);refine Uq ?_;have wM:0<its.size:=by simp at hl;omega
   have k0:=hi 0 (.str z) its[0] rfl (UE wM);obtain⟨l⟩:=its;cases l with
   | nil=>simp at wM
   | cons v vs =>
    have k0:cM s.heap (.str z) v:=k0;cases k0;show UR _ _ (forIn (Ym _ _::vs).toArray _ _) _ _ s
    rw [<- X3];simp only [Xk];exact Uq (Uq (Us (by simp only [Xc,if_true];exact Us (Us (Us q)))))
 ·cases hh
theorem cM.seen {n:Nat} (hn:n<=8) {s:UB} {t:T} {u:Ux} {Q:Bool->UB->Prop} (hk:kd n t=true) (k:cM s.heap t u) :
  ∀(stored:List Ux),(∀v∈stored,∃b,kd n b=true/\cM s.heap b v)->Q false s->UR (model P w) A (searchCouldBeSeen u stored) Q E s:=by
 intro stored lL q;unfold searchCouldBeSeen;refine Uq ?_;refine wpAny_forIn_list _ (fun rest rr s'=>s'=s/\rr.1=none/\∀v∈rest,v∈stored) _ ?_ ?_ _ _ ⟨rfl,rfl,fun v hv=>hv⟩
 ·rintro v rest rr s' ⟨rfl,hr,hm⟩
  obtain⟨b,hb,k2⟩:=lL v (hm v (by simp));dsimp only;split;all_goals split
  any_goals exact Us ⟨rfl,rfl,fun z hz=>hm z (by simp [hz])⟩
  all_goals
   refine Uq (wpAny_mono (cM.quiet n 8 hk hn k) (fun b BO hb=>?_) fun _ _ e=>e);obtain⟨rfl,rfl⟩:=hb;simp only [Wv,UJ,if_false];refine Uq (wpAny_mono (cM.quiet n 8 hb hn k2) (fun b BO hb=>?_) fun _ _ e=>e);obtain⟨rfl,rfl⟩:=hb;simp only [Wv,UJ,if_false];refine Uq (wpAny_mono (cM.zo n 8 hk hn k) (fun b BO hb=>?_) fun _ _ e=>e);obtain⟨rfl,rfl⟩:=hb;simp only [UJ,if_false];refine Uq (wpAny_mono (cM.zo n 8 hb hn k2) (fun b BO hb=>?_) fun _ _ e=>e);obtain⟨rfl,rfl⟩:=hb;simp only [UJ,if_false];exact Us ⟨rfl,rfl,fun z hz=>hm z (by simp [hz])⟩
 ·rintro⟨r1,r2⟩ s' ⟨rfl,hr,_⟩
  simp only at hr;subst hr;exact Us q
end
noncomputable def Ic (w:WE) (g:G) (es:List (Int × Ux)) (tr:List T):Prop:=Paired (fun(e:Int × Ux) (t:T)=>e.1=hT w t/\kd 6 t=true/\RT g none t e.2) es tr
theorem lb {α β:Type} {F:α->β->Prop} {l l':List α} (p:l'.Perm l):∀{m:List β},Paired F l m->∃m',m'.Perm m/\Paired F l' m':=by
 induction p with
 | nil=>intro m h;exact⟨m,.refl _,h⟩
 | cons x _ ih =>
  intro m h;cases h with
  | cons r t=>obtain⟨m',h1,h2⟩:=ih t;exact⟨_::m',h1.cons _,.cons r h2⟩
 | swap x y l =>
  intro m h;cases h with
  | cons r t=>cases t with
   | cons r2 t2=>exact⟨_,.swap _ _ _,.cons r2 (.cons r t2)⟩
 | trans _ _ Nq Nr =>
  intro m h;obtain⟨m1,a1,a2⟩:=Nr h;obtain⟨m2,b1,b2⟩:=Nq a2;exact⟨m2,b1.trans a1,b2⟩
theorem Co {l:Bool} {h h':Heap} {a b:U9} {es:Array (Int × Ux)} (S:cm.SI l h a es) (hs:Wc b h h') (hab:a≠b):cm.SI l h' a es:=by
 obtain⟨o,ep,t,ho,r⟩:=S;exact⟨o,ep,t,(hs.2 a hab).trans ho,r⟩
theorem oF:entryFor table "set.update.loop"=some Builtin.«set.update.loop»:=entryFor_of_tree (by kernel_rfl)
theorem kr:plainId "set.update.loop"=true:=by decide +kernel
theorem zq {h:Heap} {a:U9} {ld:Bool} (e:h.get? a=some { cls:=.type "set",dict:=none,data:=.set #[] 0 (.fresh 0 0 ld) }):cm.SI ld h a #[] :=
 ⟨_,0,.fresh 0 0 ld,e,⟨rfl,rfl,rfl⟩,rfl,⟨⟨fun i j _ hj=>absurd hj (by simp [XM]),rfl⟩,by simp [XM],fun i hi=>absurd hi (by simp [XM]),by simp,⟨3,rfl⟩,fun i hi=>absurd hi (by simp)⟩,by simp [XM],by simp [XM],by simp [XM],fun i hi=>absurd hi (by simp),rfl,fun z=>absurd z (by simp)⟩
section
variable {X:Cx} {pins:aY} {φ:Fr} {g:G} {L L':aa} {s:UB} {a it l:U9} {es:Array (Int × Ux)} {tr ts:List T} {its:List Ux} {t:T} {u:Ux} {ld:Bool}
theorem Nt {A:Vq} {E:Ux->UB->Prop} {Q:Bool->UB->Prop} (I:Inv X pins φ g L s) (hu:A.units+10<cLine) (hS:cm.SI ld s.heap a es) (hE:Ic X.w g es.toList tr) (hs:es.size<1000) (hd:tr.Nodup) (hk:kd 6 t=true) (hh:qF t=true) (r:RT g none t u)
  (hQ:∀b h' tk fM xq,Wc a s.heap h'\/h'=s.heap->cm.SI ld h' a fM->Ic X.w g fM.toList xq->xq.Nodup->xq.length<=tr.length+1->(∀x,x∈xq↔x=t\/x∈tr)->Q b { s with heap:=h',toks:=tk }):UR (model X.prog X.w) A (setAdd a u) Q E s:=by
 classical
 have hl:=US hE;have hl':es.size=tr.length:=by simpa using hl
 have k:=I.Fx 6 hk r;unfold setAdd;refine wpAny_holding (Uq ?_);refine cM.hash 6 hk (by omega) k ?_;generalize s.toks+dr t=tk;have I':Inv X pins φ g L { s with toks:=tk }:=I.tok tk
 have k':=I'.Fx 6 hk r;have at_:∀i (hi:i<es.size),(es[i]).1=hT X.w (tr[i]'(by omega))/\kd 6 (tr[i]'(by omega))=true/\RT g none (tr[i]'(by omega)) (es[i]).2:=fun i hi=>by
  have z:=wx hE i _ _ (Ge9 (by simpa using hi)) (Ge9 (by omega));simpa using z
 refine Gf (s:={ s with toks:=tk }) (eqv:=fun i=>decide (tr.getD i (.int 0)=t)) hS ?_ hs (fun i hi _=>?_) (fun Q' q=>cM.seen (n:=6) (by omega) hk k' _ (fun v hv=>?_) q) (fun Q' q=>cM.JK hh k' q) (fun hex=>?_) fun kY h' fM Dz hS' hp=>?_
 ·unfold qF at hh
  split at hh
  ·cases r with
   | tup=>exact⟨_,rfl⟩
  ·cases hh
 ·obtain⟨_,h2,h3⟩:=at_ i hi
  have e:tr.getD i (.int 0)=tr[i]'(by omega):=by simp [show i<tr.length by omega]
  show WI A _ _ _ (decide (tr.getD i (.int 0)=t));rw [e];exact cM.eq 6 h2 hk (by omega) (I'.Fx 6 h2 h3) k'
 ·obtain⟨e,he,rfl⟩:=Uz.mp hv
  rw [XD] at he;have he:=(Array.mem_filter.mp he).1
  obtain⟨i,hi,rfl⟩:=Wt he;obtain⟨_,h2,h3⟩:=at_ i hi
  exact⟨_,h2,I'.Fx 6 h2 h3⟩
 ·obtain⟨i,hi,e1,e2⟩:=hex
  have e:tr.getD i (.int 0)=tr[i]'(by omega):=by simp [show i<tr.length by omega]
  have e2:=of_decide_eq_true e2;rw [e] at e2;refine hQ false s.heap tk es tr (.inr rfl) hS hE hd (WC _) fun x=>⟨.inr,fun z=>?_⟩
  rcases z with rfl|z
  ·rw [<- e2];exact UQ _
  ·exact z
 ·have hE':Ic X.w g ((hT X.w t,u)::es.toList) (t::tr):=.cons ⟨rfl,hk,r⟩ hE
  obtain⟨xq,p1,p2⟩:=lb hp hE';have Nu:t∉tr:=fun hb=>by
   obtain⟨i,hi,e⟩:=XE.mp hb;have hi':i<es.size:=by omega
   refine kY ⟨i,hi',?_,?_⟩
   ·rw [(at_ i hi').1,e]
   ·exact decide_eq_true (by simp [hi,e])
  exact hQ true h' tk fM xq (.inl Dz) hS' p2 (p1.nodup_iff.mpr (Vn.mpr ⟨Nu,hd⟩)) (XW p1.length_eq) fun x=>by rw [p1.mem_iff,UN]
theorem zr {A:Vq} {R:Result->UB->Prop} (I:Inv X pins φ g L s) (hu:A.units+12<cLine) (hh:A.handled=none) (hl:s.heap.IsList l its.toArray) (rv:cE g ts its) (hlen:its.length<900) (Sh:∀t∈ts,kd 6 t=true/\qF t=true)
  (ha:s.heap.objs.size<=a) (Nv:s.heap.objs.size<=it) (hne:a≠it)
  (fin:∀h' tk es tr,(∀b o,s.heap.get? b=some o->h'.get? b=some o)->cm.SI ld h' a es->Ic X.w g es.toList tr->tr.Nodup->(∀x,x∈tr↔x∈ts)->R (.ok (.ret .none)) { s with heap:=h',toks:=tk }) :
  ∀(k i:Nat) (h':Heap) (tk:Nat) (es:Array (Int × Ux)) (tr:List T),its.length - i=k->i<=its.length->(∀b o,s.heap.get? b=some o->h'.get? b=some o)->h'.IsListIter it l i->cm.SI ld h' a es->Ic X.w g es.toList tr->tr.Nodup->tr.length<=i->(∀x,x∈tr↔x∈ts.take i) ->
   UR (model X.prog X.w) A.in1 (Builtin.«set.update.loop» ⟨[.ref a,.ref it],[]⟩) (fun fin s'=>match fin with|.done f=>R (.ok f) s'|.again c'=>c'.quiet=true/\codeAny (model X.prog X.w) A c' R s') (fun e s'=>R (.error e) s') { s with heap:=h',toks:=tk }:=by
 have pP:=US rv;have lt:∀b o,s.heap.get? b=some o->b≠a/\b≠it:=fun b o q =>
  ⟨U6 (U4 (UX q) ha),U6 (U4 (UX q) Nv)⟩
 obtain⟨ol,pJ,P7⟩:=id hl;intro k;induction k with
 | zero =>
  intro i h' tk es tr hk hi kp hit hS hE hd hn hp;obtain rfl:i=its.length:=by omega
  unfold Builtin.«set.update.loop»;dsimp only;refine Uq (wpAny_pyNext_list_end (s:={ s with heap:=h',toks:=tk }) (A:=A.in1) hh hit (show h'.IsList l its.toArray from⟨ol,kp _ _ pJ,P7⟩) (by simp) fun h2 JL=>?_);dsimp only;refine Us ?_;refine fin h2 tk es tr (fun b o q=>JL b o (lt b o q).2 (kp b o q)) ?_ hE hd (by rw [<- pP,List.take_length] at hp;exact hp);obtain⟨o,ep,t,ho,r⟩:=hS;exact⟨o,ep,t,JL a o hne ho,r⟩
 | succ k ih =>
  intro i h' tk es tr hk hi kp hit hS hE hd hn hp;have xm:i<its.length:=by omega
  have xS:i<ts.length:=by omega
  unfold Builtin.«set.update.loop»;dsimp only;refine Uq (wpAny_pyNext_list_item (s:={ s with heap:=h',toks:=tk }) (x:=its[i]) hit (show h'.IsList l its.toArray from⟨ol,kp _ _ pJ,P7⟩) (by simp [xm]) fun h1 DR Dz=>?_);dsimp only;have Nx:∀b o,s.heap.get? b=some o->h1.get? b=some o:=fun b o q=>(Dz.2 b (lt b o q).2).trans (kp b o q)
  have I1:Inv X pins φ g L { s with heap:=h1,toks:=tk }:=I.kept Nx;have hS1:cm.SI ld h1 a es:=Co hS Dz hne
  have ht:=Sh _ (UQ xS);have JM:es.size<1000:=by
   have z1:=US hE;have z4:es.toList.length=es.size:=by simp
   omega
  refine Uq (wpAny_holding (Nt (s:={ s with heap:=h1,toks:=tk }) I1 (by show A.units+1+10<cLine;omega) hS1 hE JM hd ht.1 ht.2 (wx rv i _ _ (Ge9 xS) (Ge9 xm)) fun bb h2 JN fM xq P8 hS2 Si hd2 wA sU=>?_));have Ny:∀b o,s.heap.get? b=some o->h2.get? b=some o:=fun b o q=>by
   rcases P8 with Gm|rfl
   ·exact(Gm.2 b (lt b o q).1).trans (Nx b o q)
   ·exact Nx b o q
  have Nz:h2.IsListIter it l (i+1):=by
   rcases P8 with Gm|rfl
   ·obtain⟨o,ho,r⟩:=DR
    exact⟨o,(Gm.2 it (V0 hne)).trans ho,r⟩
   ·exact DR
  refine Us ?_;refine⟨plainId_quiet kr _,codeAny_builtin oF ?_⟩;rw [VM kr _];have hmem:∀x,x∈xq↔x∈ts.take (i+1):=fun x=>by
   rw [sU,List.take_succ_eq_append_getElem xS,UH,UY,hp,or_comm]
  exact ih (i+1) h2 JN fM xq (by omega) (by omega) Ny Nz hS2 Si hd2 (by omega) hmem
theorem lW {x:T}:∀{l:List T},x∈q8 l↔x∈l
 | []=>Iff.rfl
 | y::l=>by
  unfold q8;split
  ·rename_i h
   rw [lW,UN];exact⟨.inr,fun z=>z.elim (fun e=>by rw [e];exact h) id⟩
  ·rw [UN,UN,lW]
theorem ug:∀l:List T,(q8 l).Nodup
 | []=>.nil
 | y::l=>by
  unfold q8;split
  ·exact ug l
  ·rename_i h
   exact Vn.mpr ⟨fun z=>h (lW.mp z),ug l⟩
theorem vE:∀l:List T,(q8 l).length<=l.length
 | []=>UM _
 | y::l=>by
  have:=vE l;unfold q8;split <;> simp <;> omega
theorem rG {α:Type}:∀{a b:List α},a.Nodup->b.Nodup->(∀x,x∈a↔x∈b)->a.Perm b:=fun ha hb h=>(WG ha hb).mpr h
theorem Inv.Sj (I:Inv X pins φ g L s) (dr:_):Inv X pins φ g L { s with drawn:=dr }:=⟨I.ok,I.os,I.bare,I.base,I.loc,I.cell,I.free,I.qL,I.pin,I.hok,I.len,I.rel,I.gB,I.gm,I.gw⟩
theorem vF:∀{es:List (Int × Ux)} {tr:List T},Ic w' g es tr->cE g tr (es.map (·.2))
 | _,_,.nil=>.nil
 | _,_,.cons h t=>.cons h.2.2 (vF t)
theorem rH:∀{us:List Ux} {tr:List T},cE g tr us->Paired (fun u t=>RT g none t u) us tr
 | _,_,.nil=>.nil
 | _,_,.cons h t=>.cons h (rH t)
theorem rI:∀{us:List Ux} {tr:List T},Paired (fun u t=>RT g none t u) us tr->cE g tr us
 | _,_,.nil=>.nil
 | _,_,.cons h t=>.cons h (rI t)
theorem uh {a b:List T} (h:cH b) (hl:a.length<=b.length) (hm:∀x∈a,x∈b):cH a:=by
 obtain⟨h1,h2,h3,h4⟩:=h;refine⟨by omega,Uu.mpr fun x hx=>Uu.mp h2 x (hm x hx),?_,Uu.mpr fun x hx=>Uu.mpr fun y hy=>Uu.mp (Uu.mp h4 x (hm x hx)) y (hm y hy)⟩;rcases h3 with h3|h3
 ·exact .inl (Uu.mpr fun x hx=>Uu.mp h3 x (hm x hx))
 ·exact .inr (Uu.mpr fun x hx=>Uu.mp h3 x (hm x hx))
theorem NA {x y:T} (hx:kd 8 x=true) (hy:kd 8 y=true) (h:ltN 8 y x=false):x=y\/ltN 8 x y=true:=by
 by_cases e:x=y
 ·exact .inl e
 ·rcases jF 8 _ _ hx hy e with q|q
  ·exact .inr q
  ·rw [h] at q;cases q
theorem DS (x:T) (hx:kd 8 x=true):∀l:List T,(∀y∈l,kd 8 y=true)->g6 l->∃l',l'.Perm (x::l)/\g6 l'
 | [],_,_=>⟨[x],.refl _,by simp [g6]⟩
 | y::l,hk,hr=>by
  have hy:=hk y Uv;have hr':=Wq.mp hr
  cases e:ltN 8 y x with
  | false =>
   refine⟨x::y::l,.refl _,Wq.mpr ⟨fun z hz=>?_,hr⟩⟩;rcases UN.mp hz with rfl|hz
   ·exact e
   ·have h1:=hr'.1 z hz
    rcases NA hx hy e with rfl|q
    ·exact h1
    ·cases e2:ltN 8 z x with
     | false=>rfl
     | true=>rw [dz 8 _ _ _ e2 q] at h1;cases h1
  | true =>
   obtain⟨l',p,r⟩:=DS x hx l (fun z hz=>hk z (Uw _ hz)) hr'.2;refine⟨y::l',(p.cons y).trans (.swap _ _ _),Wq.mpr ⟨fun z hz=>?_,r⟩⟩;rcases UN.mp (p.mem_iff.mp hz) with rfl|hz
   ·cases e2:ltN 8 z y with
    | false=>rfl
    | true=>have:=dz 8 _ _ _ e e2;rw [lR] at this;cases this
   ·exact hr'.1 z hz
theorem DT:∀l:List T,(∀y∈l,kd 8 y=true)->∃l',l'.Perm l/\g6 l'
 | [],_=>⟨[],.refl _,Zn⟩
 | x::l,h=>by
  obtain⟨l1,p1,r1⟩:=DT l fun y hy=>h y (Uw _ hy)
  obtain⟨l2,p2,r2⟩:=DS x (h x Uv) l1 (fun y hy=>h y (Uw _ (p1.mem_iff.mp hy))) r1;exact⟨l2,p2.trans (p1.cons x),r2⟩
theorem zu {a b:List T} (hk:a.all (kd 8)=true) (p:a.Perm b):jH a=jH b:=by
 obtain⟨l',p',h⟩:=DT a (Uu.mp hk);rw [pM hk p' h,pM (Uu.mpr fun x hx=>Uu.mp hk x (p.mem_iff.mpr hx)) (p'.trans p) h]
theorem zw {fz:Bool} {w:T} (hu:X.A.units+20<cLine) (I:Inv X pins φ g L s) (hl:s.heap.IsList l its.toArray) (rv:cE g ts its) (ok:cH ts) (h6:ts.all (kd 6)=true) (hS:ts.all qF=true) (h:fo fz (jH (q8 ts)) L=.ok w L') :
  UR (model X.prog X.w) X.A (call (.type "set") [.ref l]) (fun u s'=>UR (model X.prog X.w) X.A (call (.builtin "sorted") [u]) (EP X pins φ g w L') F0 s') F0 s:=by
 have hlen:=US rv;have LV:=ok.1
 refine ue (led:=!X.w.params.followText "set-order") hl rfl ?_;refine codeAny_builtin oF ?_;rw [VM kr _];have e1:(s.heap.push { cls:=.type "set",dict:=none,data:=.set #[] 0 (.fresh 0 0 (!X.w.params.followText "set-order")) }).get? s.heap.objs.size=some { cls:=.type "set",dict:=none,data:=.set #[] 0 (.fresh 0 0 (!X.w.params.followText "set-order")) }:=Uy _ rfl
 have e2:(s.heap.push { cls:=.type "set",dict:=none,data:=.set #[] 0 (.fresh 0 0 (!X.w.params.followText "set-order")) }).objs.size=s.heap.objs.size+1:=VJ _ _;have e3:((s.heap.push { cls:=.type "set",dict:=none,data:=.set #[] 0 (.fresh 0 0 (!X.w.params.followText "set-order")) }).push { cls:=.type "list_iterator",data:=.fields #[.ref l,.int 0 0] }).get? (s.heap.objs.size+1)=some { cls:=.type "list_iterator",data:=.fields #[.ref l,.int 0 0] }:=by
  rw [<- e2];exact Uy _ rfl
 refine zr (ld:=!X.w.params.followText "set-order") (l:=l) (ts:=ts) (its:=its) I (A:=X.A.in1.in1) (by show X.A.units+1+1+12<cLine;omega) I.ok.hd hl rv (by omega) (fun t ht=>⟨Uu.mp h6 t ht,Uu.mp hS t ht⟩) (UM _) (WC _) (U6 (Wg _)) ?_ its.length 0 _ s.toks #[] [] (by omega) (Vc _) (fun b o z=>Ur _ (Ur _ z)) ⟨_,e3,rfl,rfl⟩ (zq (Ur _ e1)) .nil .nil (Vc _) (fun x=>by simp);intro h' tk es tr kp Nm hE hnd hmem;have pn:tr.Perm (q8 ts):=rG hnd (ug ts) fun x=>(hmem x).trans lW.symm
 have nl:(q8 ts).length<=ts.length:=vE ts;have hsz:es.size<1000:=by
  have z1:=US hE;have z2:=pn.length_eq
  have z4:es.toList.length=es.size:=by simp
  omega
 refine XJ kind_sorted plain_sorted entry_sorted (args_sorted1 _) ?_;unfold Builtin.«sorted»;refine Uq (m:=checkCount "sorted" 1 1 _) (Us ?_);refine Uq (rF (A:=X.A.in1) (s:={ s with heap:=h',toks:=tk }) I.ok.hd Nm rfl hsz fun h2 JN dr acc Ny pa=>?_);have I1:Inv X pins φ g L { s with heap:=h2,toks:=JN,drawn:=dr }:=(I.kept (t':=JN) fun b o q=>Ny b o (kp b o q)).Sj dr
 obtain⟨xq,p1,p2⟩:=lb pa (rH (vF hE));have rr:=rI p2
 have hl':=US rr;have j4:=p1.length_eq
 have NB:cH xq:=uh ok (by have:=pn.length_eq;omega) fun x hx=>(hmem x).mp (p1.mem_iff.mp hx)
 have fM:jH xq=jH (q8 ts):=zu NB.2.1 (p1.trans pn);refine Uq (wpAny_newList ?_ (by rw [V3];have:=NB.1;omega));have jB:=fun E'=>mI (s:={ s with heap:=h2,toks:=JN,drawn:=dr }) (E:=E') (A:=X.A.in1.in1) (by show X.A.units+1+1+8<cLine;omega) I1 rr NB (by rw [fM];exact h)
 refine Uq (wpAny_holding (wpAny_call_entry slot_list_sort ⟨_,Uy _ rfl,rfl⟩ entry_list_sort ?body (args_list_sort _)))
 case body =>
  refine wpAny_mono (jB _) (fun fin s' z=>?_) fun _ _ z=>z
  obtain⟨rfl,z⟩:=z;exact⟨_,rfl,Us ⟨_,rfl,z⟩⟩
end
end M
namespace M
open PySem PySem.Spec PyProof.Rows
section
variable {X:Cx} {pins:aY} {φ:Fr} {g:G} {L L':aa} {s:UB} {o e:Expr} {m:SE} {fz:Bool} {p q ap pos:Pos}
theorem pX {t:List T} {L1:aa} (h:iA [m] φ L=.ok t L1):∃x,t=[x]/\m φ L=.ok x L1:=by
 obtain⟨x,L2,e1,h⟩:=R.of h;obtain⟨ts,L3,e2,h⟩:=R.of h;cases e2;cases h;exact⟨x,rfl,e1⟩
theorem zx (hu:X.A.units+20<cLine) (ho:PE X o m) (hb:okBase o=true) (mB:(ap.endLine == q.line)=true) (hg:Gl X "sorted") (hm:X.mg "sorted"=none) (hs:bf (.Call (.Attribute o "items" ap) [] [] q)=true):PE X (.Call (.Name "sorted" p) [.Call (.Attribute o "items" ap) [] [] q] [] pos) (ae (kj fz) [m]):=fun {pins φ g L s w L'} I h=>by
 obtain⟨ts,L1,e1,h⟩:=R.of h;obtain⟨t,rfl,e2⟩:=pX e1;refine wpAny_Call_Name_kw (fN I hg hm (by kernel_rfl:bootBuiltins "sorted"=some (.builtin "sorted")) ?_ (by decide) (by decide));refine callWith_builtin1 ?_ (ay hs) (bR rfl);rw [ay hs];refine X0 ?_;refine wpAny_Call_method_late (base_ok hb) (tH rfl (by decide)) mB rfl (thn (ho I e2) fun v s1 ⟨g1,l1,I1,r1⟩=>?_);unfold kj at h;obtain⟨pp,vw⟩:=I1.view r1
 ·dsimp only at h
  split at h
  ·rename_i ks ev
   rw [ev] at vw;obtain⟨ok,h⟩:=aA h;obtain⟨a,od,es,ep,rfl,_,_,D⟩:=I1.aP vw;obtain⟨kvs,d1,d2,d3⟩:=DL D (q9 ok.2.2.1);refine⟨"dict","dict.items",X5,Zz,PySem.F.type_dict_items,D.typeIs,fun b e=>?_,?_⟩
   ·cases e;exact⟨od,D.ho,D.hx.2.1⟩
   ·refine ZM (bR rfl) (aad ?_)
    refine call_meetsIn Zz D.typeIs PySem.F.entry_dict_items (PySem.F.args_dict_items_1 _) (meets_dict_items (gS X.prog X.w) a D.hs) ⟨⟨kvs,Heap.DictAt.dictOf d1⟩,?_⟩;refine Xt ?_;have kp:∀b o,s1.heap.get? b=some o->(s1.heap.push { cls:=.type "dict_items",data:=.fields #[.ref a] }).get? b=some o:=fun b o z=>Ur _ z
    have I2:=I1.kept (t':=s1.toks) kp;have D2:bK X g1 { s1 with heap:=s1.heap.push { cls:=.type "dict_items",data:=.fields #[.ref a] } } ks a od es ep:=⟨kp _ _ D.ho,D.hx,D.hd,D.hz,D.hl,D.hn,D.hm,D.hs,D.hh,D.h1,D.h2⟩
    exact thn (t4 hu I2 D2 (Uy _ rfl) ok h) fun _ _ z=>z.le l1
  ·cases h
theorem Cp {m1 m2:SE} {t:List T} {L1:aa} (h:iA [m1,m2] φ L=.ok t L1):∃x y,t=[x,y]:=by
 obtain⟨x,L2,e1,h⟩:=R.of h;obtain⟨ts,L3,e2,h⟩:=R.of h;obtain⟨y,rfl,e2⟩:=pX e2;cases h;exact⟨x,y,rfl⟩
theorem zy (hu:X.A.units+20<cLine) (ha:PA X [e] (iA [m])) (hg:Gl X "sorted") (hm:X.mg "sorted"=none) (B3:Gl X "set") (Ga:X.mg "set"=none) (sQ:[e].all bf=true) (hs:bf (.Call (.Name "set" ap) [e] [] q)=true):PE X (.Call (.Name "sorted" p) [.Call (.Name "set" ap) [e] [] q] [] pos) (ae (mH fz) [m]):=fun {pins φ g L s w L'} I h=>by
 obtain⟨ts,L1,e1,h⟩:=R.of h;obtain⟨t,rfl,e2⟩:=pX e1;refine wpAny_Call_Name_kw (fN I hg hm (by kernel_rfl:bootBuiltins "sorted"=some (.builtin "sorted")) ?_ (by decide) (by decide));refine callWith_builtin1 ?_ (ay hs) (bR rfl);rw [ay hs];refine X0 ?_;refine wpAny_Call_Name_kw (fN I B3 Ga (by kernel_rfl:bootBuiltins "set"=some (.type "set")) ?_ (by decide) (by decide));refine callWith_type1 (thn (ha q I e1) fun us s1 ⟨g1,l1,I1,r1⟩=>?_) (ay (by simpa using sQ)) (bR rfl);obtain⟨u,rfl,ru⟩:=bM r1;unfold mH at h;dsimp only at h;obtain⟨pp,v⟩:=I1.view ru;split at h
 ·rename_i ys ev
  rw [ev] at v;obtain⟨⟨ok,h6,hS⟩,h⟩:=aA h;obtain⟨a,its,n,rfl,e,rr,hz⟩:=I1.lst v;exact thn (zw hu I1 (by simpa using af e) rr ok h6 hS h) fun _ _ z=>Xt (thn z fun _ _ y=>y.le l1)
 ·cases h
theorem Cq {a b:Expr} {ma mb:SE} (hu:X.A.units+20<cLine) (ha:PA X [a,b] (iA [ma,mb])) (hg:Gl X "dict") (hm:X.mg "dict"=none) (B3:Gl X "zip") (Ga:X.mg "zip"=none) (sQ:[a,b].all bf=true) (hs:bf (.Call (.Name "zip" ap) [a,b] [] q)=true):PE X (.Call (.Name "dict" p) [.Call (.Name "zip" ap) [a,b] [] q] [] pos) (ae gT [ma,mb]):=fun {pins φ g L s w L'} I h=>by
 obtain⟨ts,L1,e1,h⟩:=R.of h;obtain⟨t1,t2,rfl⟩:=Cp e1;have P9:bf a=true/\bf b=true:=by simpa using sQ
 refine wpAny_Call_Name_kw (fN I hg hm (by kernel_rfl:bootBuiltins "dict"=some (.type "dict")) ?_ (by decide) (by decide));refine callWith_type1 ?_ (ay hs) (bR rfl);rw [ay hs];refine X0 ?_;refine wpAny_Call_Name_kw (fN I B3 Ga (by kernel_rfl:bootBuiltins "zip"=some (.type "zip")) ?_ (by decide) (by decide));refine callWith_type1 (thn (ha q I e1) fun us s1 ⟨g1,l1,I1,r1⟩=>?_) (ay P9.1) (bR (by simpa using P9.2));obtain⟨u1,u2,rfl,Sl,Sm⟩:=kh r1;unfold gT at h;dsimp only at h;obtain⟨p1,v1⟩:=I1.view Sl;obtain⟨p2,v2⟩:=I1.view Sm;split at h
 ·rename_i xs ys NC ND
  rw [NC] at v1;rw [ND] at v2;obtain⟨hle,h⟩:=aA h;obtain⟨a1,NF,n1,rfl,q1,NH,_⟩:=I1.lst v1;obtain⟨a2,pC,n2,rfl,q2,BN,_⟩:=I1.lst v2;exact thn (rm (b:=false) hu I1 (by simpa using af q1) (show s1.heap.IsList a2 pC.toList.toArray from by simpa using af q2) NH BN hle h) fun _ _ z=>Xt (thn z fun _ _ y=>y.le l1)
 ·rename_i xs ys NC ND
  rw [NC] at v1;rw [ND] at v2;obtain⟨hle,h⟩:=aA h;obtain⟨a1,NF,n1,rfl,q1,NH,_⟩:=I1.lst v1;obtain⟨a2,pC,rfl,q2,BN,_⟩:=I1.tupP v2;exact thn (rm (b:=true) hu I1 (by simpa using af q1) (show s1.heap.IsTuple a2 pC.toList.toArray from by rw [Array.toArray_toList];exact q2) NH BN hle h) fun _ _ z=>Xt (thn z fun _ _ y=>y.le l1)
 ·cases h
end
structure dZ (X:Cx) (Γ:Ct):Prop where
 hu:X.A.units+20<cLine
 fn:∀x F,Γ.fn.lookup x=some F->(x == ("__debug__":Str))=false/\∃k fa,fu X.prog X.w X.K X.mg X.cls X.base k fa F/\fq k X.A/\X.mg x=some (.ref fa)/\VL X.K (.ref fa)=true
 co:∀x t,Γ.co.lookup x=some t->(x == ("__debug__":Str))=false/\∃u,X.mg x=some u/\∀g:G,g.B=X.base->g.cls=X.cls->g.w=X.w->RT g none t u
 us:∀x∈Γ.us,X.mg x=none/\x≠"__name__"/\(x == ("__debug__":Str))=false
 fl:∀c C,X.cls c=some C->ClsOk X.K Γ.fl C
 me:∀m mf,Γ.me.lookup m=some mf->∀c C F,X.cls c=some C->mf.lookup c=some F->∃fa k,BC X.K C/\Meth X.K C m fa/\fu X.prog X.w X.K X.mg X.cls X.base k fa F/\fq k X.A
structure eB (X:Cx) (S:Sg):Prop where
 N:X.N=S.N
 nd:S.N.Nodup
 nm:S.N.all yQ=true
 loc:∀x,S.sc.names.lookup x=some .local->X.env.scope.names.lookup x=some .local
 Mb:∀x,S.sc.names.lookup x=some .cell->X.env.scope.names.lookup x=some .cell/\X.fn x=true
 Qa:∀x,S.sc.names.lookup x=some .free->X.env.scope.names.lookup x=some .cell\/X.env.scope.names.lookup x=some .free
 Sn:∀x,S.sc.names.lookup x=some .globalImplicit->X.env.scope.names.lookup x=some .globalImplicit
structure fv (X:Cx) (B:Bd):Prop where
 E:∀e,PE X e (B.E e)
 T:∀e,PT X e (B.T e)
 S:∀st,PS X st (B.S st)
section
variable {X:Cx} {Γ:Ct} {S:Sg} {B:Bd} {BS:Sg->Bd} {x:Str} {i:Nat} {pos p p2:Pos} {a b e:Expr} {es:List Expr}
theorem mQ {N:List Str} (h:H7 N x=some i):N[i]?=some x:=by
 obtain⟨h1,h2,_⟩:=VO.mp h;rw [Ge9 h1,eq_of_beq h2]
theorem JO (c:eB X S) (h:S.N[i]?=some x):(x == ("__debug__":Str))=false/\(x == ("__classdict__":Str))=false:=by
 have:=Uu.mp c.nm x (Ve h);unfold yQ at this;simpa using this
theorem at_of (c:eB X S) (h:S.at x=some i):X.N[i]?=some x/\LO X.env.scope x:=by
 unfold Sg.at at h;rw [c.N];split at h
 ·exact⟨mQ h,.inl (c.loc x (by assumption))⟩
 ·exact⟨mQ h,.inr (.inl (c.Mb x (by assumption)).1)⟩
 ·refine⟨mQ h,?_⟩
  rcases c.Qa x (by assumption) with z|z
  ·exact .inr (.inl z)
  ·exact .inr (.inr z)
 ·cases h
theorem mR (c:eB X S) (h:S.own x=some i):tj X i x:=by
 unfold Sg.own at h;split at h
 ·exact⟨by rw [c.N];exact c.nd,by rw [c.N];exact mQ h,.inl (c.loc x (by assumption)),.inr (c.loc x (by assumption))⟩
 ·exact⟨by rw [c.N];exact c.nd,by rw [c.N];exact mQ h,.inr (c.Mb x (by assumption)).1,.inl (c.Mb x (by assumption)).2⟩
 ·cases h
theorem jK (c:eB X S) (h:S.gl x=true):Gl X x:=by
 unfold Sg.gl at h;split at h
 ·exact c.Sn x (by assumption)
 ·cases h
theorem Cr (o:dZ X Γ) (c:eB X S):PE X (.Name x pos) (eName Γ S x):=by
 unfold eName;split
 ·rename_i h
  obtain⟨h1,h2⟩:=at_of c h;have:=JO c (by rw [<- c.N];exact h1)
  exact fun {_ _ _ _ _ _ _} I h=>Ex h1 h2 this.1 this.2 I h
 ·split
  ·rename_i hg
   split
   ·rename_i ht
    obtain⟨h1,u,h2,h3⟩:=o.co x _ ht;exact EB (jK c hg) h2 h3 h1
   ·split
    ·rename_i n hu hn
     obtain⟨h1,h2,h3⟩:=o.us x (by simpa using hu);have hb:bootBuiltins x=some (.type n):=by
      simp only [U0] at hn
      repeat' split at hn
      all_goals first|cases hn|skip
      all_goals (rename_i hx;have hx:=eq_of_beq hx;subst hx;kernel_rfl)
     exact fun {_ _ _ _ _ _ _} I q=>EC (jK c hg) h1 hb (fun _ _ _ _=>.ty _) h2 h3 I q
    ·exact fun {_ _ _ _ _ _ _} I q=>cJ I q
  ·exact fun {_ _ _ _ _ _ _} I q=>cJ I q
theorem Gn {k:Const} {j:Nat}:PE X (.Constant k j pos) (FN k):=by
 cases k with
 | int=>exact Ey
 | bool=>exact IA
 | none=>exact Ez
 | str x =>
  delta FN;dsimp only;split
  ·rename_i h;exact EA (of_decide_eq_true h)
  ·exact cJ
 | _=>exact cJ
theorem Gp (o:dZ X Γ) (hB:fv X B) {ops:List CmpOp}:PE X (.Compare a ops es pos) (yO B a ops es):=by
 unfold yO;split
 ·exact cJ
 ·split
  ·split
   ·split
    ·exact EE (pG o.hu) (hB.E _) (hB.E _) (by assumption)
    ·exact cJ
   ·exact cJ
  ·split
   ·split
    ·split
     ·exact xJ (fun _=>pG o.hu) (hB.E _) (hB.E _) (hB.E _) (by assumption)
     ·exact cJ
    ·exact cJ
   ·exact cJ
theorem Cu (o:dZ X Γ) (hB:fv X B) {ops:List CmpOp}:PT X (.Compare a ops es pos) (tv (yO B a ops es)):=by
 have Cv:PT X (.Compare a ops es pos) (tv no):=fun {_ _ _ _ _ _ _} w _ I h=>by cases h
 unfold yO;split
 ·exact @Cv
 ·split
  ·split
   ·split
    ·rename_i hm;exact fun {_ _ _ _ _ _ _} w hw I h=>EN (pG o.hu) (hB.E _) (hB.E _) hm w hw I h
    ·exact @Cv
   ·exact @Cv
  ·split
   ·split
    ·split
     ·rename_i hm;exact fun {_ _ _ _ _ _ _} w hw I h=>xK (fun _=>pG o.hu) (hB.E _) (hB.E _) (hB.E _) hm w hw I h
     ·exact @Cv
    ·exact @Cv
   ·exact @Cv
theorem zA (hB:fv X B) {o:Option Expr}:PO X o (o.map B.E):=by
 cases o with
 | none=>exact BI
 | some e=>exact BJ (hB.E e)
theorem Gq (o:dZ X Γ) (hB:fv X B):PE X (.Subscript a b pos) (Jl Γ B a b pos):=by
 have V:PE X (.Subscript a b pos) (LX B a b):=by
  unfold LX;split
  ·exact IB (Jd o.hu (by assumption)) (hB.E _) (hB.E _)
  ·exact cJ
 cases b with
 | Slice lo hi st p=>cases st with
  | none=>exact fun {_ _ _ _ _ _ _} I q=>Fm (hB.E _) (zA hB) (zA hB) I q
  | some _=>exact @V
 | _=>exact @V
theorem eC (hB:fv X B):∀{es:List Expr},es.all bf=true->PA X es (iA (es.map B.E))
 | [],_=>pf
 | e::es,h=>by
  rw [Vl,UC] at h;exact ju (hB.E e) (eC hB h.2) h.1
theorem vG (hB:fv X B):∀(es:List Expr),PE X (.BoolOp .And es pos) (kq (es.map B.E))
 | []=>cJ
 | [a]=>xI (hB.E a)
 | a::b::r=>EI (hB.E a) (vG hB (b::r))
theorem zB (hB:fv X B):∀(es:List Expr),PE X (.BoolOp .Or es pos) (Bf (es.map B.E))
 | []=>cJ
 | [a]=>xI (hB.E a)
 | a::b::r=>ID (hB.E a) (zB hB (b::r))
theorem vH (hB:fv X B):∀(es:List Expr),PT X (.BoolOp .And es pos) (jI (es.map B.T))
 | []=>uV
 | [a]=>Bn (hB.T a)
 | a::b::r=>EM (hB.T a) (vH hB (b::r))
theorem zC (hB:fv X B):∀(es:List Expr),PT X (.BoolOp .Or es pos) (vz (es.map B.T))
 | []=>uV
 | [a]=>EL (hB.T a)
 | a::b::r=>IE (hB.T a) (zC hB (b::r))
theorem gd (hB:fv X B):∀(l:List Stmt),xG X l (ab (l.map B.S))
 | []=>Bo
 | s::l=>xN (hB.S s) (gd hB l)
theorem Cw {a:Option Nat} {b:Option (List Nat)} {is:List Nat} (h:FO a b=some is):∃i js,a=some i/\b=some js/\is=i::js:=by
 cases a with
 | none=>cases h
 | some i=>cases b with
  | none=>cases h
  | some js=>cases h;exact⟨i,js,rfl,rfl,rfl⟩
theorem pY (c:eB X S):∀{ts:List Expr} {is:List Nat},yP S ts=some is->IH X ts is/\(assignEach ts X.env).length=is.length/\(assignEach ts X.env).findIdx? (·.1)=none
 | [],is,h=>by cases h;exact⟨Br,rfl,rfl⟩
 | t::r,is,h=>by
  cases t with
  | Name x p =>
   obtain⟨i,js,h1,h2,rfl⟩:=Cw (show FO (S.own x) (yP S r)=some is from h);obtain⟨q1,q2,q3⟩:=pY c h2;refine⟨xO (mR c h1) q1,?_,?_⟩
   ·show(assignEach r X.env).length+1=_;rw [q2];rfl
   ·show((false,_)::assignEach r X.env).findIdx? (·.1)=none
    rw [YR,q3];rfl
  | _=>cases h
theorem ui (c:eB X S) {tg:Expr} {t:Tg} (h:MW S tg=some t):PG X tg t:=by
 cases tg with
 | Name x p =>
  obtain⟨i,h1,rfl⟩:=UI.mp h;exact lK (mR c h1)
 | Tuple ts k p =>
  obtain⟨is,h1,rfl⟩:=UI.mp h;obtain⟨q1,q2,q3⟩:=pY c h1;exact xP q1 q2 q3
 | _=>cases h
theorem zD {e:Expr} (h:isTup e=true):∃ts k p,e=.Tuple ts k p:=by
 cases e with
 | Tuple ts k p=>exact⟨ts,k,p,rfl⟩
 | _=>cases h
theorem pZ (o:dZ X Γ) (c:eB X S) (hB:fv X B) {tg:Expr}:PI X tg e (stI Γ B S tg e):=by
 unfold stI;split
 ·rename_i x px es pos
  unfold DG;split
  ·rename_i hc
   simp only [UC] at hc;obtain⟨⟨h1,h2⟩,h3⟩:=hc;have hg:=jK c h1
   have hm:=(o.us x (by simpa using h2)).1;split
   ·rename_i hx
    have:=eq_of_beq hx;subst this;split
    ·simp only [Vl,YS,ZA] at h3
     exact fun {_ _ _ _ _ _ _ _} I h=>Bt hg hm (hB.E _) h3 I h
    ·simp only [Vl,YS,ZA,UC] at h3
     exact fun {_ _ _ _ _ _ _ _} I h=>Bu hg hm (hB.E _) (hB.E _) h3.1 h3.2 I h
    ·exact fun {_ _ _ _ _ _ _ _} I h=>j8 (hB.E _) I h
   ·split
    ·split
     ·rename_i hx
      have:=eq_of_beq hx;subst this;split
      ·rename_i ht
       simp only [Vl,YS,ZA] at h3;obtain⟨_,_,_,rfl⟩:=zD ht;exact fun {_ _ _ _ _ _ _ _} I h=>E0 hg hm (hB.E _) h3 I h
      ·exact fun {_ _ _ _ _ _ _ _} I h=>j8 (hB.E _) I h
     ·exact fun {_ _ _ _ _ _ _ _} I h=>j8 (hB.E _) I h
    ·exact fun {_ _ _ _ _ _ _ _} I h=>j8 (hB.E _) I h
  ·exact fun {_ _ _ _ _ _ _ _} I h=>j8 (hB.E _) I h
 ·exact fun {_ _ _ _ _ _ _ _} I h=>j8 (hB.E _) I h
theorem jL {scope:Scope} {env:Env} {y:Str} {k:NameKind} (h:scope.names.lookup y=some k) (hk:k≠.free):(relabel scope env).names.lookup y=some k:=by
 have go:∀(names:List (Str × NameKind)),names.lookup y=some k->(names.map fun(n,k)=>if (k == V9 && env.scope.kind == .function && env.kindOf n == some .cell) then (n,Zr) else (n,k)).lookup y=some k:=by
  intro names;induction names with
  | nil=>intro h;simp at h
  | cons a r ih =>
   obtain⟨n,k'⟩:=a;intro h;rw [UG];rw [U0] at h;by_cases hc:(k' == V9 && env.scope.kind == .function && env.kindOf n == some .cell)=true
   ·simp only [hc,if_true,U0]
    cases hy:y == n with
    | true =>
     rw [hy] at h;have e:k'=k:=We h
     simp only [UC,beq_iff_eq] at hc;exact absurd (e ▸ hc.1.1) hk
    | false =>
     rw [hy] at h;exact ih h
   ·simp only [hc,UJ,if_false,U0]
    cases hy:y == n with
    | true =>
     rw [hy] at h;exact h
    | false =>
     rw [hy] at h;exact ih h
 exact go scope.names h
theorem vI (c:eB X S) {sc:Scope} (h:tZ S sc=true):mx X sc (inN sc) (aU S sc)/\∀cl C s₀ H₀ ex,eB (cV X sc cl (inN sc) C s₀ H₀ ex) ⟨inN sc,sc⟩:=by
 unfold tZ at h;simp only [UC] at h;obtain⟨⟨⟨h1,h2⟩,h3⟩,h4⟩:=h;have h2:=Uu.mp h2
 have my:∀y∈sc.names,y.2≠.cell:=fun y hy e=>by
  have:=h2 y hy;rw [e] at this;cases this
 constructor
 ·refine⟨?_,my,fun y hy e=>?_,fun y hy e=>?_,fun i y j q1 q2=>?_,of_decide_eq_true h3,by unfold aU;rw [Lm9]⟩
  ·split at h1
   ·assumption
   ·cases h1
  ·have:=h2 y hy
   simp only [e] at this;split at this
   ·assumption
   ·cases this
  ·have:=h2 y hy
   simp only [e] at this;split at this
   ·rename_i k;exact .inl (c.Mb _ k).1
   ·rename_i k;exact c.Qa _ k
   ·cases this
  ·unfold aU at q2
   rw [UT,q1] at q2;simp only [Option.map_some,Option.some.injEq] at q2;split at q2
   ·rename_i k
    exact⟨(at_of c q2).1,k⟩
   ·cases q2
 ·intro cl C s₀ H₀ ex
  exact⟨rfl,of_decide_eq_true h3,h4,fun x h=>jL h (by decide),fun x h=>absurd rfl (my (x,.cell) (Vh h)),fun x h=>jz h,fun x h=>jL h (by decide)⟩
theorem dZ.comp (o:dZ X Γ) {sc:Scope} {N:List Str} {cl C s₀ H₀ ex}:dZ (cV X sc cl N C s₀ H₀ ex) Γ:=⟨o.hu,o.fn,o.co,o.us,o.fl,o.me⟩
theorem rJ (hB:fv X B) (ifs:List Expr):E4 X ifs (tests B ifs):=by
 unfold tests;split
 ·exact Bv
 ·exact Bw (hB.T _)
 ·exact fun I h=>by cases h
theorem Cy (hS:∀X S,dZ X Γ->eB X S->fv X (BS S)) (o:dZ X Γ) (c:eB X S) {elt tg iter:Expr} {ifs:List Expr} {sc:Scope}:PE X (.ListComp elt [⟨tg,iter,ifs,0⟩] sc pos) (ox Γ BS S elt tg iter ifs sc pos):=by
 unfold ox;split
 ·rename_i t ht
  split
  ·rename_i h
   simp only [UC] at h;obtain⟨⟨h1,h2⟩,h3⟩:=h;obtain⟨k1,k2⟩:=vI c h1;refine fun {_ _ _ _ _ _ _} I h=>u3 k1 (fun i hi=>?_) (pZ o c (hS X S o c)) (fun cl C s₀ H₀ ex=>ui (k2 cl C s₀ H₀ ex) ht) (fun cl C s₀ H₀ ex=>rJ (hS _ _ o.comp (k2 cl C s₀ H₀ ex)) ifs) (fun cl C s₀ H₀ ex=>(hS _ _ o.comp (k2 cl C s₀ H₀ ex)).E elt) h2 I h
   have:=Uu.mp h3 i hi;split at this
   ·assumption
   ·cases this
  ·exact cJ
 ·exact cJ
theorem zE (hS:∀X S,dZ X Γ->eB X S->fv X (BS S)) (o:dZ X Γ) (c:eB X S) {y:Str} (hy:tj X i y) {elt tg iter:Expr} {ifs:List Expr} {sc:Scope}:PS X (.Assign [.Name y p] (.ListComp elt [⟨tg,iter,ifs,0⟩] sc pos) p2) (asg (.one i) (ox Γ BS S elt tg iter ifs sc pos)):=by
 have Cv:PS X (.Assign [.Name y p] (.ListComp elt [⟨tg,iter,ifs,0⟩] sc pos) p2) (asg (.one i) no):=fun I h=>absurd rfl h
 unfold ox;split
 ·rename_i t ht
  split
  ·rename_i h
   simp only [UC] at h;obtain⟨⟨h1,h2⟩,h3⟩:=h;obtain⟨k1,k2⟩:=vI c h1;refine fun {_ _ _ _ _} I h=>Bz hy k1 (fun i hi=>?_) (pZ o c (hS X S o c)) (fun cl C s₀ H₀ ex=>ui (k2 cl C s₀ H₀ ex) ht) (fun cl C s₀ H₀ ex=>rJ (hS _ _ o.comp (k2 cl C s₀ H₀ ex)) ifs) (fun cl C s₀ H₀ ex=>(hS _ _ o.comp (k2 cl C s₀ H₀ ex)).E elt) h2 I h
   have:=Uu.mp h3 i hi;split at this
   ·assumption
   ·cases this
  ·exact fun {_ _ _ _ _} I h=>Cv I h
 ·exact fun {_ _ _ _ _} I h=>Cv I h
end
section
variable {X:Cx} {Γ:Ct} {S:Sg} {B:Bd} {BS:Sg->Bd} {x:Str} {i:Nat} {pos p p2:Pos} {a b e o:Expr} {es:List Expr} {fz:Bool} {F:Fn}
theorem mS {α β:Type} [BEq α] [LawfulBEq α] {P:α->β->Prop} {x:α} {b:β}:∀{l:List (α × β)},l.lookup x=some b->(∀p∈l,P p.1 p.2)->P x b
 | (a,c)::l,h,k=>by
  rw [U0] at h;split at h
  ·rename_i e
   cases h;cases eq_of_beq e;exact k _ Uv
  ·exact mS h fun p hp=>k p (Uw _ hp)
theorem lc {α:Type} {P:α->Prop} {a:α} {l:List α} (h:P a) (k:∀x∈l,P x):∀x∈a::l,P x:=XF.mpr ⟨h,k⟩
theorem ln {α:Type} {P:α->Prop}:∀x∈([]:List α),P x:=fun _ h=>nomatch h
theorem Gr (hu:X.A.units+20<cLine) (h:blt x fz=some F):∃f,bootBuiltins x=some f/\dN X f F/\((∃id,f=.builtin id)\/∃T,f=.type T):=by
 refine mS (P:=fun x F=>∃f,bootBuiltins x=some f/\dN X f F/\((∃id,f=.builtin id)\/∃T,f=.type T)) h ?_
 repeat' refine lc ?_ ?_
 ·exact⟨_,by kernel_rfl,yj,.inl ⟨_,rfl⟩⟩
 ·exact⟨_,by kernel_rfl,wH,.inr ⟨_,rfl⟩⟩
 ·exact⟨_,by kernel_rfl,yk,.inr ⟨_,rfl⟩⟩
 ·exact⟨_,by kernel_rfl,yn,.inl ⟨_,rfl⟩⟩
 ·exact⟨_,by kernel_rfl,yo,.inl ⟨_,rfl⟩⟩
 ·exact⟨_,by kernel_rfl,yw,.inl ⟨_,rfl⟩⟩
 ·exact⟨_,by kernel_rfl,yp,.inr ⟨_,rfl⟩⟩
 ·exact⟨_,by kernel_rfl,yq,.inr ⟨_,rfl⟩⟩
 ·exact⟨_,by kernel_rfl,wJ hu,.inr ⟨_,rfl⟩⟩
 ·exact⟨_,by kernel_rfl,wN hu,.inl ⟨_,rfl⟩⟩
 ·exact ln
theorem Gs (hu:X.A.units+20<cLine) {f:Ty->Option (T->Fn)} (h:Px x fz=some f):∀y F,f y=some F->Fs X x y F:=by
 refine mS (P:=fun x f=>∀y F,f y=some F->Fs X x y F) h ?_
 repeat' refine lc ?_ ?_
 rotate_right
 ·exact ln
 all_goals (intro y F hf;cases y <;> cases hf)
 ·exact⟨_,X6,Yt,PySem.F.type_list_append,Ft⟩
 ·exact⟨_,X6,Yu,PySem.F.type_list_extend,Fu⟩
 ·exact⟨_,X6,Zs,PySem.F.type_list_count,BP hu⟩
 ·exact⟨_,Zo,Zd,PySem.F.type_tuple_count,BQ hu⟩
 ·exact⟨_,Zo,Ze,PySem.F.type_tuple_index,Fv hu⟩
 ·exact⟨_,Yb,PySem.F.slot_str_join,PySem.F.type_str_join,BR⟩
 ·exact⟨_,Yb,Xd,PySem.F.type_str_split,yz⟩
 ·exact⟨_,Yb,PySem.F.slot_str_strip,PySem.F.type_str_strip,yx⟩
 ·exact⟨_,X5,Z0,PySem.F.type_dict_get,Fz hu⟩
 ·exact⟨_,X5,Yz,PySem.F.type_dict_setdefault,FC hu⟩
theorem Cz (o:dZ X Γ) (c:eB X S) (hB:fv X B) {q:Fn × List Expr} (hg:Gl X x) (h1:X.mg x=none) (h2:x≠"__name__") (h3:(x == ("__debug__":Str))=false) (hs:es.all bf=true) (h:nest Γ S fz x es=some q):PE X (.Call (.Name x p) es [] pos) (ae q.1 (q.2.map B.E)):=by
 unfold nest at h;split at h
 case h_2=>cases h
 split at h
 case h_2=>cases h
 split at h
 case h_2=>cases h
 split at h
 case h_3=>cases h
 ·rename_i Qb q _ _ y p2
  replace hs:bf (.Call (.Name y p2) Qb [] q)=true:=by simpa using hs
  unfold DH at h;split at h
  case h_2=>cases h
  rename_i hb;simp only [UC] at hb;obtain⟨⟨⟨b1,b2⟩,b3⟩,b4⟩:=hb;obtain⟨m1,m2,m3⟩:=o.us y (by simpa using b2);split at h
  ·rename_i hx
   rw [UC] at hx;have e1:=eq_of_beq hx.1
   have e2:=eq_of_beq hx.2;subst e1 e2;split at h
   ·cases h
    exact fun {_ _ _ _ _ _ _} I q=>zy o.hu (eC hB b3) hg h1 (jK c b1) m1 b3 hs I q
   ·cases h
  ·split at h
   ·rename_i hx
    rw [UC] at hx;have e1:=eq_of_beq hx.1
    have e2:=eq_of_beq hx.2;subst e1 e2;split at h
    ·cases h
     exact fun {_ _ _ _ _ _ _} I q=>Cq o.hu (eC hB b3) hg h1 (jK c b1) m1 b3 hs I q
    ·cases h
   ·cases h
 ·rename_i Qb q _ _ ob m ap
  split at h
  case h_2=>cases h
  replace hs:bf (.Call (.Attribute ob m ap) [] [] q)=true:=by simpa using hs
  unfold DI at h;split at h
  ·rename_i hb
   simp only [UC] at hb;obtain⟨⟨⟨⟨b1,b2⟩,b3⟩,b4⟩,b5⟩:=hb;have e1:=eq_of_beq b3
   have e2:=eq_of_beq b4;subst e1 e2;cases h;exact fun {_ _ _ _ _ _ _} I q=>zx o.hu (hB.E _) b1 b2 hg h1 hs I q
  ·cases h
theorem CA (o:dZ X Γ) (c:eB X S) (hB:fv X B):PE X (.Call (.Name x p) es [] pos) (yR Γ B S x es pos):=by
 unfold yR;split
 ·rename_i h
  simp only [UC] at h;split
  ·rename_i F hF
   obtain⟨h1,k,fa,h2,h3,h4,h5⟩:=o.fn x F hF;cases es with
   | nil=>exact fun {_ _ _ _ _ _ _} I q=>BE (tG h2 h3) (jK c h.1) h4 h5 h1 I q
   | cons e es=>exact fun {_ _ _ _ _ _ _} I q=>Fd (tG h2 h3) (jK c h.1) h4 h5 (eC hB h.2) h.2 h1 I q
  ·split
   ·rename_i hb hF
    simp only [UC] at hb;obtain⟨h1,h2,h3⟩:=o.us x (by simpa using hb.1);split
    ·rename_i q hq
     exact fun {_ _ _ _ _ _ _} I z=>Cz o c hB (jK c h.1) h1 h2 h3 h.2 hq I z
    ·cases es with
     | nil=>exact absurd hb.2 (by simp)
     | cons e es=>exact fun {_ _ _ _ _ _ _} I q=>Fo (Gr o.hu hF) (jK c h.1) h1 h2 h3 (eC hB h.2) h.2 I q
   ·exact fun {_ _ _ _ _ _ _} I q=>cJ I q
 ·exact fun {_ _ _ _ _ _ _} I q=>cJ I q
theorem CB (oc:dZ X Γ) (hB:fv X B):PE X (.Call (.Attribute o x p) es [] pos) (yS Γ B o x p es pos):=by
 unfold yS;split
 ·rename_i h
  simp only [UC] at h;obtain⟨⟨⟨h1,h2⟩,h3⟩,h4⟩:=h;have h3:=of_decide_eq_true h3
  have h0:es=[]->es.map B.E=[]:=fun e=>by rw [e];rfl
  split
  ·rename_i mf hF
   refine fun {_ _ _ _ _ _ _} I q=>BG (fun c C F hc hf=>?_) (hB.E o) (eC hB h2) h0 h2 h3 h1 h4 I q
   obtain⟨fa,k,q1,q2,q3,q4⟩:=oc.me x mf hF c C F hc hf;exact⟨fa,q1,q2,tG q3 q4⟩
  ·split
   ·rename_i f hf
    exact fun {_ _ _ _ _ _ _} I q=>BM (Gs oc.hu hf) (hB.E o) (eC hB h2) h0 h2 h3 h1 h4 I q
   ·exact fun {_ _ _ _ _ _ _} I q=>cJ I q
 ·exact fun {_ _ _ _ _ _ _} I q=>cJ I q
theorem zF (hS:∀X S,dZ X Γ->eB X S->fv X (BS S)) (o:dZ X Γ) (c:eB X S) (e:Expr):PE X e (DJ Γ BS S e):=by
 have hB:=hS X S o c;have no:PE X e no:=fun {_ _ _ _ _ _ _} I q=>cJ I q
 cases e with
 | Name=>exact fun {_ _ _ _ _ _ _} I q=>Cr o c I q
 | Constant=>exact fun {_ _ _ _ _ _ _} I q=>Gn I q
 | BinOp=>exact fun {_ _ _ _ _ _ _} I q=>ED Fi (hB.E _) (hB.E _) I q
 | UnaryOp op=>cases op with
  | Not=>exact fun {_ _ _ _ _ _ _} I q=>EH (hB.E _) I q
  | USub=>exact fun {_ _ _ _ _ _ _} I q=>IC EG (hB.E _) I q
  | _=>exact @no
 | BoolOp op=>cases op with
  | And=>exact fun {_ _ _ _ _ _ _} I q=>vG hB _ I q
  | Or=>exact fun {_ _ _ _ _ _ _} I q=>zB hB _ I q
 | Compare=>exact fun {_ _ _ _ _ _ _} I q=>Gp o hB I q
 | IfExp=>exact fun {_ _ _ _ _ _ _} I q=>EO (hB.T _) (hB.E _) (hB.E _) I q
 | List =>
  delta DJ;dsimp only;split
  ·rename_i h;exact fun {_ _ _ _ _ _ _} I q=>ER (eC hB h) I q
  ·exact @no
 | Tuple =>
  delta DJ;dsimp only;split
  ·rename_i h
   simp only [UC] at h;exact fun {_ _ _ _ _ _ _} I q=>ES (eC hB h.1) (UW (of_decide_eq_true h.2) (by decide)) (by simp) I q
  ·exact @no
 | Dict a b=>cases a with
  | nil=>cases b with
   | nil=>exact fun {_ _ _ _ _ _ _} I q=>BY I q
   | _=>exact @no
  | _=>exact @no
 | Subscript=>exact fun {_ _ _ _ _ _ _} I q=>Gq o hB I q
 | Attribute =>
  delta DJ;dsimp only;split
  ·rename_i h
   simp only [UC] at h;exact fun {_ _ _ _ _ _ _} I q=>pe_fld o.fl (by simpa using h.2) (hB.E _) h.1 I q
  ·exact @no
 | ListComp _ gs=>cases gs with
  | nil=>exact @no
  | cons g r =>
   obtain⟨tg,it,fs,n⟩:=g;cases n with
   | ofNat n=>cases n with
    | zero=>cases r with
     | nil=>exact fun {_ _ _ _ _ _ _} I q=>Cy hS o c I q
     | cons=>exact @no
    | succ=>cases r <;> exact @no
   | negSucc=>cases r <;> exact @no
 | Call f es ks=>cases ks with
  | nil=>cases f with
   | Name=>exact fun {_ _ _ _ _ _ _} I q=>CA o c hB I q
   | Attribute=>exact fun {_ _ _ _ _ _ _} I q=>CB o hB I q
   | _=>exact @no
  | cons=>cases f <;> exact @no
 | _=>exact @no
theorem Gu (o:dZ X Γ) (hB:fv X (BS S)) (hE:∀e,PE X e (DJ Γ BS S e)) (e:Expr):PT X e (Py (BS S) (DJ Γ BS S) e):=by
 have no:PT X e no:=fun {_ _ _ _ _ _ _} w hw I q=>uV w hw I q
 cases e with
 | UnaryOp op=>cases op with
  | Not=>exact fun {_ _ _ _ _ _ _} w hw I q=>EK (hB.T _) w hw I q
  | _=>exact @no
 | BoolOp op=>cases op with
  | And=>exact fun {_ _ _ _ _ _ _} w hw I q=>vH hB _ w hw I q
  | Or=>exact fun {_ _ _ _ _ _ _} w hw I q=>zC hB _ w hw I q
 | Compare=>exact fun {_ _ _ _ _ _ _} w hw I q=>Cu o hB w hw I q
 | Name|Call|Subscript|Attribute|Constant=>exact fun {_ _ _ _ _ _ _} w hw I q=>EJ (hE _) (fun _=>rfl) (fun _ _ _ h=>by cases h) w hw I q
 | _=>exact @no
theorem DU {tg:Expr} {l:Nat} {env:Env} (h:iQ e=true):swapsWithSole [tg] e l env=pure false:=jv h
theorem Qc {ts:List Expr} {k:Nat} {env:Env} (h:DK e=true):swappedStores [.Tuple ts k p] e env=pure none/\iQ e=true:=by
 cases e <;> first|exact⟨rfl,rfl⟩|cases h
theorem Gv {gs:List Comprehension} {tg iter:Expr} {ifs:List Expr} (h:MX gs=some (tg,iter,ifs)):gs=[⟨tg,iter,ifs,0⟩]:=by
 unfold MX at h;split at h
 ·cases h;rfl
 ·cases h
theorem Gw (hS:∀X S,dZ X Γ->eB X S->fv X (BS S)) (o:dZ X Γ) (c:eB X S) {tg:Expr}:PS X (.Assign [tg] e pos) (wL Γ BS S tg e):=by
 have hB:=hS X S o c;have no:PS X (.Assign [tg] e pos) fW:=fun {_ _ _ _ _} I q=>xM I q
 cases tg with
 | Name x p =>
  delta wL;dsimp only;split
  ·rename_i i hi
   have V:PS X (.Assign [.Name x p] e pos) (Cb BS S i e):=by
    unfold Cb;split
    ·rename_i hv
     exact fun {_ _ _ _ _} I q=>tm (hB.E _) (lK (mR c hi)) (DU hv) rfl rfl I q
    ·exact @no
   cases e with
   | ListComp elt gs sc q =>
    dsimp only;split
    ·rename_i hg
     cases Gv hg;exact fun {_ _ _ _ _} I q=>zE hS o c (mR c hi) I q
    ·exact @V
   | _=>exact @V
  ·exact @no
 | Tuple ts _ _ =>
  delta wL;dsimp only;split
  ·rename_i hi ht
   obtain⟨q1,q2,q3⟩:=pY c hi;exact fun {_ _ _ _ _} I q=>tm (hB.E _) (xP q1 q2 q3) (DU (Qc (ts:=[]) (k:=0) (p:=pos) (env:=X.env) ht).2) (Qc ht).1 rfl I q
  ·exact @no
 | Attribute ob f _ =>
  delta wL;dsimp only;split
  ·rename_i h
   simp only [UC] at h;exact fun {_ _ _ _ _} I q=>BD o.fl (by simpa using h.1) (hB.E _) (hB.E _) h.2 I q
  ·exact @no
 | Subscript ob i _ =>
  delta wL;dsimp only;split
  ·rename_i h;exact fun {_ _ _ _ _} I q=>BW o.hu (hB.E _) (hB.E _) (hB.E _) h I q
  ·exact @no
 | _=>exact @no
theorem Gx (hS:∀X S,dZ X Γ->eB X S->fv X (BS S)) (o:dZ X Γ) (c:eB X S) (st:Stmt):PS X st (H8 Γ BS S st):=by
 have hB:=hS X S o c;have no:PS X st fW:=fun {_ _ _ _ _} I q=>xM I q
 cases st with
 | Pass=>exact fun {_ _ _ _ _} I q=>Bp I q
 | Break=>exact fun {_ _ _ _ _} I q=>ET I q
 | Continue=>exact fun {_ _ _ _ _} I q=>EU I q
 | Expr =>
  delta H8;dsimp only;split
  ·rename_i h;exact fun {_ _ _ _ _} I q=>EV (hB.E _) h I q
  ·exact @no
 | Return v=>cases v with
  | none=>exact fun {_ _ _ _ _} I q=>Bq I q
  | some=>exact fun {_ _ _ _ _} I q=>EW (hB.E _) I q
 | If=>exact fun {_ _ _ _ _} I q=>IF (hB.T _) (gd hB _) (gd hB _) I q
 | Assign ts=>cases ts with
  | nil=>exact @no
  | cons t r=>cases r with
   | nil=>exact fun {_ _ _ _ _} I q=>Gw hS o c I q
   | cons=>exact @no
 | AugAssign t=>cases t with
  | Name =>
   delta H8;dsimp only;split
   ·rename_i h;exact fun {_ _ _ _ _} I q=>EX (mR c h) (hB.E _) yf I q
   ·exact @no
  | Subscript =>
   delta H8;dsimp only;split
   ·rename_i h;exact fun {_ _ _ _ _} I q=>BX o.hu (hB.E _) (hB.E _) (hB.E _) h I q
   ·exact @no
  | _=>exact @no
 | For tg e b r=>cases r with
  | nil =>
   delta H8;dsimp only;split
   ·rename_i h1 h2;exact fun {_ _ _ _ _} I q=>E1 (pZ o c hB) (ui c h1) (gd hB _) h2 I q
   ·exact @no
  | cons=>exact @no
 | While k b r=>cases r with
  | nil=>exact fun {_ _ _ _ _} I q=>EY (hB.T _) (gd hB _) lim I q
  | cons=>exact @no
 | _=>exact @no
theorem rK:∀(n:Nat) (X:Cx) (S:Sg),dZ X Γ->eB X S->fv X (cX Γ n S)
 | 0,X,S,_,_=>⟨fun _ {_ _ _ _ _ _ _} I q=>cJ I q,fun _ {_ _ _ _ _ _ _} w hw I q=>uV w hw I q,fun _ {_ _ _ _ _} I q=>xM I q⟩
 | n+1,X,S,o,c=>⟨zF (rK n) o c,Gu o (rK n X S o c) (zF (rK n) o c),Gx (rK n) o c⟩
theorem vJ (o:dZ X Γ) (c:eB X S) (b:List Stmt):xG X b (code Γ S b):=gd (rK 40 X S o c) b
end
theorem rL {n0 n:Nat} {L:aa} (hn:n0<=n) (h:∀c,at_ L n=some c->c=.ref n):∀k,cg n0 L k (.ref n)=none
 | 0=>rfl
 | k+1=>by
  unfold cg;rw [if_neg (by rw [lt];simpa using hn)];cases e:at_ L n with
  | none=>simp only [e]
  | some c=>simp only [e];rw [h c e];exact rL hn h k
theorem CC {n0 k:Nat} {L:aa} {xs:List T} {t:T} (e:cg n0 L (k+2) (.lst xs)=some t):∃ys,t=.lst ys/\xs.length=ys.length/\∀(i:Nat) y,ys[i]?=some y->∃x,xs[i]?=some x/\cg n0 L (k+1) x=some y:=by
 unfold cg at e;split at e
 ·rename_i hl
  cases e;rw [lt] at hl;refine⟨xs,rfl,rfl,fun i y q=>⟨y,q,?_⟩⟩;unfold cg;rw [if_pos (gu.mp hl i y q)]
 ·obtain⟨ys,e1,rfl⟩:=UI.mp e
  obtain⟨len,at'⟩:=iC e1;exact⟨ys,rfl,len,at'⟩
theorem CD {g g':G} {L L' Lo:aa} {t t':T} {u:Ux} (l:Le g g') (r0:Rel g L) (r:Rel g' L') (h:RT g' none t u) (e:FL L t L'=.ok t' Lo) :
  ∃cU,Le g cU/\Rel cU Lo/\RT cU none t' u/\(∀a b o,cU.H a=some (b,o)->∃b',g'.H a=some (b',o))/\(∀a,g'.H a=none->cU.H a=none)/\∀a o,g'.H a=some (true,o)->cU.H a=some (true,o):=by
 classical
 cases t with
 | ref n=>?_
 | _=>cases e
 cases h with
 | ref hp=>?_
 rename_i p;unfold FL at e;cases ec:at_ L' n with
 | none=>simp only [ec] at e;cases e
 | some c=>?_
 cases c with
 | lst xs=>?_
 | _=>simp only [ec] at e;cases e
 simp only [ec] at e;unfold cb at e;split at e
 case isFalse=>cases e
 case isTrue hn =>
 obtain⟨p',hp',hcell⟩:=r.cells n _ ec;rw [hp] at hp';cases hp';generalize NI:put L' n (.ref n)=Lp at e;have JP:Lp.length=L'.length:=by rw [<- NI];exact uU
 unfold fin at e;split at e
 case isFalse=>cases e
 case isTrue ho =>
 have n0:L.length<=L'.length:=by have:=fy ec;omega
 cases ef:cg L.length Lp 9 (.lst xs) with
 | none=>rw [ef] at e;cases e
 | some t1=>?_
 rw [ef] at e;cases e;obtain⟨ys,rfl,JQ,So⟩:=CC ef;have JR:∀m c,m≠n->at_ Lp m=some c->at_ L' m=some c:=fun m c hm q=>by
  rw [<- NI] at q;rcases oY q with⟨z,_⟩|⟨_,z⟩
  ·exact absurd z hm
  ·exact z
 have Qd:∀c,at_ Lp n=some c->c=.ref n:=fun c q=>by
  rw [<- NI] at q;rcases oY q with⟨_,z⟩|⟨z,_⟩
  ·exact z
  ·exact absurd rfl z
 let nw:U9->Prop:=fun a=>∃m q,L.length<=m/\m≠n/\at_ g'.α m=some q/\(a=q.1\/a=q.2)
 let cU:G:={ g' with H:=fun a=>if nw a then (g'.H a).map fun q=>(true,q.2) else g'.H a,α:=p::g'.α.drop (g'.α.length - L.length) }
 have hH:∀a,cU.H a=if nw a then (g'.H a).map fun q=>(true,q.2) else g'.H a:=fun _=>rfl
 have dl:(g'.α.drop (g'.α.length - L.length)).length=L.length:=by rw [Vg,r.len];omega
 have dL:(Lp.drop (Lp.length - L.length)).length=L.length:=by rw [Vg,JP];omega
 have hα:∀m,m<L.length->at_ cU.α m=at_ g'.α m:=fun m hm=>by
  have:at_ (p::g'.α.drop (g'.α.length - L.length)) m=at_ (g'.α.drop (g'.α.length - L.length)) m:=if_neg (by rw [dl];omega)
  exact this.trans (jA hm (by rw [r.len];exact n0))
 have NJ:at_ cU.α L.length=some p:=by
  have:at_ (p::g'.α.drop (g'.α.length - L.length)) (g'.α.drop (g'.α.length - L.length)).length=some p:=eW
  rw [dl] at this;exact this
 have Gy:∀a o,g'.H a=some (true,o)->cU.H a=some (true,o):=fun a o q=>by
  rw [hH];split
  ·rw [q];rfl
  ·exact q
 have nM:∀a o,g'.kn true a o->cU.kn true a o:=fun a o q=>q.elim (fun q=>.inl (Gy a o q)) .inr
 have tw:∀m p b o,L.length<=m->m≠n->at_ g'.α m=some p->(b=p.1\/b=p.2)->g'.kn false b o->cU.kn true b o:=fun m p b o hm hne hp hb q=>by
  rcases q with q|⟨z,_⟩
  ·refine .inl ?_
   rw [hH,if_pos ⟨m,p,hm,hne,hp,hb⟩,q];rfl
  ·cases z
 have hr:∀m p,m<L.length->at_ g'.α m=some p->at_ cU.α m=some p:=fun m p hm hp=>(hα m hm).trans hp
 have xY:∀m p,m<L.length\/m=n->at_ g'.α m=some p->¬ nw p.1/\¬ nw p.2:=fun m p hm hp=>by
  refine⟨?_,?_⟩ <;>
  ·rintro⟨m',q,hm',hne,hq,hb⟩
   have ap:=r.apart m m' p q hp hq (by omega);rcases hb with hb|hb
   ·first|exact ap.1 hb|exact ap.2.2.1 hb
   ·first|exact ap.2.1 hb|exact ap.2.2.2 hb
 have DV:∀m p b o,m<L.length\/m=n->at_ g'.α m=some p->(b=p.1\/b=p.2)->g'.kn false b o->cU.kn false b o:=fun m p b o hm hp hb hk=>by
  have no:=xY m p hm hp;rcases hk with hk|⟨z,_⟩
  ·refine .inl ?_
   rw [hH,if_neg (by rcases hb with hb|hb <;> rw [hb];exact no.1;exact no.2)];exact hk
  ·cases z
 have hc:∀m c,L.length<=m->at_ Lp m=some c->(∀k,cg L.length Lp k c=none)\/∃p,at_ g'.α m=some p/\RT g' (some p) c (.ref p.1)/\∀b o,(b=p.1\/b=p.2)->g'.kn false b o->cU.kn true b o:=fun m c hm q=>by
  by_cases z:m=n
  ·subst z
   rw [Qd c q];exact .inl (rL hn Qd)
  ·obtain⟨p1,q1,q2⟩:=r.cells m c (JR m c z q)
   exact .inr ⟨p1,q1,q2,fun b o hb=>tw m p1 b o hm z q1 hb⟩
 have top:RT cU (some p) (.lst ys) (.ref p.1):=by
  cases hcell with
  | lst ht hk hz hl hi =>
   have hk':=DV n p _ _ (.inr rfl) hp (.inl rfl) hk;refine .lst ht hk' (by rw [<- JQ];exact hz) (by rw [<- JQ];exact hl) fun i y v q1 q2=>?_
   obtain⟨x,x1,x2⟩:=So i y q1;exact gx hr nM hc rfl rfl _ (hi i x v x1 q2) (fun q z=>by cases z) x2
 have NK:∀m c,m<L.length->at_ (Lp.drop (Lp.length - L.length)) m=some c->∃p,at_ cU.α m=some p/\RT cU (some p) c (.ref p.1):=fun m c hm q=>by
  have q':at_ L' m=some c:=JR m c (by omega) ((jA hm (by rw [JP];exact n0)).symm.trans q)
  obtain⟨p1,h1,h2⟩:=r.cells m c q';have bJ:M.lt L.length c=true:=by
   rcases ho m c q with z|z
   ·obtain⟨p0,_,z2⟩:=r0.cells m c z
    rw [<- r0.len];exact z2.lt
   ·exact z
  refine⟨p1,hr m p1 hm h1,h2.re hr nM rfl rfl bJ (fun z=>by cases z) fun a d b o ht hb hk=>⟨ht,?_⟩⟩;rcases ht with z|z
  ·cases z
  ·cases z
   exact DV m _ b o (.inl hm) h1 hb hk
 have zG:∀m q,at_ cU.α m=some q->∃m',at_ g'.α m'=some q/\((m<L.length/\m'=m)\/(m=L.length/\m'=n)):=fun m q z=>by
  have hm:m<L.length+1:=by have:=fy z;have:m<(p::g'.α.drop (g'.α.length - L.length)).length:=this;rw [UA,dl] at this;exact this
  by_cases zz:m=L.length
  ·subst zz;rw [NJ] at z;cases z;exact⟨n,hp,.inr ⟨rfl,rfl⟩⟩
  ·have hm:m<L.length:=by omega
   exact⟨m,(hα m hm).symm.trans z,.inl ⟨hm,rfl⟩⟩
 refine⟨cU,⟨fun a o q=>Gy a o (l.f a o q),fun m p q=>hr m p (by rw [<- r0.len];exact fy q) (l.α m p q),l.B,l.m,l.w⟩,⟨?_,fun m c q=>?_,fun m m' q q' h1 h2 hne=>?_,fun m q z=>?_⟩,.ref NJ,fun a b o q=>?_,fun a q=>?_,Gy⟩
 ·show(p::g'.α.drop _).length=_
  rw [UA,UA,dl,dL]
 ·unfold at_ at q
  split at q
  ·rename_i em
   cases q;rw [dL] at em;subst em;exact⟨p,NJ,top⟩
  ·exact NK m c (by have:=fy q;rw [dL] at this;exact this) q
 ·obtain⟨a,a1,a2⟩:=zG m q h1
  obtain⟨b,b1,b2⟩:=zG m' q' h2;exact r.apart a b q q' a1 b1 (by omega)
 ·obtain⟨a,a1,a2⟩:=zG m q z
  obtain⟨⟨o1,h1⟩,o2,h2⟩:=r.live a q a1;have no:=xY a q (by omega) a1
  exact⟨⟨o1,by rw [hH,if_neg no.1];exact h1⟩,o2,by rw [hH,if_neg no.2];exact h2⟩
 ·rw [hH] at q
  split at q
  ·obtain⟨z,z1,z2⟩:=UI.mp q
   cases z2;exact⟨z.1,z1⟩
  ·exact⟨b,q⟩
 ·rw [hH,q];split <;> rfl
section
variable {P:VI} {w:WE} {K:U3} {mg:Str->Option Ux} {cls:Str->Option U9} {base:Heap} {N ps:List Str} {qual:Str} {scope:Scope} {f:U9} {g:G} {L:aa}
theorem Gz {k:Nat} {name:Str} {params:Arguments} {body:List Stmt} {dV kV doc pm gz ct oc:Ux} {an od:Option U9} {sR:Array (Option Ux)} {mb:SS} (lk:K.lookup f=some ⟨oc,od,.func (Wo name qual params body scope dV kV doc pm an gz ct),sR⟩) (hcd:Xa K gz qual=true) (S:lO N ps scope)
  (yc:∀us:List Ux,us.length=ps.length->bindArgs (Wo name qual params body scope dV kV doc pm an gz ct) ⟨us,[]⟩=pure (ps.zip us))
  (jB:∀(A:Vq) (s:UB) (H:Hp),fq k (A.deeper (envOfC qual scope s.heap.objs.size f gz))->xG (x7 P w K mg cls base N qual scope f gz A s H) body mb) :
  fu P w K mg cls base (k+1) f (Ca ps.length N.length mb):=fun {A s g L L' us xs t} hr e0 r nN=>by
 unfold Ca at nN;split at nN
 ·rename_i hl
  have ME:us.length=ps.length:=by rw [<- US r];exact hl
  have KX:K.In s.heap:=e0.mod.HX.keeps fun b o e=>(e0.bs b o e).1
  have lim:s.heap.NoLimit:=e0.mod.nolimit.keeps fun b o e=>(e0.bs b o e).1
  have hkind:∀y∈ps.zip us,scope.names.lookup y.1=some .local\/(scope.names.lookup y.1=some .cell/\((cellsFrom (s.heap.objs.size+1) scope.names []).lookup y.1).isSome=true):=fun⟨n,v⟩ hy=>by
   rcases S.par n (Xl hy).1 with q|q
   ·exact .inl q
   ·exact .inr ⟨q,X9 _ _ _ (.inl q)⟩
  refine codeAny_call_function hr.depth (KX _ _ lk) rfl S.co S.gen rfl (aak KX hcd) (BindsTo.of_eq (yc us ME) _ _ _ _ ?_);refine wpAny_newFunctionEnv_cells S.kind hkind fun env he s1 x=>?_
  subst he;refine⟨lim.keeps x.toInCall.keep,codeAny_func ?_⟩;have I:=oo (A:=A) (cd:=gz) S hr.hd e0 hl r x
  have nb:mb (xs.map some++Va (N.length - ps.length) none) L≠.bad:=fun z=>by rw [z] at nN;cases nN
  refine wpAny_mono (jB A s g.H (hr.deeper _) I nb) (fun fl s' ⟨g',l,hs⟩=>?_) fun e s' hs=>hs.elim
  cases eb:mb (xs.map some++Va (N.length - ps.length) none) L with
  | rt t0 L1 =>
   rw [eb] at hs nN;cases fl <;> first|exact hs.elim|skip
   obtain⟨⟨φ',J⟩,rt⟩:=hs;obtain⟨g2,l2,r2,h2,a,b,c⟩:=CD l e0.rel J.rel rt nN;exact⟨g2,J.os,J.bare,⟨J.base.keep,fun x o q n z=>b x (J.base.free x o q n z),fun x o q=>c x o (J.base.cg x o q)⟩,fun x y o q=>let ⟨_,z⟩:=a x y o q;J.hok x _ o z,l2,r2,h2⟩
  | _=>rw [eb] at nN;cases nN
 ·cases nN
end
noncomputable def gJ (s:Stmt):Arguments:=match s with
 | .FunctionDef _ a ..=>a
 | _=>⟨[],[],none,[],[],none,[]⟩
noncomputable def bodyOf (s:Stmt):List Stmt:=match s with
 | .FunctionDef _ _ b ..=>b
 | _=>[]
noncomputable def gf (s:Stmt):Scope:=match s with
 | .FunctionDef _ _ _ _ _ _ sc ..=>sc
 | _=>⟨.function,[],false,false,[]⟩
noncomputable def JS:NameKind->Bool
 | .local=>true
 | .cell=>true
 | _=>false
noncomputable def zH (ps:List Str) (sc:Scope):List Str:=ps++((sc.names.filter fun y=>JS y.2).map (·.1)).filter fun y=>!ps.contains y
noncomputable def zI (ps:List Str) (sc:Scope):Bool:=(match sc.kind with
  | .function=>true
  | _=>false) && !sc.isCoroutine && !sc.isGenerator && decide (zH ps sc).Nodup && (ps.all fun x=>match sc.names.lookup x with
  | some k=>JS k
  | none=>false) && (sc.names.all fun y=>match y.2 with
  | .free=>false
  | _=>true) && (zH ps sc).all yQ
structure uj (K:U3) (x qual:Str) (st:Stmt) (f:U9):Prop where
 ex:∃(oc:Ux) (od:Option U9) (kV doc pm:Ux) (an:Option U9) (gz ct:Ux) (sR:Array (Option Ux)),K.lookup f=some ⟨oc,od,.func (Wo x qual (gJ st) (bodyOf st) (gf st) .none kV doc pm an gz ct),sR⟩/\Xa K gz qual=true
 kp:VL K (.ref f)=true
structure Tab (P:VI) (w:WE) (K:U3) (mg:Str->Option Ux) (cls:Str->Option U9) (base:Heap) (n:Nat) (Γ:Ct):Prop where
 fn:∀x F,Γ.fn.lookup x=some F->(x == ("__debug__":Str))=false/\∃fa,fu P w K mg cls base n fa F/\mg x=some (.ref fa)/\VL K (.ref fa)=true
 co:∀x t,Γ.co.lookup x=some t->(x == ("__debug__":Str))=false/\∃u,mg x=some u/\∀g:G,g.B=base->g.cls=cls->g.w=w->RT g none t u
 us:∀x∈Γ.us,mg x=none/\x≠"__name__"/\(x == ("__debug__":Str))=false
 fl:∀c C,cls c=some C->ClsOk K Γ.fl C
 me:∀m mf,Γ.me.lookup m=some mf->∀c C F,cls c=some C->mf.lookup c=some F->∃fa,BC K C/\Meth K C m fa/\fu P w K mg cls base n fa F
noncomputable def Ct.w4 (Γ:Ct) (x:Str) (F:Fn):Ct:={ Γ with fn:=(x,F)::Γ.fn }
noncomputable def Ct.zJ (Γ:Ct) (m c:Str) (F:Fn):Ct:={ Γ with me:=(m,(c,F)::(Γ.me.lookup m).getD [])::Γ.me }
section
variable {P:VI} {w:WE} {K:U3} {mg:Str->Option Ux} {cls:Str->Option U9} {base:Heap} {n:Nat} {Γ:Ct} {x qual:Str} {st:Stmt} {f:U9} {ps:List Str} {m F:Fn}
theorem fu.mono {j k:Nat} (h:fu P w K mg cls base j f m) (l:j<=k):fu P w K mg cls base k f m:=fun {_ _ _ _ _ _ _ _} hr e r q=>h (hr.mono l) e r q
theorem Tab.ct {X:Cx} (T:Tab P w K mg cls base n Γ) (h:X.prog=P/\X.w=w/\X.K=K/\X.mg=mg/\X.cls=cls/\X.base=base) (hr:fq n X.A):dZ X Γ:=by
 obtain⟨rfl,rfl,rfl,rfl,rfl,rfl⟩:=h;refine⟨?_,fun x F q=>?_,T.co,T.us,T.fl,fun m mf q c C F hc hF=>?_⟩
 ·have:=hr.un;omega
 ·obtain⟨h1,fa,h2,h3,h4⟩:=T.fn x F q
  exact⟨h1,n,fa,h2,hr,h3,h4⟩
 ·obtain⟨fa,h1,h2,h3⟩:=T.me m mf q c C F hc hF
  exact⟨fa,n,h1,h2,h3,hr⟩
theorem vK (h:zI ps sc=true):lO (zH ps sc) ps sc/\(zH ps sc).all yQ=true:=by
 unfold zI at h;simp only [UC] at h;obtain⟨⟨⟨⟨⟨⟨h1,h2⟩,h3⟩,h4⟩,h5⟩,h6⟩,h7⟩:=h;refine⟨⟨?_,by simpa using h2,by simpa using h3,of_decide_eq_true h4,by simp [zH],fun x hx=>?_,fun y hy e=>?_⟩,h7⟩
 ·split at h1
  ·assumption
  ·cases h1
 ·have:=Uu.mp h5 x hx
  cases e:sc.names.lookup x with
  | none=>rw [e] at this;cases this
  | some k =>
   rw [e] at this;cases k <;> first|exact .inl rfl|exact .inr rfl|cases this
 ·have:=Uu.mp h6 y hy
  rw [e] at this;cases this
noncomputable def Dn (rn:Nat->Nat->SS->Fn) (Γ:Ct) (ps:List Str) (st:Stmt) (m:Fn):Prop:=zI ps (gf st)=true/\rn ps.length (zH ps (gf st)).length (code Γ ⟨zH ps (gf st),gf st⟩ (bodyOf st))=m
theorem Tab.NL (T:Tab P w K mg cls base n Γ) (F:uj K x qual st f)
  (e:Dn run Γ ps st m)
  (hb:∀(kV doc pm:Ux) (an:Option U9) (gz ct:Ux) (us:List Ux),us.length=ps.length->bindArgs (Wo x qual (gJ st) (bodyOf st) (gf st) .none kV doc pm an gz ct) ⟨us,[]⟩=pure (ps.zip us)):fu P w K mg cls base (n+1) f m:=by
 obtain⟨ok,e⟩:=e;subst e;obtain⟨oc,od,kV,doc,pm,an,gz,ct,sR,l,c⟩:=F.ex;obtain⟨S,nm⟩:=vK ok;refine IW l c S (hb kV doc pm an gz ct) fun A s H hr=>vJ (T.ct ⟨rfl,rfl,rfl,rfl,rfl,rfl⟩ hr) ⟨rfl,S.nd,nm,fun _ h=>h,fun _ h=>⟨h,rfl⟩,fun x h=>absurd rfl (S.tJ (x,.free) (Vh h)),fun _ h=>h⟩ _
theorem Tab.JT (T:Tab P w K mg cls base n Γ) (F:uj K x qual st f)
  (e:Dn Ca Γ ps st m)
  (hb:∀(kV doc pm:Ux) (an:Option U9) (gz ct:Ux) (us:List Ux),us.length=ps.length->bindArgs (Wo x qual (gJ st) (bodyOf st) (gf st) .none kV doc pm an gz ct) ⟨us,[]⟩=pure (ps.zip us)):fu P w K mg cls base (n+1) f m:=by
 obtain⟨ok,e⟩:=e;subst e;obtain⟨oc,od,kV,doc,pm,an,gz,ct,sR,l,c⟩:=F.ex;obtain⟨S,nm⟩:=vK ok;refine Gz l c S (hb kV doc pm an gz ct) fun A s H hr=>vJ (T.ct ⟨rfl,rfl,rfl,rfl,rfl,rfl⟩ hr) ⟨rfl,S.nd,nm,fun _ h=>h,fun _ h=>⟨h,rfl⟩,fun x h=>absurd rfl (S.tJ (x,.free) (Vh h)),fun _ h=>h⟩ _
theorem Tab.add (T:Tab P w K mg cls base n Γ) (hF:fu P w K mg cls base (n+1) f m) (hm:mg x=some (.ref f)) (hk:VL K (.ref f)=true) (hd:(x == ("__debug__":Str))=false):Tab P w K mg cls base (n+1) (Γ.w4 x m):=by
 refine⟨fun y F q=>?_,T.co,T.us,T.fl,fun m mf q c C F hc hF=>let ⟨fa,h1,h2,h3⟩:=T.me m mf q c C F hc hF;⟨fa,h1,h2,h3.mono (WC n)⟩⟩;have z:Zq y ((x,m)::Γ.fn)=some F:=q
 clear q;rw [U0] at z;split at z
 ·rename_i e
  have:=eq_of_beq e;subst this;cases z;exact⟨hd,f,hF,hm,hk⟩
 ·obtain⟨h1,fa,h2,h3⟩:=T.fn y F z
  exact⟨h1,fa,h2.mono (WC n),h3⟩
theorem Tab.zJ {c y:Str} {C:U9} (T:Tab P w K mg cls base n Γ) (hF:fu P w K mg cls base (n+1) f m) (hc:cls c=some C) (h1:BC K C) (h2:Meth K C y f):Tab P w K mg cls base (n+1) (Γ.zJ y c m):=by
 refine⟨fun y F q=>let ⟨h1,fa,h2,h3⟩:=T.fn y F q;⟨h1,fa,h2.mono (WC n),h3⟩,T.co,T.us,T.fl,fun y' mf q c' C' F hc' hF'=>?_⟩;have z:Zq y' ((y,(c,m)::(Γ.me.lookup y).getD [])::Γ.me)=some mf:=q
 clear q;have old:∀mf,Γ.me.lookup y'=some mf->mf.lookup c'=some F->∃fa,BC K C'/\Meth K C' y' fa/\fu P w K mg cls base (n+1) fa F:=fun mf q z =>
  let ⟨fa,h1,h2,h3⟩:=T.me y' mf q c' C' F hc' z;⟨fa,h1,h2,h3.mono (WC n)⟩
 rw [U0] at z;split at z
 ·rename_i e
  have:=eq_of_beq e;subst this;cases z;rw [U0] at hF';split at hF'
  ·rename_i e2
   have:=eq_of_beq e2;subst this;cases hF';rw [hc] at hc';cases hc';exact⟨f,h1,h2,hF⟩
  ·cases eo:Γ.me.lookup y' with
   | none=>rw [eo] at hF';cases hF'
   | some mf=>rw [eo] at hF';exact old mf eo hF'
 ·exact old mf z hF'
theorem rM:∀{g:G} {vs:List Ux} {ns:List Int},IntsAre vs ns->cE g (ns.map T.int) vs
 | _,_,_,.nil=>.nil
 | _,_,_,.cons n t h=>.cons (.int n t) (rM h)
theorem zK {mb:Str->Option Ux} {k:Nat} {fa a:U9} {s₁:UB} {vs:List Ux} {ns:List Int}
  (KX:K.In s₁.heap) (DW:s₁.heap.Ns Vo mg) (hb:s₁.heap.Ns builtinsNs mb) (Sp:∀x:Str,x≠"__name__"->mb x=bootBuiltins x) (NM:s₁.heap.NoLimit) (hg:s₁.gens = #[])
  (ha:s₁.heap.get? a=some { cls:=.type "list",data:=.seq vs.toArray }) (hi:IntsAre vs ns) (hl:ns.length<=U1) (hr:fq k callerA)
  (hF:fu P w K mg cls s₁.heap k fa m) (hm:∃L',m [.lst (ns.map .int)] []=.ok (.bl true) L') :
  codeAny (model P w) callerA (.call (.ref fa) ⟨[.ref a],[]⟩) (fun r s'=>r=.ok (.ret (.bool true))/\OldK s₁.heap s'.heap/\s'.os=s₁.os/\AllBare s'.gens) s₁:=by
 obtain⟨L',hm⟩:=hm
 let g:G:=⟨fun _=>none,[],s₁.heap,cls,w⟩
 have r:cE g [.lst (ns.map T.int)] [.ref a]:=.cons ((rM hi).lst (o:=default) (Le.refl g) (.inl rfl) (.inr ⟨rfl,ha⟩) (by simpa using hl)) .nil;have e0:wC P w K mg cls s₁.heap s₁ g []:=⟨⟨KX,DW,⟨mb,hb,Sp⟩,NM⟩,fun b o e=>⟨e,rfl⟩,UM _,fun a b o z=>(by cases z),.of_eq hg,⟨rfl,fun n c z=>(by cases z),fun n m p q z=>(by cases z),fun n p z=>(by cases z)⟩,rfl,rfl,rfl⟩
 refine codeAny_mono (hF hr e0 r hm) fun r s' h=>?_
 cases r with
 | error e=>exact Y9 h
 | ok fl =>
  cases fl with
  | ret u =>
   obtain⟨g',os,bare,un,hok,l,rel,rt⟩:=h;cases rt;exact⟨rfl,OldK.of_keep fun b o e=>un.keep b o e rfl (by simp),os,bare⟩
  | _=>exact Y9 h
end
end M
namespace Qe
open PySem PySem.W PySem.Calls PyProof.Rows
theorem lC {P:Params} {h:Heap}:∀(ns:List Int) (vs:List Ux),WellAll P h vs (ns.map WData.int)->IntsAre vs ns:=by
 intro ns;induction ns with
 | nil =>
  intro vs w;rw [Vz] at w;cases w;exact .nil
 | cons n ns ih =>
  intro vs w;rw [UG] at w;cases w with
  | cons a b =>
   cases a;exact .cons _ _ (ih _ b)
theorem w5 {l:OpenLaw} {n:Nat} (hn:l.most=some n) {P:Params} {h:Heap} {args:List WData} {vals:List Ux}
  (hpre:l.row.toRowW.claim.pre args=true) (hwl:WellAll P h vals args) :
  ∃a vs ns,vals=[Ws a]/\args=[WData.list (ns.map WData.int)]/\h.get? a=some { cls:=.type "list",data:=.seq vs.toArray }/\IntsAre vs ns/\ns.length<=n:=by
 have Sr:WShape.hasAll [] args [.list .int]=true:=(pre_splitW hpre).1;have hc:l.pre.holds [] { args:=args }=true:=(pre_splitW hpre).2
 obtain⟨d,r,rfl,h1,h2⟩:=hasAllW_cons Sr;obtain rfl:=hasAllW_nil h2;obtain⟨xs,rfl,h3⟩:=hasW_list h1;obtain⟨ns,rfl⟩:=items_int h3;have hlen:ns.length<=n:=by
  unfold OpenLaw.pre at hc;have h4:(WTm.not (.lt (.lit (.int (n:Int))) (.len (.arg 0)))).holds [] { args:=[.list (ns.map .int)] }=true:=by
   have h4:=(holds_andW hc).1;rw [hn] at h4;exact h4
  have h5:=condW_of h4 (w_not (w_lt w_lit (w_len_list (w_arg rfl))));rw [Lm9] at h5;refine Nat.le_of_not_lt fun q=>?_
  have q':(n:Int)<((ns.length:Nat):Int):=by omega
  first
   | (rw [decide_eq_true q'] at h5;exact absurd h5 (by decide))
   | (simp at h5;omega)
 cases hwl with
 | cons w1 w2 =>
  cases w2;cases w1 with
  | list ho hall=>exact⟨_,_,ns,rfl,rfl,ho,lC ns _ hall,hlen⟩
theorem w6 (l:OpenLaw) (args:List WData):l.row.toRowW.claim.post args (.bool true) args=true :=
 postW_of (r:=l.row.toRowW) (X:=(true == true))
  (show WShape.has [] (.bool true) .bool=true by first|rfl|decide|simp [WShape.has,WShape.arms,WShape.armsAll])
  (show(WTm.eq .res (.lit (.bool true))).value [] { args:=args,res:=some (.bool true),after:=args }=some (.bool (true == true)) from w_eq_bool (w_res rfl) w_lit) rfl
theorem rN {l:OpenLaw} {n:Nat} {q:VI} {loose:List Str} {XP:(Str->Option Ux)->Heap->Prop} {YP:WE->Heap->Prop} {d:DefRec}
  (hn:l.most=some n) (NN:d.params.defaults=[])
  (call:∀(w:WE) (s₀ s₁:UB) (mg mb:Str->Option Ux) (fa:U9) (o:Obj) (pm cd doc:Ux) (a:U9) (vs:List Ux) (ns:List Int),
   Ground q loose [] XP w s₀ mg mb s₁.heap->YP w s₁.heap ->
   s₁.heap.get? fa=some o->o.data=.func (docDef d.name d.params d.body d.scope pm cd doc)->s₁.heap.CodeRec cd d.name->mg d.name=some (.ref fa) ->
   s₁.heap.get? a=some { cls:=.type "list",data:=.seq vs.toArray }->IntsAre vs ns->ns.length<=n->s₁.gens = #[] ->
   codeAny (model l.prog w) callerA (.call (.ref fa) ⟨[.ref a],[]⟩) (fun r s'=>r=.ok (.ret (.bool true))/\OldK s₁.heap s'.heap/\s'.os=s₁.os/\AllBare s'.gens) s₁) :
  WalkO q loose XP YP l.row.toRowW d [] (fun f vs=>PySem.call f vs):=by
 intro w s₀ s₁ mg mb G Y fa o pm cd doc dV kV ho hd hcd hD hmg hg args vals as hpre hlay hrd hwl hlo;obtain rfl:dV=.none:=Dflts.none hD NN;obtain rfl:kV=.none:=Dflts.noKw hD;obtain⟨a,vs,ns,rfl,rfl,GA,hints,hlen⟩:=w5 hn hpre hwl;refine enter_call (codeAny_mono (call w s₀ s₁ mg mb fa o pm cd doc a vs ns G Y ho (fd_plain hd) hcd hmg GA hints hlen hg) fun r s' hq=>?_);obtain⟨rfl,h2,h3,h4⟩:=hq;exact⟨.inl ⟨.bool true,.bool true,[],rfl,fun _=>rfl,.bool true,w6 l _,fun _=>⟨Zn,fun _ hm=>(nomatch hm)⟩⟩,h2,h3,h4⟩
end Qe
namespace M
open PySem PySem.Spec PyProof.Rows
theorem CF {l:PySem.W.OpenLaw} {n k:Nat} {q:VI} {loose:List Str} {XP:(Str->Option Ux)->Heap->Prop} {YP:WE->Heap->Prop} {d:DefRec} {K:Params->U3} {m:Fn}
  (hn:l.most=some n) (wA:n<=U1) (NN:d.params.defaults=[]) (hr:fq k callerA) (hY:∀(w:WE) (h:Heap),YP w h->(K w.params).In h)
  (F:∀(w:WE) (mg:Str->Option Ux) (fa:U9) (h:Heap),(K w.params).In h->h.Ns Vo mg->mg d.name=some (.ref fa)->∃cls,∀base:Heap,(K w.params).In base->base.Ns Vo mg->fu l.prog w (K w.params) mg cls base k fa m)
  (hm:∀ns:List Int,ns.length<=n->∃L',m [.lst (ns.map .int)] []=.ok (.bl true) L'):PySem.W.WalkO q loose XP YP l.row.toRowW d [] (fun f vs=>PySem.call f vs):=by
 refine Qe.rN hn NN fun w s₀ s₁ mg mb fa o pm cd doc a vs ns G Y ho hd hcd hmg GA hints hlen hg=>?_
 have KX:=hY w _ Y;obtain⟨cls,hF⟩:=F w mg fa _ KX G.T.g hmg;exact zK KX G.T.g G.T.b G.T.builtins G.T.nolimit hg GA hints (UW hlen wA) hr (hF _ KX G.T.g) (hm ns hlen)
theorem um {K:U3} {x qual:Str} {st:Stmt} {f:U9} {oc:Ux} {od an:Option U9} {sR:Array (Option Ux)} {kV doc pm gz ct:Ux} (l:K.lookup f=some ⟨oc,od,.func (Wo x qual (gJ st) (bodyOf st) (gf st) .none kV doc pm an gz ct),sR⟩)
  (c:Xa K gz qual=true) (k:VL K (.ref f)=true):uj K x qual st f:=⟨⟨oc,od,kV,doc,pm,an,gz,ct,sR,l,c⟩,k⟩
noncomputable def NO (K:U3) (x:Str) (st:Stmt) (f:U9):Prop:=VN K Vo x=some (some (.ref f))/\uj K x x st f
theorem b0 {Pr:List Ux->Prop} (h:Pr []):∀us:List Ux,us.length=0->Pr us:=fun us e=>by cases us;exact h;cases e
theorem bC {n:Nat} {Pr:List Ux->Prop} (h:∀q us,us.length=n->Pr (q::us)):∀us:List Ux,us.length=n+1->Pr us:=fun us e=>by
 cases us
 ·cases e
 ·exact h _ _ (Nat.succ.inj e)
section
variable {P:VI} {w:WE} {K:U3} {mg:Str->Option Ux} {cls:Str->Option U9} {base h:Heap} {n:Nat} {Γ:Ct} {x:Str} {st:Stmt} {f:U9} {m:Fn}
theorem Tab.mono (T:Tab P w K mg cls base n Γ):Tab P w K mg cls base (n+1) Γ :=
 ⟨fun y F q=>let ⟨h1,fa,h2,h3⟩:=T.fn y F q;⟨h1,fa,h2.mono (WC n),h3⟩,T.co,T.us,T.fl,fun m mf q c C F hc hF=>let ⟨fa,h1,h2,h3⟩:=T.me m mf q c C F hc hF;⟨fa,h1,h2,h3.mono (WC n)⟩⟩
theorem Tab.Ss {cn:Str} {C:U9} (T:Tab P w K mg cls base n Γ) (hF:fu P w K mg cls base (n+1) f m) (Q:Mk K C f) (hc:cls cn=some C) (hm:mg cn=some (.ref C)) (hd:(cn == ("__debug__":Str))=false):Tab P w K mg cls base (n+2) (Γ.w4 cn (make cn m)) :=
 T.mono.add (IX Q hF hc) hm Q.kp hd
end
noncomputable def AllP {α:Type} (p:α->Prop):List α->Prop
 | []=>True
 | a::r=>p a/\AllP p r
theorem AllP.of {α:Type} {p:α->Prop}:∀{l:List α},AllP p l->∀a∈l,p a
 | _::_,h,a,m=>by
  rcases UN.mp m with rfl|m
  ·exact h.1
  ·exact AllP.of h.2 a m
noncomputable def tp (B:List Stmt) (i:Nat):Stmt:=B.getD i (.Pass ⟨0,0,0,0⟩)
noncomputable def xr (s:Stmt) (j:Nat):Stmt:=match s with
 | .ClassDef _ _ _ b ..=>b.getD j (.Pass ⟨0,0,0,0⟩)
 | _=>s
noncomputable def p7 (s:Stmt):List Str:=(gJ s).args.map (·.arg)
mutual
noncomputable def xt (K:U3):T->Ux->Prop
 | .bl b,u=>u=.bool b
 | .int i,u=>∃t,u=.int i t
 | .str s,u=>s.length<=U1/\∃t,u=.str ⟨s.toArray⟩ t
 | .tup xs,u=>∃a us n s,u=.ref a/\K.lookup a=some ⟨.type "tuple",none,.seq us n,s⟩/\xs.length<=U1/\fQ K xs us.toList
 | _,_=>False
noncomputable def fQ (K:U3):List T->List Ux->Prop
 | [],us=>us=[]
 | x::xs,us=>∃v vs,us=v::vs/\xt K x v/\fQ K xs vs
end
mutual
theorem xt.rt {K:U3} {g:G} (KB:K.In g.B):∀(t:T) (u:Ux),xt K t u->RT g none t u
 | .bl b,u,h=>(show u=.bool b from h) ▸ .bl b
 | .int i,u,h=>by obtain⟨t,rfl⟩:∃t,u=.int i t:=h;exact .int i t
 | .str s,u,h=>by obtain⟨h,t,rfl⟩:s.length<=U1/\∃t,u=.str ⟨s.toArray⟩ t:=h;exact .str s t h
 | .tup xs,u,h=>by
  obtain⟨a,us,n,s,rfl,l,hz,r⟩:∃a us n s,u=.ref a/\K.lookup a=some ⟨.type "tuple",none,.seq us n,s⟩/\xs.length<=U1/\fQ K xs us.toList:=h;exact cE.tup (us:=us.toList) (n:=n) (fQ.rt KB xs _ r) (.refl _) (.inr ⟨rfl,KB _ _ l⟩) ⟨rfl,rfl⟩ (by simp) hz
 | .bZ,_,h=>(show False from h).elim
 | .cl _,_,h=>(show False from h).elim
 | .ref _,_,h=>(show False from h).elim
 | .lst _,_,h=>(show False from h).elim
 | .aP _,_,h=>(show False from h).elim
 | .obj _ _,_,h=>(show False from h).elim
theorem fQ.rt {K:U3} {g:G} (KB:K.In g.B):∀(xs:List T) (us:List Ux),fQ K xs us->cE g xs us
 | [],us,h=>(show us=[] from h) ▸ .nil
 | x::xs,us,h=>by
  obtain⟨v,vs,rfl,h1,h2⟩:∃v vs,us=v::vs/\xt K x v/\fQ K xs vs:=h;exact .cons (xt.rt KB x v h1) (fQ.rt KB xs vs h2)
end
inductive Df
 | f (b:Bool) (x:Str) (k i:Nat) (m:Fn)
 | mt (c y q:Str) (k i j:Nat) (m:Fn)
 | mk (c q:Str) (k i j:Nat) (m:Fn)
def Qf:Bool->Nat->Nat->SS->Fn
 | true=>Ca
 | false=>run
noncomputable def BA (k:Nat) (x q:Str) (st:Stmt):Prop:=∀(kV doc pm:Ux) (an:Option U9) (gz ct:Ux) (us:List Ux),us.length=k->bindArgs (Wo x q (gJ st) (bodyOf st) (gf st) .none kV doc pm an gz ct) ⟨us,[]⟩=pure ((p7 st).zip us)
structure GB (b:Bool) (k:Nat) (Γ:Ct) (x q:Str) (st:Stmt) (m:Fn):Prop where
 d:(zI (p7 st) (gf st) && (p7 st).length == k && !(x == ("__debug__":Str)))=true
 e:Qf b k (zH (p7 st) (gf st)).length (code Γ ⟨zH (p7 st) (gf st),gf st⟩ (bodyOf st))=m
 a:BA k x q st
noncomputable def Df.ok (B:List Stmt) (Γ:Ct):Df->Prop
 | .f b x k i m=>GB b k Γ x x (tp B i) m
 | .mt _ y q k i j m=>GB false k Γ y q (xr (tp B i) j) m
 | .mk c q k i j m=>GB false k Γ "__init__" q (xr (tp B i) j) m/\(c == ("__debug__":Str))=false
def Df.add (Γ:Ct):Df->Ct
 | .f _ x _ _ m=>Γ.w4 x m
 | .mt c y _ _ _ _ m=>Γ.zJ y c m
 | .mk c _ _ _ _ m=>Γ.w4 c (make c m)
noncomputable def Df.n:Df->Nat
 | .mk ..=>2
 | _=>1
def adds:Ct->List Df->Ct
 | Γ,[]=>Γ
 | Γ,d::ds=>adds (d.add Γ) ds
noncomputable def dep:List Df->Nat
 | []=>0
 | d::ds=>d.n+dep ds
noncomputable def zL (B:List Stmt):Ct->List Df->Prop
 | _,[]=>True
 | Γ,d::ds=>d.ok B Γ/\zL B (d.add Γ) ds
noncomputable def DX (B:List Stmt) (K:U3) (cn:List Str):Df->Prop
 | .f _ x _ i _=>∃f,NO K x (tp B i) f
 | .mt c y q _ i j _=>cn.contains c=true/\∃C f,VN K Vo c=some (some (.ref C))/\VD K (.ref C) y=some (some (.ref f))/\XX K (.ref f)=true/\uj K y q (xr (tp B i) j) f
 | .mk c q _ i j _=>cn.contains c=true/\∃C f,VN K Vo c=some (some (.ref C))/\VD K (.ref C) "__init__"=some (some (.ref f))/\XX K (.ref f)=true/\uj K "__init__" q (xr (tp B i) j) f
noncomputable def GC (K:U3) (p:Str × T):Prop:=∃u,VN K Vo p.1=some (some u)/\xt K p.2 u
noncomputable def NP (K:U3) (x:Str):Prop:=VN K Vo x=some none
noncomputable def CG (K:U3) (fl:List Str) (c:Str):Prop:=∃C,VN K Vo c=some (some (.ref C))/\BC K C/\YC K C=true/\VL K (.ref C)=true/\AllP (je K C) fl
noncomputable def rO (K:U3) (cn:List Str) (c:Str):Option U9:=match cn.contains c,VN K Vo c with
 | true,some (some (.ref C))=>some C
 | _,_=>none
theorem vL {K:U3} {cn:List Str} {c:Str} {C:U9} (h:cn.contains c=true) (e:VN K Vo c=some (some (.ref C))):rO K cn c=some C:=by
 unfold rO;rw [h,e]
theorem zM {K:U3} {cn:List Str} {c:Str} {C:U9} (h:rO K cn c=some C):c∈cn/\VN K Vo c=some (some (.ref C)):=by
 unfold rO at h;split at h
 ·rename_i h1 h2
  cases h;exact⟨by simpa using h1,h2⟩
 ·cases h
section
variable {P:VI} {w:WE} {K:U3} {mg:Str->Option Ux} {base h:Heap} {B:List Stmt} {cn fl:List Str}
theorem GB.fn {cls:Str->Option U9} {n k:Nat} {Γ:Ct} {x q:Str} {st:Stmt} {f:U9} {m:Fn} {b:Bool} (D:GB b k Γ x q st m) (T:Tab P w K mg cls base n Γ) (F:uj K x q st f):fu P w K mg cls base (n+1) f m/\(x == ("__debug__":Str))=false:=by
 obtain⟨d,e,a⟩:=D;simp only [UC,beq_iff_eq,Zp] at d;obtain⟨⟨d,rfl⟩,d2⟩:=d;refine⟨?_,d2⟩;cases b with
 | true=>exact T.JT F ⟨d,e⟩ a
 | false=>exact T.NL F ⟨d,e⟩ a
theorem Tab.all (X:K.In h) (G:h.Ns Vo mg) (hc:AllP (CG K fl) cn):∀(ds:List Df) {n:Nat} {Γ:Ct},Tab P w K mg (rO K cn) base n Γ->zL B Γ ds->AllP (DX B K cn) ds->Tab P w K mg (rO K cn) base (n+dep ds) (adds Γ ds)
 | [],_,_,T,_,_=>by exact T
 | .f b x k i m::ds,n,Γ,T,o,p=>by
  obtain⟨⟨f,F⟩,p⟩:=p;obtain⟨h1,h2⟩:=o.1.fn T F.2;have:=Tab.all X G hc ds (T.add h1 (aao X G F.1) F.2.kp h2) o.2 p
  rw [Xu] at this;exact this
 | .mt c y q k i j m::ds,n,Γ,T,o,p=>by
  obtain⟨⟨hm,C,f,e,fi,is,F⟩,p⟩:=p;obtain⟨C',e',ck,mk,kc,_⟩:=hc.of c (by simpa using hm);rw [e] at e';cases e';have:=Tab.all X G hc ds (T.zJ (o.1.fn T F).1 (vL hm e) ck ⟨fi,is,F.kp⟩) o.2 p
  rw [Xu] at this;exact this
 | .mk c q k i j m::ds,n,Γ,T,o,p=>by
  obtain⟨⟨hm,C,f,e,fi,is,F⟩,p⟩:=p;obtain⟨C',e',ck,mk,kc,_⟩:=hc.of c (by simpa using hm);rw [e] at e';cases e';have:=Tab.all X G hc ds (T.Ss (o.1.1.fn T F).1 ⟨mk,fi,is,kc⟩ (vL hm e) (aao X G e) o.1.2) o.2 p
  rw [Xu] at this;exact this
theorem GD {fa:U9} (B:List Stmt) (Γ:Ct) (cn:List Str) (ds:List Df) {k:Nat} {m:Fn} (X:K.In h) (G:h.Ns Vo mg) (Su:mg "law"=some (.ref fa)) (o:zL B Γ ds) (hk:dep ds=k) (hm:(adds Γ ds).fn.lookup ("law":Str)=some m) (h0:Γ.fn=[]/\Γ.me=[])
  (hd:((Γ.co.all fun p=>!(p.1 == ("__debug__":Str))) && Γ.us.all fun x=>!(x == ("__debug__":Str)) && !(x == ("__name__":Str)))=true)
  (c1:AllP (GC K) Γ.co) (c2:AllP (NP K) Γ.us) (c3:AllP (CG K Γ.fl) cn) (c4:AllP (DX B K cn) ds):∃cls,∀base:Heap,K.In base->base.Ns Vo mg->fu P w K mg cls base k fa m:=by
 refine⟨rO K cn,fun base KB _=>?_⟩;simp only [UC,Uu,Zp] at hd;have T0:Tab P w K mg (rO K cn) base 0 Γ:=by
  refine⟨fun x F q=>by(rw [h0.1] at q;cases q),fun x t q=>?_,fun x hx=>⟨PySem.W.mg_none_of X G (c2.of x hx),fun z=>?_,(hd.2 x hx).1⟩,fun c C e=>?_,fun y mf q=>by(rw [h0.2] at q;cases q)⟩
  ·have hm:=Vh q
   obtain⟨u,h1,h2⟩:=c1.of _ hm;exact⟨hd.1 _ hm,u,aao X G h1,fun g hB _ _=>h2.rt (by rw [hB];exact KB)⟩
  ·have:=(hd.2 x hx).2;rw [z] at this;exact absurd this (by decide)
  ·obtain⟨h1,h2⟩:=zM e
   obtain⟨C',e',ck,_,_,na⟩:=c3.of c h1;rw [h2] at e';cases e';exact⟨ck,na.of⟩
 have T:=Tab.all X G c3 ds T0 o c4;rw [Nat.zero_add,hk] at T;obtain⟨_,Ui,h1,h2,_⟩:=T.fn _ _ hm;rw [Su] at h2;cases h2;exact fun {_ _ _ _ _ _ _ _} a b c d=>h1 a b c d
theorem JU {α:Type} {p:α->Prop}:AllP p []:=trivial
theorem NQ {Γ:Ct}:zL B Γ []:=trivial
theorem NS {x:Str} {l:List Str} (h:VN K Vo x=some none) (r:AllP (NP K) l):AllP (NP K) (x::l):=⟨h,r⟩
theorem NT {C:U9} {x:Str} {l:List Str} (h:VD K (.ref C) x=some none) (r:AllP (je K C) l):AllP (je K C) (x::l):=⟨h,r⟩
theorem NU {x:Str} {C:U9} {l:List Str} (h:VN K Vo x=some (some (.ref C))) (pg:XN K C Str.empty=true) (hd:Yd K C=true) (po:Y8 K C=true) (sa:VD K (.ref C) "__setattr__"=some (some (.builtin "object.__setattr__"))) (mk:YC K C=true) (kc:VL K (.ref C)=true) (na:AllP (je K C) fl) (r:AllP (CG K fl) l):AllP (CG K fl) (x::l):=⟨⟨C,h,⟨pg,hd,po,sa⟩,mk,kc,na⟩,r⟩
theorem NV {x:Str} {b:Bool} {k i:Nat} {m:Fn} {ds:List Df} {f:U9} {oc:Ux} {od an:Option U9} {sR:Array (Option Ux)} {kV doc pm gz ct:Ux} (n:VN K Vo x=some (some (.ref f))) (l:K.lookup f=some ⟨oc,od,.func (Wo x x (gJ (tp B i)) (bodyOf (tp B i)) (gf (tp B i)) .none kV doc pm an gz ct),sR⟩)
  (c:Xa K gz x=true) (kp:VL K (.ref f)=true) (r:AllP (DX B K cn) ds):AllP (DX B K cn) (.f b x k i m::ds):=⟨⟨f,n,um l c kp⟩,r⟩
theorem JV {cl y q:Str} {k i j:Nat} {m:Fn} {ds:List Df} {C f:U9} {oc:Ux} {od an:Option U9} {sR:Array (Option Ux)} {kV doc pm gz ct:Ux} (n:VN K Vo cl=some (some (.ref C))) (fi:VD K (.ref C) y=some (some (.ref f))) (is:XX K (.ref f)=true) (l:K.lookup f=some ⟨oc,od,.func (Wo y q (gJ (xr (tp B i) j)) (bodyOf (xr (tp B i) j)) (gf (xr (tp B i) j)) .none kV doc pm an gz ct),sR⟩)
  (c:Xa K gz q=true) (kp:VL K (.ref f)=true) (hc:cn.contains cl=true) (r:AllP (DX B K cn) ds):AllP (DX B K cn) (.mt cl y q k i j m::ds):=⟨⟨hc,C,f,n,fi,is,um l c kp⟩,r⟩
theorem JW {cl q:Str} {k i j:Nat} {m:Fn} {ds:List Df} {C f:U9} {oc:Ux} {od an:Option U9} {sR:Array (Option Ux)} {kV doc pm gz ct:Ux} (n:VN K Vo cl=some (some (.ref C))) (fi:VD K (.ref C) "__init__"=some (some (.ref f))) (is:XX K (.ref f)=true) (l:K.lookup f=some ⟨oc,od,.func (Wo "__init__" q (gJ (xr (tp B i) j)) (bodyOf (xr (tp B i) j)) (gf (xr (tp B i) j)) .none kV doc pm an gz ct),sR⟩)
  (c:Xa K gz q=true) (kp:VL K (.ref f)=true) (hc:cn.contains cl=true) (r:AllP (DX B K cn) ds):AllP (DX B K cn) (.mk cl q k i j m::ds):=⟨⟨hc,C,f,n,fi,is,um l c kp⟩,r⟩
theorem w7 {Γ:Ct} {b:Bool} {x:Str} {k i:Nat} {m:Fn} {ds:List Df} (r:zL B (Γ.w4 x m) ds) (d:(zI (p7 (tp B i)) (gf (tp B i)) && (p7 (tp B i)).length == k && !(x == ("__debug__":Str)))=true:=by decide +kernel) (e:Qf b k (zH (p7 (tp B i)) (gf (tp B i))).length (code Γ ⟨zH (p7 (tp B i)) (gf (tp B i)),gf (tp B i)⟩ (bodyOf (tp B i)))=m:=by kernel_rfl) (a:BA k x x (tp B i):=by intro _ _ _ _ _ _;(repeat refine bC fun _=>?_);exact b0 (by kernel_rfl)):zL B Γ (.f b x k i m::ds):=⟨⟨d,e,a⟩,r⟩
theorem JX {Γ:Ct} {c y q:Str} {k i j:Nat} {m:Fn} {ds:List Df} (r:zL B (Γ.zJ y c m) ds) (D:GB false k Γ y q (xr (tp B i) j) m:=by exact⟨by decide +kernel,by kernel_rfl,by intro _ _ _ _ _ _;(repeat refine bC fun _=>?_);exact b0 (by kernel_rfl)⟩):zL B Γ (.mt c y q k i j m::ds):=⟨D,r⟩
theorem JY {Γ:Ct} {c q:Str} {k i j:Nat} {m:Fn} {ds:List Df} (r:zL B (Γ.w4 c (make c m)) ds) (D:GB false k Γ "__init__" q (xr (tp B i) j) m:=by exact⟨by decide +kernel,by kernel_rfl,by intro _ _ _ _ _ _;(repeat refine bC fun _=>?_);exact b0 (by kernel_rfl)⟩) (h:(c == ("__debug__":Str))=false:=by decide):zL B Γ (.mk c q k i j m::ds):=⟨⟨D,h⟩,r⟩
theorem zN {x:Str} {s:Cs} {t:Tok} {l:List (Str × T)} (h:VN K Vo x=some (some (.str ⟨s.toArray⟩ t))) (z:s.length<=U1) (r:AllP (GC K) l):AllP (GC K) ((x,.str s)::l):=⟨⟨_,h,by rw [xt];exact⟨z,t,rfl⟩⟩,r⟩
theorem NW {x:Str} {i:Int} {t:Tok} {l:List (Str × T)} (h:VN K Vo x=some (some (.int i t))) (r:AllP (GC K) l):AllP (GC K) ((x,.int i)::l):=⟨⟨_,h,by rw [xt];exact⟨t,rfl⟩⟩,r⟩
theorem CH {x:Str} {xs:List T} {a:U9} {us:Array Ux} {n:Nat} {s:Array (Option Ux)} {l:List (Str × T)} (h:VN K Vo x=some (some (.ref a))) (e:K.lookup a=some ⟨.type "tuple",none,.seq us n,s⟩) (z:xs.length<=U1) (q:fQ K xs us.toList) (r:AllP (GC K) l):AllP (GC K) ((x,.tup xs)::l):=⟨⟨_,h,by rw [xt];exact⟨a,us,n,s,rfl,e,z,q⟩⟩,r⟩
theorem uo:fQ K [] []:=by rw [fQ]
theorem lD {s:Cs} {t:Tok} {xs:List T} {vs:List Ux} (z:s.length<=U1) (q:fQ K xs vs):fQ K (.str s::xs) (.str ⟨s.toArray⟩ t::vs):=by rw [fQ];exact⟨_,_,rfl,by rw [xt];exact⟨z,t,rfl⟩,q⟩
theorem NY {b:Bool} {xs:List T} {vs:List Ux} (q:fQ K xs vs):fQ K (.bl b::xs) (.bool b::vs):=by rw [fQ];exact⟨_,_,rfl,by rw [xt],q⟩
theorem GF {ys:List T} {a:U9} {us:Array Ux} {n:Nat} {s:Array (Option Ux)} {xs:List T} {vs:List Ux} (e:K.lookup a=some ⟨.type "tuple",none,.seq us n,s⟩) (z:ys.length<=U1) (p:fQ K ys us.toList) (q:fQ K xs vs):fQ K (.tup ys::xs) (.ref a::vs):=by rw [fQ];exact⟨_,_,rfl,by rw [xt];exact⟨a,us,n,s,rfl,e,z,p⟩,q⟩
end
end M
namespace M
open PySem
theorem fin_same {L:aa} {t:T} (h:lt L.length t=true):fin L t L=.ok t L:=by
 unfold fin;rw [if_pos (show old L (L.drop (L.length - L.length)) from fun n c e=>.inl (by simpa using e))];simp only [Nat.sub_self,Z9];unfold cg;rw [if_pos h];rfl
theorem aH {α β:Type} (a:α) (L:aa) (f:α->aa->R β):(R.ok a L).bind f=f a L:=rfl
theorem of_ok {α:Type} (a:α) (L:aa) (f:α->aa->O):O.of (.ok a L) f=f a L:=rfl
theorem vM (φ:Fr) (L:aa) (f:Fr->aa->O):(O.nx φ L).next f=f φ L:=Eq.trans rfl rfl
theorem CI (t:T) (L:aa) (f:Fr->aa->O):(O.rt t L).next f=.rt t L:=rfl
theorem eT (t:T) (L:aa):lift (some t) L=.ok t L:=rfl
theorem GG {α β:Type} (f:α->β) (a:α) (L:aa):R.map f (.ok a L)=.ok (f a) L:=rfl
theorem aQ {α:Type} {c:Prop} [Decidable c] {r:R α} (h:c):cb c r=r:=if_pos h
theorem zO {L:aa} {b:Bool}:fin L (.bl b) L=.ok (.bl b) L:=fin_same (by simp [lt])
theorem CJ {L:aa} {b:Int}:fin L (.int b) L=.ok (.int b) L:=fin_same (by simp [lt])
theorem CK {L:aa} {b:Cs}:fin L (.str b) L=.ok (.str b) L:=fin_same (by simp [lt])
theorem CL {L:aa}:fin L .bZ L=.ok .bZ L:=fin_same (by simp [lt])
theorem dB {xs:List T} {i:Nat} {x:T} {L:aa} (h:xs[i]?=some x):ix (.lst xs) (.int i) L=.ok x L:=by
 obtain⟨hi,e⟩:=UO.mp h;simp [ix,vw,place,hi,e,lift]
theorem GH {α:Type} {b:Bool} {x y:α} {L:aa}:(if b=true then R.ok x L else R.ok y L)=R.ok (if b=true then x else y) L:=by cases b <;> rfl
theorem Ie (i:Nat) (φ:Fr) (L:aa):v i φ L=((lift ((φ[i]?).join) L):R T):=rfl
theorem Qg (x:T) (φ:Fr) (L:aa):c x φ L=((.ok x L):R T):=rfl
theorem NZ (a:SE) (f:T->aa->R T) (φ:Fr) (L:aa):b1 a f φ L=(((a φ L).bind f):R T):=rfl
theorem JZ (a b:SE) (f:T->T->aa->R T) (φ:Fr) (L:aa):b2 a b f φ L=(((a φ L).bind fun x L1=>(b φ L1).bind fun y L2=>f x y L2):R T):=rfl
theorem GI (op n6:CmpOp) (a b d:SE) (φ:Fr) (L:aa):wo op n6 a b d φ L=(((a φ L).bind fun x L1=>(b φ L1).bind fun y L2=>(Bh op x y L2).bind fun k L3=>if k=true then (d φ L3).bind fun z L4=>cmp n6 y z L4 else .ok (.bl false) L3):R T):=rfl
theorem N1 (a:SE) (φ:Fr) (L:aa):tv a φ L=(((a φ L).bind fun x L1=>match x with
 | .bl b=>.ok b L1
 | _=>.bad):R Bool):=rfl
theorem GJ (a b:ST) (φ:Fr) (L:aa):Bi a b φ L=(((a φ L).bind fun x L1=>if x=true then b φ L1 else .ok false L1):R Bool):=rfl
theorem Ka (a b:ST) (φ:Fr) (L:aa):LL a b φ L=(((a φ L).bind fun x L1=>if x=true then .ok true L1 else b φ L1):R Bool):=rfl
theorem GK (a:ST) (φ:Fr) (L:aa):d9 a φ L=(((a φ L).map (!·)):R Bool):=rfl
theorem GL (a b:SE) (φ:Fr) (L:aa):Bj a b φ L=(((tv a φ L).bind fun x L1=>if x=true then b φ L1 else .ok (.bl false) L1):R T):=rfl
theorem Kb (a b:SE) (φ:Fr) (L:aa):LM a b φ L=(((tv a φ L).bind fun x L1=>if x=true then .ok (.bl true) L1 else b φ L1):R T):=rfl
theorem GN (a:SE) (φ:Fr) (L:aa):mc a φ L=(((tv a φ L).map fun b=>.bl (!b)):R T):=rfl
theorem Kc (φ:Fr) (L:aa):yes  φ L=((.ok true L):R Bool):=rfl
theorem Ke (k:ST) (a b:SE) (φ:Fr) (L:aa):Mo k a b φ L=(((k φ L).bind fun x L1=>if x=true then a φ L1 else b φ L1):R T):=rfl
theorem DY (ms:List SE) (φ:Fr) (L:aa):tup ms φ L=(((iA ms φ L).bind fun ts L1=>.ok (.tup ts) L1):R T):=rfl
theorem Kf (fz:Bool) (ms:List SE) (φ:Fr) (L:aa):lst fz ms φ L=(((iA ms φ L).bind fun ts L1=>fo fz ts L1):R T):=rfl
theorem GO (fz:Bool) (φ:Fr) (L:aa):wq fz φ L=((mk fz (.aP []) L):R T):=rfl
theorem N2 (fz:Bool) (a:SE) (lo hi:Option SE) (φ:Fr) (L:aa):sl fz a lo hi φ L=(((a φ L).bind fun x L1=>(Es lo φ L1).bind fun i L2=>(Es hi φ L2).bind fun j L3=>i9 fz x i j L3):R T):=rfl
theorem zP (f:Fn) (ms:List SE) (φ:Fr) (L:aa):ae f ms φ L=(((iA ms φ L).bind f):R T):=rfl
theorem zQ (a:SE) (φ:Fr) (L:aa):src a φ L=(((a φ L).bind fun x L1=>match items x L1 with
 | some xs=>.ok (xs,stays x L1) L1
 | none=>.bad):R (List T × (aa->Prop))):=rfl
theorem Qh (a b:SE) (φ:Fr) (L:aa):xA a b φ L=(((a φ L).bind fun x L1=>(b φ L1).bind fun y L2=>match x,y with
 | .int i,.int j=>cb (s9 i/\s9 j) (.ok (upTo i (j - i).toNat,fun _=>True) L2)
 | _,_=>.bad):R (List T × (aa->Prop))):=rfl
theorem Kg (a:SE) (φ:Fr) (L:aa):LN a φ L=(((a φ L).bind fun x L1=>match vw L1 x with
 | .lst xs=>.ok (num 0 xs,stays x L1) L1
 | _=>.bad):R (List T × (aa->Prop))):=rfl
theorem GP (a b:SE) (φ:Fr) (L:aa):Mp a b φ L=(((src a φ L).bind fun p L1=>(src b φ L1).bind fun q L2=>.ok (zp p.1 q.1,fun L'=>p.2 L'/\q.2 L') L2):R (List T × (aa->Prop))):=rfl
theorem GQ (a:SE) (φ:Fr) (L:aa):Mq a φ L=(((a φ L).bind fun x L1=>match vw L1 x with
 | .aP ks=>.ok (br ks,stays x L1) L1
 | _=>.bad):R (List T × (aa->Prop))):=rfl
theorem GR (φ:Fr) (L:aa):pass  φ L=((.nx φ L):O):=rfl
theorem Kh (φ:Fr) (L:aa):brk  φ L=((.bk φ L):O):=rfl
theorem Ki (φ:Fr) (L:aa):cnt  φ L=((.ct φ L):O):=rfl
theorem Kj (φ:Fr) (L:aa):fW  φ L=((.bad):O):=rfl
theorem zR (tg:Tg) (m:SE) (φ:Fr) (L:aa):asg tg m φ L=((O.of (m φ L) fun t L1=>match tg.set t φ with
 | some φ1=>.nx φ1 L1
 | none=>.bad):O):=rfl
theorem Kk (m:SE) (φ:Fr) (L:aa):fX m φ L=((O.of (m φ L) fun _ L1=>.nx φ L1):O):=rfl
theorem zS (m:SE) (φ:Fr) (L:aa):ret m φ L=((O.of (m φ L) fun t L1=>.rt t L1):O):=rfl
theorem Kl (k:ST) (a b:SS) (φ:Fr) (L:aa):iff k a b φ L=((O.of (k φ L) fun x L1=>if x=true then a φ L1 else b φ L1):O):=rfl
theorem Km (op:Operator) (i:Nat) (m:SE) (φ:Fr) (L:aa):aug op i m φ L=((O.of (b2 (v i) m (ag op) φ L) fun t L1=>.nx (φ.set i (some t)) L1):O):=rfl
theorem GS (o:SE) (f:Str) (m:SE) (φ:Fr) (L:aa):ja o f m φ L=((O.of (m φ L) fun t L1=>O.of (o φ L1) fun x L2=>match ta f x t L2 with
 | some L3=>.nx φ L3
 | none=>.bad):O):=rfl
theorem GU (o i m:SE) (φ:Fr) (L:aa):qJ o i m φ L=((O.of (m φ L) fun t L1=>O.of (o φ L1) fun x L2=>O.of (i φ L2) fun y L3=>match jr x y t L3 with
 | some L4=>.nx φ L4
 | none=>.bad):O):=rfl
theorem GV (op:Operator) (o i m:SE) (φ:Fr) (L:aa):xB op o i m φ L=((O.of (o φ L) fun x L1=>O.of (i φ L1) fun y L2=>O.of (Iz x y L2) fun z L3=>O.of (m φ L3) fun t L4=>O.of (ag op z t L4) fun r L5=>match jr x y r L5 with
 | some L6=>.nx φ L6
 | none=>.bad):O):=rfl
theorem zT (s:SI) (tg:Tg) (b:SS) (φ:Fr) (L:aa):bQ s tg b φ L=((O.of (s φ L) fun u L1=>forL u.2 tg b u.1 φ L1):O):=rfl
theorem lh (np nn:Nat) (b:SS) (xs:List T) (L:aa):run np nn b xs L=(if xs.length=np then match b (xs.map some++Va (nn - np) none) L with
  | .rt t L'=>fin L t L'
  | .nx _ L'=>fin L .bZ L'
  | _=>.bad
 else .bad):=rfl
theorem ur (φ:Fr) (L:aa):ab [] φ L=.nx φ L:=rfl
theorem ku (s:SS) (r:List SS) (φ:Fr) (L:aa):ab (s::r) φ L=(s φ L).next (ab r):=rfl
theorem CM (a:SE) (φ:Fr) (L:aa):kq [a] φ L=a φ L:=rfl
theorem CN (a b:SE) (r:List SE) (φ:Fr) (L:aa):kq (a::b::r) φ L=Bj a (kq (b::r)) φ L:=rfl
theorem GW (a:SE) (φ:Fr) (L:aa):Bf [a] φ L=a φ L:=rfl
theorem GX (a b:SE) (r:List SE) (φ:Fr) (L:aa):Bf (a::b::r) φ L=LM a (Bf (b::r)) φ L:=rfl
theorem CO (a:ST) (φ:Fr) (L:aa):jI [a] φ L=a φ L:=rfl
theorem CP (a b:ST) (r:List ST) (φ:Fr) (L:aa):jI (a::b::r) φ L=Bi a (jI (b::r)) φ L:=rfl
theorem GY (a:ST) (φ:Fr) (L:aa):vz [a] φ L=a φ L:=rfl
theorem GZ (a b:ST) (r:List ST) (φ:Fr) (L:aa):vz (a::b::r) φ L=LL a (vz (b::r)) φ L:=rfl
theorem mU (φ:Fr) (L:aa):iA [] φ L=.ok [] L:=rfl
theorem mV (m:SE) (ms:List SE) (φ:Fr) (L:aa):iA (m::ms) φ L=((m φ L).bind fun t L1=>(iA ms φ L1).bind fun ts L2=>.ok (t::ts) L2):=rfl
theorem G3 (φ:Fr) (L:aa):Es none φ L=.ok none L:=rfl
theorem G4 (m:SE) (φ:Fr) (L:aa):Es (some m) φ L=((m φ L).bind fun t L1=>match t with
  | .int i=>.ok (some i) L1
  | _=>.bad):=rfl
theorem G5 (f:Ty->Option (T->Fn)) (a:SE) (ms:List SE) (φ:Fr) (L:aa):aM f a ms φ L=((a φ L).bind fun x L1=>match (Dw L1 x).bind f with
 | some F=>(iA ms φ L1).bind fun ts L2=>F x ts L2
 | none=>.bad):=rfl
theorem mapM_map {α β:Type} {f:T->Option α} {g:β->T} {h:β->α} (hf:∀b,f (g b)=some (h b)):∀l:List β,(l.map g).mapM f=some (l.map h)
 | []=>rfl
 | b::l=>by rw [UG,Wy,hf,mapM_map hf l];rfl
theorem rP {L Ln:aa} {t:T} (h:lt L.length t=true):fin L t (Ln++L)=.ok t L:=by
 have e:(Ln++L).drop ((Ln++L).length - L.length)=L:=by
  rw [Ut,YW,Yk]
 unfold fin;rw [e,if_pos (show old L L from fun n c e=>.inl e)];unfold cg;rw [if_pos h];rfl
theorem uu {s:Cs} {i:Int} {L:aa} (h0:0<=i) (h1:i<s.length):ix (.str s) (.int i) L=.ok (.str [s.getD i.toNat 0]) L:=by
 have hi:i.toNat<s.length:=by omega
 simp [ix,vw,place,h0,h1,lift,Gd9,hi]
theorem vN {xs:List T} {i:Int} {x:T} {L:aa} (h0:0<=i) (h:xs[i.toNat]?=some x):ix (.lst xs) (.int i) L=.ok x L:=by
 obtain⟨hi,e⟩:=UO.mp h;have h1:i<xs.length:=by omega
 simp [ix,vw,place,h0,h1,hi,e,lift]
theorem G6 {sep:Cs} {zs:List Cs} {L:aa} (h:(zs.map (·.length)).sum+zs.length * sep.length<=16777216):kW (.str sep) [.lst (zs.map .str)] L=.ok (.str (jn sep zs)) L:=by
 have:=mapM_map (f:=HW) (g:=T.str) (h:=id) (fun _=>rfl) zs;simp [kW,items,vw,this,cb,h]
theorem CQ {x:T} {L:aa} (h:∀n,x≠.ref n) (L':aa):stays x L L':=fun n e=>absurd e (h n)
theorem ak {x:T} {L:aa}:stays x L L:=fun n e=>rfl
noncomputable def Sv:T->Bool
 | .ref _=>true
 | _=>false
theorem sv {x:T} {L L':aa} (h:Sv x=false:=by rfl):stays x L L':=fun n e=>by subst e;cases h
end M
namespace DZ
open PySem
abbrev uw:Str:="abcdefghijklmnopqrstuvwxyz"
abbrev p8:Str:="ABCDEFGHIJKLMNOPQRSTUVWXYZ"
abbrev N3:Str:="0123456789"
noncomputable def fw (c:Nat):Bool:=decide (c∈uw.cps.toList) || (decide (c∈p8.cps.toList) || decide (c∈N3.cps.toList))
noncomputable def dF (l:List Nat):Nat:=(l.takeWhile fw).length
noncomputable def au (p:List Nat):Bool:=decide (1<=p.length) && (decide (p.length<=12) && p.all fw)
end DZ
namespace Bk
open PySem DZ
abbrev Cs:=List Nat
theorem aN {s:Cs} (h:au s=true):1<=s.length/\s.length<=12:=by
 unfold au at h;simp only [UC,decide_eq_true_eq] at h;exact⟨h.1,h.2.1⟩
theorem D0 {s:Cs} (h:au s=true):∀c∈s,fw c=true:=by
 unfold au at h;simp only [UC,Uu] at h;exact h.2.2
structure Fc where
 k:Cs
 as:List Cs
structure Kd where
 n:Cs
 c:Nat
 l:Bool
structure Lk where
 same:Bool
 l:Cs
 r:Cs
structure Rl where
 title:Cs
 take:List Fc
 keep:List Fc
 aj:List Lk
 put:List Fc
 tell:List (Cs × Cs)
noncomputable def great (x:Cs):Bool:=decide (x.headD 0∈p8.cps.toList)
noncomputable def bW (p:Cs):Bool:=au p && decide (p.headD 0∈uw.cps.toList)
theorem bj {p:Cs} (h:bW p=true):au p=true:=by
 unfold bW at h;rw [UC] at h;exact h.1
noncomputable def eZ (x:Cs) (acc:List Cs):List Cs:=if great x=true then (if x∈acc then acc else acc++[x]) else acc
noncomputable def ij (l:List Cs) (acc:List Cs):List Cs:=l.foldl (fun acc x=>eZ x acc) acc
noncomputable def opens (fs:List Fc):List Cs:=ij (fs.flatMap (·.as)) []
theorem mW:∀(l:List Cs) {acc:List Cs} (x:Cs),x∈ij l acc↔x∈acc\/(x∈l/\great x=true)
 | [],acc,x=>by simp [ij]
 | n::ns,acc,x=>by
  show x∈ij ns (eZ n acc)↔_;rw [mW ns];have e:x∈eZ n acc↔x∈acc\/(x=n/\great x=true):=by
   unfold eZ;by_cases g:great n=true
   ·by_cases hm:n∈acc <;> simp only [g,hm,if_true,if_false,UH,UY]
    ·exact⟨.inl,fun z=>z.elim id fun z=>z.1 ▸ hm⟩
    ·exact or_congr_right ⟨fun z=>⟨z,z ▸ g⟩,And.left⟩
   ·rw [if_neg g]
    exact⟨.inl,fun z=>z.elim id fun z=>absurd (z.1 ▸ z.2) g⟩
  rw [e,UN,or_assoc,<- or_and_right]
theorem mX:∀(l acc:List Cs),acc.Nodup->(ij l acc).Nodup
 | [],_,h=>h
 | x::r,acc,h=>mX r _ (by
  show(eZ x acc).Nodup;unfold eZ;split
  ·split
   ·exact h
   ·rename_i hx
    exact Wd.mpr ⟨h,by simp,fun a ha b hb e=>hx (by rw [<- UY.mp hb,<- e];exact ha)⟩
  ·exact h)
theorem dP (fs:List Fc):(opens fs).Nodup:=mX _ _ Xb
theorem rQ (x:Cs) (acc:List Cs):(eZ x acc).length<=acc.length+1:=by unfold eZ;split <;> (try split) <;> simp
theorem iG (l acc:List Cs):(ij l acc).length<=acc.length+l.length:=by
 induction l generalizing acc with
 | nil=>simp [ij]
 | cons x l ih =>
  have h1:=ih (eZ x acc);have h2:=rQ x acc
  show(ij l (eZ x acc)).length<=_;rw [UA];omega
theorem gg {α β:Type} {g:α->List β} {B:Nat}:∀{l:List α},(∀x∈l,(g x).length<=B)->(l.flatMap g).length<=l.length * B
 | [],_=>by simp
 | a::r,h=>by
  have h1:=gg (l:=r) fun x hx=>h x (Uw _ hx)
  have h2:=h a Uv;rw [Yh,Ut,UA,aar];omega
theorem jM {fs:List Fc} {a:Cs} (h:a∈opens fs):(∃f∈fs,a∈f.as)/\great a=true:=by
 rcases(mW _ a).mp h with h|⟨h,g⟩
 ·cases h
 ·exact⟨XO.mp h,g⟩
theorem w8 {fs:List Fc} {a:Cs} {f:Fc} (hf:f∈fs) (ha:a∈f.as) (g:great a=true):a∈opens fs :=
 (mW _ a).mpr (.inr ⟨XO.mpr ⟨f,hf,ha⟩,g⟩)
inductive W (m:Cs):Cs->List Cs->Prop
 | nil:W m [] []
 | name {n:Cs} (h:au n=true):W m n [n]
 | sp {a b:Cs} {p q:List Cs} (x:W m a p) (y:W m b q):W m (a++32::b) (p++q)
 | mk {a b:Cs} {p q:List Cs} {c:Nat} (hc:c∈m) (x:W m a p) (y:W m b q):W m (a++c::b) (p++[c]::q)
theorem W.up {m m':Cs} (h:∀c∈m,c∈m') {t:Cs} {p:List Cs} (w:W m t p):W m' t p:=by
 induction w with
 | nil=>exact .nil
 | name h=>exact .name h
 | sp _ _ a b=>exact .sp a b
 | mk hc _ _ a b=>exact .mk (h _ hc) a b
theorem rR:fw 32=false:=by decide +kernel
theorem W.no {m:Cs} {c:Nat} (ha:fw c=false) (hm:c∉m) {t:Cs} {p:List Cs} (w:W m t p):[c]∉p/\(c≠32->c∉t):=by
 induction w with
 | nil=>simp
 | @name n h =>
  have z:c∉n:=fun z=>by rw [D0 h c z] at ha;cases ha
  exact⟨fun e=>z (by rw [<- UY.mp e];exact UY.mpr rfl),fun _=>z⟩
 | sp _ _ a b=>exact⟨fun z=>(UH.mp z).elim a.1 b.1,fun h z=>(UH.mp z).elim (a.2 h) fun z=>(UN.mp z).elim h (b.2 h)⟩
 | mk hc _ _ a b =>
  have n:∀{d},d∈m->c≠d:=fun h e=>hm (e ▸ h)
  exact⟨fun z=>(UH.mp z).elim a.1 fun z=>(UN.mp z).elim (fun e=>n hc (Ww e).1) b.1,fun h z=>(UH.mp z).elim (a.2 h) fun z=>(UN.mp z).elim (n hc) (b.2 h)⟩
inductive Tk (m:Cs):Cs->List Cs->Prop
 | nil:Tk m [] []
 | sp {r:Cs} {q:List Cs} (t:Tk m r q):Tk m (32::r) q
 | mk {c:Nat} {r:Cs} {q:List Cs} (hc:c∈m) (t:Tk m r q):Tk m (c::r) ([c]::q)
 | name {n r:Cs} {q:List Cs} (h:au n=true) (hs:∀c∈r.head?,fw c=false) (t:Tk m r q):Tk m (n++r) (n::q)
theorem W.tk {m:Cs} (hm:∀c∈m,fw c=false) {t:Cs} {p:List Cs} (w:W m t p):∀{r:Cs} {q:List Cs},(∀c∈r.head?,fw c=false)->Tk m r q->Tk m (t++r) (p++q):=by
 induction w with
 | nil=>exact fun _ h=>h
 | name h=>exact fun s t=>.name h s t
 | sp _ _ a b =>
  intro r q s t;rw [UU,UU];exact a (fun c h=>by cases h;exact rR) (.sp (b s t))
 | mk hc _ _ a b =>
  intro r q s t;rw [UU,UU];exact a (fun c h=>by cases h;exact hm _ hc) (.mk hc (b s t))
theorem Tk.len {m t:Cs} {p:List Cs} (w:Tk m t p):p.length<=t.length:=by
 induction w with
 | nil=>exact UM _
 | sp _ ih=>exact Nat.le_succ_of_le ih
 | mk _ _ ih=>exact ZG ih
 | name h _ _ ih =>
  have:=(aN h).1;rw [Ut,UA];omega
noncomputable def glue (m:Cs):List (List Cs)->List Cs
 | []=>[]
 | [q]=>q
 | q::r=>q++m::glue m r
theorem W.join {α:Type} {m:Cs} {c:Nat} (hc:c∈m) {tx:α->Cs} {tp:α->List Cs}:∀l:List α,(∀x∈l,W m (tx x) (tp x))->W m (M.jn [c,32] (l.map tx)) (glue [c] (l.map tp))
 | [],_=>.nil
 | [a],h=>h a Uv
 | a::b::r,h=>by
  have z:=W.mk hc (h a Uv) (.sp .nil (W.join hc (b::r) fun x hx=>h x (Uw _ hx)));show W m (tx a++[c,32]++M.jn [c,32] ((b::r).map tx)) _
  rw [UU];exact z
theorem ky {sep:Cs} {B:Nat}:∀{ls:List Cs},(∀l∈ls,l.length<=B)->(M.jn sep ls).length<=ls.length * (B+sep.length)
 | [],_=>Vc _
 | [a],h=>by
  have:=h a Uv;show a.length<=1 * _
  omega
 | a::b::r,h=>by
  have z:=ky (sep:=sep) (ls:=b::r) fun l hl=>h l (Uw _ hl)
  have:=h a Uv;show(a++sep++M.jn sep (b::r)).length<=((b::r).length+1) * _
  rw [Ut,Ut,aar];omega
abbrev cA:Cs:=[112,97,115,115,105,110,103]
abbrev cB:Cs:=[108,97,115,116,105,110,103]
abbrev gK:Cs:=[114,117,108,101]
abbrev G7:Cs:=[115,97,109,101]
abbrev zU:Cs:=[117,110,108,105,107,101]
noncomputable def wordAt:Nat->Cs
 | 0=>[116,97,107,101]
 | 1=>[107,101,101,112]
 | 2=>[108,111,111,107]
 | 3=>[112,117,116]
 | _=>[116,101,108,108]
theorem jh {i j:Nat} (hi:i<5) (hj:j<5) (h:wordAt i=wordAt j):i=j:=(by decide +kernel:∀i<5,∀j<5,wordAt i=wordAt j->i=j) i hi j hj h
theorem zV {n:Nat} (h:n<5):au (wordAt n)=true/\(wordAt n).length<=4:=(by decide +kernel:∀n<5,au (wordAt n)=true/\(wordAt n).length<=4) n h
noncomputable def between:List Cs->List Cs
 | []=>[]
 | [a]=>[a,[41]]
 | a::r=>a::[44]::between r
noncomputable def ik (g:Fc):Cs:=if g.as=[] then g.k else ((g.k++[40])++M.jn [44] g.as)++[41]
noncomputable def cY (g:Fc):List Cs:=if g.as=[] then [g.k] else g.k::[40]::between g.as
noncomputable def fA (b:Bool):Cs:=if b=true then G7 else zU
theorem zW (b:Bool):au (fA b)=true/\(fA b).length<=6:=by cases b <;> decide +kernel
noncomputable def mY (k:Lk):Cs:=k.l++32::(fA k.same++32::k.r)
noncomputable def iS (k:Lk):List Cs:=[k.l,fA k.same,k.r]
noncomputable def mZ (p:Cs × Cs):Cs:=p.1++32::61::32::p.2
noncomputable def iT (p:Cs × Cs):List Cs:=[p.1,[61],p.2]
noncomputable def aw (k:Kd):Cs:=(if k.l=true then cB else cA)++(32::(k.n++(32::[48+k.c])))
noncomputable def rS (k:Kd):List Cs:=[if k.l=true then cB else cA,k.n,[48+k.c]]
structure Im where
 tx:Cs
 tp:List Cs
 t:M.T
end Bk
namespace M
open PySem
open Bk (Fc Kd Lk Rl)
noncomputable def fT (f:Fc):T:=.tup [.str f.k,.tup (f.as.map .str)]
noncomputable def pT (p:Cs × Cs):T:=.tup [.str p.1,.str p.2]
noncomputable def lT (k:Lk):T:=.obj (if k.same=true then "Same" else "Unlike") [("left",.str k.l),("right",.str k.r)]
end M
namespace Bk
open PySem DZ
noncomputable def fI (f:Fc):Im:=⟨ik f,cY f,M.fT f⟩
noncomputable def lI (k:Lk):Im:=⟨mY k,iS k,M.lT k⟩
noncomputable def pI (p:Cs × Cs):Im:=⟨mZ p,iT p,M.pT p⟩
noncomputable def rows (r:Rl):List (Nat × List Im):=[(0,r.take.map fI),(1,r.keep.map fI),(2,r.aj.map lI),(3,r.put.map fI),(4,r.tell.map pI)]
noncomputable def ne (x:Nat × List Im):Bool:=!x.2.isEmpty
noncomputable def hO (r:Rl):List (Nat × List Im):=(rows r).filter ne
noncomputable def gW (x:Nat × List Im):Cs:=wordAt x.1++32::M.jn [44,32] (x.2.map (·.tx))
noncomputable def iU (x:Nat × List Im):List Cs:=wordAt x.1::glue [44] (x.2.map (·.tp))
noncomputable def oG (w:Cs) (m:List Cs):List Cs:=if m=[] then [] else [w++32::M.jn [44,32] m]
theorem rU:∀l:List (Nat × List Im),(l.flatMap fun x=>oG (wordAt x.1) (x.2.map (·.tx)))=(l.filter ne).map gW
 | []=>rfl
 | x::r=>by
  rw [Yh,rU r,List.filter_cons];obtain⟨n,l⟩:=x;cases l <;> rfl
noncomputable def cq (r:Rl):Cs:=gK++32::(r.title++58::32::M.jn [59,32] ((hO r).map gW))
noncomputable def fc (r:Rl):List Cs:=gK::r.title::[58]::glue [59] ((hO r).map iU)
structure FG (g:Fc):Prop where
 k:bW g.k=true
 as:∀a∈g.as,au a=true
 n:g.as.length<=4
noncomputable def Mc (m:Nat) (r:Rl):Prop:=r.take.length<=m/\r.keep.length<=m/\r.aj.length<=m/\r.put.length<=m/\r.tell.length<=m
noncomputable def aq (ks:List Kd):List Cs:=(ks.filter (·.l)).map (·.n)
noncomputable def aK (ks:List Kd) (f:Fc):Prop:=∃k∈ks,k.n=f.k/\f.as.length=k.c
noncomputable def fe (r:Rl):List Cs:=(r.aj.flatMap fun k=>[k.l,k.r])++((r.put.flatMap (·.as))++(r.tell.flatMap fun p=>[p.1,p.2]))
structure sW (ks:List Kd) (r:Rl):Prop where
 t:bW r.title=true
 f:∀g∈r.take++r.keep++r.put,FG g/\aK ks g
 l:∀k∈r.aj,au k.l=true/\au k.r=true
 p:∀p∈r.tell,au p.1=true/\au p.2=true
 hd:r.take=[]->r.keep≠[]
 pB:Mc 2 r
 takes:∀f∈r.take,f.k∉aq ks
 calls:r.take=[]->∀f∈r.put,f.k∈aq ks
 ux:∀a∈fe r,au a=true/\(great a=true->a∈opens (r.take++r.keep))
abbrev Me:Cs:=[40,41,44,61]
abbrev G8:Cs:=[40,41,44,58,59,61]
theorem W.Qi:∀{as:List Cs},as≠[]->(∀a∈as,au a=true)->W Me (M.jn [44] as++[41]) (between as)
 | [],h,_=>absurd rfl h
 | [a],_,h=>.mk (c:=41) (by decide) (.name (h a Uv)) .nil
 | a::b::r,_,h=>by
  have z:=W.mk (c:=44) (by decide) (.name (h a Uv)) (W.Qi (as:=b::r) (XQ _ _) fun x hx=>h x (Uw _ hx));show W Me (a++[44]++M.jn [44] (b::r)++[41]) _
  rw [UU,UU];exact z
noncomputable def rV (i:Im):Prop:=i.tx.length<=70/\W Me i.tx i.tp
theorem FG.im {g:Fc} (h:FG g):rV (fI g):=by
 have hk:=bj h.k;have h1:=(aN hk).2
 have h2:=ky (sep:=[44]) fun a ha=>(aN (h.as a ha)).2
 have h3:=h.n;unfold rV fI ik cY;by_cases e:g.as=[]
 ·rw [if_pos e,if_pos e]
  exact⟨UW h1 (by decide),.name hk⟩
 ·rw [if_neg e,if_neg e]
  refine⟨?_,?_⟩
  ·simp only [Ut,UA,U8] at h2 ⊢
   omega
  ·dsimp only
   rw [UU,UU];exact .mk (c:=40) (by decide) (.name hk) (W.Qi e h.as)
theorem vO {k:Lk} (h:au k.l=true/\au k.r=true):rV (lI k)/\[44]∉iS k:=by
 have w:∀m,W m (mY k) (iS k):=fun m=>.sp (.name h.1) (.sp (.name (zW _).1) (.name h.2))
 have h1:=(aN h.1).2;have h2:=(aN h.2).2
 have h3:=(zW k.same).2;refine⟨⟨?_,w _⟩,(W.no (m:=[]) (by decide +kernel) (by decide) (w _)).1⟩;unfold lI mY;simp only [Ut,UA];omega
theorem vP {k:Cs × Cs} (h:au k.1=true/\au k.2=true):rV (pI k)/\[44]∉iT k:=by
 have w:∀{m},61∈m->W m (mZ k) (iT k):=fun z=>.sp (.name h.1) (.mk z .nil (.sp .nil (.name h.2)))
 have h1:=(aN h.1).2;have h2:=(aN h.2).2
 refine⟨⟨?_,w (by decide)⟩,(W.no (m:=[61]) (by decide +kernel) (by decide) (w (by decide))).1⟩;unfold pI mZ;simp only [Ut,UA];omega
theorem CS {α:Type} {P:α->Prop} {a b c d e:α} (ha:P a) (hb:P b) (hc:P c) (hd:P d) (he:P e):∀x∈[a,b,c,d,e],P x:=by
 simp only [UN,Wh,or_false];rintro x (rfl|rfl|rfl|rfl|rfl) <;> assumption
section
variable {ks:List Kd} {r:Rl} (h:sW ks r)
include h
theorem sW.row:∀x∈rows r,x.1<5/\x.2.length<=2/\∀i∈x.2,rV i:=by
 obtain⟨f1,f2,f3,f4,f5⟩:=h.pB;have F:∀n<5,∀l:List Fc,l.length<=2->(∀g∈l,g∈r.take++r.keep++r.put)->n<5/\(l.map fI).length<=2/\∀i∈l.map fI,rV i:=fun n hn l hl hs=>⟨hn,by rwa [Lm9],fun i hi=>by
  obtain⟨g,hg,rfl⟩:=Uz.mp hi;exact(h.f g (hs g hg)).1.im⟩
 refine CS (F 0 (by decide) _ f1 fun g hg=>UD _ (UD _ hg)) (F 1 (by decide) _ f2 fun g hg=>UD _ (UK _ hg)) ⟨show 2<5 by decide,by rwa [Lm9],fun i hi=>?_⟩ (F 3 (by decide) _ f4 fun g hg=>UK _ hg) ⟨show 4<5 by decide,by rwa [Lm9],fun i hi=>?_⟩
 ·obtain⟨g,hg,rfl⟩:=Uz.mp hi
  exact(vO (h.l g hg)).1
 ·obtain⟨g,hg,rfl⟩:=Uz.mp hi
  exact(vP (h.p g hg)).1
theorem sW.part {x:Nat × List Im} (hx:x∈rows r):W Me (gW x) (iU x)/\(gW x).length<=150:=by
 obtain⟨h5,h2,hi⟩:=h.row x hx;refine⟨.sp (.name (zV h5).1) (W.join (by decide) _ fun i h=>(hi i h).2),?_⟩;have z:=ky (sep:=[44,32]) (ls:=x.2.map (·.tx)) (B:=70) fun l hl=>by
  obtain⟨i,h,rfl⟩:=Uz.mp hl;exact(hi i h).1
 have:=(zV h5).2;unfold gW;simp only [Ut,UA,Lm9,U8] at z ⊢;omega
theorem sW.parts:((hO r).map gW).length<=5/\∀l∈(hO r).map gW,l.length<=150:=by
 refine⟨by rw [Lm9];exact WQ _ _,fun l hl=>?_⟩;obtain⟨x,hx,rfl⟩:=Uz.mp hl;exact(h.part (U5.mp hx).1).2
theorem sW.line:W G8 (cq r) (fc r)/\(cq r).length<=800:=by
 refine⟨.sp (.name (n:=gK) (by decide +kernel)) (.mk (by decide) (.name (bj h.t)) (.sp .nil (W.join (by decide) _ fun x hx=>(h.part (U5.mp hx).1).1.up (by decide)))),?_⟩;have z:=ky (sep:=[59,32]) h.parts.2
 have:=h.parts.1;have:=(aN (bj h.t)).2
 unfold cq;simp only [Ut,UA,U8] at z ⊢;omega
end
structure KG (ks:List Kd):Prop where
 len:ks.length=4
 nd:(ks.map (·.n)).Nodup
 ok:∀k∈ks,bW k.n=true/\k.c<=4
 yes:∃k∈ks,k.l=true
 no:∃k∈ks,k.l=false
theorem kz {k:Kd} (h:bW k.n=true/\k.c<=4):W G8 (aw k) (rS k)/\(aw k).length<=800:=by
 have hw:au (if k.l=true then cB else cA)=true/\(if k.l=true then cB else cA).length=7:=by cases k.l <;> decide +kernel
 have:=(aN (bj h.1)).2;refine⟨.sp (.name hw.1) (.sp (.name (bj h.1)) (.name ((by decide +kernel:∀c≤4,au [48+c]=true) k.c h.2))),?_⟩;unfold aw;simp only [Ut,UA,U8,hw.2];omega
theorem jN (p:Cs):(M.toS p).cps.toList=p:=by simp [M.toS]
theorem Ko (x:Str):M.toS x.cps.toList=x:=by cases x;simp [M.toS]
noncomputable def lE:Cs->List Cs
 | []=>[[]]
 | c::r=>if c=10 then []::lE r else match lE r with
  | []=>[[c]]
  | q::qs=>(c::q)::qs
theorem rW:∀(a r:Cs),10∉a->lE (a++10::r)=a::lE r
 | [],r,_=>rfl
 | c::a,r,h=>by
  have hc:c≠10:=fun e=>h (by rw [e];exact Uv)
  show(if c=10 then []::lE (a++10::r) else match lE (a++10::r) with|[]=>[[c]]|q::qs=>(c::q)::qs)=_;rw [if_neg hc,rW a r fun z=>h (Uw _ z)]
theorem rY:∀(a:Cs),10∉a->lE a=[a]
 | [],_=>rfl
 | c::a,h=>by
  have hc:c≠10:=fun e=>h (by rw [e];exact Uv)
  show(if c=10 then []::lE a else match lE a with|[]=>[[c]]|q::qs=>(c::q)::qs)=_;rw [if_neg hc,rY a fun z=>h (Uw _ z)]
theorem kC:∀(ls:List Cs),ls≠[]->(∀l∈ls,10∉l)->lE (M.jn [10] ls)=ls
 | [],h,_=>absurd rfl h
 | [a],_,h=>rY a (h a Uv)
 | a::b::r,_,h=>by
  show lE (a++[10]++M.jn [10] (b::r))=_;rw [UU,Xs,rW a _ (h a Uv),kC (b::r) (XQ _ _) fun l hl=>h l (Uw _ hl)]
theorem rZ:∀(ls:List Str),(Str.join ⟨#[10]⟩ ls).cps.toList=M.jn [10] (ls.map fun s=>s.cps.toList)
 | []=>rfl
 | [a]=>rfl
 | a::b::r=>by
  show((a++(⟨#[10]⟩:Str))++Str.join ⟨#[10]⟩ (b::r)).cps.toList=_;rw [aah,aah,rZ (b::r)];rfl
theorem zX (x:Str):XG x ⟨#[10]⟩≠[]:=by
 unfold XG;split
 ·simp
 ·split
  ·simp
  ·intro h
   have e:=congrArg WR h;rw [PyProof.Rows.len_partsBetween] at e;simp at e
theorem r6 {ls:List Cs} (h0:ls≠[]) (h:∀l∈ls,10∉l):XG (M.toS (M.jn [10] ls)) (M.toS [10])=ls.map M.toS:=by
 have e1:=StrLaws.join_split (M.toS (M.jn [10] ls)) ⟨#[10]⟩;have hf:=StrLaws.split_free (M.toS (M.jn [10] ls)) 10
 have hn:=zX (M.toS (M.jn [10] ls));show XG (M.toS (M.jn [10] ls)) ⟨#[10]⟩=_
 generalize XG (M.toS (M.jn [10] ls)) ⟨#[10]⟩=ts at e1 hf hn;have e3:=congrArg lE (show M.jn [10] (ts.map fun s=>s.cps.toList)=M.jn [10] ls by rw [<- rZ,e1,jN])
 rw [kC ls h0 h,kC _ (by simpa using hn) (by
  intro l hl;obtain⟨t,ht,rfl⟩:=Uz.mp hl;exact hf t ht)] at e3
 rw [<- e3,UZ,show(M.toS ∘ fun s:Str=>s.cps.toList)=id from funext Ko,Yi]
theorem zY {c:Nat} (hc:c≠32) (p:Cs):∃q:Cs,YY (M.toS (c::p)) (M.toS [32])=M.toS (c::q)/\q.length<=p.length:=by
 have e0:(M.toS [32]).cps.contains=fun c=>c == 32:=by
  funext c;simp [M.toS,Bool.beq_eq_decide_eq]
 unfold YY;rw [e0,PyProof.Rows.stripBy_eq];have Sw:stripLo (fun c=>c == 32) true (M.toS (c::p))=0:=by
  simp [stripLo,M.toS,hc]
 obtain⟨b1,b2,b3,b4⟩:=PyProof.Rows.hi_facts (fun c=>c == 32) (M.toS (c::p)) _ (Vc _);rw [Sw];generalize stripHi (fun c=>c == 32) true (M.toS (c::p)) 0=hi at b1 b2 b3 b4;have hl:(M.toS (c::p)).length=p.length+1:=by simp [M.toS,Str.length]
 rw [hl] at b2 b3;obtain⟨k,rfl⟩:∃k,hi=k+1:=by
  cases hi with
  | succ k=>exact⟨k,rfl⟩
  | zero =>
   have z:=b3 0 (UM _) (YU _);exact absurd z (by simp [M.toS,hc])
 refine⟨p.take k,?_,by rw [Vj];omega⟩;rw [<- Ko (Builtin.Str.strSub (M.toS (c::p)) 0 (k+1)),StrLaws.strSub_toList,jN];rfl
abbrev kE:Cs:=[97,98,99,100,101,102,103,104]
noncomputable def nameOf (a b k:Nat):Cs:=Va a 109++([kE.getD k 0]++Va b 109)
theorem cN {a b k:Nat} (hk:k<8) (hab:a+b<=4):bW (nameOf a b k)=true:=(by decide +kernel:∀a<5,∀b<5,∀k<8,bW (nameOf a b k)=true) a (by omega) b (by omega) k hk
theorem m4 {a b j k:Nat} (hj:j<8) (hk:k<8) (h:nameOf a b j=nameOf a b k):j=k:=by
 unfold nameOf at h;have h2:=List.append_inj_right h rfl
 have h3:kE.getD j 0=kE.getD k 0:=(Ww h2).1;exact(by decide +kernel:∀j<8,∀k<8,kE.getD j 0=kE.getD k 0->j=k) j hj k hk h3
theorem oH:∀(l m:List Cs),l.Nodup->(∀x∈l,x∈m)->l.length<=m.length
 | [],_,_,_=>Vc _
 | x::r,m,nd,h=>by
  have hx:=h x (Uv ..);have nr:=Vn.mp nd
  have z:=oH r (m.erase x) nr.2 fun y hy=>(List.mem_erase_of_ne (fun e=>nr.1 (by rw [<- e];exact hy))).mpr (h y (Uw _ hy))
  rw [XZ hx] at z;have:1<=m.length:=Xg hx
  rw [UA];omega
deriving instance DecidableEq for Fc
noncomputable def short (bp ts:List Fc):Bool:=ts.any fun f=>decide (bp.count f<ts.count f)
theorem iH {α:Type} [DecidableEq α]:∀(l b:List α),(∀f,l.count f<=b.count f)->l.length<=b.length
 | [],_,_=>Vc _
 | x::l,b,h=>by
  have hx:x∈b:=by
   have z:=h x;rw [List.count_cons_self] at z;exact Xh.mp (by omega)
  have ih:=iH l (b.erase x) fun f=>by
   have z:=h f;rw [List.count_cons] at z;rw [List.count_erase];by_cases e:x=f
   ·subst e
    simp only [beq_self_eq_true,if_true] at z ⊢;omega
   ·have e1:(x == f)=false:=by simpa using e
    simp only [e1,UJ,if_false] at z ⊢;omega
  have hp:=Xg hx;rw [XZ hx] at ih;rw [UA];omega
end Bk
namespace Un
section
variable {α:Type} [DecidableEq α] (great:α->Bool) (lt:α->α->Bool)
noncomputable def mn (a b:α):α:=if lt b a=true then b else a
noncomputable def bF (p q:α):α:=if great p=false then p else if great q=false then q else mn lt p q
variable {great lt}
theorem D3 (a b:α):mn lt a b=a\/mn lt a b=b:=by
 unfold mn;split
 ·exact .inr rfl
 ·exact .inl rfl
noncomputable def told (great:α->Bool) (lt:α->α->Bool) (ρ:α->α) (a b x:α):α:=if ρ x=ρ a\/ρ x=ρ b then bF great lt (ρ a) (ρ b) else ρ x
end
end Un
namespace Bk
open PySem DZ
abbrev ba:=List (Cs × Cs)
noncomputable def j5 (st:ba) (n:Cs):Option Cs:=(st.find? fun p=>decide (p.1=n)).map (·.2)
noncomputable def ah (st:ba) (n:Cs):Cs:=(j5 st n).getD n
noncomputable def fR (a b:Cs):Bool:=decide (a<b)
noncomputable def gL (st:ba) (n:Cs):ba:=if great n=true then (if n∈st.map (·.1) then st else st++[(n,n)]) else st
noncomputable def iV (st:ba) (ns:List Cs):ba:=ns.foldl gL st
noncomputable def lj (p q:Cs) (e:Cs × Cs):Cs × Cs:=(e.1,if e.2=p\/e.2=q then Un.bF great fR p q else e.2)
noncomputable def dQ (p q:Cs):Prop:=p≠q/\great p=false/\great q=false
noncomputable instance (p q:Cs):Decidable (dQ p q):=by unfold dQ;infer_instance
noncomputable def dq (st:ba) (p q:Cs):ba:=if p=q then st else st.map (lj p q)
theorem ji (p q:Cs) (st:ba):(st.map (lj p q)).map (·.1)=st.map (·.1):=by
 rw [UZ];rfl
noncomputable def wr (st:ba) (f:Fc):Fc:=⟨f.k,f.as.map (ah st)⟩
noncomputable def bx:ba->List (Cs × Cs)->Option ba
 | st,[]=>some st
 | st,(a,b)::r=>if dQ (ah (iV st [a,b]) a) (ah (iV st [a,b]) b) then none else bx (dq (iV st [a,b]) (ah (iV st [a,b]) a) (ah (iV st [a,b]) b)) r
noncomputable def lw (hO:List (Cs × Cs)) (st:ba) (l:List Fc):List Fc:=if hO=[] then l else l.map (wr st)
noncomputable def lF (ks:List Kd) (ns:List Cs) (f:Fc):Prop:=(∃k∈ks,f.k=k.n/\f.as.length=k.c)/\∀a∈f.as,a∈ns
noncomputable def sX (k:Kd):Bool:=!k.l
structure Kp (ks:List Kd) (os ws:List Cs) (r:Rl):Prop where
 take:∀f∈r.take,lF (ks.filter sX) (os++ws) f
 keep:∀f∈r.keep,lF ks (os++ws) f
 put:∀f∈r.put,lF (if r.take=[] then ks.filter (·.l) else ks) (opens (r.take++r.keep)++ws) f
 aj:∀k∈r.aj,k.l∈opens (r.take++r.keep)++ws/\k.r∈opens (r.take++r.keep)++ws
 tell:∀p∈r.tell,p.1∈opens (r.take++r.keep)++ws/\p.2∈opens (r.take++r.keep)++ws
 hd:1<=r.take.length+r.keep.length
 pB:Mc 2 r
noncomputable def gY (r:Rl) (t:Cs):Rl:={ r with title:=t }
section
variable {ks:List Kd} {os ws:List Cs} {r:Rl} {t:Cs}
theorem lF.sub {ks tR:List Kd} {ns ns':List Cs} {f:Fc} (h:lF tR ns f) (hs:∀k∈tR,k∈ks) (hn:∀n∈ns,n∈ns'):lF ks ns' f:=by
 obtain⟨⟨k,hk,e⟩,ha⟩:=h;exact⟨⟨k,hs k hk,e⟩,fun a h=>hn a (ha a h)⟩
theorem jj {α β:Type} {f:α->β} {l:List α} (nd:(l.map f).Nodup) {j k:α} (hj:j∈l) (hk:k∈l) (e:f j=f k):j=k:=by
 induction l with
 | nil=>cases hk
 | cons a r ih =>
  rw [UG,Vn] at nd;rcases UN.mp hj with z|z <;> rcases UN.mp hk with y|y
  ·rw [y,z]
  ·exact absurd (by rw [<- z,e];exact UP y) nd.1
  ·exact absurd (by rw [<- y,<- e];exact UP z) nd.1
  ·exact ih nd.2 z y
theorem Kp.Sx (hG:KG ks) (hN:∀n∈os++ws,au n=true) (hW:∀n∈ws,great n=false) (ht:bW t=true) (d:Kp ks os ws r):sW ks (gY r t):=by
 have hd:∀f∈r.take++r.keep,lF ks (os++ws) f:=fun f hf=>(UH.mp hf).elim (fun h=>(d.take f h).sub (fun k hk=>(U5.mp hk).1) fun _ h=>h) (d.keep f)
 have Ig:∀n∈opens (r.take++r.keep)++ws,au n=true:=fun n hn=>(UH.mp hn).elim (fun h=>by
  obtain⟨⟨f,hf,ha⟩,_⟩:=jM h;exact hN n ((hd f hf).2 n ha)) fun h=>hN n (UK _ h)
 have fg:∀{ns f},(∀n∈ns,au n=true)->lF ks ns f->FG f/\aK ks f:=fun hn h=>by
  obtain⟨⟨k,hk,e1,e2⟩,ha⟩:=h;exact⟨⟨by rw [e1];exact(hG.ok k hk).1,fun a h=>hn a (ha a h),by rw [e2];exact(hG.ok k hk).2⟩,k,hk,e1.symm,e2⟩
 refine⟨ht,fun g hg=>(UH.mp hg).elim (fun h=>fg hN (hd g h)) fun h=>fg Ig ((d.put g h).sub (fun k hk=>?_) fun _ h=>h),fun k hk=>⟨Ig _ (d.aj k hk).1,Ig _ (d.aj k hk).2⟩,fun k hk=>⟨Ig _ (d.tell k hk).1,Ig _ (d.tell k hk).2⟩,fun e e2=>?_,d.pB,fun f hf h=>?_,fun e f hf=>?_,fun a ha=>?_⟩
 ·split at hk
  ·exact(U5.mp hk).1
  ·exact hk
 ·have:=d.hd
  rw [show r.take=[] from e,show r.keep=[] from e2] at this;cases this
 ·obtain⟨⟨k,hk,e,_⟩,_⟩:=d.take f hf
  obtain⟨j,hj,e2⟩:=Uz.mp h;obtain⟨hk,hp⟩:=U5.mp hk;obtain⟨hj,hl⟩:=U5.mp hj;rw [jj hG.nd hj hk (e2.trans e)] at hl;unfold sX at hp;rw [hl] at hp;cases hp
 ·obtain⟨⟨k,hk,e1,_⟩,_⟩:=d.put f hf
  rw [if_pos (show r.take=[] from e)] at hk;rw [e1];exact UP hk
 ·have z:a∈opens (r.take++r.keep)++ws:=by
   unfold fe at ha;simp only [UH,XO,UN,Wh,or_false] at ha;rcases ha with⟨k,hk,e|e⟩|⟨f,hf,h⟩|⟨p,hp,e|e⟩
   ·rw [e];exact(d.aj k hk).1
   ·rw [e];exact(d.aj k hk).2
   ·exact(d.put f hf).2 a h
   ·rw [e];exact(d.tell p hp).1
   ·rw [e];exact(d.tell p hp).2
  exact⟨Ig a z,fun g=>(UH.mp z).elim id fun h=>by rw [hW a h] at g;cases g⟩
end
theorem KG.CT {ks tR:List Kd} (hG:KG ks) (p:tR.Perm ks):KG tR:=by
 refine⟨by rw [p.length_eq];exact hG.len,(p.map _).nodup_iff.mpr hG.nd,fun k hk=>hG.ok k (p.mem_iff.mp hk),?_,?_⟩
 ·obtain⟨k,hk,e⟩:=hG.yes
  exact⟨k,p.mem_iff.mpr hk,e⟩
 ·obtain⟨k,hk,e⟩:=hG.no
  exact⟨k,p.mem_iff.mpr hk,e⟩
theorem r7 {α:Type} (n:Nat) (l:List α):(l.drop n++l.take n).Perm l :=
 List.perm_append_comm.trans (by rw [Xp])
noncomputable def jk (sm:Bool) (a b:Cs):Bool:=if sm=true then decide (a=b) else !great a && (!great b && !decide (a=b))
noncomputable def dR (st:ba) (k:Lk):Bool:=jk k.same (ah st k.l) (ah st k.r)
noncomputable def av (st:ba) (r:Rl):List Fc:=(r.take++r.keep).map (wr st)
noncomputable def cO (ks:List Kd) (m5 lG hs:List Fc) (h:Fc):Bool:=if h.k∈aq ks then decide (h∈lG) else decide (hs.countP (fun a=>decide (a=h))<=m5.countP (fun a=>decide (a=h)))
noncomputable def fS (ks:List Kd) (st:ba) (r:Rl) (m5 lG:List Fc):Bool:=(av st r).all (cO ks m5 lG (av st r))
noncomputable def gh (st:ba) (r:Rl) (lG:List Fc):Bool:=(r.put.any fun f=>!decide (wr st f∈lG)) || (r.tell.any fun p=>!decide (ah st p.1=ah st p.2))
noncomputable def d8 (ks:List Kd) (st:ba) (r:Rl) (m5 lG:List Fc) (G9:Bool):Bool:=!G9 && (r.aj.all (dR st) && (fS ks st r m5 lG && (!decide (r.take=[]) || gh st r lG)))
noncomputable def ai (r:Rl) (ns:List Cs):ba:=(opens (r.take++r.keep)).zip ns
noncomputable def dG (a:Cs):Prop:=au a=true/\great a=decide (a.headD 0=78)
noncomputable def rT (i:Nat):Cs:=[114,48+i]
noncomputable def aC (rs:List Rl):List Rl:=rs.zipIdx.map fun x=>gY x.1 (rT x.2)
structure r9 (ks:List Kd) (ns ws:List Cs) (rs:List Rl):Prop where
 kg:KG ks
 n4:ns.length=4
 w2:ws.length=2
 xu:∀n∈ns++ws,dG n
 ng:∀n∈ns,great n=true
 wg:∀n∈ws,great n=false
 nd:(ns++ws).Nodup
 r2:rs.length=2
 rd:∀r∈rs,Kp ks (ns.take 3) ws r
theorem kH {r:Rl} {ns:List Cs} (h:ns.length=(opens (r.take++r.keep)).length):(ai r ns).map (·.1)=opens (r.take++r.keep):=by
 unfold ai;rw [List.map_fst_zip (by omega)]
theorem Mf {st:ba} {n v:Cs} (h:j5 st n=some v):v∈st.map (·.2):=by
 unfold j5 at h;obtain⟨e,h1,h2⟩:=UI.mp h;rw [<- h2];exact UP (WT h1)
theorem CU {r:Rl} {ns:List Cs} {v:Cs} (h:v∈(ai r ns).map (·.2)):v∈ns:=by
 obtain⟨e,he,rfl⟩:=Uz.mp h;exact(Xl (show(e.1,e.2)∈_ from he)).2
theorem qb {rs:List Rl} {i:Nat} (h:i<rs.length):(aC rs)[i]?=some (gY rs[i] (rT i)):=by
 unfold aC;rw [UT,List.getElem?_zipIdx,Ge9 h];simp
section
variable {ks:List Kd} {ns ws:List Cs} {rs:List Rl} (h:r9 ks ns ws rs)
include h
theorem r9.nm:∀n∈ns.take 3++ws,au n=true:=fun n hn=>(UH.mp hn).elim (fun z=>(h.xu n (UD _ (V4 z))).1) fun z=>(h.xu n (UK _ z)).1
theorem r9.rl:∀r∈rs,∀i<2,sW ks (gY r (rT i)):=fun r hr i hi=>(h.rd r hr).Sx h.kg h.nm h.wg ((by decide +kernel:∀i<2,bW (rT i)=true) i hi)
theorem r9.N4:(aC rs).length<=2/\(∀r∈aC rs,sW ks r)/\((aC rs).map (·.title)).Nodup:=by
 have z:=h.rl
 match rs,h.r2 with
 | [a,b],_=>exact⟨UM 2,XF.mpr ⟨z a (by simp) 0 (by decide),XF.mpr ⟨z b (by simp) 1 (by decide),fun _ h=>nomatch h⟩⟩,show [rT 0,rT 1].Nodup by decide⟩
theorem r9.Ha {r:Rl} (hr:r∈rs):(opens (r.take++r.keep)).length<=3:=by
 have d:=h.rd r hr;have z:=oH _ (ns.take 3) (dP (r.take++r.keep)) fun x hx=>by
  obtain⟨⟨g,hg,Qj⟩,gr⟩:=jM hx;have sS:x∈ns.take 3++ws:=(UH.mp hg).elim (fun z=>(d.take g z).2 x Qj) fun z=>(d.keep g z).2 x Qj
  exact(UH.mp sS).elim id fun z=>by rw [h.wg x z] at gr;cases gr
 rw [Vj] at z;omega
end
theorem vQ {left bp ts:List Fc} (h:∀f,left.count f=bp.count f - ts.count f) {g:Fc} (hg:g∈left):g∈bp:=by
 have z:=h g;have z2:=Xh.mpr hg
 exact Xh.mp (by omega)
noncomputable def CV (st:ba) (p:Cs × Cs):Cs × Cs:=(ah st p.1,ah st p.2)
noncomputable def lH (st:ba):Prop:=∀e∈st,dG e.1/\dG e.2
theorem lH.ah {st:ba} (h:lH st) {a:Cs} (ha:dG a):dG (ah st a):=by
 unfold Bk.ah;cases Ih:j5 st a with
 | none=>exact ha
 | some v =>
  unfold j5 at Ih;obtain⟨e,h1,h2⟩:=UI.mp Ih;rw [<- h2];exact(h e (WT h1)).2
theorem lH.tell {st:ba} (h:lH st) {p q:Cs} (hp:dG p) (hq:dG q):lH (dq st p q):=by
 unfold dq;split
 ·exact h
 ·intro e he
  obtain⟨e',he',rfl⟩:=Uz.mp he;refine⟨(h e' he').1,?_⟩;unfold lj;dsimp only;split
  ·unfold Un.bF
   split
   ·exact hp
   ·split
    ·exact hq
    ·rcases Un.D3 (lt:=fR) p q with e|e
     ·rw [e];exact hp
     ·rw [e];exact hq
  ·exact(h e' he').2
theorem D4 {ks:List Kd} {st:ba} {r:Rl} {m5 lG:List Fc} (h:fS ks st r m5 lG=true) (ht:∀f∈r.take,f.k∉aq ks):short m5 (r.take.map (wr st))=false:=by
 unfold short;rw [Yc];intro f hf;unfold fS at h;have sS:f∈av st r:=by
  unfold av;rw [UL];exact UD _ hf
 have z:=Uu.mp h f sS;unfold cO at z;have hk:f.k∉aq ks:=by
  obtain⟨g,hg,rfl⟩:=Uz.mp hf;exact ht g hg
 rw [if_neg hk] at z;have z:=of_decide_eq_true z
 have e1:∀l:List Fc,l.countP (fun a=>decide (a=f))=l.count f:=fun l=>by
  unfold List.count;congr 1
 rw [e1,e1] at z;have e2:(r.take.map (wr st)).count f<=(av st r).count f:=by
  unfold av;rw [UL,VZ];omega
 rw [decide_eq_true_eq];omega
theorem D5 {st:ba} {f:Fc} (h:∀a∈f.as,ah st a=a):wr st f=f:=by
 obtain⟨k,as⟩:=f;unfold wr;have e:as.map (ah st)=as:=by
  have z:=Vb (f:=ah st) (g:=id) (l:=as) h;rw [z,Yi]
 show(⟨k,as.map (ah st)⟩:Fc)=_;rw [e]
theorem uy {st:ba} {l:List Fc} (h:∀f∈l,wr st f=f):l.map (wr st)=l:=by
 have z:=Vb (f:=wr st) (g:=id) (l:=l) h;rw [z,Yi]
end Bk
namespace M
open PySem
open Bk (Fc Kd Lk Rl)
noncomputable def kT (k:Kd):T:=.tup [.str k.n,.int k.c,.bl k.l]
noncomputable def nV (k:Lk):T:=.tup [.str (Bk.fA k.same),.str k.l,.str k.r]
noncomputable def aO (r:Rl):T:=.obj "Rule" [("title",.str r.title),("taken",.lst (r.take.map fT)),("kept",.lst (r.keep.map fT)),("looks",.lst (r.aj.map lT)),("given",.lst (r.put.map fT)),("told",.lst (r.tell.map pT)),("names",.lst ((Bk.opens (r.take++r.keep)).map .str))]
noncomputable def jO (ks:List Kd) (rs:List Rl):T:=.obj "Book" [("kinds",.lst (ks.map kT)),("rules",.lst (rs.map aO))]
noncomputable def xT (r:Rl):T:=.tup [.lst (r.take.map fT),.lst (r.keep.map fT),.lst (r.aj.map nV),.lst (r.put.map fT),.lst (r.tell.map pT)]
noncomputable def bL (st:Bk.ba):T:=.aP (st.map fun p=>(.str p.1,.str p.2))
section
variable {L:aa} {f:Fc} {k:Kd} {p:Cs × Cs} {x y z u w:T} {r:List T}
theorem Sy:ix (fT f) (.int 0) L=.ok (.str f.k) L:=rfl
theorem Sz:ix (fT f) (.int 1) L=.ok (.tup (f.as.map .str)) L:=rfl
theorem SD:ix (kT k) (.int 0) L=.ok (.str k.n) L:=rfl
theorem Qk:ix (kT k) (.int 1) L=.ok (.int k.c) L:=rfl
theorem SF:ix (kT k) (.int 2) L=.ok (.bl k.l) L:=rfl
theorem SG:ix (pT p) (.int 0) L=.ok (.str p.1) L:=rfl
theorem SH:ix (pT p) (.int 1) L=.ok (.str p.2) L:=rfl
theorem SJ {r:Rl}:ix (xT r) (.int 0) L=.ok (.lst (r.take.map fT)) L:=rfl
theorem SK {r:Rl}:ix (xT r) (.int 1) L=.ok (.lst (r.keep.map fT)) L:=rfl
theorem SM {r:Rl}:ix (xT r) (.int 2) L=.ok (.lst (r.aj.map nV)) L:=rfl
theorem SN {r:Rl}:ix (xT r) (.int 3) L=.ok (.lst (r.put.map fT)) L:=rfl
theorem SO {r:Rl}:ix (xT r) (.int 4) L=.ok (.lst (r.tell.map pT)) L:=rfl
theorem SQ {k:Lk}:ix (nV k) (.int 0) L=.ok (.str (Bk.fA k.same)) L:=rfl
theorem SR {k:Lk}:ix (nV k) (.int 1) L=.ok (.str k.l) L:=rfl
theorem SU {k:Lk}:ix (nV k) (.int 2) L=.ok (.str k.r) L:=rfl
theorem qc {xs:List T} {i:Nat} {x:T} (h:xs[i]?=some x):ix (.tup xs) (.int i) L=.ok x L:=by
 obtain⟨hi,e⟩:=UO.mp h;simp [ix,vw,place,hi,e,lift]
theorem N5:ix (.tup (x::r)) (.int 0) L=.ok x L:=qc (i:=0) rfl
theorem N6:ix (.tup (x::y::r)) (.int 1) L=.ok y L:=qc (i:=1) rfl
theorem N7:ix (.tup (x::y::z::r)) (.int 2) L=.ok z L:=qc (i:=2) rfl
theorem N8:ix (.tup (x::y::z::u::r)) (.int 3) L=.ok u L:=qc (i:=3) rfl
theorem Hb:ix (.lst (x::r)) (.int 0) L=.ok x L:=dB (i:=0) rfl
theorem N9:ix (.lst (x::y::r)) (.int 1) L=.ok y L:=dB (i:=1) rfl
theorem Oa:ix (.lst (x::y::z::r)) (.int 2) L=.ok z L:=dB (i:=2) rfl
theorem Ob:ix (.lst (x::y::z::u::r)) (.int 3) L=.ok u L:=dB (i:=3) rfl
theorem Oc:ix (.lst (x::y::z::u::w::r)) (.int 4) L=.ok w L:=dB (i:=4) rfl
theorem Od {v:T}:ix (.lst (x::y::z::u::w::v::r)) (.int 5) L=.ok v L:=dB (i:=5) rfl
theorem SV {r:Rl}:fld "taken" (aO r) L=.ok (.lst (r.take.map fT)) L:=rfl
theorem SW {r:Rl}:fld "kept" (aO r) L=.ok (.lst (r.keep.map fT)) L:=rfl
theorem SX {r:Rl}:fld "looks" (aO r) L=.ok (.lst (r.aj.map lT)) L:=rfl
theorem SY {r:Rl}:fld "given" (aO r) L=.ok (.lst (r.put.map fT)) L:=rfl
theorem S3 {r:Rl}:fld "told" (aO r) L=.ok (.lst (r.tell.map pT)) L:=rfl
theorem S4 {r:Rl}:fld "names" (aO r) L=.ok (.lst ((Bk.opens (r.take++r.keep)).map .str)) L:=rfl
theorem S5 {r:Rl}:fld "title" (aO r) L=.ok (.str r.title) L:=rfl
theorem S6 {k:Lk}:fld "left" (lT k) L=.ok (.str k.l) L:=by cases h:k.same <;> simp [lT,h,fld,vw,lift,Zq]
theorem S7 {k:Lk}:fld "right" (lT k) L=.ok (.str k.r) L:=by
 have:(("right":Str) == "left")=false:=by decide
 cases h:k.same <;> simp [lT,h,fld,vw,lift,Zq,this]
theorem S8 {ks:List Kd} {rs:List Rl}:fld "kinds" (jO ks rs) L=.ok (.lst (ks.map kT)) L:=rfl
theorem flb {ks:List Kd} {rs:List Rl}:fld "rules" (jO ks rs) L=.ok (.lst (rs.map aO)) L:=rfl
theorem vf:vw L (fT f)=fT f:=rfl
theorem vk:vw L (kT k)=kT k:=rfl
theorem vp:vw L (pT p)=pT p:=rfl
theorem vx {r:Rl}:vw L (xT r)=xT r:=rfl
theorem vr {r:Rl}:vw L (aO r)=aO r:=rfl
theorem dC {c:T}:at_ (c::L) L.length=some c:=if_pos rfl
theorem m6 {c d:T}:at_ (d::c::L) L.length=some c:=by simp [at_]
theorem Oe {c d e:T}:at_ (e::d::c::L) L.length=some c:=by
 unfold at_;rw [if_neg (by simp only [UA];omega)];exact m6
theorem w9 {c d:T}:at_ (d::c::L) (L.length+1)=some d:=by simp [at_]
theorem Kq {c d e:T}:at_ (e::d::c::L) (L.length+1)=some d:=by
 unfold at_;rw [if_neg (by simp only [UA];omega)];exact w9
theorem Kr {c d e:T}:at_ (e::d::c::L) (L.length+2)=some e:=if_pos rfl
theorem xc {c d:T}:put (c::L) L.length d=d::L:=by simp [put]
theorem Ks {c d e:T}:put (d::c::L) L.length e=d::e::L:=by simp [put]
theorem Kt {c d e:T}:put (d::c::L) (L.length+1) e=e::c::L:=by simp [put]
theorem jl {n:Nat}:vw L (.ref n)=(at_ L n).getD .bZ:=rfl
theorem fB {α:Type} {a b:α}:(some a).getD b=a:=rfl
end
theorem iW {α:Type} {n:Nat} {g:α->T} (h:∀x,lt n (g x)=true):∀l:List α,cf n (l.map g)=true
 | []=>rfl
 | x::l=>by rw [UG,cf,h x,iW h l];rfl
theorem jP {n:Nat} (l:List Cs):cf n (l.map .str)=true:=iW (fun _=>rfl) l
theorem Ql {n:Nat} (l:List Int):cf n (l.map .int)=true:=iW (fun _=>rfl) l
theorem aZ (n:Nat) (f:Fc):lt n (fT f)=true:=by simp [fT,lt,cf,jP]
theorem oJ (n:Nat) (f:Kd):lt n (kT f)=true:=by simp [kT,lt,cf]
theorem fh (n:Nat) (f:Cs × Cs):lt n (pT f)=true:=by simp [pT,lt,cf]
theorem oK (n:Nat) (f:Lk):lt n (lT f)=true:=by simp [lT,lt,nJ]
theorem uz (n:Nat) (f:Lk):lt n (nV f)=true:=by simp [nV,lt,cf]
theorem lt_str (n:Nat) (x:Cs):lt n (.str x)=true:=by simp [lt]
theorem lt_int (n:Nat) (x:Int):lt n (.int x)=true:=by simp [lt]
theorem ao {α:Type} {n:Nat} {g:α->T} {l:List α} (h:∀n x,lt n (g x)=true):lt n (.lst (l.map g))=true:=by rw [lt];exact iW (h n) l
theorem bY {α:Type} {n:Nat} {g:α->T} {l:List α} (h:∀n x,lt n (g x)=true):lt n (.tup (l.map g))=true:=by rw [lt];exact iW (h n) l
theorem Ku (n:Nat) (r:Rl):lt n (xT r)=true:=by simp [xT,lt,cf,iW,aZ,fh,uz]
theorem lX (n:Nat) (r:Rl):lt n (aO r)=true:=by simp [aO,lt,nJ,iW,aZ,fh,oK,jP]
theorem Of (n:Nat) (ks:List Kd) (rs:List Rl):lt n (jO ks rs)=true:=by simp [jO,lt,nJ,iW,oJ,lX]
theorem qd (n:Nat):∀st:Bk.ba,lt n (bL st)=true
 | []=>rfl
 | (a,b)::st=>by have:=qd n st;simp only [bL,lt,UG,A8] at this ⊢;simp [lt,this]
theorem dS {L:aa} {c t:T} (h:lt L.length t=true):fin L t (c::L)=.ok t L:=rP (Ln:=[c]) h
theorem Qm {L:aa} {c d t:T} (h:lt L.length t=true):fin L t (d::c::L)=.ok t L:=rP (Ln:=[d,c]) h
theorem gi (L:aa):old L L:=fun _ _ e=>.inl e
theorem zZ {L Ln:aa} {c:T} {n:Nat} (ha:at_ (Ln++L) n=some c) (hn:L.length<=n) (h:lt L.length c=true):fin L (.ref n) (Ln++L)=.ok c L:=by
 have e:(Ln++L).drop ((Ln++L).length - L.length)=L:=by rw [Ut,YW,Yk]
 unfold fin;rw [e,if_pos (gi L)];unfold cg;have:¬ lt L.length (.ref n)=true:=by rw [lt];simp;omega
 rw [if_neg this];simp only [ha];unfold cg;rw [if_pos h];rfl
theorem fj {L:aa} {c:T} (h:lt L.length c=true):fin L (.ref L.length) (c::L)=.ok c L:=zZ (Ln:=[c]) dC (UM _) h
theorem Hc {L:aa} {c d:T} (h:lt L.length d=true):fin L (.ref (L.length+1)) (d::c::L)=.ok d L:=zZ (Ln:=[d,c]) w9 (WC _) h
theorem Kv {a b:Cs} {L:aa}:Ep (.str a) (.str b) L=.ok (a == b) L:=rfl
theorem Kw {a b:Int} {L:aa}:Ep (.int a) (.int b) L=.ok (a == b) L:=rfl
theorem Kx {α:Type} {r:R α}:cb (0<=lim) r=r:=if_pos (Vc _)
theorem Ky {α:Type} {r:R α}:cb (0+1<=lim) r=r:=if_pos (by decide)
theorem Hd {α:Type} {r:R α}:cb (1<=lim) r=r:=if_pos (by decide)
theorem Kz {α:Type} {r:R α}:cb (2<=lim) r=r:=if_pos (by decide)
theorem KA {α:Type} {r:R α}:cb (3<=lim) r=r:=if_pos (by decide)
theorem KC {α:Type} {r:R α}:cb (4<=lim) r=r:=if_pos (by decide)
theorem KD {α:Type} {r:R α}:cb (5<=lim) r=r:=if_pos (by decide)
theorem KH {α:Type} {r:R α}:cb (6<=lim) r=r:=if_pos (by decide)
theorem Og (n:Nat):(n:Int)+1=((n+1:Nat):Int):=rfl
theorem Oh (n:Nat):(n:Int)+2=((n+2:Nat):Int):=rfl
theorem Oi:S ")"=[41]:=rfl
theorem Oj:S "("=[40]:=rfl
theorem Ol:S ","=[44]:=rfl
theorem Oo:S " "=[32]:=rfl
theorem Oq:S ":"=[58]:=rfl
theorem Ot:S ";"=[59]:=rfl
theorem Ou:S "="=[61]:=rfl
theorem Ov:S ""=[]:=rfl
theorem Ow:S "#"=[35]:=rfl
theorem KI {α:Type} {r:R α} [Decidable True]:cb True r=r:=if_pos trivial
theorem Ox {fz:Bool} {i j:Int} {L:aa}:aX fz .Add (.int i) (.int j) L=.ok (.int (i+j)) L:=rfl
theorem Oy {fz:Bool} {i j:Int} {L:aa}:aX fz .Sub (.int i) (.int j) L=.ok (.int (i - j)) L:=rfl
theorem Oz {fz:Bool} {i j:Int} {L:aa}:aX fz .Mult (.int i) (.int j) L=cb (uR i j) (.ok (.int (i * j)) L):=rfl
theorem OA {fz:Bool} {i j:Int} {L:aa}:aX fz .FloorDiv (.int i) (.int j) L=cb (xy j) (.ok (.int (i / j)) L):=rfl
theorem OB {fz:Bool} {i j:Int} {L:aa}:aX fz .Mod (.int i) (.int j) L=cb (0<j) (.ok (.int (i % j)) L):=rfl
theorem S9 {fz:Bool} {i j:Int} {L:aa}:aX fz .Pow (.int i) (.int j) L=cb (Eo i j) (.ok (.int (i ^ j.toNat)) L):=rfl
theorem KJ {fz:Bool} {a b:Cs} {L:aa}:aX fz .Add (.str a) (.str b) L=cb (a.length+b.length<=lim) (.ok (.str (a++b)) L):=rfl
theorem OC {fz:Bool} {ch:Nat} {j:Int} {L:aa}:aX fz .Mult (.str [ch]) (.int j) L=cb (sZ j) (.ok (.str (Va j.toNat ch)) L):=rfl
theorem OD {fz:Bool} {a b:List T} {L:aa}:aX fz .Add (.lst a) (.lst b) L=fo fz (a++b) L:=rfl
theorem D6 (a b:SE) (φ:Fr) (L:aa) {i j:Int} {L1 L2:aa} (ha:a φ L=.ok (.int i) L1) (hb:b φ L1=.ok (.int j) L2) (hi:s9 i/\s9 j):xA a b φ L=.ok (upTo i (j - i).toNat,fun _=>True) L2:=by
 unfold xA;rw [ha,aH,hb,aH];exact if_pos hi
theorem vR {n:Nat} (h:n<=1000000):s9 n:=by unfold s9;constructor <;> omega
theorem OE {y:T} {xs:List T} {L:aa}:ix (.ref L.length) y (.lst xs::L)=ix (.lst xs) y (.lst xs::L):=by unfold ix;simp only [jl,dC,fB];rfl
theorem KL {fz:Bool} {a b:Option Int} {xs:List T} {L:aa}:i9 fz (.ref L.length) a b (.lst xs::L)=i9 fz (.lst xs) a b (.lst xs::L):=by unfold i9;simp only [jl,dC,fB];rfl
theorem OG {fz:Bool} {a b:Option Int} {xs:List T} {c:T} {L:aa}:i9 fz (.ref (L.length+1)) a b (.lst xs::c::L)=i9 fz (.lst xs) a b (.lst xs::c::L):=KL (L:=c::L)
theorem OH {c d e f:T} {L:aa}:put (e::d::c::L) (L.length+2) f=f::d::c::L:=xc (L:=d::c::L)
theorem ax {α:Type} {c:Prop} {i:Decidable c} {r:R α} (h:c):@cb α c i r=r:=if_pos h
theorem KN {a b:Cs}:(a != b) = !(a == b):=rfl
theorem OI {ch:Nat} {b:Cs} {L:aa}:nL (.str [ch]) (.str b) L=.ok (decide (ch∈b)) L:=rfl
theorem any_eq {α:Type} [DecidableEq α] {g:α->T} (hg:∀a b,eqT (g a) (g b)=decide (a=b)) (x:α):∀ys:List α,((ys.map g).any fun y=>eqT y (g x))=decide (x∈ys)
 | []=>by simp
 | y::ys=>by
  rw [UG,List.any_cons,any_eq hg x ys,hg,<- Bool.decide_or];exact decide_eq_decide.mpr ⟨fun h=>h.elim (fun e=>by rw [e];exact Uv) (Uw _),fun h=>(UN.mp h).imp Eq.symm id⟩
theorem fE {α:Type} {g:α->T} {n:Nat} (h:∀a,dat n (g a)=true) (l:List α):(l.map g).all (dat n)=true:=by simp [h]
theorem D7 (a b:Cs):eqT (.str a) (.str b)=decide (a=b):=by
 show(a == b)=_;by_cases h:a=b <;> simp [h]
theorem D8 {α:Type} [DecidableEq α] {f:T->T->Bool} {g:α->T} (h:∀a b,f (g a) (g b)=decide (a=b)):∀a b:List α,nH f (a.map g) (b.map g)=decide (a=b)
 | [],[]=>by simp [nH]
 | [],_::_=>by simp [nH]
 | _::_,[]=>by simp [nH]
 | x::a,y::b=>by
  rw [UG,UG,nH,h,D8 h a b];by_cases h1:x=y <;> by_cases h2:a=b <;> simp [h1,h2]
theorem D9 (n:Nat) (a b:Cs):uQ (n+1) (.str a) (.str b)=decide (a=b):=by
 show(a == b)=_;by_cases h:a=b <;> simp [h]
theorem se (a b:Fc):eqT (fT a) (fT b)=decide (a=b):=by
 obtain⟨k,as⟩:=a;obtain⟨k',as'⟩:=b;show(uQ 7 (.str k) (.str k') && (nH (uQ 6) (as.map .str) (as'.map .str) && true))=_
 rw [D9,D8 (D9 5)];by_cases h1:k=k' <;> by_cases h2:as=as' <;> simp [h1,h2]
theorem vS (n:Nat) (a:Cs):dat (n+1) (.str a)=true:=rfl
theorem iY (a:Fc):dat 8 (fT a)=true:=by
 show(dat 7 (.str a.k) && ((a.as.map .str).all (dat 6) && true))=true;rw [vS,fE (vS 5)];rfl
theorem CW {x:Cs} {ys:List Cs} {L:aa}:nL (.str x) (.lst (ys.map .str)) L=.ok (decide (x∈ys)) L:=by
 show cb _ _=_;rw [aQ ⟨rfl,fE (vS 7) ys⟩,any_eq D7];exact congrArg (R.ok · L) (decide_eq_decide.mpr Iff.rfl)
theorem KO {x:Cs} {ys:List Cs} {L:aa}:nL (.str x) (.tup (ys.map .str)) L=.ok (decide (x∈ys)) L:=by
 show cb _ _=_;rw [aQ ⟨rfl,fE (vS 7) ys⟩,any_eq D7];exact congrArg (R.ok · L) (decide_eq_decide.mpr Iff.rfl)
theorem OJ {x:Cs} {t:T} {ys:List Cs} {L:aa} (h:vw L t=.lst (ys.map .str)):nL (.str x) t L=.ok (decide (x∈ys)) L:=by
 have:=CW (x:=x) (ys:=ys) (L:=L);unfold nL at this ⊢;rw [h];exact this
theorem KP {x:Fc} {t:T} {ys:List Fc} {L:aa} (h:vw L t=.lst (ys.map fT)):nL (fT x) t L=.ok (decide (x∈ys)) L:=by
 have:nL (fT x) (.lst (ys.map fT)) L=.ok (decide (x∈ys)) L:=by
  show cb _ _=_;rw [aQ ⟨iY x,fE iY ys⟩,any_eq se]
 unfold nL at this ⊢;rw [h];exact this
theorem KQ {x:Fc} {ys:List Fc} {L:aa}:nL (fT x) (.lst (ys.map fT)) L=.ok (decide (x∈ys)) L:=by
 show cb _ _=_;rw [aQ ⟨iY x,fE iY ys⟩,any_eq se]
theorem KR {x:Fc} {ys:List Fc} {L:aa}:nL (fT x) (.tup (ys.map fT)) L=.ok (decide (x∈ys)) L:=by
 show cb _ _=_;rw [aQ ⟨iY x,fE iY ys⟩,any_eq se]
section
variable {β:Type} {s:SI} {aU:List (Option Nat)} {i:Nat} {ts:ST} {m:SE} {φ:Fr} {L:aa} {k:aa->Prop} {r:R T} {fz:Bool}
theorem cZ (hc:comp fz s aU (.one i) ts m φ L=r) (xs:List β) (enc:β->T) (p:β->Bool) (f:β->T) (hs:s φ L=.ok (xs.map enc,k) L) (hk:k L) (hl:xs.length<=lim)
  (ht:∀b∈xs,ts ((inner aU φ).set i (some (enc b))) L=.ok (p b) L) (hm:∀b∈xs,p b=true->m ((inner aU φ).set i (some (enc b))) L=.ok (f b) L):r=mk fz (.lst ((xs.filter p).map f)) L:=by
 subst hc;have key:∀(ys:List β) (acc:List T),(∀b∈ys,b∈xs)->acc.length+ys.length<=lim->compLoop k (.one i) ts m (inner aU φ) (ys.map enc) acc L=.ok (acc++(ys.filter p).map f) L:=by
  intro ys;induction ys with
  | nil=>intro acc _ _;simp [compLoop,hk]
  | cons b ys ih =>
   intro acc hb hz;have hx:=hb b Uv
   simp only [UA] at hz;rw [UG,compLoop,if_pos ⟨hk,by omega⟩];simp only [Tg.set,ht b hx,aH];cases hp:p b with
   | true=>rw [if_pos rfl,hm b hx hp,aH,ih _ (fun c hc=>hb c (Uw _ hc)) (by simp;omega)];simp [hp]
   | false=>rw [if_neg (by simp),ih _ (fun c hc=>hb c (Uw _ hc)) (by omega)];simp [hp]
 rw [comp,hs,aH,key xs [] (fun _ h=>h) (by simpa using hl),aH];rfl
theorem bc (hc:comp fz s aU (.one i) yes m φ L=r) (xs:List β) (enc:β->T) (f:β->T) (hs:s φ L=.ok (xs.map enc,k) L) (hk:k L) (hl:xs.length<=lim)
  (hm:∀b∈xs,m ((inner aU φ).set i (some (enc b))) L=.ok (f b) L):r=mk fz (.lst (xs.map f)) L:=by
 have:=cZ hc xs enc (fun _=>true) f hs hk hl (fun _ _=>rfl) fun b hb _=>hm b hb
 rw [this,YG.mpr (fun _ _=>rfl)]
end
noncomputable def yZ (Q:Fr->aa->Prop) (R:T->aa->Prop) (B:Fr->aa->Prop):O->Prop
 | .nx φ L=>Q φ L
 | .ct φ L=>Q φ L
 | .rt t L=>R t L
 | .bk φ L=>B φ L
 | .bad=>False
theorem sf {Q R B φ L}:yZ Q R B (.nx φ L)=Q φ L:=rfl
theorem KS {Q R B φ L}:yZ Q R B (.ct φ L)=Q φ L:=rfl
theorem KU {Q R B t L}:yZ Q R B (.rt t L)=R t L:=rfl
theorem KV {Q R B φ L}:yZ Q R B (.bk φ L)=B φ L:=rfl
section
variable {β:Type} {k:aa->Prop} {tg:Tg} {b:SS} {φ:Fr} {L:aa} {o:O} {ts:List T}
theorem c7 (ho:forL k tg b ts φ L=o) (xs:List β) (enc:β->T) (J:List β->Fr->aa->Prop) (P:O->Prop) (hx:ts=xs.map enc) (hJ:J xs φ L)
  (step:∀(J':List β->Fr->aa->Prop) (P':O->Prop),(∀{r φ L},J' r φ L=J r φ L)->(∀{o},P' o=P o)->∀x r φ L,J (x::r) φ L->k L/\∃φ1,tg.set (enc x) φ=some φ1/\yZ (J' r) (fun t L=>P' (.rt t L)) (fun φ L=>P' (.nx φ L)) (b φ1 L))
  (done:∀φ L,J [] φ L->k L/\P (.nx φ L)):P o:=by
 subst ho hx
 replace step:=step J P rfl rfl
 induction xs generalizing φ L with
 | nil=>obtain⟨h1,h2⟩:=done φ L hJ;rw [Vz,forL,if_pos h1];exact h2
 | cons x r ih =>
  obtain⟨h1,φ1,h2,h3⟩:=step x r φ L hJ;rw [UG,forL,if_pos h1];simp only [h2];cases e:b φ1 L with
  | nx φ2 L2=>rw [e] at h3;exact ih h3
  | ct φ2 L2=>rw [e] at h3;exact ih h3
  | rt t L2=>rw [e] at h3;exact h3
  | bk φ2 L2=>rw [e] at h3;exact h3
  | bad=>rw [e] at h3;exact h3.elim
theorem kI {α:Type} {i:Nat} (xs:List α) (enc:α->T) (F:Option T->Fr) {z:Option T} (ho:forL k (.one i) b (xs.map enc) (F z) L=o) (hk:k L) (hF:∀z x,(F z).set i (some x)=F (some x)) (hb:∀x∈xs,b (F (some (enc x))) L=.nx (F (some (enc x))) L):∃z,o=.nx (F z) L :=
 c7 ho xs enc (fun r φ L'=>(∀x∈r,x∈xs)/\L'=L/\∃z,φ=F z) (fun o=>∃z,o=.nx (F z) L) rfl ⟨fun _ h=>h,rfl,z,rfl⟩ (fun _ _ eJ eP x r φ L' hh=>by
  obtain⟨h,rfl,z,rfl⟩:=hh;refine⟨hk,_,rfl,?_⟩;rw [hF,hb x (h x Uv),sf,eJ];exact⟨fun y hy=>h y (Uw _ hy),rfl,_,rfl⟩) fun φ L' hh=>by
  obtain⟨_,rfl,z,rfl⟩:=hh;exact⟨hk,z,rfl⟩
theorem si {α β γ:Type} {i:Nat} (xs:List α) (enc:α->T) (E:β->T) (g:β->α->β) (N:List α->β->Prop) (F:Option T->γ->Fr) {z:Option T} {w:γ} {s:β} (ho:forL k (.one i) b (xs.map enc) (F z w) (E s::L)=o) (hk:∀L,k L) (hF:∀z w x,(F z w).set i (some x)=F (some x) w) (hN:N xs s)
  (hb:∀x r s w,N (x::r) s->N r (g s x)/\∃w',b (F (some (enc x)) w) (E s::L)=.nx (F (some (enc x)) w') (E (g s x)::L)):∃z w,o=.nx (F z w) (E (xs.foldl g s)::L) :=
 c7 ho xs enc (fun r φ L'=>∃z w s',N r s'/\r.foldl g s'=xs.foldl g s/\φ=F z w/\L'=E s'::L) (fun o=>∃z w,o=.nx (F z w) (E (xs.foldl g s)::L)) rfl ⟨z,w,s,hN,rfl,rfl,rfl⟩ (fun _ _ eJ eP x r φ L' hh=>by
  obtain⟨z,w,s',h,e,rfl,rfl⟩:=hh;refine⟨hk _,_,rfl,?_⟩;obtain⟨h1,w',h2⟩:=hb x r s' w h;rw [hF,h2,sf,eJ];exact⟨_,w',_,h1,e,rfl,rfl⟩) fun φ L' hh=>by
  obtain⟨z,w,s',_,e,rfl,rfl⟩:=hh;exact⟨hk _,z,w,by rw [<- e];rfl⟩
theorem vT {kk:ST} {fuel:Nat} (ho:qB kk b fuel φ L=o) (J:Nat->Fr->aa->Prop) (P:O->Prop) {n:Nat} (hn:n<fuel) (hJ:J n φ L)
  (step:∀(J':Nat->Fr->aa->Prop) (P':O->Prop),(∀{r φ L},J' r φ L=J r φ L)->(∀{o},P' o=P o)->∀n φ L,J n φ L->(kk φ L=.ok false L/\P' (.nx φ L))\/(kk φ L=.ok true L/\yZ (fun φ L=>∃m,m<n/\J' m φ L) (fun t L=>P' (.rt t L)) (fun φ L=>P' (.nx φ L)) (b φ L))):P o:=by
 subst ho
 replace step:=step J P rfl rfl
 induction fuel generalizing n φ L with
 | zero=>omega
 | succ fuel ih =>
  rw [qB];rcases step n φ L hJ with⟨h1,h2⟩|⟨h1,h3⟩
  ·simp only [h1,of_ok];exact h2
  ·simp only [h1,of_ok,if_true]
   cases e:b φ L with
   | nx φ2 L2=>rw [e] at h3;obtain⟨m,hm,hj⟩:=h3;exact ih (by omega) hj
   | ct φ2 L2=>rw [e] at h3;obtain⟨m,hm,hj⟩:=h3;exact ih (by omega) hj
   | rt t L2=>rw [e] at h3;exact h3
   | bk φ2 L2=>rw [e] at h3;exact h3
   | bad=>rw [e] at h3;exact h3.elim
end
theorem KW (n:Nat) (k:Int) (φ:Fr) (L:aa):vi n k φ L=(lift ((φ[n]?).join) L).bind fun x L1=>ix x (.int k) L1:=rfl
theorem ite_tt {α:Type} {a b:α}:(if true=true then a else b)=a:=rfl
theorem ite_ff {α:Type} {a b:α}:(if false=true then a else b)=b:=rfl
end M
section
open M
set_option hygiene false in
local macro_rules|`(tactic| simp_arith $[$d:discharger]? [$ls,*])=>`(tactic| simp $[$d:discharger]? only [↓ite_tt,↓ite_ff,KW,lh,ur,ku,Ie,Qg,NZ,JZ,GI,N1,GJ,Ka,GK,GL,Kb,GN,Kc,Ke,DY,Kf,GO,N2,zP,zQ,Kg,GP,GQ,GR,Kh,Ki,Kj,zR,Kk,zS,Kl,Km,GS,GU,GV,zT,CM,CN,GW,GX,CO,CP,GY,GZ,mU,mV,G3,G4,G5,Dw,WK,fo,_root_.M.mk,Ox,Oy,Oz,OA,xy,sZ,OB,KJ,OC,OD,_root_.M.cmp,Bh,LI,LJ,LK,Er,OI,CW,KO,KQ,KR,_root_.M.vw,Dv,aH,of_ok,vM,CI,eT,GG,Tg.set,_root_.M.sets,bH,zO,CJ,CK,CL,GH,_root_.M.neg,ag,
 UA,U8,UG,Vz,Wr,Vt,Va,W5,ZC,W8,List.set_cons_zero,List.set_cons_succ,if_true,reduceIte,UJ,X7,ZE,Nat.zero_add,Sy,Sz,SD,Qk,SF,SG,SH,SJ,SK,SM,SN,SO,SQ,SR,SU,N5,N6,N7,N8,Hb,N9,Oa,Ob,Oc,Od,S5,SV,SW,SX,SY,S3,S4,S6,S7,S8,flb,vf,vk,vp,vx,vr,dC,m6,Oe,w9,Kq,Kr,xc,Ks,Kt,OH,OE,KL,OG,jl,fB,sf,KS,KU,KV,_root_.M.inner,aE,cF,ic,iF,pN,km,lU,lS,gC,Bl,_root_.M.items,iO,Option.map_some,WK,Wv,Xc,Lm9,Kv,Kw,Kx,Ky,Hd,Kz,KA,KC,KD,KH,Og,Oh,Oi,Oj,Ol,Oo,Oq,Ot,Ou,Ov,Ow,KN,List.cons_beq_cons,Nat.reduceBEq,Xw,ZA,W9,Yj,beq_self_eq_true,KI,Int.reduceLT,Int.reduceLE,Int.reduceNeg,Int.reducePow,Int.reduceToNat,uR,and_self,or_true,true_or,$ls,*])
local macro_rules|`(tactic| simp_arith)=>`(tactic| simp_arith [lh])
local macro_rules|`(tactic| simp_all_arith [$ls,*])=>`(tactic| simp_arith (disch:=first|assumption|(simp only [Ut,UA,U8,Lm9,Vj,Vg,lim] <;> omega)|omega) [ax,$ls,*])
local macro_rules|`(tactic| simp_all_arith)=>`(tactic| simp_all_arith [lh])
namespace Ea
open PySem M
open DZ (fw au dF)
open Bk (Fc Kd Lk Rl bW great aN W Tk G8 between cY glue FG iS iT wordAt fA rows hO iU sW Im fI lI pI eZ ij iG opens fc rS fe aK KG aq aw cq lF nameOf sX Kp Mc dG rV gW ik oG aC mY mZ r9 ah j5 wr iV gL dq lj dQ ba fR bx lH lw dR jk av cO fS gh d8 ai CV gY rT)
open Un (bF told mn)
def jQ:T:=.str (S "abcdefghijklmnopqrstuvwxyz")
def jR:T:=.str (S "ABCDEFGHIJKLMNOPQRSTUVWXYZ")
def kJ:T:=.str (S "0123456789")
def kL:T:=.int 12
def bS:T:=.tup [.tup [],.tup [],.tup [],.bl true]
def gM:T:=.str (S "(),:;=")
def gN:T:=.tup [.str (S "passing"),.str (S "lasting")]
def cP:T:=.str (S "rule")
def bO:T:=.tup [.str (S "take"),.str (S "keep"),.str (S "look"),.str (S "put"),.str (S "tell")]
def m7:T:=.tup [.str (S "0"),.str (S "1"),.str (S "2"),.str (S "3"),.str (S "4")]
def bz:Fn:=run 2 2 (ab [iff (tv (b2 (v 1) (ae bH [v 0]) (cmp .Lt))) (ab [ret (b2 (v 0) (v 1) ix)]) (ab []),ret (c (.int 0))])
def aD:Fn:=run 2 5 (ab [asg (.one 2) (b2 (b2 (b2 (v 0) (c (.int 2147483647)) (aX true .Mod)) (c (.int 48271)) (aX true .Mult)) (c (.int 2147483647)) (aX true .Mod)),asg (.one 3) (lst false []),bQ (src (v 1)) (.one 4) (ab [fX (aM (aE) (v 3) [b2 (v 2) (v 4) (aX true .Mod)]),asg (.one 2) (b2 (v 2) (v 4) (aX true .FloorDiv))]),ret (v 3)])
def bg:Fn:=run 2 4 (ab [asg (.one 2) (b2 (c (.int 1)) (b2 (v 0) (c (.int 5)) (aX true .Mod)) (aX true .Add)),asg (.one 3) (b2 (b2 (v 0) (c (.int 5)) (aX true .FloorDiv)) (v 2) (aX true .Mod)),ret (b2 (b2 (b2 (c (.str (S "m"))) (v 3) (aX true .Mult)) (b2 (c (.str (S "abcdefgh"))) (v 1) ix) (aX true .Add)) (b2 (c (.str (S "m"))) (b2 (b2 (v 2) (c (.int 1)) (aX true .Sub)) (v 3) (aX true .Sub)) (aX true .Mult)) (aX true .Add))])
def eD:Fn:=run 1 3 (ab [asg (.one 1) (ae aD [v 0,lst true [c (.int 25),c (.int 2),c (.int 4),c (.int 2),c (.int 4)]]),asg (.one 2) (lst true [tup [ae bg [vi 1 0,c (.int 0)],vi 1 1,c (.bl false)],tup [ae bg [vi 1 0,c (.int 1)],b2 (tup [c (.int 0),c (.int 1),c (.int 2),c (.int 4)]) (vi 1 2) ix,c (.bl false)]]),asg (.one 2) (b2 (v 2) (lst true [tup [ae bg [vi 1 0,c (.int 2)],c (.int 2),c (.bl true)],tup [ae bg [vi 1 0,c (.int 3)],vi 1 3,c (.bl true)]]) (aX true .Add)),ret (b2 (sl true (v 2) (some (vi 1 4)) none) (sl true (v 2) none (some (vi 1 4))) (aX true .Add))])
def aI:Fn:=run 3 6 (ab [asg (.one 3) (b2 (v 0) (b2 (v 1) (ae bH [v 0]) (aX true .Mod)) ix),asg (.one 1) (b2 (v 1) (ae bH [v 0]) (aX true .FloorDiv)),asg (.one 4) (lst false []),bQ (xA (c (.int 0)) (vi 3 1)) (.one 5) (ab [fX (aM (aE) (v 4) [b2 (v 2) (b2 (v 1) (ae bH [v 2]) (aX true .Mod)) ix]),asg (.one 1) (b2 (v 1) (ae bH [v 2]) (aX true .FloorDiv))]),ret (tup [vi 3 0,ae iO [v 4]])])
def da:Fn:=run 3 8 (ab [asg (.one 3) (comp true (src (v 0)) [none,none] (.one 1) (d9 (tv (vi 1 2))) (v 1)),asg (.one 4) (ae aD [v 1,lst true [c (.int 3),c (.int 3),c (.int 512),c (.int 512)]]),asg (.one 5) (ae aD [b2 (b2 (b2 (v 1) (c (.int 2147483629)) (aX true .Mod)) (c (.int 69621)) (aX true .Mult)) (c (.int 2147483629)) (aX true .Mod),lst true [c (.int 1024),c (.int 1024)]]),asg (.one 6) (sl true (lst true [ae aI [v 3,vi 4 2,v 2],ae aI [v 3,vi 4 3,v 2]]) none (some (vi 4 0))),asg (.one 7) (sl true (lst true [ae aI [v 0,vi 5 0,v 2],ae aI [v 0,vi 5 1,v 2]]) none (some (vi 4 1))),iff (tv (b2 (b2 (ae bH [v 6]) (ae bH [v 7]) (aX true .Add)) (c (.int 0)) (cmp .Eq))) (ab [asg (.one 7) (lst true [ae aI [v 0,vi 5 0,v 2]])]) (ab []),ret (tup [v 6,v 7])])
def eE:Fn:=run 2 4 (ab [asg (.one 2) (ae aD [v 1,lst true [c (.int 3),c (.int 5),c (.int 5),c (.int 5),c (.int 5),c (.int 5)]]),asg (.one 3) (lst false [tup [c (.str (S "same")),b2 (v 0) (b2 (vi 2 1) (ae bH [v 0]) (aX true .Mod)) ix,b2 (v 0) (b2 (vi 2 2) (ae bH [v 0]) (aX true .Mod)) ix]]),iff (tv (b2 (vi 2 0) (c (.int 2)) (cmp .Lt))) (ab [asg (.one 3) (sl false (lst false [tup [c (.str (S "unlike")),b2 (vi 3 0) (c (.int 1)) ix,b2 (vi 3 0) (c (.int 2)) ix]]) none (some (vi 2 0)))]) (ab []),iff (tv (b2 (vi 2 3) (c (.int 2)) (cmp .Lt))) (ab [fX (aM (aE) (v 3) [tup [b2 (tup [c (.str (S "same")),c (.str (S "unlike"))]) (vi 2 3) ix,b2 (v 0) (b2 (vi 2 4) (ae bH [v 0]) (aX true .Mod)) ix,b2 (v 0) (b2 (vi 2 5) (ae bH [v 0]) (aX true .Mod)) ix]])]) (ab []),ret (v 3)])
def cC:Fn:=run 1 4 (ab [asg (.one 1) (lst false []),bQ (src (v 0)) (.one 2) (ab [bQ (src (vi 2 1)) (.one 3) (ab [iff (jI [tv (b2 (vi 3 0) (c (.str (S "N"))) (cmp .Eq)),tv (b2 (v 3) (v 1) (cmp .NotIn))]) (ab [fX (aM (aE) (v 1) [v 3])]) (ab [])])]),ret (v 1)])
def fF:Fn:=run 5 11 (ab [asg (.one 5) (ae da [v 0,v 1,v 3]),asg (.one 6) (b2 (ae cC [b2 (vi 5 0) (vi 5 1) (aX true .Add)]) (v 4) (aX true .Add)),iff (tv (b2 (ae bH [vi 5 0]) (c (.int 0)) (cmp .Eq))) (ab [asg (.one 0) (comp true (src (v 0)) [none,none] (.one 1) (tv (vi 1 2)) (v 1))]) (ab []),asg (.one 7) (ae aD [v 2,lst true [c (.int 3),c (.int 2500),c (.int 2500)]]),asg (.one 8) (sl true (lst true [ae aI [v 0,vi 7 1,v 6],ae aI [v 0,vi 7 2,v 6]]) none (some (vi 7 0))),asg (.one 9) (ae eE [v 6,b2 (b2 (b2 (v 2) (c (.int 2147483629)) (aX true .Mod)) (c (.int 69621)) (aX true .Mult)) (c (.int 2147483629)) (aX true .Mod)]),asg (.one 7) (ae aD [b2 (b2 (b2 (v 2) (c (.int 2147483629)) (aX true .Mod)) (c (.int 40692)) (aX true .Mult)) (c (.int 2147483629)) (aX true .Mod),lst true [c (.int 2),c (.int 5),c (.int 5),c (.int 3),c (.int 5),c (.int 5)]]),asg (.one 10) (sl false (lst false [tup [b2 (v 6) (b2 (vi 7 1) (ae bH [v 6]) (aX true .Mod)) ix,b2 (v 6) (b2 (vi 7 2) (ae bH [v 6]) (aX true .Mod)) ix]]) none (some (vi 7 0))),iff (tv (b2 (vi 7 3) (c (.int 1)) (cmp .Eq))) (ab [fX (aM (aE) (v 10) [tup [b2 (v 6) (b2 (vi 7 4) (ae bH [v 6]) (aX true .Mod)) ix,b2 (v 6) (b2 (vi 7 5) (ae bH [v 6]) (aX true .Mod)) ix]])]) (ab []),ret (tup [vi 5 0,vi 5 1,v 9,v 8,v 10])])
def dT:Fn:=run 1 9 (ab [asg (.one 1) (ae eD [ae bz [v 0,c (.int 0)]]),asg (.one 2) (b2 (ae bz [v 0,c (.int 1)]) (c (.int 25)) (aX true .Mod)),asg (.one 3) (comp true (xA (c (.int 0)) (c (.int 4))) [none,none,some 2] (.one 1) yes (b2 (c (.str (S "N"))) (ae bg [v 2,v 1]) (aX true .Add))),asg (.one 4) (lst true [ae bg [v 2,c (.int 4)],ae bg [v 2,c (.int 5)]]),asg (.one 5) (lst false []),bQ (src (tup [c (.int 2),c (.int 4)])) (.one 6) (ab [asg (.one 7) (ae bz [v 0,v 6]),asg (.one 8) (ae bz [v 0,b2 (v 6) (c (.int 1)) (aX true .Add)]),fX (aM (aE) (v 5) [ae fF [v 1,v 7,v 8,b2 (sl true (v 3) none (some (c (.int 3)))) (sl true (v 4) none (some (c (.int 1)))) (aX true .Add),v 4]])]),ret (tup [v 1,v 3,v 4,v 5])])
def eU:Fn:=run 2 2 (ab [ret (tup [vi 0 0,ae iO [comp true (src (vi 0 1)) [none,none,some 1] (.one 1) yes (aM (cF) (v 2) [v 1,v 1])]])])
def dD:Fn:=run 2 2 (ab [ret (aM (cF) (v 1) [v 0,v 0])])
def eF:Fn:=run 2 4 (ab [asg (.one 2) (ae dD [vi 0 1,v 1]),asg (.one 3) (ae dD [vi 0 2,v 1]),iff (tv (b2 (vi 0 0) (c (.str (S "same"))) (cmp .Eq))) (ab [ret (b2 (v 2) (v 3) (cmp .Eq))]) (ab []),ret (kq [b2 (vi 2 0) (c (.str (S "N"))) (cmp .NotEq),b2 (vi 3 0) (c (.str (S "N"))) (cmp .NotEq),b2 (v 2) (v 3) (cmp .NotEq)])])
def cu:Fn:=run 4 9 (ab [asg (.one 4) (comp true (src (v 0)) [none,none] (.one 1) (tv (vi 1 2)) (vi 1 0)),asg (.one 6) (comp true (src (b2 (vi 2 0) (vi 2 1) (aX true .Add))) [none,none,some 3] (.one 1) yes (ae eU [v 1,v 2])),bQ (src (v 6)) (.one 5) (ab [iff (jI [tv (b2 (vi 5 0) (v 4) (cmp .In)),tv (b2 (v 5) (vi 1 1) (cmp .NotIn))]) (ab [ret (c (.bl false))]) (ab []),iff (jI [tv (b2 (vi 5 0) (v 4) (cmp .NotIn)),tv (b2 (aM (iF) (vi 1 0) [v 5]) (aM (iF) (v 6) [v 5]) (cmp .Lt))]) (ab [ret (c (.bl false))]) (ab [])]),bQ (src (vi 2 2)) (.one 7) (ab [iff (d9 (tv (ae eF [v 7,v 3]))) (ab [ret (c (.bl false))]) (ab [])]),iff (vz [tv (vi 1 3),tv (b2 (ae bH [vi 2 0]) (c (.int 0)) (cmp .Gt))]) (ab [ret (mc (vi 1 3))]) (ab []),asg (.one 8) (comp true (src (vi 2 3)) [none,none,some 1,some 3] (.one 1) (tv (b2 (ae eU [v 1,v 3]) (vi 2 1) (cmp .NotIn))) (v 1)),asg (.one 8) (b2 (v 8) (comp true (src (vi 2 4)) [none,none,some 3] (.one 1) (tv (b2 (ae dD [vi 1 0,v 2]) (ae dD [vi 1 1,v 2]) (cmp .NotEq))) (v 1)) (aX true .Add)),ret (b2 (ae bH [v 8]) (c (.int 0)) (cmp .Gt))])
def aV:Fn:=run 2 2 (ab [ret (comp true (src (b2 (vi 0 0) (vi 0 1) (aX true .Add))) [none,none,some 1] (.one 1) yes (ae eU [v 1,v 2]))])
def bU:Fn:=run 2 4 (ab [asg (.one 2) (ae jt [comp true (src (v 0)) [none,none] (.one 1) yes (tup [vi 1 0,vi 1 1])]),bQ (src (v 1)) (.one 3) (ab [iff (tv (b2 (vi 3 0) (v 2) (cmp .NotIn))) (ab [fW]) (ab []),iff (tv (b2 (ae bH [vi 3 1]) (b2 (v 2) (vi 3 0) ix) (cmp .NotEq))) (ab [fW]) (ab [])])])
def bV:Fn:=run 2 3 (ab [bQ (src (v 1)) (.one 2) (ab [iff (tv (b2 (vi 2 0) (v 0) (cmp .In))) (ab [fW]) (ab [])])])
def aW:Fn:=run 1 1 (ab [ret (b2 (vi 0 0) (c jR) (cmp .In))])
def m8:Fn:=run 2 3 (ab [bQ (src (v 1)) (.one 2) (ab [iff (tv (ae aW [v 2])) (ab [fX (aM (gC) (v 0) [v 2,v 2])]) (ab [])])])
def cQ:Fn:=run 2 5 (ab [iff (tv (b2 (ae bH [v 1]) (c (.int 0)) (cmp .Eq))) (ab [ret (ae (eV true) [v 0])]) (ab []),asg (.one 2) (wq false),bQ (src (v 1)) (.one 3) (ab [qJ (v 2) (v 3) (b2 (aM (cF) (v 2) [v 3,c (.int 0)]) (c (.int 1)) (aX true .Add))]),asg (.one 4) (lst false []),bQ (src (v 0)) (.one 3) (ab [iff (tv (b2 (aM (cF) (v 2) [v 3,c (.int 0)]) (c (.int 0)) (cmp .Gt))) (ab [xB .Sub (v 2) (v 3) (c (.int 1))]) (ab [fX (aM (aE) (v 4) [v 3])])]),bQ (src (v 1)) (.one 3) (ab [iff (tv (b2 (b2 (v 2) (v 3) ix) (c (.int 0)) (cmp .Gt))) (ab [fW]) (ab [])]),ret (v 4)])
def jS:Fn:=run 2 2 (ab [iff (d9 (tv (ae aW [v 0]))) (ab [ret (v 0)]) (ab []),iff (d9 (tv (ae aW [v 1]))) (ab [ret (v 1)]) (ab []),ret (ae xC [v 0,v 1])])
def fG:Fn:=run 3 7 (ab [asg (.one 3) (aM (cF) (v 0) [v 1,v 1]),asg (.one 4) (aM (cF) (v 0) [v 2,v 2]),iff (tv (b2 (v 3) (v 4) (cmp .Eq))) (ab [ret (c (.bl true))]) (ab []),iff (jI [d9 (tv (ae aW [v 3])),d9 (tv (ae aW [v 4]))]) (ab [ret (c (.bl false))]) (ab []),asg (.one 5) (ae jS [v 3,v 4]),bQ (src (ae (eV true) [v 0])) (.one 6) (ab [iff (tv (b2 (b2 (v 0) (v 6) ix) (tup [v 3,v 4]) (cmp .In))) (ab [qJ (v 0) (v 6) (v 5)]) (ab [])]),ret (c (.bl true))])
def bu:Fn:=run 2 2 (ab [ret (tup [vi 1 0,ae iO [comp true (src (vi 1 1)) [none,none,some 0] (.one 1) yes (aM (cF) (v 2) [v 1,v 1])]])])
def lY:Fn:=run 5 13 (ab [fX (ae bU [v 0,v 2]),fX (ae bU [v 0,v 3]),asg (.one 5) (comp true (src (v 0)) [none,none] (.one 1) (tv (vi 1 2)) (vi 1 0)),fX (ae bV [v 5,v 2]),iff (tv (vi 1 3)) (ab [ret (c bS)]) (ab []),asg (.one 6) (ae jt [vi 1 2]),asg (.one 8) (ae cQ [vi 1 0,comp true (src (v 2)) [none,none,some 6] (.one 1) yes (ae bu [v 2,v 1])]),bQ (src (v 3)) (.one 7) (ab [fX (ae m8 [v 6,vi 7 1])]),bQ (src (v 4)) (.one 9) (ab [fX (ae m8 [v 6,v 9]),iff (d9 (tv (ae fG [v 6,vi 9 0,vi 9 1]))) (ab [ret (c bS)]) (ab [])]),asg (.one 10) (ae (eV true) [vi 1 1]),iff (tv (b2 (ae bH [v 4]) (c (.int 0)) (cmp .Gt))) (ab [asg (.one 8) (comp true (src (v 8)) [none,none,some 6] (.one 1) yes (ae bu [v 2,v 1])),asg (.one 10) (comp true (src (v 10)) [none,none,some 6] (.one 1) yes (ae bu [v 2,v 1]))]) (ab []),asg (.one 11) (comp true (src (v 3)) [none,none,some 6] (.one 1) yes (ae bu [v 2,v 1])),asg (.one 12) (b2 (v 8) (comp true (src (v 11)) [none,none,some 5] (.one 1) (tv (b2 (vi 1 0) (v 2) (cmp .NotIn))) (v 1)) (aX true .Add)),asg (.one 10) (b2 (v 10) (comp true (src (v 11)) [none,none,some 5] (.one 1) (tv (b2 (vi 1 0) (v 2) (cmp .In))) (v 1)) (aX true .Add)),ret (tup [ae iO [ae (ib true) [v 12]],ae iO [ae (mH true) [v 10]],ae iO [ae (kj true) [v 6]],c (.bl false)])])
def cv:Fn:=run 2 2 (ab [ret (tup [aM (cF) (v 0) [vi 1 0,vi 1 0],aM (cF) (v 0) [vi 1 1,vi 1 1]])])
def jT:Fn:=run 3 7 (ab [asg (.one 3) (b2 (b1 (v 0) (fld "rules")) (vi 2 0) ix),asg (.one 4) (ae gT [b1 (v 3) (fld "names"),vi 2 1]),asg (.one 5) (comp true (src (b1 (v 3) (fld "taken"))) [none,none,some 4] (.one 1) yes (ae bu [v 2,v 1])),asg (.one 6) (comp true (src (b1 (v 3) (fld "given"))) [none,none,some 4] (.one 1) yes (ae bu [v 2,v 1])),ret (ae lY [b1 (v 0) (fld "kinds"),v 1,v 5,v 6,comp true (src (b1 (v 3) (fld "told"))) [none,none,some 4] (.one 1) yes (ae cv [v 2,v 1])])])
def iJ:Fn:=run 3 4 (ab [iff (tv (ae wt [comp true (src (b1 (v 0) (fld "given"))) [none,none,some 2,some 1] (.one 1) yes (b2 (ae bu [v 3,v 1]) (v 2) (cmp .NotIn))])) (ab [ret (c (.bl true))]) (ab []),asg (.one 3) (comp true (src (b1 (v 0) (fld "told"))) [none,none,some 1] (.one 1) yes (ae cv [v 2,v 1])),ret (ae wt [comp true (src (v 3)) [none,none] (.one 1) yes (b2 (vi 1 0) (vi 1 1) (cmp .NotEq))])])
def eG:Fn:=run 2 2 (ab [iff (vz [tv (b2 (vi 1 0) (c (.int 0)) (cmp .Lt)),tv (b2 (vi 1 0) (ae bH [b1 (v 0) (fld "rules")]) (cmp .GtE))]) (ab [fW]) (ab []),iff (tv (b2 (ae bH [vi 1 1]) (ae bH [b1 (b2 (b1 (v 0) (fld "rules")) (vi 1 0) ix) (fld "names")]) (cmp .NotEq))) (ab [fW]) (ab [])])
def dH:Fn:=run 4 7 (ab [asg (.one 4) (comp true (src (v 0)) [none,none] (.one 1) (tv (vi 1 2)) (vi 1 0)),asg (.one 5) (comp true (src (b2 (b1 (v 1) (fld "taken")) (b1 (v 1) (fld "kept")) (aX true .Add))) [none,none,some 2] (.one 1) yes (ae bu [v 2,v 1])),bQ (src (v 5)) (.one 6) (ab [iff (tv (b2 (vi 6 0) (v 4) (cmp .In))) (ab [iff (tv (b2 (v 6) (vi 3 1) (cmp .NotIn))) (ab [ret (c (.bl false))]) (ab [])]) (ab [iff (tv (b2 (aM (iF) (vi 3 0) [v 6]) (aM (iF) (v 5) [v 6]) (cmp .Lt))) (ab [ret (c (.bl false))]) (ab [])])]),ret (c (.bl true))])
def cD:Fn:=run 3 3 (ab [ret (b2 (v 1) (v 2) (cmp .Eq))])
def bG:Fn:=run 3 3 (ab [ret (kq [mc (ae aW [v 1]),mc (ae aW [v 2]),b2 (v 1) (v 2) (cmp .NotEq)])])
def eH:Fn:=run 2 2 (ab [ret (ae qK [comp true (src (b1 (v 0) (fld "looks"))) [none,none,some 1] (.one 1) yes (oX "holds" (fun y=>([("Unlike",bG),("Same",cD)]:List (Str × Fn)).lookup y) (v 1) [aM (cF) (v 2) [b1 (v 1) (fld "left"),b1 (v 1) (fld "left")],aM (cF) (v 2) [b1 (v 1) (fld "right"),b1 (v 1) (fld "right")]])])])
def bP:Fn:=run 1 1 (ab [ret (b2 (ae bH [b1 (v 0) (fld "taken")]) (c (.int 0)) (cmp .Eq))])
def fk:Fn:=run 3 5 (ab [fX (ae eG [v 0,v 2]),iff (tv (vi 1 3)) (ab [ret (c (.bl false))]) (ab []),asg (.one 3) (b2 (b1 (v 0) (fld "rules")) (vi 2 0) ix),asg (.one 4) (ae gT [b1 (v 3) (fld "names"),vi 2 1]),iff (vz [d9 (tv (ae eH [v 3,v 4])),d9 (tv (ae dH [b1 (v 0) (fld "kinds"),v 3,v 4,v 1]))]) (ab [ret (c (.bl false))]) (ab []),ret (Bf [mc (oX "calls" (fun y=>([("Rule",bP)]:List (Str × Fn)).lookup y) (v 3) []),ae iJ [v 3,v 4,vi 1 1]])])
def dI:Fn:=run 3 3 (ab [iff (d9 (tv (ae fk [v 0,v 1,v 2]))) (ab [fW]) (ab []),ret (ae jT [v 0,v 1,v 2])])
def bA:Fn:=run 4 6 (ab [iff (tv (vi 2 3)) (ab [ret (v 2)]) (ab []),asg (.one 4) (ae jt [vi 2 2]),asg (.one 5) (tup [vi 3 0,ae iO [comp true (src (vi 3 1)) [none,none,some 4] (.one 1) yes (aM (cF) (v 2) [v 1,v 1])]]),iff (tv (ae fk [v 0,v 2,v 5])) (ab [ret (ae dI [v 0,v 2,v 5])]) (ab []),iff (tv (b2 (ae bH [b2 (b2 (v 1) (vi 3 0) ix) (c (.int 0)) ix]) (c (.int 0)) (cmp .Gt))) (ab [ret (c .bZ)]) (ab []),ret (v 2)])
def cR:Fn:=run 3 7 (ab [asg (.one 3) (comp true (src (v 0)) [none,none] (.one 1) (tv (vi 1 2)) (vi 1 0)),asg (.one 4) (lst false []),bQ (src (v 1)) (.one 5) (ab [iff (jI [tv (b2 (vi 5 0) (v 3) (cmp .In)),tv (b2 (v 5) (v 4) (cmp .NotIn))]) (ab [fX (aM (aE) (v 4) [v 5])]) (ab [])]),asg (.one 6) (ae (ib true) [comp true (src (v 1)) [none,none,some 3] (.one 1) (tv (b2 (vi 1 0) (v 2) (cmp .NotIn))) (v 1)]),ret (tup [ae iO [v 6],ae iO [ae (ib true) [v 4]],ae iO [ae (ib true) [v 2]],c (.bl false)])])
def dU:Fn:=run 1 1 (ab [ret (comp true (src (sl true (v 0) (some (c (.int 1))) none)) [none,none] (.one 1) yes (tup [v 1,v 1]))])
def cw:Fn:=run 3 4 (ab [asg (.one 3) (b2 (v 0) (v 1) ix),ret (tup [v 1,ae iO [comp true (src (ae cC [b2 (vi 3 0) (vi 3 1) (aX true .Add)])) [none,none,some 2] (.one 1) yes (b2 (v 2) (v 1) ix)]])])
def cx:Fn:=run 1 1 (ab [iff (tv (b2 (ae bH [vi 0 1]) (c (.int 0)) (cmp .Eq))) (ab [ret (vi 0 0)]) (ab []),ret (b2 (b2 (b2 (vi 0 0) (c (.str (S "("))) (aX true .Add)) (aM (km) (c (.str (S ","))) [ae (eV true) [vi 0 1]]) (aX true .Add)) (c (.str (S ")"))) (aX true .Add))])
def aJ:Fn:=run 2 2 (ab [iff (tv (b2 (ae bH [v 1]) (c (.int 0)) (cmp .Eq))) (ab [ret (lst true [])]) (ab []),ret (lst true [b2 (b2 (v 0) (c (.str (S " "))) (aX true .Add)) (aM (km) (c (.str (S ", "))) [v 1]) (aX true .Add)])])
def dW:Fn:=run 2 8 (ab [asg (.one 2) (lst false []),bQ (src (v 0)) (.one 3) (ab [asg (.one 4) (c (.str (S "passing "))),iff (tv (vi 3 2)) (ab [asg (.one 4) (c (.str (S "lasting ")))]) (ab []),fX (aM (aE) (v 2) [b2 (b2 (b2 (v 4) (vi 3 0) (aX true .Add)) (c (.str (S " "))) (aX true .Add)) (ae tc [vi 3 1]) (aX true .Add)])]),bQ (LN (v 1)) (.many [5,6]) (ab [asg (.one 7) (ae aJ [c (.str (S "take")),comp true (src (vi 6 0)) [none,none] (.one 1) yes (ae cx [v 1])]),asg (.one 7) (b2 (v 7) (ae aJ [c (.str (S "keep")),comp true (src (vi 6 1)) [none,none] (.one 1) yes (ae cx [v 1])]) (aX true .Add)),asg (.one 7) (b2 (v 7) (ae aJ [c (.str (S "look")),comp true (src (vi 6 2)) [none,none] (.one 1) yes (b2 (b2 (b2 (b2 (vi 1 1) (c (.str (S " "))) (aX true .Add)) (vi 1 0) (aX true .Add)) (c (.str (S " "))) (aX true .Add)) (vi 1 2) (aX true .Add))]) (aX true .Add)),asg (.one 7) (b2 (v 7) (ae aJ [c (.str (S "put")),comp true (src (vi 6 3)) [none,none] (.one 1) yes (ae cx [v 1])]) (aX true .Add)),asg (.one 7) (b2 (v 7) (ae aJ [c (.str (S "tell")),comp true (src (vi 6 4)) [none,none] (.one 1) yes (b2 (b2 (vi 1 0) (c (.str (S " = "))) (aX true .Add)) (vi 1 1) (aX true .Add))]) (aX true .Add)),fX (aM (aE) (v 2) [b2 (b2 (b2 (c (.str (S "rule r"))) (ae tc [v 5]) (aX true .Add)) (c (.str (S ": "))) (aX true .Add)) (aM (km) (c (.str (S "; "))) [v 7]) (aX true .Add)])]),ret (aM (km) (c (.str (S "\n"))) [v 2])])
def bE:Fn:=run 3 4 (ab [asg (.one 3) (ae cC [b2 (vi 0 0) (vi 0 1) (aX true .Add)]),ret (ae gT [v 3,comp true (src (sl true (v 1) none (some (ae bH [v 3])))) [none,none,some 2] (.one 1) yes (b2 (v 2) (v 1) ix)])])
def eI:Fn:=run 1 4 (ab [asg (.one 1) (wq false),bQ (src (v 0)) (.one 2) (ab [bQ (src (vi 2 1)) (.one 3) (ab [iff (tv (ae aW [v 3])) (ab [qJ (v 1) (v 3) (c (.bl true))]) (ab [])])]),ret (ae (eV true) [v 1])])
def il:Fn:=run 3 3 (ab [ja (v 0) "title" (v 1),ja (v 0) "taken" (aM (cF) (v 2) [c (.str (S "take")),lst true []]),ja (v 0) "kept" (aM (cF) (v 2) [c (.str (S "keep")),lst true []]),ja (v 0) "looks" (aM (cF) (v 2) [c (.str (S "look")),lst true []]),ja (v 0) "given" (aM (cF) (v 2) [c (.str (S "put")),lst true []]),ja (v 0) "told" (aM (cF) (v 2) [c (.str (S "tell")),lst true []]),ja (v 0) "names" (ae eI [b2 (b1 (v 0) (fld "taken")) (b1 (v 0) (fld "kept")) (aX true .Add)])])
def uA:Fn:=make "Rule" il
def cy:Fn:=run 1 1 (ab [ret (Bf [b2 (v 0) (c jQ) (cmp .In),b2 (v 0) (c jR) (cmp .In),b2 (v 0) (c kJ) (cmp .In)])])
def gO:Fn:=run 2 3 (ab [asg (.one 2) (v 1),qB (jI [tv (b2 (v 2) (ae bH [v 0]) (cmp .Lt)),tv (ae cy [b2 (v 0) (v 2) ix])]) (ab [aug .Add 2 (c (.int 1))]) lim,ret (v 2)])
def jU:Fn:=run 2 6 (ab [asg (.one 2) (lst false []),asg (.one 3) (c (.int 0)),qB (tv (b2 (v 3) (ae bH [v 0]) (cmp .Lt))) (ab [asg (.one 4) (ae gO [v 0,v 3]),iff (tv (b2 (v 4) (v 3) (cmp .Gt))) (ab [fX (aM (aE) (v 2) [sl true (v 0) (some (v 3)) (some (v 4))]),asg (.one 3) (v 4),cnt]) (ab []),asg (.one 5) (b2 (v 0) (v 3) ix),iff (tv (b2 (v 5) (v 1) (cmp .In))) (ab [fX (aM (aE) (v 2) [v 5])]) (ab [iff (tv (b2 (v 5) (c (.str (S " "))) (cmp .NotEq))) (ab [fW]) (ab [])]),aug .Add 3 (c (.int 1))]) lim,ret (v 2)])
def dJ:Fn:=run 1 1 (ab [ret (ae jU [v 0,c gM])])
def dE:Fn:=run 1 1 (ab [ret (kq [wo .LtE .LtE (c (.int 1)) (ae bH [v 0]) (c kL),ae qK [comp true (src (v 0)) [none,none] (.one 1) yes (ae cy [v 1])]])])
def bw:Fn:=run 1 1 (ab [ret (kq [ae dE [v 0],b2 (vi 0 0) (c jQ) (cmp .In)])])
def fH:Fn:=run 1 1 (ab [iff (vz [tv (b2 (ae bH [v 0]) (c (.int 3)) (cmp .NotEq)),tv (b2 (vi 0 0) (c gN) (cmp .NotIn))]) (ab [fW]) (ab []),iff (d9 (tv (ae bw [vi 0 1]))) (ab [fW]) (ab []),iff (tv (b2 (vi 0 2) (c m7) (cmp .NotIn))) (ab [fW]) (ab []),ret (tup [vi 0 1,ae wu [vi 0 2],b2 (vi 0 0) (c (.str (S "lasting"))) (cmp .Eq)])])
def fm:Fn:=run 2 4 (ab [asg (.one 2) (lst false [lst false []]),bQ (src (v 0)) (.one 3) (ab [iff (tv (b2 (v 3) (v 1) (cmp .Eq))) (ab [fX (aM (aE) (v 2) [lst false []])]) (ab [fX (aM (aE) (b2 (v 2) (b1 (c (.int 1)) neg) ix) [v 3])])]),ret (v 2)])
def aG:Fn:=run 2 2 (ab [iff (tv (b2 (v 1) (ae bH [v 0]) (cmp .Lt))) (ab [ret (b2 (v 0) (v 1) ix)]) (ab []),ret (c (.str (S "")))])
def cS:Fn:=run 3 3 (ab [ja (v 0) "left" (v 1),ja (v 0) "right" (v 2)])
def z6:Fn:=make "Same" cS
def sj:Fn:=make "Unlike" cS
def bB:Fn:=run 1 1 (ab [iff (vz [tv (b2 (ae bH [v 0]) (c (.int 3)) (cmp .NotEq)),d9 (tv (ae dE [vi 0 0])),d9 (tv (ae dE [vi 0 2]))]) (ab [fW]) (ab [])])
def fJ:Fn:=run 1 1 (ab [fX (ae bB [v 0]),iff (tv (b2 (vi 0 1) (c (.str (S "same"))) (cmp .Eq))) (ab [ret (ae z6 [vi 0 0,vi 0 2])]) (ab []),iff (tv (b2 (vi 0 1) (c (.str (S "unlike"))) (cmp .Eq))) (ab [ret (ae sj [vi 0 0,vi 0 2])]) (ab []),fW])
def de:Fn:=run 1 1 (ab [ret (comp true (src (ae fm [v 0,c (.str (S ","))])) [none,none] (.one 1) yes (ae fJ [v 1]))])
def fK:Fn:=run 1 1 (ab [fX (ae bB [v 0]),iff (tv (b2 (vi 0 1) (c (.str (S "="))) (cmp .NotEq))) (ab [fW]) (ab []),ret (tup [vi 0 0,vi 0 2])])
def dh:Fn:=run 1 1 (ab [ret (comp true (src (ae fm [v 0,c (.str (S ","))])) [none,none] (.one 1) yes (ae fK [v 1]))])
def di:Fn:=run 2 5 (ab [asg (.one 2) (lst false []),iff (tv (b2 (ae aG [v 0,v 1]) (c (.str (S ")"))) (cmp .Eq))) (ab [ret (tup [tup [],b2 (v 1) (c (.int 1)) (aX true .Add)])]) (ab []),qB (tv (c (.bl true))) (ab [asg (.one 3) (ae aG [v 0,v 1]),iff (d9 (tv (ae dE [v 3]))) (ab [fW]) (ab []),fX (aM (aE) (v 2) [v 3]),asg (.one 4) (ae aG [v 0,b2 (v 1) (c (.int 1)) (aX true .Add)]),aug .Add 1 (c (.int 2)),iff (tv (b2 (v 4) (c (.str (S ")"))) (cmp .Eq))) (ab [ret (tup [ae iO [v 2],v 1])]) (ab []),iff (tv (b2 (v 4) (c (.str (S ","))) (cmp .NotEq))) (ab [fW]) (ab [])]) lim])
def iK:Fn:=run 2 4 (ab [asg (.one 2) (ae aG [v 0,v 1]),iff (d9 (tv (ae bw [v 2]))) (ab [fW]) (ab []),iff (tv (b2 (ae aG [v 0,b2 (v 1) (c (.int 1)) (aX true .Add)]) (c (.str (S "("))) (cmp .NotEq))) (ab [ret (tup [tup [v 2,tup []],b2 (v 1) (c (.int 1)) (aX true .Add)])]) (ab []),asg (.one 3) (ae di [v 0,b2 (v 1) (c (.int 2)) (aX true .Add)]),ret (tup [tup [v 2,vi 3 0],vi 3 1])])
def dj:Fn:=run 1 4 (ab [asg (.one 1) (lst false []),asg (.one 2) (c (.int 0)),qB (tv (c (.bl true))) (ab [asg (.one 3) (ae iK [v 0,v 2]),fX (aM (aE) (v 1) [vi 3 0]),asg (.one 2) (vi 3 1),iff (tv (b2 (v 2) (ae bH [v 0]) (cmp .Eq))) (ab [ret (v 1)]) (ab []),iff (tv (b2 (b2 (v 0) (v 2) ix) (c (.str (S ","))) (cmp .NotEq))) (ab [fW]) (ab []),aug .Add 2 (c (.int 1))]) lim])
def cz:Fn:=run 2 2 (ab [iff (tv (b2 (v 0) (c (.str (S "look"))) (cmp .Eq))) (ab [ret (ae de [v 1])]) (ab []),iff (tv (b2 (v 0) (c (.str (S "tell"))) (cmp .Eq))) (ab [ret (ae dh [v 1])]) (ab []),ret (ae dj [v 1])])
def fL:Fn:=run 1 6 (ab [asg (.one 1) (ae aG [v 0,c (.int 1)]),iff (vz [tv (b2 (ae aG [v 0,c (.int 0)]) (c cP) (cmp .NotEq)),d9 (tv (ae bw [v 1])),tv (b2 (ae aG [v 0,c (.int 2)]) (c (.str (S ":"))) (cmp .NotEq))]) (ab [fW]) (ab []),asg (.one 2) (wq false),asg (.one 3) (c (.int 0)),bQ (src (ae fm [sl true (v 0) (some (c (.int 3))) none,c (.str (S ";"))])) (.one 4) (ab [asg (.one 5) (ae aG [v 4,c (.int 0)]),iff (tv (b2 (v 5) (sl true (c bO) (some (v 3)) none) (cmp .NotIn))) (ab [fW]) (ab []),asg (.one 3) (b2 (aM (pN) (c bO) [v 5]) (c (.int 1)) (aX true .Add)),qJ (v 2) (v 5) (ae cz [v 5,sl true (v 4) (some (c (.int 1))) none])]),iff (jI [tv (b2 (c (.str (S "take"))) (v 2) (cmp .NotIn)),tv (b2 (c (.str (S "keep"))) (v 2) (cmp .NotIn))]) (ab [fW]) (ab []),ret (tup [v 1,v 2])])
def cT:Fn:=run 3 6 (ab [asg (.one 3) (ae dJ [v 2]),iff (tv (b2 (vi 3 0) (c cP) (cmp .Eq))) (ab [asg (.one 4) (ae fL [v 3]),iff (tv (b2 (vi 4 0) (comp true (src (v 1)) [none,none] (.one 1) yes (b1 (v 1) (fld "title"))) (cmp .In))) (ab [fW]) (ab []),fX (aM (aE) (v 1) [ae uA [vi 4 0,vi 4 1]])]) (ab [asg (.one 5) (ae fH [v 3]),iff (tv (b2 (vi 5 0) (comp true (src (v 0)) [none,none] (.one 1) yes (vi 1 0)) (cmp .In))) (ab [fW]) (ab []),fX (aM (aE) (v 0) [v 5])])])
def iM:Fn:=run 1 2 (ab [asg (.one 1) (aM (lU) (v 0) [c (.str (S " "))]),ret (kq [b2 (v 1) (c (.str (S ""))) (cmp .NotEq),b2 (vi 1 0) (c (.str (S "#"))) (cmp .NotEq)])])
def eK:Fn:=run 1 1 (ab [ret (comp true (src (aM (lS true) (v 0) [c (.str (S "\n"))])) [none,none] (.one 1) (tv (ae iM [v 1])) (v 1))])
def ip:Fn:=run 3 3 (ab [ja (v 0) "kinds" (v 1),ja (v 0) "rules" (v 2)])
def uB:Fn:=make "Book" ip
def dm:Fn:=run 2 3 (ab [iff (d9 (tv (oX "calls" (fun y=>([("Rule",bP)]:List (Str × Fn)).lookup y) (v 1) []))) (ab [ret (c .bZ)]) (ab []),bQ (src (b1 (v 1) (fld "given"))) (.one 2) (ab [iff (tv (b2 (vi 2 0) (v 0) (cmp .NotIn))) (ab [fW]) (ab [])])])
def eL:Fn:=run 1 5 (ab [asg (.one 1) (lst false []),bQ (src (b1 (v 0) (fld "looks"))) (.one 2) (ab [fX (aM (ic) (v 1) [lst true [b1 (v 2) (fld "left"),b1 (v 2) (fld "right")]])]),bQ (src (b1 (v 0) (fld "given"))) (.one 3) (ab [fX (aM (ic) (v 1) [vi 3 1])]),bQ (src (b1 (v 0) (fld "told"))) (.one 4) (ab [fX (aM (ic) (v 1) [v 4])]),ret (v 1)])
def dK:Fn:=run 1 2 (ab [bQ (src (ae eL [v 0])) (.one 1) (ab [iff (jI [tv (ae aW [v 1]),tv (b2 (v 1) (b1 (v 0) (fld "names")) (cmp .NotIn))]) (ab [fW]) (ab [])])])
def eM:Fn:=run 2 4 (ab [asg (.one 2) (comp true (src (v 0)) [none,none] (.one 1) (tv (vi 1 2)) (vi 1 0)),bQ (src (v 1)) (.one 3) (ab [fX (ae bU [v 0,b2 (b2 (b1 (v 3) (fld "taken")) (b1 (v 3) (fld "kept")) (aX true .Add)) (b1 (v 3) (fld "given")) (aX true .Add)]),fX (ae bV [v 2,b1 (v 3) (fld "taken")]),fX (ae dm [v 2,v 3]),fX (ae dK [v 3])]),ret (ae uB [v 0,v 1])])
def dX:Fn:=run 1 4 (ab [asg (.one 1) (lst false []),asg (.one 2) (lst false []),bQ (src (ae eK [v 0])) (.one 3) (ab [fX (ae cT [v 1,v 2,v 3])]),ret (ae eM [v 1,v 2])])
def so:Fn:=run 1 17 (ab [asg (.many [1,2,3,4]) (ae dT [v 0]),asg (.one 5) (ae aD [ae bz [v 0,c (.int 6)],lst true [c (.int 2),c (.int 4),c (.int 4),c (.int 4),c (.int 2),c (.int 4),c (.int 4),c (.int 4)]]),asg (.one 6) (ae dX [ae dW [v 1,v 4]]),asg (.one 7) (b2 (sl true (v 3) none (some (c (.int 1)))) (sl true (v 2) (some (c (.int 1))) none) (aX true .Add)),asg (.one 8) (ae bE [b2 (v 4) (vi 5 0) ix,sl true (v 5) (some (c (.int 1))) (some (c (.int 4))),v 7]),asg (.one 9) (ae bE [b2 (v 4) (vi 5 4) ix,sl true (v 5) (some (c (.int 5))) none,v 7]),asg (.one 10) (b2 (ae aV [b2 (v 4) (vi 5 0) ix,v 8]) (ae aV [b2 (v 4) (vi 5 4) ix,v 9]) (aX false .Add)),bQ (src (sl true (v 0) (some (c (.int 7))) (some (c (.int 19))))) (.one 11) (ab [fX (aM (aE) (v 10) [ae aI [v 1,b2 (ae aD [v 11,lst true [c (.int 1024)]]) (c (.int 0)) ix,v 7]])]),asg (.one 12) (ae cR [v 1,v 10,ae dU [v 2]]),asg (.one 13) (ae cw [v 4,vi 5 0,v 8]),asg (.one 14) (ae cw [v 4,vi 5 4,v 9]),iff (vz [d9 (tv (ae fk [v 6,v 12,v 13])),d9 (tv (ae fk [v 6,v 12,v 14]))]) (ab [ret (Bf [mc (ae cu [v 1,v 12,b2 (v 4) (vi 5 0) ix,v 8]),mc (ae cu [v 1,v 12,b2 (v 4) (vi 5 4) ix,v 9])])]) (ab []),asg (.one 15) (ae bA [v 6,v 4,ae dI [v 6,v 12,v 13],v 14]),asg (.one 16) (ae bA [v 6,v 4,ae dI [v 6,v 12,v 14],v 13]),ret (kq [b2 (v 15) (c .bZ) (cmp .IsNot),b2 (v 15) (v 16) (cmp .Eq)])])
theorem uC (ch:Nat) (L:aa):cy [.str [ch]] L=.ok (.bl (fw ch)) L:=by
 unfold cy jQ jR kJ fw;show _=R.ok (T.bl (decide (ch∈S "abcdefghijklmnopqrstuvwxyz") || (decide (ch∈S "ABCDEFGHIJKLMNOPQRSTUVWXYZ") || decide (ch∈S "0123456789")))) L
 simp_arith;cases decide (ch∈S "abcdefghijklmnopqrstuvwxyz") <;> cases decide (ch∈S "ABCDEFGHIJKLMNOPQRSTUVWXYZ") <;> simp [zO]
theorem m9 (s:Cs) (hs:s.length<=100000) (L:aa):dE [.str s] L=.ok (.bl (au s)) L:=by
 have hb:qK [.lst (s.map fun ch=>.bl (fw ch))] L=.ok (.bl (s.all fw)) L:=by
  have:=mapM_map (f:=HV) (g:=fun ch=>T.bl (fw ch)) (h:=fw) (fun _=>rfl) s;simp [qK,Et,vw,this,lift,ZY,VY]
 unfold dE kL au;by_cases h1:1<=s.length
 ·by_cases h2:s.length<=12
  ·simp_arith [show(1:Int)<=s.length by omega,show(s.length:Int)<=12 by omega,h1,h2,decide_true]
   rw [bc rfl s (fun ch=>.str [ch]) (fun ch=>.bl (fw ch)) (by exact rfl) (by exact ak) (by exact UW hs (by decide)) (by exact fun b _=>by simp_arith [uC])];simp_arith [hb]
  ·simp_arith [show(1:Int)<=s.length by omega,show ¬ (s.length:Int)<=12 by omega,h1,h2,decide_true,decide_false]
 ·simp_arith [show ¬ (1:Int)<=s.length by omega,h1,decide_false]
theorem oL {s:Cs} (h:1<=s.length) (L:aa):ix (.str s) (.int 0) L=.ok (.str [s.headD 0]) L:=by
 cases s with
 | nil=>cases h
 | cons a r=>simp [ix,vw,place,lift]
theorem lZ (s:Cs) (hs:s.length<=100000) (L:aa):bw [.str s] L=.ok (.bl (bW s)) L:=by
 unfold bw jQ bW;simp_arith [m9 s hs];cases h:au s with
 | false=>simp_arith
 | true=>simp_arith [oL (aN h).1];rfl
theorem eO (s:Cs) (hs:1<=s.length) (L:aa):aW [.str s] L=.ok (.bl (great s)) L:=by
 unfold aW jR great;simp_arith [oL hs];rfl
theorem eQ (ps:List Cs) (n:Nat) (L:aa):aG [.lst (ps.map .str),.int n] L=.ok (.str (ps.getD n [])) L:=by
 unfold aG;simp_arith;by_cases h:n<ps.length
 ·have e:(ps.map T.str)[n]?=some (.str (ps.getD n [])):=by simp [Gd9,h]
  simp only [show(n:Int)<ps.length by omega,decide_true];simp_arith [dB e]
 ·simp only [show ¬ (n:Int)<ps.length by omega,decide_false];simp_arith;simp [Gd9,h]
theorem gP (c:Nat) (r:Cs):dF (c::r)=if fw c=true then dF r+1 else 0:=by
 unfold dF;rw [aai];split <;> simp
theorem KY (p:Cs) (s:Nat) (L:aa) (hs:s<=p.length) (hl:p.length<=100000):gO [.str p,.int s] L=.ok (.int ((s+dF (p.drop s):Nat):Int)) L:=by
 unfold gO;simp_arith;generalize ho:qB _ _ _ _ _=o;have h:=vT ho (fun n φ L'=>L'=L/\∃e:Nat,n=p.length - e/\e<=p.length/\e+dF (p.drop e)=s+dF (p.drop s)/\φ=[some (.str p),some (.int s),some (.int e)])
  (fun o=>o=.nx [some (.str p),some (.int s),some (.int ((s+dF (p.drop s):Nat):Int))] L) (n:=p.length - s) (by unfold lim;omega) ⟨rfl,s,rfl,hs,rfl,rfl⟩ fun _ _ eJ eP n φ L' h=>by
   obtain⟨rfl,e,rfl,he,e1,rfl⟩:=h;by_cases bJ:e<p.length
   ·have hd:p.drop e=p[e]::p.drop (e+1):=V7 bJ
    rw [hd,gP] at e1;have hx:ix (.str p) (.int e) L'=.ok (.str [p[e]]) L':=by rw [uu (by omega) (by omega)];simp [bJ]
    cases hg:fw p[e] with
    | true =>
     rw [hg,if_pos rfl] at e1;refine .inr ⟨?_,?_⟩
     ·simp_arith [eJ,eP,hx,uC,show(e:Int)<p.length by omega,decide_true,hg]
     ·simp_arith [eJ,eP];exact⟨p.length - (e+1),by omega,trivial,e+1,rfl,by omega,by omega,by simp⟩
    | false =>
     rw [hg,if_neg (by simp)] at e1;refine .inl ⟨?_,?_⟩
     ·simp_arith [eJ,eP,hx,uC,show(e:Int)<p.length by omega,decide_true,hg]
     ·rw [eP,<- e1];rfl
   ·refine .inl ⟨?_,?_⟩
    ·simp_arith [eJ,eP,show ¬ (e:Int)<p.length by omega,decide_false]
    ·rw [Xf (by omega)] at e1;rw [eP,<- e1];rfl
 subst h;simp_arith
theorem bo {α β:Type} (f:α->β) (l:List α) (x:α):l.map f++[f x]=(l++[x]).map f:=by simp
theorem CX {p:Cs} {a n:Nat} (h:a+n<=p.length) (L:aa):i9 true (.str p) (some (a:Int)) (some ((a+n:Nat):Int)) L=.ok (.str ((p.drop a).take n)) L:=by
 unfold i9 vw;simp only [];rw [aQ ⟨by omega,by omega,by omega⟩,show((a:Int)).toNat=a by omega,show(((a+n:Nat):Int) - (a:Int)).toNat=n by omega]
theorem z7 {p:Cs} {ts:List Cs} (L:aa) (hp:p.length<=20000) (hk:Tk G8 p ts):jU [.str p,.str (S "(),:;=")] L=.ok (.lst (ts.map .str)) L:=by
 have MZ:=hk.len;unfold jU;simp_arith;generalize ho:qB _ _ _ _ _=o;have h:=vT ho (fun n φ L'=>∃(e:Nat) (done rest:List Cs) (o4 o5:Option T),n=p.length - e/\e<=p.length/\Tk G8 (p.drop e) rest/\done++rest=ts/\φ=[some (.str p),some (.str (S "(),:;=")),some (.ref L.length),some (.int e),o4,o5]/\L'=.lst (done.map .str)::L)
  (fun o=>∃o3 o4 o5,o=.nx [some (.str p),some (.str (S "(),:;=")),some (.ref L.length),o3,o4,o5] (.lst (ts.map .str)::L)) (n:=p.length) (by unfold lim;omega) ⟨0,[],ts,none,none,rfl,Vc _,hk,rfl,rfl,rfl⟩ fun _ _ eJ eP n φ L' h=>by
   obtain⟨e,done,rest,o4,o5,rfl,he,ht,rfl,rfl,rfl⟩:=h;have hlen:done.length<lim:=by
    rw [Ut] at MZ;unfold lim;omega
   have ee:=KY p e (.lst (done.map .str)::L) he (by omega);have sg:∀{c r},p.drop e=c::r->e<p.length/\p.drop (e+1)=r/\ix (.str p) (.int e) (.lst (done.map .str)::L)=.ok (.str [c]) (.lst (done.map .str)::L):=fun {c r} hd=>by
    have bJ:e<p.length:=by have:=congrArg WR hd;simp at this;omega
    have h2:=(V7 bJ).symm.trans hd;refine⟨bJ,(Ww h2).2,?_⟩;rw [uu (by omega) (by omega)];simp [bJ,(Ww h2).1]
   generalize hd:p.drop e=d at ht ee;cases ht with
   | nil =>
    have:=congrArg WR hd;rw [Vg] at this;refine .inl ⟨by simp_arith [eJ,eP,show ¬ (e:Int)<p.length by simp at this;omega,decide_false],?_⟩;rw [eP,U2];exact⟨_,_,_,rfl⟩
   | sp t =>
    obtain⟨bJ,hr,hx⟩:=sg hd;rw [gP,Bk.rR] at ee;refine .inr ⟨by simp_arith [eJ,eP,show(e:Int)<p.length by omega,decide_true],?_⟩;simp_arith [eJ,eP,ee,UJ,if_false,YT,Zu,decide_false,hx,show(32∈S "(),:;=")=False from eq_false (by decide)];exact⟨p.length - (e+1),by omega,e+1,done,rest,_,_,rfl,bJ,hr ▸ t,rfl,rfl,rfl⟩
   | @mk c _ q hc t =>
    obtain⟨bJ,hr,hx⟩:=sg hd;rw [gP,show fw c=false from(by decide +kernel:∀c∈G8,fw c=false) c hc] at ee;refine .inr ⟨by simp_arith [eJ,eP,show(e:Int)<p.length by omega,decide_true],?_⟩;simp_arith [eJ,eP,ee,UJ,if_false,YT,Zu,decide_false,hx,show(c∈S "(),:;=")=True from eq_true hc,decide_true,aQ hlen,bo];exact⟨p.length - (e+1),by omega,e+1,done++[[c]],q,_,_,rfl,bJ,hr ▸ t,by simp,rfl,rfl⟩
   | @name nm r q hn hs t =>
    have h1:=aN hn;have hl:=congrArg WR hd
    rw [Vg,Ut] at hl;have en:dF (nm++r)=nm.length:=by
     unfold dF;rw [List.takeWhile_append_of_pos (Bk.D0 hn)];cases r with
     | nil=>simp
     | cons c r=>rw [aai,hs c rfl];simp
    rw [en] at ee;refine .inr ⟨by simp_arith [eJ,eP,show(e:Int)<p.length by omega,decide_true],?_⟩;simp_arith [eJ,eP,ee,show((e:Nat):Int)<((e+nm.length:Nat):Int) by omega,decide_true,CX (p:=p) (a:=e) (n:=nm.length) (by omega),hd,List.take_left,aQ hlen,bo];exact⟨p.length - (e+nm.length),by omega,e+nm.length,done++[nm],q,_,_,rfl,by omega,by rw [<- Yl,hd,Yk];exact t,by simp,rfl,rfl⟩
 obtain⟨o3,o4,o5,rfl⟩:=h;simp_arith;exact fj (ao fun _ _=>rfl)
theorem gD {ps:List Cs} {q i:Nat} {d:List Cs} (h:ps.drop q=d):ps.getD (q+i) []=d.getD i []:=by
 rw [<- h,Gd9,Gd9,List.getElem?_drop]
theorem vU:∀as:List Cs,as.length<=(between as).length
 | []=>UM _
 | [_]=>WC _
 | _::b::t=>ZG (Nat.le_succ_of_le (vU (b::t)))
theorem He (ps as:List Cs) (p:Nat) (r:List Cs) (L:aa) (hl:ps.length<=20000) (h0:as≠[]) (hn:∀a∈as,au a=true) (hd:ps.drop p=between as++r) :
  di [.lst (ps.map .str),.int p] L=.ok (.tup [.tup (as.map .str),.int ((p+(between as).length:Nat):Int)]) L:=by
 have Ta:(ps.getD p [] == [41])=false:=by
  obtain⟨a,t,rfl⟩:=XC h0;rw [show ps.getD p []=a from(gD (i:=0) hd).trans (by cases t <;> rfl)];exact beq_eq_false_iff_ne.mpr fun e=>absurd (hn a Uv) (by rw [e];decide +kernel)
 have ha:as.length<lim:=by
  have z:=congrArg WR hd;have:=vU as
  rw [Vg,Ut] at z;unfold lim;omega
 unfold di;simp_arith [eQ,Ta];generalize ho:qB _ _ _ _ _=o;have h:=vT ho (fun m φ L'=>∃(q:Nat) (done as':List Cs) (o3 o4:Option T),m=as'.length/\as'≠[]/\ps.drop q=between as'++r/\done++as'=as/\q+(between as').length=p+(between as).length/\φ=[some (.lst (ps.map .str)),some (.int q),some (.ref L.length),o3,o4]/\L'=.lst (done.map .str)::L)
  (fun o=>o=.rt (.tup [.tup (as.map .str),.int ((p+(between as).length:Nat):Int)]) (.lst (as.map .str)::L)) (n:=as.length) ha ⟨p,[],as,none,none,rfl,h0,hd,rfl,rfl,rfl,rfl⟩ fun _ _ eJ eP m φ L' h=>by
   obtain⟨q,done,as',o3,o4,rfl,h0,hd,e1,e2,rfl,rfl⟩:=h;obtain⟨nm,t,rfl⟩:=XC h0;have hm:=hn nm (by rw [<- e1];simp)
   have Bg:=eQ ps q (.lst (done.map .str)::L);have vV:=eQ ps (q+1) (.lst ((done++[nm]).map .str)::L)
   rw [show ps.getD q []=nm from(gD (i:=0) hd).trans (by cases t <;> rfl)] at Bg;have hb:done.length<lim:=by
    rw [<- e1,Ut] at ha;omega
   refine .inr ⟨rfl,?_⟩;cases t with
   | nil =>
    rw [show ps.getD (q+1) []=[41] from gD (i:=1) hd] at vV;simp_arith [eJ,eP,Bg,m9 nm (UW (aN hm).2 (by decide)),hm,aQ hb,bo,vV];rw [e1,<- e2];rfl
   | cons b t =>
    rw [show ps.getD (q+1) []=[44] from gD (i:=1) hd] at vV;simp_arith [eJ,eP,Bg,m9 nm (UW (aN hm).2 (by decide)),hm,aQ hb,bo,vV];exact⟨(b::t).length,by simp,q+2,done++[nm],b::t,_,_,rfl,XQ _ _,by rw [<- Yl,hd];rfl,by simpa using e1,by rw [<- e2];show q+2+_=q+(_+2);omega,rfl,rfl⟩
 subst h;simp_arith;exact dS (by simp [lt,cf,jP])
theorem oM (ps:List Cs) (f:Fc) (p:Nat) (r:List Cs) (L:aa) (hl:ps.length<=20000) (hf:FG f) (hr:r.getD 0 []≠[40]) (hd:ps.drop p=cY f++r) :
  iK [.lst (ps.map .str),.int p] L=.ok (.tup [fT f,.int ((p+(cY f).length:Nat):Int)]) L:=by
 have Bg:=eQ ps p L;have vV:=eQ ps (p+1) L
 have hk:=aN (Bk.bj hf.k);unfold cY at hd;unfold iK cY;by_cases h0:f.as=[]
 ·rw [if_pos h0] at hd ⊢
  rw [show ps.getD p []=f.k from gD (i:=0) hd] at Bg;rw [show ps.getD (p+1) []=r.getD 0 [] from gD (i:=1) hd] at vV;simp_arith [Bg,lZ f.k (UW hk.2 (by decide)),hf.k,vV,beq_eq_false_iff_ne.mpr hr,show fT f=.tup [.str f.k,.tup []] by unfold fT;rw [h0];rfl];exact fin_same (by simp [lt,cf])
 ·rw [if_neg h0] at hd ⊢
  rw [show ps.getD p []=f.k from gD (i:=0) hd] at Bg;rw [show ps.getD (p+1) []=[40] from gD (i:=1) hd] at vV;simp_arith [Bg,lZ f.k (UW hk.2 (by decide)),hf.k,vV,He ps f.as (p+2) r L hl h0 hf.as (by rw [<- Yl,hd];rfl)];rw [show p+2+(between f.as).length=p+(f.k::[40]::between f.as).length by simp only [UA];omega];exact fin_same (by simp [fT,lt,cf,jP])
theorem CY {α:Type} {m:Cs} (l:List α) (g:α->List Cs) (hg:∀x,g x≠[]):l.length<=(glue m (l.map g)).length:=by
 induction l with
 | nil=>exact UM _
 | cons a t ih =>
  have:=XT.mpr (hg a);cases t with
  | nil=>exact this
  | cons b t =>
   show _<=(g a++m::glue m ((b::t).map g)).length;rw [Ut,UA,UA (as:=glue _ _)];omega
theorem KZ (fs:List Fc) (L:aa) (h0:fs≠[]) (hl:(glue [44] (fs.map cY)).length<=20000) (hf:∀f∈fs,FG f):dj [.lst ((glue [44] (fs.map cY)).map .str)] L=.ok (.lst (fs.map fT)) L:=by
 generalize B1:glue [44] (fs.map cY)=ps at hl;have hn:fs.length<lim:=by
  have:=CY (m:=[44]) fs cY fun f=>by unfold cY;split <;> exact XQ _ _
  rw [B1] at this;unfold lim;omega
 unfold dj;simp_arith;generalize ho:qB _ _ _ _ _=o;have h:=vT ho (fun m φ L'=>∃(q:Nat) (done rest:List Fc) (o3:Option T),m=rest.length/\rest≠[]/\ps.drop q=glue [44] (rest.map cY)/\done++rest=fs/\φ=[some (.lst (ps.map .str)),some (.ref L.length),some (.int q),o3]/\L'=.lst (done.map fT)::L)
  (fun o=>o=.rt (.ref L.length) (.lst (fs.map fT)::L)) (n:=fs.length) hn ⟨0,[],fs,none,rfl,h0,B1.symm,rfl,rfl,rfl⟩ fun _ _ eJ eP m φ L' h=>by
   obtain⟨q,done,rest,o3,rfl,h0,hd,e1,rfl,rfl⟩:=h;obtain⟨f,t,rfl⟩:=XC h0;have hF:=hf f (by rw [<- e1];simp)
   have hb:done.length<lim:=by rw [<- e1,Ut] at hn;omega
   have hq:=congrArg WR hd;rw [Vg] at hq;have wM:1<=(cY f).length:=by unfold cY;split <;> simp
   refine .inr ⟨rfl,?_⟩;cases t with
   | nil =>
    have hq:ps.length - q=(cY f).length:=hq;simp_arith [eJ,eP,oM ps f q [] _ hl hF (by simp) (by rw [hd,U2];rfl),aQ hb,bo,show(((q+(cY f).length:Nat):Int) == (ps.length:Int))=true from by simp;omega,e1]
   | cons g t =>
    have hq:ps.length - q=(cY f++[44]::glue [44] ((g::t).map cY)).length:=hq;have hd:ps.drop q=cY f++[44]::glue [44] ((g::t).map cY):=hd
    rw [Ut,UA] at hq;have hr:ps.drop (q+(cY f).length)=[44]::glue [44] ((g::t).map cY):=by rw [<- Yl,hd,Yk]
    have hg:(ps.map T.str)[q+(cY f).length]?=some (.str [44]):=by
     rw [UT,<- YT (q+(cY f).length),<- List.getElem?_drop,hr];rfl
    simp_arith [eJ,eP,oM ps f q _ _ hl hF (by simp) hd,aQ hb,bo,show(((q+(cY f).length:Nat):Int) == (ps.length:Int))=false from by simp;omega,dB hg];exact⟨(g::t).length,by simp,q+(cY f).length+1,done++[f],g::t,_,rfl,XQ _ _,by rw [<- Yl,hr];rfl,by simpa using e1,rfl,rfl⟩
 subst h;simp_arith;exact fj (ao aZ)
noncomputable def bt (m:Cs):List Cs->List (List Cs)->List (List Cs)
 | [],rows=>rows
 | p::r,rows=>bt m r (if p=m then rows++[[]] else rows.dropLast++[rows.getLastD []++[p]])
theorem iu {m:Cs}:∀(q rest:List Cs) (done:List (List Cs)) (cur:List Cs),m∉q->bt m (q++rest) (done++[cur])=bt m rest (done++[cur++q])
 | [],rest,done,cur,_=>by rw [Vt,U2]
 | p::q,rest,done,cur,h=>by
  have hp:p≠m:=fun e=>h (by rw [e];exact Uv)
  have hq:m∉q:=fun z=>h (Uw _ z)
  show bt m (q++rest) (if p=m then _ else (done++[cur]).dropLast++[(done++[cur]).getLastD []++[p]])=_;rw [if_neg hp,Z7,show(done++[cur]).getLastD []=cur by simp,iu q rest done (cur++[p]) hq,UU,Xs]
theorem jV {m:Cs}:∀(qs:List (List Cs)) (done:List (List Cs)),qs≠[]->(∀q∈qs,m∉q)->bt m (glue m qs) (done++[[]])=done++qs
 | [],_,h,_=>absurd rfl h
 | [q],done,_,h=>by
  have e:=iu q [] done [] (h q (by simp));rw [U2] at e;show bt m q _=_
  rw [e];rfl
 | q::q2::r,done,_,h=>by
  have e:=iu q (m::glue m (q2::r)) done [] (h q (by simp));show bt m (q++m::glue m (q2::r)) _=_
  rw [e];show bt m (glue m (q2::r)) (if m=m then (done++[[]++q])++[[]] else _)=_
  rw [if_pos rfl,jV (q2::r) (done++[[]++q]) (by simp) fun x hx=>h x (Uw _ hx),Vt,UU,Xs]
noncomputable def bq (r:List Cs):T:=.lst (r.map .str)
theorem Hf (n:Nat) (r:List Cs):lt n (bq r)=true:=by simp [bq,lt,jP]
noncomputable def cG (n k:Nat):List T:=.ref n::(Vx k).map fun i=>.ref (n+2+i)
noncomputable def dn (L:aa) (r0:List Cs) (rest:List (List Cs)):aa:=(rest.map bq).reverse++(.lst (cG L.length rest.length)::bq r0::L)
theorem qe {α:Type} {L:List α}:∀(A:List α) {n:Nat},n<L.length->at_ (A++L) n=at_ L n
 | [],n,h=>rfl
 | a::A,n,h=>by rw [Wr,at_,if_neg (by simp;omega),qe A h]
theorem vW {α:Type} {L:List α} {d:α}:∀(A:List α) {n:Nat},n<L.length->put (A++L) n d=A++put L n d
 | [],n,h=>rfl
 | a::A,n,h=>by rw [Wr,put,if_neg (by simp;omega),vW A h];rfl
section
variable {L:aa} {r0:List Cs} {rest:List (List Cs)}
theorem ni:(dn L r0 rest).length=L.length+2+rest.length:=by unfold dn;simp;omega
theorem oO {n k:Nat}:(cG n k).length=k+1:=by simp [cG]
theorem l6:at_ (dn L r0 rest) (L.length+1)=some (.lst (cG L.length rest.length)):=by
 unfold dn;rw [qe _ (by simp)];exact w9
theorem uD {n k:Nat}:cG n k++[.ref (n+2+k)]=cG n (k+1):=by simp [cG,List.range_succ]
theorem xd:put (.lst []::dn L r0 rest) (L.length+1) (.lst (cG L.length rest.length++[.ref (dn L r0 rest).length]))=dn L r0 (rest++[[]]):=by
 rw [ni,uD];show put ((T.lst []::(rest.map bq).reverse)++(.lst (cG L.length rest.length)::bq r0::L)) (L.length+1) _=_
 rw [vW _ (by simp),Kt];simp [dn,bq]
theorem uE {n:Nat}:place (n+1) (-1)=some n:=by
 unfold place;rw [if_neg (by decide),if_pos (by omega)];congr 1;omega
theorem xe (q:Cs):∃n last K0 oP,ix (.ref (L.length+1)) (.int (-1)) (dn L r0 rest)=.ok (.ref n) (dn L r0 rest)/\at_ (dn L r0 rest) n=some (bq last)/\put (dn L r0 rest) n (bq (last++[q]))=dn L K0 oP /\
  (∀mk qs,q≠mk->bt mk (q::qs) (r0::rest)=bt mk qs (K0::oP))/\(K0::oP).flatten.length=(r0::rest).flatten.length+1/\last.length<=(r0::rest).flatten.length/\oP.length=rest.length:=by
 have Mg:∀n,(cG L.length rest.length)[rest.length]?=some (.ref n)->ix (.ref (L.length+1)) (.int (-1)) (dn L r0 rest)=.ok (.ref n) (dn L r0 rest):=fun n h=>by
  simp only [ix,vw,l6,WH,oO,uE,WK,h,lift]
 rcases List.eq_nil_or_concat rest with rfl|⟨pre,last,e⟩
 ·refine⟨L.length,r0,r0++[q],[],Mg _ rfl,?_,?_,fun mk qs h=>?_,by simp,by simp,rfl⟩
  ·exact m6
  ·show put (T.lst (cG L.length 0)::bq r0::L) L.length _=_
   rw [Ks];rfl
  ·show bt mk qs (if q=mk then _ else _)=_
   rw [if_neg h];rfl
 ·rw [List.concat_eq_append] at e
  subst e;have ec:∀z:List Cs,dn L r0 (pre++[z])=bq z::((pre.map bq).reverse++(.lst (cG L.length (pre.length+1))::bq r0::L)):=fun z=>by simp [dn]
  have el:((pre.map bq).reverse++(T.lst (cG L.length (pre.length+1))::bq r0::L)).length=L.length+2+pre.length:=by simp;omega
  refine⟨L.length+2+pre.length,last,r0,pre++[last++[q]],Mg _ ?_,?_,?_,fun mk qs h=>?_,by simp;omega,by simp;omega,by simp⟩
  ·simp [cG]
  ·rw [ec,<- el];exact dC
  ·rw [ec,ec,<- el];exact xc
  ·show bt mk qs (if q=mk then _ else _)=_
   rw [if_neg h,show r0::(pre++[last])=(r0::pre)++[last] from rfl,Z7,List.getLastD_concat];rfl
end
theorem sq {L L':aa}:∀(ns:List Nat) (rows:List (List Cs)),ns.length=rows.length->(∀i (h:i<ns.length) (h':i<rows.length),L.length<=ns[i]/\at_ L' ns[i]=some (bq rows[i]))->(ns.map T.ref).mapM (cg L.length L' 7)=some (rows.map bq)
 | [],[],_,_=>rfl
 | n::ns,r::rows,hl,h=>by
  obtain⟨h1,h2⟩:=h 0 (by simp) (by simp);have h1:L.length<=n:=h1
  have h2:at_ L' n=some (bq r):=h2
  have e:cg L.length L' 7 (.ref n)=some (bq r):=by
   unfold cg;rw [if_neg (by rw [lt];simp;omega)];simp only [h2];unfold cg;rw [if_pos (Hf _ _)]
  rw [UG,Wy,e,sq ns rows (by simpa using hl) fun i a b=>h (i+1) (by simpa using a) (by simpa using b)];rfl
theorem z8 {L:aa} {r0:List Cs} {rest:List (List Cs)}:fin L (.ref (L.length+1)) (dn L r0 rest)=.ok (.lst ((r0::rest).map bq)) L:=by
 have hd:(dn L r0 rest).drop ((dn L r0 rest).length - L.length)=L:=by
  rw [ni,show dn L r0 rest=((rest.map bq).reverse++[.lst (cG L.length rest.length),bq r0])++L by simp [dn],List.drop_left' (by simp;omega)]
 unfold fin;rw [hd,if_pos (gi L)];unfold cg;rw [if_neg (by rw [lt];simp)];simp only [l6];unfold cg;rw [if_neg (by rw [lt,cG,cf,lt];simp)];have e:cG L.length rest.length=(L.length::(Vx rest.length).map fun i=>L.length+2+i).map T.ref:=by simp [cG]
 rw [e];simp only [];rw [sq _ (r0::rest) (by simp)]
 ·rfl
 ·intro i h h'
  cases i with
  | zero =>
   refine⟨UM _,?_⟩;show at_ (dn L r0 rest) L.length=some (bq r0)
   unfold dn;rw [qe _ (by simp only [UA];omega)];exact m6
  | succ i =>
   simp only [List.getElem_cons_succ,WJ,List.getElem_range];refine⟨by omega,?_⟩;have hi:i<rest.length:=by simpa using h'
   have e:dn L r0 rest=((rest.drop (i+1)).map bq).reverse++(bq rest[i]::(((rest.take i).map bq).reverse++(.lst (cG L.length rest.length)::bq r0::L))):=by
    have e0:rest.map bq=(rest.take i).map bq++(bq rest[i]::(rest.drop (i+1)).map bq):=by rw [<- UG,<- V7 hi,<- UL,Xp]
    unfold dn;rw [e0,List.reverse_append,List.reverse_cons,UU,UU];rfl
   rw [e,qe _ (by simp;omega),show L.length+2+i=(((rest.take i).map bq).reverse++(T.lst (cG L.length rest.length)::bq r0::L)).length by simp;omega];exact dC
theorem z9 (ps:List Cs) (mk:Cs) (L:aa) (hl:ps.length<=20000):fm [.lst (ps.map .str),.str mk] L=.ok (.lst ((bt mk ps [[]]).map bq)) L:=by
 unfold fm;simp_arith;generalize ho:forL _ _ _ _ _ _=o;have h:=c7 ho ps T.str (fun qs φ L'=>∃r0 rest o3,bt mk qs (r0::rest)=bt mk ps [[]]/\(r0::rest).flatten.length+qs.length<=20000/\rest.length+qs.length<=20000/\φ=[some (.lst (ps.map .str)),some (.str mk),some (.ref (L.length+1)),o3]/\L'=dn L r0 rest)
  (fun o=>∃r0 rest o3,r0::rest=bt mk ps [[]]/\o=.nx [some (.lst (ps.map .str)),some (.str mk),some (.ref (L.length+1)),o3] (dn L r0 rest)) rfl ⟨[],[],none,rfl,by simpa using hl,by simpa using hl,rfl,rfl⟩ (fun _ _ eJ eP q qs φ L' h=>by
   obtain⟨r0,rest,o3,e1,e2,e3,rfl,rfl⟩:=h;refine⟨sv,_,rfl,?_⟩;simp only [UA] at e2 e3;by_cases hq:q=mk
   ·subst hq
    simp_arith [eJ,eP];have ha:at_ (.lst []::dn L r0 rest) (L.length+1)=some (.lst (cG L.length rest.length)):=by rw [at_,if_neg (by rw [ni];omega)];exact l6
    simp_arith [eJ,eP,l6,ha,aQ (show(cG L.length rest.length).length<lim by rw [oO];unfold lim;omega),xd];refine⟨r0,rest++[[]],_,?_,by simp at e2 ⊢;omega,by simp;omega,rfl,rfl⟩;rw [<- e1];show _=bt q qs (if q=q then _ else _)
    rw [if_pos rfl];rfl
   ·obtain⟨n,last,K0,oP,i1,i2,i3,i4,i5,i6,i7⟩:=xe (L:=L) (r0:=r0) (rest:=rest) q
    simp_arith [eJ,eP,show(q == mk)=false from beq_eq_false_iff_ne.mpr hq,i1,i2,bq,aQ (show last.length<lim by unfold lim;omega),bo];refine⟨K0,oP,_,by rw [<- i4 mk qs hq];exact e1,by omega,by omega,rfl,i3⟩)
  fun φ L' h=>by
   obtain⟨r0,rest,o3,e1,e2,e3,rfl,rfl⟩:=h;exact⟨sv,r0,rest,o3,e1,rfl⟩
 obtain⟨r0,rest,o3,e,rfl⟩:=h;simp_arith;rw [z8,e]
theorem Eb {L Ln L':aa} {t:T} (hl:L'.length=L.length) (ho:old L L') (ht:lt L.length t=true):fin L t (Ln++L')=.ok t L':=by
 have e:(Ln++L').drop ((Ln++L').length - L.length)=L':=by rw [Ut,hl,YW,Yk]
 unfold fin;rw [e,if_pos ho];unfold cg;rw [if_pos ht];rfl
theorem K1 {L:aa} {c c':T} (h:lt (L.length+1) c'=true):old (c::L) (c'::L):=fun n d e=>by
 unfold at_ at e ⊢
 split at e
 ·cases e;exact .inr h
 ·rename_i z;rw [if_neg z];exact .inl e
theorem K2 {L:aa} {c c' d d':T} (h:lt (L.length+2) c'=true) (h':lt (L.length+2) d'=true):old (d::c::L) (d'::c'::L):=fun n e q=>by
 unfold at_ at q ⊢
 split at q
 ·cases q;exact .inr h'
 ·rename_i z
  rw [if_neg (show ¬ n=(c::L).length from z)];unfold at_ at q ⊢
  split at q
  ·cases q;exact .inr h
  ·rename_i z;rw [if_neg z];exact .inl q
theorem nj {L:aa} {c c' t:T} (h:lt (L.length+1) c'=true) (ht:lt (L.length+1) t=true):fin (c::L) t (c'::L)=.ok t (c'::L):=Eb (Ln:=[]) rfl (K1 h) ht
theorem bT {f:Str} {t:T}:∀{fs:List (Str × T)},(fs.map (·.1)).contains f=false->jq fs f t=fs++[(f,t)]
 | [],_=>rfl
 | (g,u)::r,h=>by
  simp only [UG,List.contains_cons,Yv] at h;have:g≠f:=fun e=>by rw [e] at h;simp at h
  rw [jq,if_neg this,bT h.2];rfl
theorem Aa (cn:Str) (a b:Cs) (L:aa):make cn cS [.str a,.str b] L=.ok (.obj cn [("left",.str a),("right",.str b)]) L:=by
 unfold make cS;simp_arith [ta,bT (fs:=[]) (f:="left") rfl,Vt,V8,show(0:Nat)<200 by decide];simp_arith [bT (fs:=[("left",.str a)]) (f:="right") (by rfl),show(0+1:Nat)<200 by decide,show(1:Nat)<200 by decide];rw [nj (by simp [lt,nJ]) rfl];simp_arith;exact fj (by simp [lt,nJ])
theorem Tc {x y z:Cs}:(([x,y,z].map T.str).length:Int)=3:=rfl
theorem Ec (x y z:Cs) (hx:au x=true) (hz:au z=true) (L:aa):bB [.lst [.str x,.str y,.str z]] L=.ok .bZ L:=by
 unfold bB;simp_arith [show(((0+1+1+1:Nat):Int) != 3)=false from rfl,show(((3:Nat):Int) != 3)=false from rfl];simp_arith [m9 x (UW (aN hx).2 (by decide)),m9 z (UW (aN hz).2 (by decide)),hx,hz]
theorem sr (k:Lk) (h:au k.l=true/\au k.r=true) (L:aa):fJ [bq (iS k)] L=.ok (lT k) L:=by
 unfold fJ bq iS lT;simp_arith [Ec _ _ _ h.1 h.2];cases k.same with
 | true =>
  simp_arith [show(fA true == S "same")=true from rfl,z6,Aa];exact fin_same (by simp [lt,nJ])
 | false =>
  simp_arith [show(fA false == S "same")=false from rfl,show(fA false == S "unlike")=true from rfl,sj,Aa];exact fin_same (by simp [lt,nJ])
theorem su (p:Cs × Cs) (h:au p.1=true/\au p.2=true) (L:aa):fK [bq (iT p)] L=.ok (pT p) L:=by
 unfold fK bq iT;simp_arith [Ec _ _ _ h.1 h.2];exact fin_same (by simp [lt,cf])
theorem kO {α:Type} {mk:Cs} {g:α->List Cs} {l:List α} {L:aa} (h0:l≠[]) (hq:∀x∈l,mk∉g x) (hl:(glue mk (l.map g)).length<=20000):fm [.lst ((glue mk (l.map g)).map .str),.str mk] L=.ok (.lst (l.map fun x=>bq (g x))) L:=by
 rw [z9 _ _ _ hl,show bt mk (glue mk (l.map g)) [[]]=l.map g from jV (l.map g) [] (by simpa using h0) fun q h=>by obtain⟨x,hx,rfl⟩:=Uz.mp h;exact hq x hx,UZ];rfl
theorem qg (l:List Lk) (h0:l≠[]) (hl:(glue [44] (l.map iS)).length<=20000) (hn:l.length<=2) (h:∀k∈l,au k.l=true/\au k.r=true) (L:aa):de [.lst ((glue [44] (l.map iS)).map .str)] L=.ok (.lst (l.map lT)) L:=by
 unfold de;simp_arith;rw [bc (k:=stays (.lst (l.map fun k=>bq (iS k))) L) rfl l (fun k=>bq (iS k)) lT (by simp_arith [kO h0 (fun k hk=>(Bk.vO (h k hk)).2) hl]) (by exact ak) (by exact UW hn (by decide)) (by exact fun k hk=>by simp_arith [sr k (h k hk)])];simp_arith;exact fin_same (ao oK)
theorem qh (l:List (Cs × Cs)) (h0:l≠[]) (hl:(glue [44] (l.map iT)).length<=20000) (hn:l.length<=2) (h:∀k∈l,au k.1=true/\au k.2=true) (L:aa):dh [.lst ((glue [44] (l.map iT)).map .str)] L=.ok (.lst (l.map pT)) L:=by
 unfold dh;simp_arith;rw [bc (k:=stays (.lst (l.map fun k=>bq (iT k))) L) rfl l (fun k=>bq (iT k)) pT (by simp_arith [kO h0 (fun k hk=>(Bk.vP (h k hk)).2) hl]) (by exact ak) (by exact UW hn (by decide)) (by exact fun k hk=>by simp_arith [su k (h k hk)])];simp_arith;exact fin_same (ao fh)
noncomputable def xw (x:Nat × List Im):T:=.lst (x.2.map (·.t))
theorem Ed {r:Rl} (n:Nat):∀x∈rows r,lt n (xw x)=true:=by
 refine Bk.CS ?_ ?_ ?_ ?_ ?_ <;> (show lt n (T.lst (List.map _ (List.map _ _)))=true;rw [UZ])
 ·exact ao aZ
 ·exact ao aZ
 ·exact ao oK
 ·exact ao aZ
 ·exact ao fh
theorem nq {w:Cs} (hw:(w == S "look")=false/\(w == S "tell")=false) {l:List Fc} (hf:∀f∈l,FG f) (h0:l≠[]) (hl:(glue [44] (l.map cY)).length<=20000) (L:aa):cz [.str w,.lst ((glue [44] (l.map cY)).map .str)] L=.ok (.lst (l.map fT)) L:=by
 unfold cz;simp_arith [hw.1,hw.2,KZ l L h0 hl hf];exact fin_same (ao aZ)
theorem Hg {ks:List Kd} {r:Rl} (h:sW ks r):∀x∈rows r,x.2≠[]->(glue [44] (x.2.map (·.tp))).length<=20000->∀L,cz [.str (wordAt x.1),.lst ((glue [44] (x.2.map (·.tp))).map .str)] L=.ok (xw x) L:=by
 obtain⟨_,_,f3,_,f5⟩:=h.pB;have hf:=fun g hg=>(h.f g hg).1
 unfold xw;refine Bk.CS ?_ ?_ ?_ ?_ ?_ <;> (intro h0 hl L;rw [UZ] at hl ⊢;rw [UZ];have h0:=fun e=>h0 (WD.mpr e))
 ·exact nq ⟨rfl,rfl⟩ (fun g hg=>hf g (UD _ (UD _ hg))) h0 hl L
 ·exact nq ⟨rfl,rfl⟩ (fun g hg=>hf g (UD _ (UK _ hg))) h0 hl L
 ·unfold cz
  simp_arith [show(wordAt 2 == S "look")=true from rfl,show de [.lst ((glue [44] (r.aj.map ((·.tp) ∘ lI))).map .str)] L=_ from qg _ h0 hl f3 h.l L];exact fin_same (ao oK)
 ·exact nq ⟨rfl,rfl⟩ (fun g hg=>hf g (UK _ hg)) h0 hl L
 ·unfold cz
  simp_arith [show(wordAt 4 == S "look")=false from rfl,show(wordAt 4 == S "tell")=true from rfl,show dh [.lst ((glue [44] (r.tell.map ((·.tp) ∘ pI))).map .str)] L=_ from qh _ h0 hl f5 h.p L];exact fin_same (ao fh)
theorem Hh (k:Kd) (h:bW k.n=true/\k.c<=4) (L:aa):fH [.lst ((Bk.rS k).map .str)] L=.ok (kT k) L:=by
 obtain⟨nm,c,la⟩:=k;obtain⟨h1,h2⟩:=h;have h1:bW nm=true:=h1
 have h2:c<=4:=h2;have hn:=aN (Bk.bj h1)
 unfold fH Bk.rS gN m7;have hc:∀c≤4,(nL (.str [48+c]) (.tup [.str (S "0"),.str (S "1"),.str (S "2"),.str (S "3"),.str (S "4")]) L=.ok true L)/\wu [.str [48+c]] L=.ok (.int c) L:=fun c h=>by
  have z:∀c≤4,PySem.intText? ⟨#[48+c]⟩=some (c:Int):=by decide +kernel
  refine⟨by rcases(by omega:c=0\/c=1\/c=2\/c=3\/c=4) with rfl|rfl|rfl|rfl|rfl <;> rfl,?_⟩;unfold wu;simp only [z c h,Yo];exact aQ (by simp)
 have hw:nL (.str (if la=true then Bk.cB else Bk.cA)) (.tup [.str (S "passing"),.str (S "lasting")]) L=.ok true L/\((if la=true then Bk.cB else Bk.cA) == S "lasting")=la:=by cases la <;> exact⟨rfl,rfl⟩
 simp_arith [hw.1,hw.2,lZ nm (UW hn.2 (by decide)),h1,(hc c h2).1,(hc c h2).2,show(((3:Nat):Int) != 3)=false from rfl];exact fin_same (by simp [lt,cf])
theorem K3 {k:T}:du [] k=none:=rfl
theorem iN {a b k:T} {ks:List (T × T)}:du ((a,b)::ks) k=(open Classical in if a=k then some b else du ks k):=by
 unfold du;rw [VU];by_cases h:a=k <;> simp [h]
theorem Hi {α:Type} {g:α->Cs} (l:List α) (y:Cs):gq (.str y::l.map fun x=>.str (g x))=true:=by
 unfold gq;rw [Xm];refine .inl (Uu.mpr fun x hx=>?_);rcases UN.mp hx with rfl|hx
 ·rfl
 ·obtain⟨z,_,rfl⟩:=Uz.mp hx;rfl
theorem vX {α:Type} {g:α->Cs} {h:α->T} (l:List α) (y:Cs):dM (l.map fun x=>(.str (g x),h x)) (.str y):=by
 unfold dM;rw [UZ];exact Hi l y
theorem eX {ks:List (T × T)} {k t:T} (h:∀p∈ks,p.1≠k):dput ks k t=ks++[(k,t)]:=by
 unfold dput;rw [if_neg];intro z;obtain⟨p,hp,e⟩:=Wb.mp z;exact h p hp (by simpa using e)
theorem xf (p:Cs) (hp:p.length<=20000) (hc:∃c r,p=c::r/\c≠32/\c≠35) (L:aa):iM [.str p] L=.ok (.bl true) L:=by
 obtain⟨c,p,rfl,h1,h2⟩:=hc;obtain⟨q,e,hl⟩:=Bk.zY h1 p;have hs:mq (.str (c::p)) [.str [32]] L=.ok (.str (c::q)) L:=by
  unfold mq;simp only [];rw [e,Bk.jN,aQ (by simp only [UA] at hp ⊢;unfold lim;omega)]
 unfold iM;simp_arith [lU,hs,show((c::q:Cs) == [])=false from rfl,oL (s:=c::q) (by simp),List.headD_cons,show(([c]:Cs) == [35])=false from beq_eq_false_iff_ne.mpr fun z=>h2 (Ww z).1]
theorem CZ (ls:List Cs) (h0:ls≠[]) (hn:ls.length<=6) (h:∀l∈ls,10∉l/\l.length<=20000/\∃c r,l=c::r/\c≠32/\c≠35) (L:aa):eK [.str (jn [10] ls)] L=.ok (.lst (ls.map .str)) L:=by
 have hs:mj true (.str (jn [10] ls)) [.str (S "\n")] L=.ok (.lst (ls.map .str)) L:=by
  unfold mj;simp only [];have hd:((ls.map toS).all fun s=>decide (s.cps.toList.length<=lim))=true:=by
   rw [ZY];refine Uu.mpr fun l hl=>?_
   simp only [VY,Bk.jN,decide_eq_true_eq];exact UW (h l hl).2.1 (by decide)
  rw [show XG (toS (jn [10] ls)) (toS (S "\n"))=ls.map toS from Bk.r6 h0 fun l hl=>(h l hl).1,aQ ⟨by decide,hd⟩,fo,aQ (by simp;unfold lim;omega),UZ];simp [mk,VY,Bk.jN]
 unfold eK;simp_arith;rw [cZ (k:=stays (.lst (ls.map .str)) L) rfl ls T.str (fun _=>true) T.str (by simp_arith [lS,hs]) (by exact ak) (by unfold lim;omega) (by exact fun b hb=>by simp_arith [xf b (h b hb).2.1 (h b hb).2.2]) (by exact fun b _ _=>by simp_arith),YG.mpr fun _ _=>rfl];simp_arith;exact fin_same (ao fun _ _=>rfl)
noncomputable def sx (acc:List Cs):T:=.aP (acc.map fun x=>(.str x,.bl true))
theorem Ab (acc:List Cs) (x:Cs):dput (acc.map fun x=>(T.str x,T.bl true)) (.str x) (.bl true)=(if x∈acc then acc else acc++[x]).map fun x=>(T.str x,T.bl true):=by
 by_cases h:x∈acc
 ·rw [if_pos h]
  unfold dput;rw [if_pos (Wb.mpr ⟨(.str x,.bl true),Uz.mpr ⟨x,h,rfl⟩,by simp⟩)]
  conv=>rhs;rw [<- Yi (acc.map _)]
  refine Vb fun p hp=>?_
  obtain⟨y,_,rfl⟩:=Uz.mp hp;by_cases e:T.str y=T.str x
  ·rw [if_pos e];rfl
  ·rw [if_neg e];rfl
 ·rw [if_neg h,eX]
  ·simp
  ·intro p hp
   obtain⟨y,hy,rfl⟩:=Uz.mp hp;exact fun e=>h (by cases e;exact hy)
theorem oQ {fs:List Fc} {L:aa} {E:List Cs->T} {b:SS} {k:aa->Prop} {o:O} {P:Cs->Prop} (ho:forL k (.one 2) (ab [bQ (src (vi 2 1)) (.one 3) b]) (fs.map fT) [some (.lst (fs.map fT)),some (.ref L.length),none,none] (E []::L)=o) (hk:∀L,k L) (hl:(fs.flatMap (·.as)).length<=32) (hf:∀f∈fs,∀a∈f.as,P a)
  (hb:∀(f:Fc) (a:Cs) (acc:List Cs),P a->acc.length<lim->b [some (.lst (fs.map fT)),some (.ref L.length),some (fT f),some (.str a)] (E acc::L)=.nx [some (.lst (fs.map fT)),some (.ref L.length),some (fT f),some (.str a)] (E (eZ a acc)::L)):∃z w,o=.nx [some (.lst (fs.map fT)),some (.ref L.length),z,w] (E (opens fs)::L):=by
 have h:=si fs fT E (fun acc f=>ij f.as acc) (fun r acc=>acc.length+(r.flatMap (·.as)).length<=32/\∀f∈r,∀a∈f.as,P a) (fun z w=>[some (.lst (fs.map fT)),some (.ref L.length),z,w]) (s:=[]) ho hk (fun _ _ _=>rfl) ⟨by simpa using hl,hf⟩ fun f r acc w h=>by
  have h1:=iG f.as acc;have h2:=h.1
  rw [Yh,Ut] at h2;refine⟨⟨by omega,fun g hg=>h.2 g (Uw _ hg)⟩,?_⟩;simp_arith;generalize ho:forL _ _ _ _ _ _=o;obtain⟨z,_,rfl⟩:=si f.as T.str E (fun acc a=>eZ a acc) (fun r acc=>acc.length+r.length<=32/\∀a∈r,P a) (fun z (_:Unit)=>[some (.lst (fs.map fT)),some (.ref L.length),some (fT f),z]) (w:=()) ho (fun _=>sv) (fun _ _ _=>rfl) ⟨by omega,h.2 f Uv⟩ fun a r acc _ h=>by
   have h1:=Bk.rQ a acc;have h2:=h.1
   rw [UA] at h2;exact⟨⟨by omega,fun g hg=>h.2 g (Uw _ hg)⟩,(),hb f a acc (h.2 a Uv) (by unfold lim;omega)⟩
  exact⟨z,rfl⟩
 rw [show fs.foldl (fun acc f=>ij f.as acc) []=opens fs from List.foldl_flatMap.symm] at h;exact h
theorem C0 (fs:List Fc) (hf:∀f∈fs,∀a∈f.as,au a=true) (hl:(fs.flatMap (·.as)).length<=32) (L:aa):eI [.lst (fs.map fT)] L=.ok (.lst ((opens fs).map .str)) L:=by
 unfold eI;simp_arith;generalize ho:forL _ _ _ _ _ _=o;obtain⟨z,w,rfl⟩:=oQ (E:=sx) ho (fun _=>sv) hl hf fun f a acc hn hl=>by
  simp_arith [eO a (aN hn).1];unfold eZ;cases hg:great a with
  | false=>simp_arith
  | true=>simp_arith [jr,sx,hl,show dM (acc.map fun x=>(T.str x,T.bl true)) (.str a) from vX (g:=id) _ a,and_self,Ab]
 have hz:(opens fs).length<=lim:=by
  have:(opens fs).length<=_:=iG (fs.flatMap (·.as)) [];simp only [U8] at this;unfold lim;omega
 have hb:eV true [.ref L.length] (sx (opens fs)::L)=.ok (.lst ((opens fs).map .str)) (sx (opens fs)::L):=by
  have e:((opens fs).map fun x=>(T.str x,T.bl true)).map (·.1)=(opens fs).map .str:=by simp
  unfold eV sx;simp only [jl,dC,fB];rw [e,aQ (by simp [j6]),fo,aQ (by simpa using hz)];rfl
 simp_arith [hb];exact dS (ao fun _ _=>rfl)
noncomputable def eR (x:Nat × List Im):T × T:=(.str (wordAt x.1),xw x)
theorem uF (n:Nat):∀l:List (Nat × List Im),(∀x∈l,lt n (xw x)=true)->lt n (.aP (l.map eR))=true
 | [],_=>rfl
 | x::l,h=>by
  have:=uF n l fun y hy=>h y (Uw _ hy)
  simp only [lt,UG,A8,eR] at this ⊢;simp [h x Uv,lt_str,this]
theorem Hj {x:T} {r:List T} {L:aa} (h:r.length<=lim):i9 true (.lst (x::r)) (some 1) none L=.ok (.lst r) L:=by
 unfold i9 vw cut clip;simp [fo,aQ h,mk]
theorem K4 {x y z:T} {r:List T} {L:aa} (h:r.length<=lim):i9 true (.lst (x::y::z::r)) (some 3) none L=.ok (.lst r) L:=by
 have e:cut (x::y::z::r) (some 3) none=r:=by
  unfold cut clip;simp only [UA];rw [if_neg (by decide),show min (3:Int).toNat (r.length+1+1+1)=3 by omega];simp
 unfold i9 vw;simp [e,fo,aQ h,mk]
noncomputable def OK:List T:=[.str (S "take"),.str (S "keep"),.str (S "look"),.str (S "put"),.str (S "tell")]
theorem K5 {m n:Nat} {L:aa} (h:m<=n) (hn:n<5):∃t,i9 true bO (some (m:Int)) none L=.ok t L/\nL (.str (wordAt n)) t L=.ok true L:=by
 obtain⟨a,b,c⟩:=(by decide +kernel:∀n<5,∀m≤n,dat 8 (.str (wordAt n))=true/\(cut OK (some (m:Int)) none).all (dat 8)=true/\((cut OK (some (m:Int)) none).any fun y=>eqT y (.str (wordAt n)))=true) n hn m h;refine⟨_,rfl,?_⟩;show cb _ (R.ok ((cut OK (some (m:Int)) none).any fun y=>eqT y (.str (wordAt n))) L)=_
 rw [aQ ⟨a,b⟩,c]
theorem K6 {n:Nat} {L:aa} (hn:n<5):Bm bO [.str (wordAt n)] L=.ok (.int n) L:=by
 rcases(by omega:n=0\/n=1\/n=2\/n=3\/n=4) with rfl|rfl|rfl|rfl|rfl <;> rfl
theorem Ac {L:aa} {a c:T} (ha:lt L.length a=true) (hc:lt L.length c=true):fin L (.tup [a,.ref L.length]) (c::L)=.ok (.tup [a,c]) L:=by
 unfold fin;have e:(c::L).drop ((c::L).length - L.length)=L:=by simp
 rw [e,if_pos (gi L)];unfold cg;rw [if_neg (by simp [lt,cf,ha])];have e1:cg L.length (c::L) 8 a=some a:=by unfold cg;rw [if_pos ha]
 have e2:cg L.length (c::L) 8 (.ref L.length)=some c:=by
  unfold cg;rw [if_neg (by simp [lt])];simp only [dC];unfold cg;rw [if_pos hc]
 simp [Wy,e1,e2,lift]
theorem Hk {α:Type} {g:α->Cs} {l:List α} (h:(l.map g).Nodup):(l.map fun x=>T.str (g x)).Nodup:=by
 rw [show(l.map fun x=>T.str (g x))=(l.map g).map T.str by simp];exact List.Pairwise.map T.str (fun a b hab e=>hab (T.str.inj e)) h
theorem Ad {α:Type} {g:α->Cs} {h:α->T} {l:List α} {x:α} (hn:(l.map g).Nodup) (hx:x∈l):du (l.map fun x=>(.str (g x),h x)) (.str (g x))=some (h x):=by
 induction l with
 | nil=>cases hx
 | cons y l ih =>
  rw [UG,Vn] at hn;rw [UG,iN];rcases UN.mp hx with rfl|hx
  ·rw [if_pos rfl]
  ·rw [if_neg (fun e=>hn.1 (by rw [T.str.inj e];exact UP hx)),ih hn.2 hx]
theorem C1 {l:List (T × T)} {k:T} (h:∀p∈l,p.1≠k):du l k=none:=by
 induction l with
 | nil=>rfl
 | cons p l ih=>rw [iN,if_neg (h p Uv),ih fun q hq=>h q (Uw _ hq)]
theorem qi (l:List (Nat × List Im)) (y:Cs):dM (l.map eR) (.str y):=vX (g:=fun x:Nat × List Im=>wordAt x.1) (h:=xw) l y
theorem Ae {r:Rl}:∀x∈rows r,x.1<5:=Bk.CS (show 0<5 by decide) (show 1<5 by decide) (show 2<5 by decide) (show 3<5 by decide) (show 4<5 by decide)
theorem iw {r:Rl} {x:Nat × List Im} (h:x∈hO r):x∈rows r/\x.1<5/\x.2≠[]:=by
 obtain⟨h1,h2⟩:=U5.mp h;exact⟨h1,Ae x h1,fun e=>by unfold Bk.ne at h2;rw [e] at h2;cases h2⟩
theorem Af (r:Rl):((hO r).map (·.1)).Pairwise (· < ·):=List.Pairwise.sublist (List.filter_sublist.map _) (show [0,1,2,3,4].Pairwise (· < ·) by decide)
theorem sy {r:Rl} {x:Nat × List Im} (hx:x∈rows r):du ((hO r).map eR) (.str (wordAt x.1))=if x.2=[] then none else some (xw x):=by
 by_cases h0:x.2=[]
 ·rw [if_pos h0]
  refine C1 fun p hp e=>?_
  obtain⟨y,hy,rfl⟩:=Uz.mp hp;obtain⟨h1,h2,h3⟩:=iw hy;have e:=Bk.jj (f:=fun z:Nat × List Im=>z.1) (show((rows r).map (·.1)).Nodup from(by decide:[0,1,2,3,4].Nodup)) h1 hx (Bk.jh h2 (Ae x hx) (T.str.inj (show T.str (wordAt y.1)=T.str (wordAt x.1) from e)))
  exact h3 (e ▸ h0)
 ·rw [if_neg h0]
  refine Ad (g:=fun x:Nat × List Im=>wordAt x.1) (h:=xw) (l:=hO r) ?_ (U5.mpr ⟨hx,?_⟩)
  ·refine Xx.mpr ((Xx.mp (Af r)).imp_of_mem fun ha hb h e=>?_)
   exact V8 _ (Bk.jh (iw ha).2.1 (iw hb).2.1 e ▸ h)
  ·unfold Bk.ne
   simpa using h0
theorem Ag {r:Rl} {x:Nat × List Im} (hx:x∈rows r) (L:aa):nL (.str (wordAt x.1)) (.ref L.length) (.aP ((hO r).map eR)::L)=.ok (!decide (x.2=[])) (.aP ((hO r).map eR)::L):=by
 unfold nL;simp only [jl,dC,fB];rw [aQ (qi _ _),sy hx];by_cases h:x.2=[] <;> simp [h]
theorem nu {r:Rl} {x:Nat × List Im} (hx:x∈rows r) (L:aa):iP (.aP ((hO r).map eR)) [.str (wordAt x.1),.lst []] L=.ok (xw x) L:=by
 unfold iP vw;simp only [];rw [aQ (qi _ _),sy hx];by_cases h:x.2=[]
 ·rw [if_pos h];unfold xw;rw [h];rfl
 ·rw [if_neg h];rfl
theorem uG {ks:List Kd} {r:Rl} (h:sW ks r) (L:aa):uA [.str r.title,.aP ((hO r).map eR)] L=.ok (aO r) L:=by
 have m:∀{α:Type} (i:α->Im) (l:List α),(l.map i).map (·.t)=l.map fun a=>(i a).t:=fun i l=>by rw [UZ];rfl
 have g0:=nu (r:=r) (x:=(0,r.take.map fI)) (by simp [rows]);have g1:=nu (r:=r) (x:=(1,r.keep.map fI)) (by simp [rows])
 have g2:=nu (r:=r) (x:=(2,r.aj.map lI)) (by simp [rows]);have g3:=nu (r:=r) (x:=(3,r.put.map fI)) (by simp [rows])
 have g4:=nu (r:=r) (x:=(4,r.tell.map pI)) (by simp [rows]);unfold xw at g0 g1 g2 g3 g4;rw [m] at g0 g1 g2 g3 g4;have g0:∀L,iP (.aP ((hO r).map eR)) [.str (wordAt 0),.lst []] L=.ok (.lst (r.take.map fT)) L:=g0
 have g1:∀L,iP (.aP ((hO r).map eR)) [.str (wordAt 1),.lst []] L=.ok (.lst (r.keep.map fT)) L:=g1;have g2:∀L,iP (.aP ((hO r).map eR)) [.str (wordAt 2),.lst []] L=.ok (.lst (r.aj.map lT)) L:=g2
 have g3:∀L,iP (.aP ((hO r).map eR)) [.str (wordAt 3),.lst []] L=.ok (.lst (r.put.map fT)) L:=g3;have g4:∀L,iP (.aP ((hO r).map eR)) [.str (wordAt 4),.lst []] L=.ok (.lst (r.tell.map pT)) L:=g4
 obtain⟨f1,f2,_⟩:=h.pB;have hl:r.take.length+r.keep.length<=lim:=by unfold lim;omega
 have hf:=fun f hf=>(h.f f (UD r.put hf)).1
 have ho:=C0 (r.take++r.keep) (fun f h=>(hf f h).as) (by
  have:=Bk.gg (l:=r.take++r.keep) (g:=(·.as)) (B:=4) fun f h=>(hf f h).n
  rw [Ut] at this;omega)
 rw [UL] at ho;unfold uA make il aO;simp_arith [ta,show S "take"=wordAt 0 from rfl,show S "keep"=wordAt 1 from rfl,show S "look"=wordAt 2 from rfl,show S "put"=wordAt 3 from rfl,show S "tell"=wordAt 4 from rfl,g0,g1,g2,g3,g4,Vt,Nat.reduceLT,bT (fs:=[]) (f:="title") (by rfl),bT (fs:=[("title",.str r.title)]) (f:="taken") (by rfl),bT (fs:=[("title",.str r.title),("taken",.lst (r.take.map fT))]) (f:="kept") (by rfl),bT (fs:=[("title",.str r.title),("taken",.lst (r.take.map fT)),("kept",.lst (r.keep.map fT))]) (f:="looks") (by rfl),bT (fs:=[("title",.str r.title),("taken",.lst (r.take.map fT)),("kept",.lst (r.keep.map fT)),("looks",.lst (r.aj.map lT))]) (f:="given") (by rfl),bT (fs:=[("title",.str r.title),("taken",.lst (r.take.map fT)),("kept",.lst (r.keep.map fT)),("looks",.lst (r.aj.map lT)),("given",.lst (r.put.map fT))]) (f:="told") (by rfl),bT (fs:=[("title",.str r.title),("taken",.lst (r.take.map fT)),("kept",.lst (r.keep.map fT)),("looks",.lst (r.aj.map lT)),("given",.lst (r.put.map fT)),("told",.lst (r.tell.map pT))]) (f:="names") (by rfl),Wr,fld,U0,show(("taken":Str) == "title")=false by decide,show(("kept":Str) == "title")=false by decide,show(("kept":Str) == "taken")=false by decide,Ut,aQ hl,ho];rw [nj]
 ·simp_arith
  refine(fj ?_).trans ?_
  ·simp [lt,nJ,iW,aZ,fh,oK,jP]
  ·rfl
 ·simp [lt,nJ,iW,aZ,fh,oK,jP]
 ·rfl
theorem sA {m:Cs}:∀(qs:List (List Cs)) (q:List Cs),q∈qs->q.length<=(glue m qs).length
 | [a],q,h=>by rw [UY.mp h];exact UM _
 | a::b::r,q,h=>by
  show q.length<=(a++m::glue m (b::r)).length;rw [Ut,UA];rcases UN.mp h with e|h
  ·rw [e];omega
  ·have:=sA (m:=m) (b::r) q h;omega
theorem sC {ks:List Kd} {r:Rl} (h:sW ks r) (hl:(fc r).length<=20000) (L:aa) :
  fL [.lst ((fc r).map .str)] L=.ok (.tup [.str r.title,.aP ((hO r).map eR)]) L:=by
 have ht:=aN (Bk.bj h.t);have Bg:∀L,aG [.lst ((fc r).map .str),.int 0] L=.ok (.str Bk.gK) L:=fun L=>eQ (fc r) 0 L
 have vV:∀L,aG [.lst ((fc r).map .str),.int 1] L=.ok (.str r.title) L:=fun L=>eQ (fc r) 1 L
 have sU:∀L,aG [.lst ((fc r).map .str),.int 2] L=.ok (.str [58]) L:=fun L=>eQ (fc r) 2 L
 have Qn:(glue [59] ((hO r).map iU)).length<=20000:=UW (XR _ 3) hl;have hne:hO r≠[]:=fun e=>by
  have z:∀x∈rows r,x.2=[]:=fun x hx=>by
   have:=ZV.mp e x hx;unfold Bk.ne at this;simpa using this
  have z0:=z (0,r.take.map fI) (by simp [rows]);have z1:=z (1,r.keep.map fI) (by simp [rows])
  exact h.hd (WD.mp z0) (WD.mp z1)
 have MK:=fun L=>kO (L:=L) (mk:=[59]) hne (fun x hx=>(W.no (by decide +kernel) (by decide) (h.part (iw hx).1).1).1) Qn
 unfold fL bO;simp_arith [Bg,vV,sU,cP,show S "rule"=Bk.gK from rfl,lZ r.title (UW ht.2 (by decide)),h.t];rw [show i9 true (.lst ((fc r).map .str)) (some 3) none (.aP []::L)=.ok (.lst ((glue [59] ((hO r).map iU)).map .str)) (.aP []::L) from K4 (by simp;unfold lim;omega)];simp_arith [MK];generalize ho:forL _ _ _ _ _ _=o;have h2:=c7 ho (hO r) (fun x=>bq (iU x)) (fun q φ L'=>∃done m o4 o5,done++q=hO r/\(∀y∈q,m<=y.1)/\φ=[some (.lst ((fc r).map .str)),some (.str r.title),some (.ref L.length),some (.int (m:Nat)),o4,o5]/\L'=.aP (done.map eR)::L)
  (fun o=>∃o3 o4 o5,o=.nx [some (.lst ((fc r).map .str)),some (.str r.title),some (.ref L.length),o3,o4,o5] (.aP ((hO r).map eR)::L)) rfl ⟨[],0,none,none,rfl,fun _ _=>Vc _,rfl,rfl⟩ (fun _ _ eJ eP x q φ L' hh=>by
   obtain⟨done,m,o4,o5,e1,hm,rfl,rfl⟩:=hh;refine⟨sv,_,rfl,?_⟩;have Qo:x∈hO r:=by rw [<- e1];simp
   obtain⟨x1,x2,x3⟩:=iw Qo;have hs:=Af r
   rw [<- e1,UL,UG,List.pairwise_append,Wq] at hs;obtain⟨_,⟨hq,_⟩,hd⟩:=hs;obtain⟨t,w1,w2⟩:=K5 (L:=.aP (done.map eR)::L) (hm x Uv) x2;have w3:=K6 (L:=.aP (done.map eR)::L) x2
   unfold bO at w1 w3;have Td:aG [bq (iU x),.int 0] (.aP (done.map eR)::L)=.ok (.str (wordAt x.1)) (.aP (done.map eR)::L):=eQ (iU x) 0 _
   have hlen:=UW (sA (m:=[59]) ((hO r).map iU) _ (Uz.mpr ⟨x,Qo,rfl⟩)) Qn;have hlen:(glue [44] (x.2.map (·.tp))).length<=20000:=Nat.le_of_succ_le hlen
   have Dy:i9 true (bq (iU x)) (some 1) none (.aP (done.map eR)::L)=.ok (.lst ((glue [44] (x.2.map (·.tp))).map .str)) (.aP (done.map eR)::L):=Hj (by simp;unfold lim;omega);have M0:done.length<lim:=by
    have z:done.length<=(hO r).length:=by rw [<- e1];simp
    have:(hO r).length<=5:=WQ _ _;unfold lim;omega
   have tU:dput (done.map eR) (.str (wordAt x.1)) (xw x)=(done++[x]).map eR:=by
    rw [eX,UL];rfl;intro p hp e;obtain⟨y,hy,rfl⟩:=Uz.mp hp;have:=Bk.jh (iw (by rw [<- e1];exact UD _ hy)).2.1 x2 (T.str.inj (show T.str (wordAt y.1)=T.str (wordAt x.1) from e))
    have:=hd y.1 (UP hy) x.1 Uv;omega
   simp_arith [eJ,eP,Td,w1,w2,w3,Dy,Hg h x x1 x3 hlen,jr,M0,qi,and_self,tU];exact⟨done++[x],x.1+1,_,_,by simpa using e1,fun y hy=>hq y.1 (UP hy),rfl,rfl⟩)
  fun φ L' hh=>by
   obtain⟨done,m,o4,o5,e1,hm,rfl,rfl⟩:=hh;rw [U2] at e1;rw [e1];exact⟨sv,_,_,_,rfl⟩
 obtain⟨o3,o4,o5,rfl⟩:=h2;have n0:=Ag (r:=r) (x:=(0,r.take.map fI)) (by simp [rows]) L
 have n1:=Ag (r:=r) (x:=(1,r.keep.map fI)) (by simp [rows]) L;simp only [WD] at n0 n1;simp_arith [show S "take"=wordAt 0 from rfl,show S "keep"=wordAt 1 from rfl,n0,n1];by_cases h0:r.take=[]
 ·simp_arith [h0,h.hd h0,decide_true,decide_false,Wv,Xc,if_true,if_false]
  exact Ac rfl (uF _ _ fun x hx=>Ed _ x (iw hx).1)
 ·simp_arith [h0,decide_false,Wv,Xc,if_true,if_false]
  exact Ac rfl (uF _ _ fun x hx=>Ed _ x (iw hx).1)
theorem iZ {p:Cs} {ts:List Cs} (h:W G8 p ts) (L:aa) (hp:p.length<=20000):dJ [.str p] L=.ok (.lst (ts.map .str)) L:=by
 have z:=h.tk (by decide +kernel) (r:=[]) (fun c h=>nomatch h) .nil;rw [U2,U2] at z;unfold dJ gM;simp_arith [z7 L hp z];exact fin_same (ao fun _ _=>rfl)
theorem Ah {L:aa} {c c' d d' t:T} (h:lt (L.length+2) c'=true) (h':lt (L.length+2) d'=true) (ht:lt (L.length+2) t=true):fin (d::c::L) t (d'::c'::L)=.ok t (d'::c'::L):=Eb (Ln:=[]) rfl (K2 h h') ht
theorem sD (ks:List Kd) (rs:List Rl) (k:Kd) (ok:bW k.n=true/\k.c<=4) (hn:k.n∉ks.map (·.n)) (hz:ks.length<20000) (L:aa) :
  cT [.ref L.length,.ref (L.length+1),.str (Bk.aw k)] (.lst (rs.map aO) :: .lst (ks.map kT)::L)=.ok .bZ (.lst (rs.map aO) :: .lst ((ks++[k]).map kT)::L):=by
 obtain⟨w,hl⟩:=Bk.kz ok;have h0:((if k.l=true then Bk.cB else Bk.cA) == Bk.gK)=false:=by cases k.l <;> rfl
 unfold cT cP;simp_arith [iZ w _ (UW hl (by decide)),show ∀L,ix (.lst ((rS k).map .str)) (.int 0) L=.ok (.str (if k.l=true then Bk.cB else Bk.cA)) L from fun _=>Hb,show S "rule"=Bk.gK from rfl,h0,Hh k ok];rw [bc (k:=stays (.ref L.length) (.lst (rs.map aO) :: .lst (ks.map kT)::L)) rfl ks kT (fun k=>.str k.n) (by simp_arith) (by exact ak) (by unfold lim;omega) (by exact fun b _=>by simp_arith)];have sS:=CW (x:=k.n) (ys:=ks.map (·.n)) (L:=.lst (rs.map aO) :: .lst (ks.map kT)::L)
 rw [UZ,decide_eq_false hn] at sS;simp_arith [show(T.lst (ks.map fun k=>.str k.n))=.lst (ks.map (T.str ∘ fun k=>k.n)) from rfl,sS,aQ (show ks.length<lim by unfold lim;omega),bo];exact Ah (ao oJ) (ao lX) rfl
theorem sE (ks:List Kd) (rs:List Rl) {r:Rl} (h:sW ks r) (hn:r.title∉rs.map (·.title)) (hz:rs.length<20000) (L:aa) :
  cT [.ref L.length,.ref (L.length+1),.str (Bk.cq r)] (.lst (rs.map aO) :: .lst (ks.map kT)::L)=.ok .bZ (.lst ((rs++[r]).map aO) :: .lst (ks.map kT)::L):=by
 obtain⟨w,hl⟩:=h.line;have j4:(fc r).length<=20000:=by
  have z:=(w.tk (by decide +kernel) (r:=[]) (fun c h=>nomatch h) .nil).len;rw [U2,U2] at z;omega
 unfold cT cP;simp_arith [iZ w _ (UW hl (by decide)),show ∀L,ix (.lst ((fc r).map .str)) (.int 0) L=.ok (.str Bk.gK) L from fun _=>Hb,show S "rule"=Bk.gK from rfl,sC h j4];rw [bc (k:=stays (.ref (L.length+1)) (.lst (rs.map aO) :: .lst (ks.map kT)::L)) rfl rs aO (fun k=>.str k.title) (by simp_arith) (by exact ak) (by unfold lim;omega) (by exact fun b _=>by simp_arith)];have sS:=CW (x:=r.title) (ys:=rs.map (·.title)) (L:=.lst (rs.map aO) :: .lst (ks.map kT)::L)
 rw [UZ,decide_eq_false hn] at sS;simp_arith [show(T.lst (rs.map fun k=>.str k.title))=.lst (rs.map (T.str ∘ fun k=>k.title)) from rfl,sS,uG h,aQ (show rs.length<lim by unfold lim;omega),bo];exact Ah (ao oJ) (ao lX) rfl
theorem Hl {ps:List (T × T)} (h:(ps.map (·.1)).Nodup):qC ps=ps:=by
 have key:∀(r d:List (T × T)),((d++r).map (·.1)).Nodup->r.foldl (fun acc p=>dput acc p.1 p.2) d=d++r:=by
  intro r;induction r with
  | nil=>intro d _;simp
  | cons p r ih =>
   intro d hn;rw [X1,eX,ih,UU];rfl
   ·rw [UU];exact hn
   ·intro q hq e
    rw [UL,Wd] at hn;exact hn.2.2 _ (UP hq) _ (UP Uv) e
 exact key ps [] h
theorem K7 {α:Type} {g h:α->T} (l:List α):prsOf (l.map fun x=>.tup [g x,h x])=some (l.map fun x=>(g x,h x)):=by
 induction l with
 | nil=>rfl
 | cons x l ih=>simp only [UG,prsOf,ih]
theorem qj {α:Type} {g:α->Cs} {h:α->T} (l:List α) (hn:(l.map g).Nodup) (hl:l.length<=100000) (L:aa):xF (l.map fun x=>.tup [.str (g x),h x]) L=.ok (.ref L.length) (.aP (l.map fun x=>(.str (g x),h x))::L):=by
 have e:(l.map fun x=>(T.str (g x),h x)).map (·.1)=l.map fun x=>T.str (g x):=by simp
 have hm:gq (l.map fun x=>T.str (g x))=true:=by
  unfold gq;rw [Xm];exact .inl (by simp [j6])
 unfold xF;rw [K7];simp only [];rw [Hl (by rw [e];exact Hk hn),e,aQ ⟨hm,by simpa using hl⟩]
theorem fU (ks:List Kd) (fs:List Fc) (x:T) (L:aa) (hx:vw L x=.lst (ks.map kT)) (hn:(ks.map (·.n)).Nodup) (hk:ks.length<=20000) (hf:∀f∈fs,aK ks f) :
  bU [x,.lst (fs.map fT)] L=.ok .bZ L:=by
 unfold bU;simp_arith;rw [bc (k:=stays x L) rfl ks kT (fun k=>.tup [.str k.n,.int k.c]) (by simp only [zQ,Ie,W5,W8,eT,aH,items,hx]) (by exact ak) (by unfold lim;omega) (by exact fun b _=>by simp_arith)];simp_arith [jt,qj (g:=fun k:Kd=>k.n) (h:=fun k=>.int k.c) ks hn (by omega)];generalize ho:forL _ _ _ _ _ _=o;obtain⟨z,rfl⟩:=kI fs fT (fun z=>[some x,some (.lst (fs.map fT)),some (.ref L.length),z]) ho sv (fun _ _=>rfl) fun f hm=>by
  obtain⟨k,hk,e1,e2⟩:=hf f hm;have hg:=Ad (g:=fun k:Kd=>k.n) (h:=fun k=>T.int k.c) hn hk
  rw [e1] at hg;have hfit:dM (ks.map fun k=>(T.str k.n,T.int k.c)) (.str f.k):=vX (g:=fun k:Kd=>k.n) (h:=fun k=>T.int k.c) ks f.k
  have i1:nL (.str f.k) (.ref L.length) (.aP (ks.map fun k=>(.str k.n,.int k.c))::L)=.ok true (.aP (ks.map fun k=>(.str k.n,.int k.c))::L):=by
   unfold nL;simp only [jl,dC,fB];rw [aQ hfit,hg];rfl
  have i2:ix (.ref L.length) (.str f.k) (.aP (ks.map fun k=>(.str k.n,.int k.c))::L)=.ok (.int k.c) (.aP (ks.map fun k=>(.str k.n,.int k.c))::L):=by
   unfold ix;simp only [jl,dC,fB];rw [aQ hfit,hg];rfl
  simp_arith [i1,i2,show((f.as.length:Int) != (k.c:Int))=false by simp;omega]
 simp_arith;exact dS rfl
theorem i0 (ls:List Cs) (fs:List Fc) (hf:∀f∈fs,f.k∉ls) (L:aa):bV [.lst (ls.map .str),.lst (fs.map fT)] L=.ok .bZ L:=by
 unfold bV;simp_arith;generalize ho:forL _ _ _ _ _ _=o;obtain⟨z,rfl⟩:=kI fs fT (fun z=>[some (.lst (ls.map .str)),some (.lst (fs.map fT)),z]) ho sv (fun _ _=>rfl) fun f hm=>by simp_arith [decide_eq_false (hf f hm)]
 simp_arith
theorem sF {f:Str->Option Fn} {F:Fn} {a:SE} {φ:Fr} {L:aa} {r:Rl} (ha:a φ L=.ok (aO r) L) (hf:f "Rule"=some F):oX "calls" f a [] φ L=F [aO r] L:=by
 unfold oX;rw [ha,aH,vr];unfold aO;simp only [hf];rfl
theorem vY (r:Rl) (L:aa):bP [aO r] L=.ok (.bl (decide (r.take=[]))) L:=by
 unfold bP;simp_arith;cases r.take with
 | nil=>rfl
 | cons a l=>rw [show(((a::l).length:Int) == 0)=false by simp;omega];simp
theorem qk (ls:List Cs) (r:Rl) (hc:r.take=[]->∀f∈r.put,f.k∈ls) (L:aa):dm [.lst (ls.map .str),aO r] L=.ok .bZ L:=by
 unfold dm;simp only [lh,UA,U8,X7,if_true];simp_arith;rw [sF (r:=r) (F:=bP) rfl rfl];simp_arith [vY];cases ht:r.take with
 | cons a l=>simp only [reduceCtorEq,decide_false];simp_arith
 | nil =>
  simp only [decide_true];simp_arith;generalize ho:forL _ _ _ _ _ _=o;obtain⟨z,rfl⟩:=kI r.put fT (fun z=>[some (.lst (ls.map .str)),some (aO r),z]) ho sv (fun _ _=>rfl) fun f hm=>by simp_arith [decide_eq_true (hc ht f hm)]
  simp_arith
theorem Ai {L:aa} {xs ys:List T} {t:T} (ht:vw (.lst xs::L) t=.lst ys\/vw (.lst xs::L) t=.tup ys) (h:xs.length+ys.length<=lim):xD (.ref L.length) [t] (.lst xs::L)=.ok .bZ (.lst (xs++ys)::L):=by
 unfold xD;simp only [dC];rcases ht with ht|ht <;> · simp only [ht];rw [aQ h,xc]
theorem qm {α:Type} {k:aa->Prop} {b:SS} {o:O} {L:aa} {acc:List Cs} (xs:List α) (enc:α->T) (g:α->List Cs) (i:Nat) (F:Option T->Fr) (z:Option T)
  (ho:forL k (.one i) b (xs.map enc) (F z) (.lst (acc.map .str)::L)=o) (hl:acc.length+(xs.flatMap g).length<=20000) (hk:∀L',k L') (hF:∀z x,(F z).set i (some x)=F (some x))
  (hb:∀x∈xs,∀acc:List Cs,acc.length+(g x).length<=20000->b (F (some (enc x))) (.lst (acc.map .str)::L)=.nx (F (some (enc x))) (.lst ((acc++g x).map .str)::L)) :
  ∃z,o=.nx (F z) (.lst ((acc++xs.flatMap g).map .str)::L) :=
 c7 ho xs enc (fun r φ L'=>∃z eg,φ=F z/\L'=.lst (eg.map .str)::L/\eg++r.flatMap g=acc++xs.flatMap g/\∀x∈r,x∈xs) (fun o=>∃z,o=.nx (F z) (.lst ((acc++xs.flatMap g).map .str)::L)) rfl ⟨z,acc,rfl,rfl,rfl,fun _ h=>h⟩ (fun _ _ eJ eP x r φ L' hh=>by
  obtain⟨z,eg,rfl,rfl,e,hx⟩:=hh;refine⟨hk _,_,rfl,?_⟩;rw [hF,hb x (hx x Uv) eg (by have:=congrArg WR e;simp at this hl ⊢;omega),sf,eJ];exact⟨_,eg++g x,rfl,rfl,by rw [<- e];simp,fun y hy=>hx y (Uw _ hy)⟩)
 fun φ L' hh=>by
  obtain⟨z,eg,rfl,rfl,e,_⟩:=hh;exact⟨hk _,z,by simp at e;rw [<- e]⟩
theorem Hm (r:Rl) (hl:(fe r).length<=20000) (L:aa):eL [aO r] L=.ok (.lst ((fe r).map .str)) L:=by
 have hs:fe r=(r.aj.flatMap fun k=>[k.l,k.r])++((r.put.flatMap (·.as))++(r.tell.flatMap fun p=>[p.1,p.2])):=rfl;rw [hs] at hl;simp only [Ut] at hl;unfold eL;simp_arith;generalize ho:forL _ _ _ _ _ _=o;obtain⟨z1,rfl⟩:=qm (acc:=[]) r.aj lT (fun k=>[k.l,k.r]) 2 (fun z=>[some (aO r),some (.ref L.length),z,none,none]) none ho (by simp only [U8,Vt,Ut];omega) (fun _=>sv) (fun _ _=>rfl) (fun k _ acc h=>by
  simp_arith [show vw (.lst (acc.map .str)::L) (.lst [.str k.l,.str k.r])=.lst ([k.l,k.r].map .str) from rfl,Ai (L:=L) (xs:=acc.map .str) (t:=.lst [.str k.l,.str k.r]) (ys:=[k.l,k.r].map .str) (.inl rfl) (by simp at h ⊢;unfold lim;omega)];rw [UL];rfl)
 simp_arith;generalize ho:forL _ _ _ _ _ _=o;obtain⟨z2,rfl⟩:=qm (acc:=[]++r.aj.flatMap fun k=>[k.l,k.r]) r.put fT (·.as) 3 (fun z=>[some (aO r),some (.ref L.length),z1,z,none]) none ho (by simp only [U8,Vt,Ut];omega) (fun _=>sv) (fun _ _=>rfl) (fun f _ acc h=>by
  simp_arith [Ai (L:=L) (xs:=acc.map .str) (t:=.tup (f.as.map .str)) (.inr rfl) (by simp at h ⊢;unfold lim;omega),<- UL])
 simp_arith;generalize ho:forL _ _ _ _ _ _=o;obtain⟨z3,rfl⟩:=qm (acc:=([]++r.aj.flatMap fun k=>[k.l,k.r])++r.put.flatMap (·.as)) r.tell pT (fun p=>[p.1,p.2]) 4 (fun z=>[some (aO r),some (.ref L.length),z1,z2,z]) none ho (by simp only [U8,Vt,Ut];omega) (fun _=>sv) (fun _ _=>rfl) (fun p _ acc h=>by
  simp_arith [Ai (L:=L) (xs:=acc.map .str) (t:=pT p) (ys:=[p.1,p.2].map .str) (.inr rfl) (by simp at h ⊢;unfold lim;omega)];rw [UL];rfl)
 simp_arith;rw [hs];simp only [Vt,UU];exact fj (ao fun _ _=>rfl)
theorem nW (r:Rl) (hl:(fe r).length<=20000) (hs:∀a∈fe r,au a=true/\(great a=true->a∈opens (r.take++r.keep))) (L:aa):dK [aO r] L=.ok .bZ L:=by
 unfold dK;simp_arith [Hm r hl];generalize ho:forL _ _ _ _ _ _=o;obtain⟨z,rfl⟩:=kI (fe r) T.str (fun z=>[some (aO r),z]) ho sv (fun _ _=>rfl) fun f hm=>by
  simp_arith [eO f (aN (hs f hm).1).1];cases hg:great f with
  | true=>simp_arith [decide_eq_true ((hs f hm).2 hg)]
  | false=>simp_arith
 simp_arith
mutual
theorem sG {n m:Nat} (h:n<=m):∀{t:T},lt n t=true->lt m t=true
 | .ref k,e=>by rw [lt] at e ⊢;exact decide_eq_true (by have:=of_decide_eq_true e;omega)
 | .tup xs,e=>by rw [lt] at e ⊢;exact uH h e
 | .lst xs,e=>by rw [lt] at e ⊢;exact uH h e
 | .aP ks,e=>by rw [lt] at e ⊢;exact Aj h e
 | .obj _ fs,e=>by rw [lt] at e ⊢;exact Ak h e
 | .bZ,_=>rfl
 | .bl _,_=>rfl
 | .int _,_=>rfl
 | .str _,_=>rfl
 | .cl _,_=>rfl
theorem uH {n m:Nat} (h:n<=m):∀{t:List T},cf n t=true->cf m t=true
 | [],_=>rfl
 | x::xs,e=>by rw [cf,UC] at e ⊢;exact⟨sG h e.1,uH h e.2⟩
theorem Aj {n m:Nat} (h:n<=m):∀{t:List (T × T)},A8 n t=true->A8 m t=true
 | [],_=>rfl
 | (x,y)::xs,e=>by rw [A8,UC,UC] at e ⊢;exact⟨⟨sG h e.1.1,sG h e.1.2⟩,Aj h e.2⟩
theorem Ak {n m:Nat} (h:n<=m):∀{t:List (Str × T)},nJ n t=true->nJ m t=true
 | [],_=>rfl
 | (x,y)::xs,e=>by rw [nJ,UC] at e ⊢;exact⟨sG h e.1,Ak h e.2⟩
end
theorem uI (a b:T) (L:aa) (ha:lt L.length a=true) (hb:lt L.length b=true):uB [a,b] L=.ok (.obj "Book" [("kinds",a),("rules",b)]) L:=by
 have up:∀{t:T},lt L.length t=true->lt (L.length+1) t=true:=sG (WC _);unfold uB make ip;simp_arith [ta,bT (fs:=[]) (f:="kinds") (by rfl),bT (fs:=[("kinds",a)]) (f:="rules") (by rfl),Vt,Nat.reduceLT];rw [nj (by simp [lt,nJ,up ha,up hb]) rfl];simp_arith;exact fj (by simp [lt,nJ,ha,hb])
theorem C2 {ks:List Kd} {rs:List Rl} (hG:KG ks) (hg:∀r∈rs,sW ks r) (L:aa) :
  eM [.ref L.length,.ref (L.length+1)] (.lst (rs.map aO) :: .lst (ks.map kT)::L)=.ok (.obj "Book" [("kinds",.ref L.length),("rules",.ref (L.length+1))]) (.lst (rs.map aO) :: .lst (ks.map kT)::L):=by
 have hk:ks.length<=20000:=by rw [hG.len];decide
 unfold eM;simp_arith;rw [cZ (k:=stays (.ref L.length) (.lst (rs.map aO) :: .lst (ks.map kT)::L)) rfl ks kT (·.l) (fun k=>.str k.n) (by simp_arith) (by exact ak) (by unfold lim;omega) (by exact fun b _=>by simp_arith) (by exact fun b _ _=>by simp_arith)];simp_arith;generalize ho:forL _ _ _ _ _ _=o;have C3:((ks.filter (·.l)).map fun k=>T.str k.n)=((ks.filter (·.l)).map (·.n)).map T.str:=by simp
 rw [C3] at ho;obtain⟨z,rfl⟩:=kI rs aO (fun z=>[some (.ref L.length),some (.ref (L.length+1)),some (.lst (((ks.filter (·.l)).map (·.n)).map T.str)),z]) ho ak (fun _ _=>rfl) fun r hr=>by
  have g:=hg r hr;obtain⟨f1,f2,f3,f4,f5⟩:=g.pB;have hs:(fe r).length<=20000:=by
   have z1:=Bk.gg (l:=r.aj) (g:=fun k=>[k.l,k.r]) (B:=2) fun _ _=>UM 2
   have z2:=Bk.gg (l:=r.put) (g:=(·.as)) (B:=4) fun f hf=>(g.f f (UK _ hf)).1.n
   have z3:=Bk.gg (l:=r.tell) (g:=fun p=>[p.1,p.2]) (B:=2) fun _ _=>UM 2
   unfold fe;rw [Ut,Ut];omega
  have ct:∀L,bV [.lst (((ks.filter (·.l)).map (·.n)).map T.str),_] L=_:=i0 _ _ g.takes;have cc:∀L,dm [.lst (((ks.filter (·.l)).map (·.n)).map T.str),_] L=_:=qk _ r g.calls
  have Qp:=fU ks (r.take++r.keep++r.put) (.ref L.length) (.lst (rs.map aO) :: .lst (ks.map kT)::L) (by simp_arith) hG.nd hk fun f hf=>(g.f f hf).2
  rw [UL,UL] at Qp;simp_arith [Ut,aQ (show r.take.length+r.keep.length<=lim by unfold lim;omega),aQ (show r.take.length+r.keep.length+r.put.length<=lim by unfold lim;omega),Qp,ct,cc,nW r hs g.ux]
 simp_arith [uI (.ref L.length) (.ref (L.length+1)) (.lst (rs.map aO) :: .lst (ks.map kT)::L) (by simp [lt];omega) (by simp [lt])];exact fin_same (by simp [lt,nJ];omega)
theorem Al {ks:List Kd} {rs:List Rl} {L:aa}:fin L (.obj "Book" [("kinds",.ref L.length),("rules",.ref (L.length+1))]) (.lst (rs.map aO) :: .lst (ks.map kT)::L)=.ok (jO ks rs) L:=by
 unfold fin;have e:(T.lst (rs.map aO) :: .lst (ks.map kT)::L).drop ((T.lst (rs.map aO) :: .lst (ks.map kT)::L).length - L.length)=L:=by
  rw [show(T.lst (rs.map aO) :: .lst (ks.map kT)::L).length - L.length=2 by simp only [UA];omega];rfl
 rw [e,if_pos (gi L)];unfold cg;rw [if_neg (by simp [lt,nJ])];have e1:cg L.length (.lst (rs.map aO) :: .lst (ks.map kT)::L) 8 (.ref L.length)=some (.lst (ks.map kT)):=by
  unfold cg;rw [if_neg (by simp [lt])];simp only [m6];unfold cg;rw [if_pos (ao oJ)]
 have e2:cg L.length (.lst (rs.map aO) :: .lst (ks.map kT)::L) 8 (.ref (L.length+1))=some (.lst (rs.map aO)):=by
  unfold cg;rw [if_neg (by simp [lt])];simp only [w9];unfold cg;rw [if_pos (ao lX)]
 simp [Wy,e1,e2,lift,jO]
theorem sH {ks:List Kd} {rs:List Rl} (hG:KG ks) (hr:rs.length<=2) (hg:∀r∈rs,sW ks r) (hn:(rs.map (·.title)).Nodup) (L:aa) :
  dX [.str (jn [10] (ks.map aw++rs.map cq))] L=.ok (jO ks rs) L:=by
 have h4:=hG.len;have hl:∀l∈ks.map aw++rs.map cq,10∉l/\l.length<=20000/\∃c r,l=c::r/\c≠32/\c≠35:=fun l hl=>by
  rcases UH.mp hl with h|h
  ·obtain⟨k,hk,rfl⟩:=Uz.mp h
   obtain⟨w,hz⟩:=Bk.kz (hG.ok k hk);refine⟨(w.no (by decide +kernel) (by decide)).2 (by decide),UW hz (by decide),?_⟩;unfold aw;cases k.l
   ·exact⟨112,_,rfl,by decide,by decide⟩
   ·exact⟨108,_,rfl,by decide,by decide⟩
  ·obtain⟨r,hr,rfl⟩:=Uz.mp h
   obtain⟨w,hz⟩:=(hg r hr).line;exact⟨(w.no (by decide +kernel) (by decide)).2 (by decide),UW hz (by decide),114,_,rfl,by decide,by decide⟩
 have ne:ks.map aw++rs.map cq≠[]:=fun e=>by
  have:=congrArg WR e;simp [h4] at this
 have en:(ks.map aw++rs.map cq).map T.str=(ks.map Sum.inl++rs.map Sum.inr).map fun x:Kd ⊕ Rl=>.str (x.elim aw cq):=by
  rw [UL,UL,UZ,UZ,UZ,UZ];rfl
 unfold dX;simp_arith [CZ _ ne (by rw [Ut,Lm9,Lm9];omega) hl,en];generalize hT:jn [10] (ks.map aw++rs.map cq)=tx;generalize ho:forL _ _ _ _ _ _=o;have h2:=c7 ho (ks.map Sum.inl++rs.map Sum.inr) _ (fun q φ L'=>∃dk k' dr r' o3,q=k'.map Sum.inl++r'.map Sum.inr/\dk++k'=ks/\dr++r'=rs/\φ=[some (.str tx),some (.ref L.length),some (.ref (L.length+1)),o3]/\L'=.lst (dr.map aO) :: .lst (dk.map kT)::L)
  (fun o=>∃o3,o=.nx [some (.str tx),some (.ref L.length),some (.ref (L.length+1)),o3] (.lst (rs.map aO) :: .lst (ks.map kT)::L)) rfl ⟨[],ks,[],rs,none,rfl,rfl,rfl,rfl,rfl⟩ (fun _ _ eJ eP x q φ L' hh=>by
   obtain⟨dk,k',dr,r',o3,e0,e1,e2,rfl,rfl⟩:=hh;refine⟨sv,_,rfl,?_⟩;cases k' with
   | cons k k' =>
    obtain⟨rfl,e9⟩:=Ww e0;have nn:=hG.nd
    rw [<- e1,UL,UG,Wd] at nn;rw [<- e1,Ut] at h4;simp_arith [eJ,eP,Sum.elim_inl,sD dk dr k (hG.ok k (by rw [<- e1];simp)) (fun z=>nn.2.2 _ z _ Uv rfl) (by omega) L];exact⟨dk++[k],k',dr,r',_,e9,by simpa using e1,e2,rfl,rfl⟩
   | nil =>
    cases r' with
    | nil=>cases e0
    | cons r r' =>
     obtain⟨rfl,e9⟩:=Ww e0;rw [U2] at e1;subst e1;rw [<- e2,UL,UG,Wd] at hn;rw [<- e2,Ut] at hr;simp_arith [eJ,eP,Sum.elim_inr,sE dk dr (hg r (by rw [<- e2];simp)) (fun z=>hn.2.2 _ z _ Uv rfl) (by omega) L];exact⟨dk,[],dr++[r],r',_,e9,U2 _,by simpa using e2,rfl,rfl⟩)
  fun φ L' hh=>by
   obtain⟨dk,k',dr,r',o3,e0,e1,e2,rfl,rfl⟩:=hh;obtain⟨z1,z2⟩:=List.append_eq_nil_iff.mp e0.symm;rw [WD.mp z1,U2] at e1;rw [WD.mp z2,U2] at e2;rw [e1,e2];exact⟨sv,_,rfl⟩
 obtain⟨o3,rfl⟩:=h2;simp_arith [C2 hG hg L];exact Al
theorem qo (ns:List Int) (k:Int) (hk:0<=k) (L:aa):bz [.lst (ns.map .int),.int k] L=.ok (.int (ns.getD k.toNat 0)) L:=by
 unfold bz;simp_arith;by_cases h:k<ns.length
 ·have e:(ns.map T.int)[k.toNat]?=some (.int (ns.getD k.toNat 0)):=by
   have:k.toNat<ns.length:=by omega
   simp [Gd9,this]
  simp_arith [h,decide_true,vN hk e]
 ·simp_arith [h,decide_false]
  simp [Gd9,Wm (show ns.length<=k.toNat by omega)]
noncomputable def dg:Int->List Int->List Nat
 | _,[]=>[]
 | n,m::ms=>(n % m).toNat::dg (n / m) ms
theorem oR:∀(n:Int) (ms:List Int),(∀m∈ms,0<m/\m<1073741824)->Paired (fun(m:Int) (d:Nat)=>(d:Int)<m) ms (dg n ms)
 | _,[],_=>.nil
 | n,m::ms,h=>.cons (by
   have:=h m Uv;have h1:=WZ n (show m≠0 by omega)
   have h2:=WN n this.1;omega) (oR (n / m) ms fun x hx=>h x (Uw _ hx))
theorem lq (c:Int) (ms:List Int) (hm:∀m∈ms,0<m/\m<1073741824) (hl:ms.length<=100):∃ds:List Nat,Paired (fun(m:Int) (d:Nat)=>(d:Int)<m) ms ds/\∀L,aD [.int c,.lst (ms.map .int)] L=.ok (.lst (ds.map fun d=>.int (d:Nat))) L:=by
 refine⟨dg (c % 2147483647 * 48271 % 2147483647) ms,oR _ _ hm,fun L=>?_⟩;unfold aD;simp_arith;generalize ho:forL _ _ _ _ _ _=o;have h:=c7 ho ms T.int (fun r φ L'=>∃(n:Int) (done:List Nat) (o4:Option T),done++dg n r=dg (c % 2147483647 * 48271 % 2147483647) ms/\(∀m∈r,0<m/\m<1073741824)/\done.length+r.length<=100/\φ=[some (.int c),some (.lst (ms.map .int)),some (.int n),some (.ref L.length),o4]/\L'=.lst (done.map fun d=>.int (d:Nat))::L)
  (fun o=>∃o2 o4,o=.nx [some (.int c),some (.lst (ms.map .int)),o2,some (.ref L.length),o4] (.lst ((dg (c % 2147483647 * 48271 % 2147483647) ms).map fun d=>.int (d:Nat))::L)) rfl ⟨_,[],none,rfl,hm,by simpa using hl,rfl,rfl⟩ (fun _ _ eJ eP m r φ L' hh=>by
   obtain⟨n,done,o4,e1,h1,h2,rfl,rfl⟩:=hh;obtain⟨m1,m2⟩:=h1 m Uv;have h0:=WZ n (show m≠0 by omega)
   refine⟨sv,_,rfl,?_⟩;simp only [UA] at h2;simp_arith [eJ,eP,m1,m2,aQ (show done.length<lim by unfold lim;omega),show T.int (n % m)=(fun d:Nat=>T.int (d:Int)) (n % m).toNat by simp only [Int.toNat_of_nonneg h0],bo (fun d:Nat=>T.int (d:Int))];exact⟨n / m,done++[(n % m).toNat],_,by rw [<- e1];simp [dg],fun x hx=>h1 x (Uw _ hx),by simp;omega,rfl,rfl⟩)
  fun φ L' hh=>by
   obtain⟨n,done,o4,e1,h1,h2,rfl,rfl⟩:=hh;have e:dg (c % 2147483647 * 48271 % 2147483647) ms=done:=by rw [<- e1];simp [dg]
   rw [e];exact⟨sv,_,_,rfl⟩
 obtain⟨o2,o4,rfl⟩:=h;simp_arith;exact fj (ao fun _ _=>rfl)
theorem K8 (s:Int):∃a b:Nat,a+b<=4/\∀k:Int,0<=k->k<8->∀L,bg [.int s,.int k] L=.ok (.str (nameOf a b k.toNat)) L:=by
 have h1:=WZ s (show(5:Int)≠0 by decide);have h2:=WN s (show(0:Int)<5 by decide)
 have h3:=WZ (s / 5) (show 1+s % 5≠0 by omega);have h4:=WN (s / 5) (show 0<1+s % 5 by omega)
 refine⟨(s / 5 % (1+s % 5)).toNat,(1+s % 5 - 1 - s / 5 % (1+s % 5)).toNat,by omega,fun k k1 k2 L=>?_⟩;have hx:ix (.str (S "abcdefgh")) (.int k) L=.ok (.str [Bk.kE.getD k.toNat 0]) L:=by
  rw [uu k1 (show k<((S "abcdefgh").length:Int) from k2)];rfl
 unfold bg;simp_arith [show 0<1+s % 5 by omega,hx,show S "m"=[109] from rfl];generalize s / 5 % (1+s % 5)=a at *
 generalize s % 5=q at *
 simp_arith [hx,show(-4611686018427387904:Int)<=a by omega,show a<=1000000 by omega,show(-4611686018427387904:Int)<=1+q - 1 - a by omega,show 1+q - 1 - a<=1000000 by omega];rw [ax (by simp;unfold lim;omega)];simp_arith;rw [ax (by simp;unfold lim;omega)];simp_arith;simp [nameOf]
noncomputable def dw:Int->Nat->List Cs->List Cs
 | _,0,_=>[]
 | n,m+1,as=>as.getD (n % as.length).toNat []::dw (n / as.length) m as
theorem Am:∀(m:Nat) (n:Int) (as:List Cs),(dw n m as).length=m
 | 0,_,_=>rfl
 | m+1,n,as=>by simp [dw,Am m]
theorem md {n:Int} {l:Nat} (h:1<=l):0<=n % (l:Int)/\(n % (l:Int)).toNat<l:=by
 have h1:=WZ n (show(l:Int)≠0 by omega);have h2:=WN n (show(0:Int)<l by omega)
 omega
theorem Ee:∀(m:Nat) (n:Int) (as:List Cs),1<=as.length->∀a∈dw n m as,a∈as
 | 0,_,_,_,a,h=>by cases h
 | m+1,n,as,hl,a,h=>by
  rcases UN.mp h with rfl|h
  ·have:=(md (n:=n) hl).2
   rw [Gd9,Ge9 this];exact UQ _
  ·exact Ee m _ as hl a h
theorem An {α:Type} {g:α->T} {l:List α} {n:Int} {d:α} (h:1<=l.length) (L:aa):ix (.lst (l.map g)) (.int (n % (l.length:Int))) L=.ok (g (l.getD (n % l.length).toNat d)) L:=by
 have:=md (n:=n) h;exact vN this.1 (by rw [UT,Gd9,Ge9 this.2];rfl)
theorem gQ (ks:List Kd) (as:List Cs) (n:Int) (hk:1<=ks.length) (qD:ks.length<=100) (hc:∀k∈ks,k.c<=4) (ha:1<=as.length) (Ii:as.length<=100) :
  ∃f,lF ks as f/\∀L,aI [.lst (ks.map kT),.int n,.lst (as.map .str)] L=.ok (fT f) L:=by
 have hi:=(md (n:=n) hk).2;have OL:ks.getD (n % ks.length).toNat ⟨[],0,false⟩∈ks:=by
  rw [Gd9,Ge9 hi];exact UQ _
 have hx:=fun L=>An (g:=kT) (n:=n) (d:=⟨[],0,false⟩) hk L
 generalize ks.getD (n % ks.length).toNat ⟨[],0,false⟩=k at OL hx;refine⟨⟨k.n,dw (n / ks.length) k.c as⟩,⟨⟨k,OL,rfl,Am _ _ _⟩,Ee _ _ _ ha⟩,fun L=>?_⟩;have Te:=hc k OL
 have Tf:s9 0/\s9 (k.c:Int):=⟨vR (n:=0) (by decide),vR (by omega)⟩;have hr:∀(φ:Fr) (L':aa),φ[3]?=some (some (kT k))->xA (c (.int 0)) (vi 3 1) φ L'=.ok (M.upTo 0 ((k.c:Int) - 0).toNat,fun _=>True) L':=fun φ L' h=>D6 _ _ _ _ rfl (by simp only [KW,JZ,Ie,h,W8,eT,aH,Qg,Qk]) Tf
 have hy:=fun n' L=>An (g:=T.str) (l:=as) (n:=n') (d:=[]) ha L
 have Th:∀n' m,dw n' (m+1) as=as.getD (n' % as.length).toNat []::dw (n' / as.length) m as:=fun _ _=>rfl
 unfold aI;simp_arith [show(0:Int)<ks.length by omega,show(ks.length:Int)<1073741824 by omega,hx,hr];generalize ho:forL _ _ _ _ _ _=o;have h:=c7 ho (Vx k.c) (fun j:Nat=>T.int (0+(j:Int))) (fun r φ L'=>∃(n':Int) (done:List Cs) (o5:Option T),done++dw n' r.length as=dw (n / ks.length) k.c as/\done.length+r.length<=4/\φ=[some (.lst (ks.map kT)),some (.int n'),some (.lst (as.map .str)),some (kT k),some (.ref L.length),o5]/\L'=.lst (done.map .str)::L)
  (fun o=>∃o1 o5,o=.nx [some (.lst (ks.map kT)),o1,some (.lst (as.map .str)),some (kT k),some (.ref L.length),o5] (.lst ((dw (n / ks.length) k.c as).map .str)::L)) (by simp [M.upTo]) ⟨n / ks.length,[],none,by simp,by simpa using Te,rfl,rfl⟩ (fun _ _ eJ eP j r φ L' hh=>by
   obtain⟨n',done,o5,e1,e2,rfl,rfl⟩:=hh;refine⟨trivial,_,rfl,?_⟩;simp only [UA] at e1 e2;simp_arith [eJ,eP,show(0:Int)<as.length by omega,show(as.length:Int)<1073741824 by omega,hy,aQ (show done.length<lim by unfold lim;omega),bo];exact⟨n' / as.length,done++[as.getD (n' % as.length).toNat []],_,by rw [<- e1,Th];simp,by simp;omega,rfl,rfl⟩)
  fun φ L' hh=>by
   obtain⟨n',done,o5,e1,e2,rfl,rfl⟩:=hh;have e:dw (n / ks.length) k.c as=done:=by rw [<- e1];simp [dw]
   rw [e];exact⟨trivial,_,_,rfl⟩
 obtain⟨o1,o5,rfl⟩:=h;simp_arith;exact dS (by simp [lt,cf,jP])
theorem K9 {α:Type} {xs:List α} {n:Nat}:cut xs (some (n:Int)) none=xs.drop n:=by
 unfold cut clip;simp only [];rw [if_neg (by omega),show((n:Int)).toNat=n by omega];by_cases h:n<=xs.length
 ·rw [Nat.min_eq_left h,Vu (by simp)]
 ·rw [Nat.min_eq_right (by omega),Xf (UM _),Xf (show xs.length<=n by omega)];simp
theorem Ef {α:Type} {xs:List α} {n:Nat}:cut xs none (some (n:Int))=xs.take n:=by
 unfold cut clip;simp only [Z9,Nat.sub_zero];rw [if_neg (by omega),show((n:Int)).toNat=n by omega];by_cases h:n<=xs.length
 ·rw [Nat.min_eq_left h]
 ·rw [Nat.min_eq_right (by omega),Vu (UM _),Vu (by omega)]
theorem La {xs:List T} {n:Nat} {L:aa} (h:xs.length<=lim):i9 true (.lst xs) (some (n:Int)) none L=.ok (.lst (xs.drop n)) L:=by
 show fo true (cut xs (some (n:Int)) none) L=_;rw [K9,fo,ax (by simp;omega)];rfl
theorem nv {xs:List T} {n:Nat} {L:aa} (h:xs.length<=lim):i9 true (.lst xs) none (some (n:Int)) L=.ok (.lst (xs.take n)) L:=by
 show fo true (cut xs none (some (n:Int))) L=_;rw [Ef,fo,ax (by simp;omega)];rfl
theorem qp {xs:List T} {n:Nat} {L:aa} (h:xs.length<=lim):i9 false (.lst xs) none (some (n:Int)) L=.ok (.ref L.length) (.lst (xs.take n)::L):=by
 show fo false (cut xs none (some (n:Int))) L=_;rw [Ef,fo,ax (by simp;omega)];rfl
theorem P0 {α β:Type} {R:α->β->Prop} {ds:List β} (h:Paired R [] ds):ds=[]:=by cases h;rfl
theorem P1 {α β:Type} {R:α->β->Prop} {m:α} {ms:List α} {ds:List β} (h:Paired R (m::ms) ds):∃d r,ds=d::r/\R m d/\Paired R ms r:=by cases h with|cons a b=>exact⟨_,_,rfl,a,b⟩
theorem Lb:∀d:Nat,d<4->∃c:Nat,c<=4/\∀L,ix (.tup [.int 0,.int 1,.int 2,.int 4]) (.int (d:Nat)) L=.ok (.int (c:Nat)) L
 | 0,_=>⟨0,by decide,fun _=>rfl⟩
 | 1,_=>⟨1,by decide,fun _=>rfl⟩
 | 2,_=>⟨2,by decide,fun _=>rfl⟩
 | 3,_=>⟨4,by decide,fun _=>rfl⟩
theorem C4 (c:Int):∃ks,KG ks/\(ks.filter sX).length=2/\∀L,eD [.int c] L=.ok (.lst (ks.map kT)) L:=by
 refine sP fun G n9=>?_
 obtain⟨_,p,e⟩:=lq c [25,2,4,2,4] (by decide) (by decide);obtain⟨d0,_,rfl,h0,p⟩:=P1 p;obtain⟨d1,_,rfl,h1,p⟩:=P1 p;obtain⟨d2,_,rfl,h2,p⟩:=P1 p;obtain⟨d3,_,rfl,h3,p⟩:=P1 p;obtain⟨d4,_,rfl,h4,p⟩:=P1 p;obtain rfl:=P0 p;simp only [UG,Vz] at e;obtain⟨a,b,hab,hn⟩:=K8 (d0:Int);have n0:=hn 0 (by decide) (by decide)
 have n1:=hn 1 (by decide) (by decide);have n2:=hn 2 (by decide) (by decide)
 have n3:=hn 3 (by decide) (by decide);obtain⟨c2,DE,Ti⟩:=Lb d2 (by omega);have G:KG [⟨nameOf a b 0,d1,false⟩,⟨nameOf a b 1,c2,false⟩,⟨nameOf a b 2,2,true⟩,⟨nameOf a b 3,d3,true⟩]:=by
  refine⟨rfl,?_,?_,⟨_,Uw _ (Uw _ Uv),rfl⟩,⟨_,Uv,rfl⟩⟩
  ·simp only [UG,Vz,Vn,UN,Wh,or_false,not_or,not_false_eq_true,and_true,Xb]
   have ne:∀i j,i<8->j<8->i≠j->nameOf a b i≠nameOf a b j:=fun i j h1 h2 h e=>h (Bk.m4 h1 h2 e)
   exact⟨⟨ne 0 1 (by decide) (by decide) (by decide),ne 0 2 (by decide) (by decide) (by decide),ne 0 3 (by decide) (by decide) (by decide)⟩,⟨ne 1 2 (by decide) (by decide) (by decide),ne 1 3 (by decide) (by decide) (by decide)⟩,ne 2 3 (by decide) (by decide) (by decide)⟩
  ·intro k hk
   simp only [UN,Wh,or_false] at hk;rcases hk with rfl|rfl|rfl|rfl
   ·exact⟨Bk.cN (by decide) hab,by show d1<=4;omega⟩
   ·exact⟨Bk.cN (by decide) hab,DE⟩
   ·exact⟨Bk.cN (by decide) hab,by show 2<=4;omega⟩
   ·exact⟨Bk.cN (by decide) hab,by show d3<=4;omega⟩
 refine n9 ?_;clear n9;refine⟨_,G.CT (Bk.r7 d4 _),?_,fun L=>?_⟩
 ·rw [((Bk.r7 d4 _).filter sX).length_eq];rfl
 ·unfold eD
  simp_arith [e,n0,n1,n2,n3,Ti];rw [La (by simp;decide),aH,nv (by simp;decide)];simp_arith;rw [ax (by rw [Ut,Vg,Vj];simp only [UA,U8];unfold lim;omega)];simp_arith;rw [UL,List.map_drop,Wx];refine fin_same ?_;rw [lt,gu];intro i x hx;have hm:=Ve hx
  have:x∈[kT ⟨nameOf a b 0,d1,false⟩,kT ⟨nameOf a b 1,c2,false⟩,kT ⟨nameOf a b 2,2,true⟩,kT ⟨nameOf a b 3,d3,true⟩]:=by
   rcases UH.mp hm with h|h
   ·exact List.mem_of_mem_drop h
   ·exact V4 h
  simp only [UN,Wh,or_false] at this;rcases this with rfl|rfl|rfl|rfl <;> exact oJ _ _
theorem C5 {α β:Type} (f:α->β) (a b:α):[f a,f b]=[a,b].map f:=rfl
theorem OM {α β:Type} (f:α->β) (a:α):[f a]=[a].map f:=rfl
theorem KG.pass {ks:List Kd} (h:KG ks):1<=(ks.filter sX).length:=by
 obtain⟨k,hk,e⟩:=h.no;exact Xg (U5.mpr ⟨hk,by simp [sX,e]⟩)
theorem KG.last {ks:List Kd} (h:KG ks):1<=(ks.filter (·.l)).length:=by
 obtain⟨k,hk,e⟩:=h.yes;exact Xg (U5.mpr ⟨hk,by simp [e]⟩)
theorem eS {α:Type} {p:α->Bool} {l:List α} {n:Nat} (h:l.length<=n):(l.filter p).length<=n:=UW (WQ _ _) h
theorem all2 {α:Type} {P:α->Prop} {a b f:α} (ha:P a) (hb:P b) (h:f∈[a,b]):P f:=by
 rcases UN.mp h with rfl|h
 ·exact ha
 ·rw [UY.mp h];exact hb
theorem Hn {α:Type} {P:α->Prop} {a b f:α} {n:Nat} (ha:P a) (hb:P b) (h:f∈[a,b].take n):P f:=all2 ha hb (V4 h)
theorem C6 (ks:List Kd) (hG:KG ks) (c:Int) (as:List Cs) (ha:1<=as.length) (Ii:as.length<=100) :
  ∃tk kp:List Fc,tk.length<=2/\kp.length<=2/\1<=tk.length+kp.length/\(∀f∈tk,lF (ks.filter sX) as f)/\(∀f∈kp,lF ks as f)/\∀L,da [.lst (ks.map kT),.int c,.lst (as.map .str)] L=.ok (.tup [.lst (tk.map fT),.lst (kp.map fT)]) L:=by
 have h4:ks.length<=100:=by rw [hG.len];decide
 have Ho:∀k∈ks,k.c<=4:=fun k hk=>(hG.ok k hk).2
 have Qq:∀k∈ks.filter sX,k.c<=4:=fun k hk=>Ho k (U5.mp hk).1
 refine sP fun G n9=>?_
 obtain⟨_,p,e⟩:=lq c [3,3,512,512] (by decide) (by decide);obtain⟨d0,_,rfl,h0,p⟩:=P1 p;obtain⟨d1,_,rfl,h1,p⟩:=P1 p;obtain⟨d2,_,rfl,h2,p⟩:=P1 p;obtain⟨d3,_,rfl,h3,p⟩:=P1 p;obtain rfl:=P0 p;obtain⟨_,p,e'⟩:=lq (c % 2147483629 * 69621 % 2147483629) [1024,1024] (by decide) (by decide);obtain⟨e0,_,rfl,_,p⟩:=P1 p;obtain⟨e1,_,rfl,_,p⟩:=P1 p;obtain rfl:=P0 p;simp only [UG,Vz] at e e';obtain⟨f1,F1,x1⟩:=gQ (ks.filter sX) as d2 (KG.pass hG) (eS h4) Qq ha Ii;obtain⟨f2,F2,x2⟩:=gQ (ks.filter sX) as d3 (KG.pass hG) (eS h4) Qq ha Ii;obtain⟨g1,G1,y1⟩:=gQ ks as e0 (by rw [hG.len];decide) h4 Ho ha Ii;obtain⟨g2,G2,y2⟩:=gQ ks as e1 (by rw [hG.len];decide) h4 Ho ha Ii;have mT:∀f∈[f1,f2].take d0,lF (ks.filter sX) as f:=fun f hf=>Hn F1 F2 hf
 have mK:∀f∈[g1,g2].take d1,lF ks as f:=fun f hf=>Hn G1 G2 hf
 have run:∀L,da [.lst (ks.map kT),.int c,.lst (as.map .str)] L=.ok (.tup [.lst (([f1,f2].take d0).map fT),.lst ((if ([f1,f2].take d0).length+([g1,g2].take d1).length=0 then [g1] else [g1,g2].take d1).map fT)]) L:=fun L=>by
  unfold da;simp_arith;rw [cZ rfl ks kT sX kT (by exact rfl) (by exact ak) (by exact UW h4 (by decide)) (by exact fun b _=>by simp_arith;rfl) (by exact fun b _ _=>by simp_arith)];simp_arith [e,e',x1,x2,y1,y2];rw [C5 fT,nv (by simp;decide)];simp_arith [y1,y2];rw [C5 fT,nv (by simp;decide),<- Wx,C5 fT f1 f2,<- Wx];simp_arith [<- Int.natCast_add];by_cases hz:([f1,f2].take d0).length+([g1,g2].take d1).length=0
  ·rw [if_pos hz,hz]
   simp_arith [show(((0:Nat):Int) == 0)=true from rfl,y1];exact fin_same (by rw [lt,cf,cf,cf,ao aZ,OM fT,ao aZ];rfl)
  ·rw [if_neg hz,show((((([f1,f2].take d0).length+([g1,g2].take d1).length:Nat)):Int) == 0)=false by simp only [beq_eq_false_iff_ne];omega]
   simp_arith;exact fin_same (by rw [lt,cf,cf,cf,ao aZ,ao aZ];rfl)
 have t2:([f1,f2].take d0).length<=2:=by simp [Vj];omega
 have k2:([g1,g2].take d1).length<=2:=by simp [Vj];omega
 refine n9 ?_;clear n9;by_cases hz:([f1,f2].take d0).length+([g1,g2].take d1).length=0
 ·rw [if_pos hz] at run
  exact⟨_,_,t2,by simp,by simp,mT,fun f hf=>by rw [UY.mp hf];exact G1,run⟩
 ·rw [if_neg hz] at run
  exact⟨_,_,t2,k2,by omega,mT,mK,run⟩
theorem fV {a:Cs} (h:dG a):1<=a.length/\a.length<=12:=aN h.1
theorem Lc {a:Cs} (h:dG a):([a.headD 0] == [78])=great a:=by
 rw [h.2];by_cases e:a.headD 0=78
 ·rw [e];rfl
 ·rw [decide_eq_false e];simpa using e
theorem qq (fs:List Fc) (hf:∀f∈fs,∀a∈f.as,dG a) (hl:(fs.flatMap (·.as)).length<=32) (L:aa):cC [.lst (fs.map fT)] L=.ok (.lst ((opens fs).map .str)) L:=by
 unfold cC;simp_arith;generalize ho:forL _ _ _ _ _ _=o;obtain⟨z,w,rfl⟩:=oQ (E:=fun acc=>.lst (acc.map .str)) ho (fun _=>sv) hl hf fun f a acc hn hl=>by
  simp_arith [oL (fV hn).1,show S "N"=[78] from rfl,Lc hn];unfold eZ;cases hg:great a with
  | false=>simp_arith
  | true =>
   simp_arith [OJ (x:=a) (t:=.ref L.length) (ys:=acc) (L:=.lst (acc.map .str)::L) (by simp_arith)];by_cases hm:a∈acc
   ·simp_arith [hm,decide_true]
   ·simp_arith [hm,decide_false,aQ hl,bo]
 simp_arith;exact fj (ao fun _ _=>rfl)
theorem Qr {x:T} {xs:List T} {n:Nat} {L:aa} (hx:vw L x=.lst xs) (h:xs.length<=lim):i9 false x none (some (n:Int)) L=.ok (.ref L.length) (.lst (xs.take n)::L):=by
 unfold i9;rw [hx];exact qp h
theorem lr (ns:List Cs) (h:1<=ns.length) (d:Nat):∃a∈ns,∀L,ix (.lst (ns.map .str)) (.int ((d:Int) % (ns.length:Int))) L=.ok (.str a) L:=by
 have:=md (n:=(d:Int)) h;refine⟨ns.getD ((d:Int) % ns.length).toNat [],?_,fun L=>An h L⟩;rw [Gd9,Ge9 this.2];exact UQ _
theorem Ao {L:aa} {a b c:T} (h:lt L.length c=true):fin L (.ref (L.length+2)) (c::b::a::L)=.ok c L:=zZ (Ln:=[c,b,a]) Kr (by omega) h
theorem Ld:∀d:Nat,∃b:Bool,d<2->∀L,ix (.tup [.str (S "same"),.str (S "unlike")]) (.int (d:Nat)) L=.ok (.str (Bk.fA b)) L
 | 0=>⟨true,fun _ _=>rfl⟩
 | 1=>⟨false,fun _ _=>rfl⟩
 | d+2=>⟨true,fun z=>absurd z (by omega)⟩
theorem C7 (ns:List Cs) (hn:1<=ns.length) (wA:ns.length<=100) (c:Int):∃ks:List Lk,ks.length<=2/\(∀k∈ks,k.l∈ns/\k.r∈ns)/\∀L,eE [.lst (ns.map .str),.int c] L=.ok (.lst (ks.map nV)) L:=by
 refine sP fun G n9=>?_
 obtain⟨_,p,e⟩:=lq c [3,5,5,5,5,5] (by decide) (by decide);obtain⟨d0,_,rfl,h0,p⟩:=P1 p;obtain⟨d1,_,rfl,h1,p⟩:=P1 p;obtain⟨d2,_,rfl,h2,p⟩:=P1 p;obtain⟨d3,_,rfl,h3,p⟩:=P1 p;obtain⟨d4,_,rfl,h4,p⟩:=P1 p;obtain⟨d5,_,rfl,h5,p⟩:=P1 p;obtain rfl:=P0 p;simp only [UG,Vz] at e;obtain⟨a1,A1,x1⟩:=lr ns hn d1;obtain⟨a2,A2,x2⟩:=lr ns hn d2;obtain⟨a4,A4,x4⟩:=lr ns hn d4;obtain⟨a5,A5,x5⟩:=lr ns hn d5;have l1:nV ⟨true,a1,a2⟩=.tup [.str (S "same"),.str a1,.str a2]:=rfl
 have l2:nV ⟨false,a1,a2⟩=.tup [.str (S "unlike"),.str a1,.str a2]:=rfl;obtain⟨b3,Qs⟩:=Ld d3;have l3:nV ⟨b3,a4,a5⟩=.tup [.str (Bk.fA b3),.str a4,.str a5]:=rfl
 refine n9 ?_;clear n9;refine⟨(if d0<2 then [(⟨false,a1,a2⟩:Lk)].take d0 else [⟨true,a1,a2⟩])++(if d3<2 then [⟨b3,a4,a5⟩] else []),?_,?_,fun L=>?_⟩
 ·have:([(⟨false,a1,a2⟩:Lk)].take d0).length<=1:=by rw [Vj];exact Yq _ _
  split <;> split <;> simp at this ⊢ <;> omega
 ·intro k hk
  rcases UH.mp hk with hk|hk
  ·split at hk
   ·have:=V4 hk
    rw [UY.mp this];exact⟨A1,A2⟩
   ·rw [UY.mp hk];exact⟨A1,A2⟩
  ·split at hk
   ·rw [UY.mp hk];exact⟨A4,A5⟩
   ·cases hk
 ·have hp:(0:Int)<ns.length:=by omega
  have tl:∀ks:List Lk,lt L.length (.lst (ks.map nV))=true:=fun ks=>ao uz
  unfold eE;simp_arith [e,hp,x1,x2,<- l1];by_cases z0:d0<2
  ·simp_arith [show((d0:Nat):Int)<2 by omega,decide_true,l1,<- l2]
   rw [qp (by simp;decide)];simp_arith;rw [if_pos z0];by_cases z3:d3<2
   ·simp_arith [show((d3:Nat):Int)<2 by omega,decide_true,Qs z3,x4,x5,<- l3,hp]
    rw [ax (show _<_ by rw [Vj];simp;unfold lim;omega),if_pos z3];simp_arith;rw [show [nV ⟨false,a1,a2⟩].take d0++[nV ⟨b3,a4,a5⟩]=([(⟨false,a1,a2⟩:Lk)].take d0++[(⟨b3,a4,a5⟩:Lk)]).map nV by rw [UL,Wx];rfl];exact Ao (tl _)
   ·simp_arith [show ¬ ((d3:Nat):Int)<2 by omega,decide_false]
    rw [if_neg z3,U2,show [nV ⟨false,a1,a2⟩].take d0=([(⟨false,a1,a2⟩:Lk)].take d0).map nV by rw [Wx];rfl];exact Ao (tl _)
  ·simp_arith [show ¬ ((d0:Nat):Int)<2 by omega,decide_false]
   rw [if_neg z0];by_cases z3:d3<2
   ·simp_arith [show((d3:Nat):Int)<2 by omega,decide_true,Qs z3,x4,x5,<- l3,hp]
    rw [ax (show _<_ by decide),if_pos z3];simp_arith;exact fj (tl [⟨true,a1,a2⟩,⟨b3,a4,a5⟩])
   ·simp_arith [show ¬ ((d3:Nat):Int)<2 by omega,decide_false]
    rw [if_neg z3];exact fj (tl [⟨true,a1,a2⟩])
theorem oU {fs:List Fc} {ks:List Kd} {as:List Cs} (hc:∀k∈ks,k.c<=4) (h:∀f∈fs,lF ks as f) (hl:fs.length<=8):(fs.flatMap (·.as)).length<=32:=by
 have:=Bk.gg (l:=fs) (g:=(·.as)) (B:=4) fun f hf=>by
  obtain⟨⟨k,hk,_,e⟩,_⟩:=h f hf;rw [e];exact hc k hk
 omega
theorem Mh {xs:List T} {n:Nat} {L:aa} (h:xs.length<=lim):i9 false (.lst xs) none (some (n:Int)) L=.ok (.ref L.length) (.lst (xs.take n)::L):=qp h
theorem Hq {L:aa} {a b c d:T} {x y:T} (h:lt L.length a=true/\lt L.length b=true/\lt L.length c=true/\lt L.length d=true) (hy:lt L.length y=true):fin L (.tup [a,b,c,d,.ref (L.length+1)]) (y::x::L)=.ok (.tup [a,b,c,d,y]) L:=by
 unfold fin;have e:(y::x::L).drop ((y::x::L).length - L.length)=L:=by
  rw [show(y::x::L).length - L.length=2 by simp only [UA];omega];rfl
 rw [e,if_pos (gi L)];unfold cg;rw [if_neg (by simp [lt,cf,h])];have f:∀{t:T},lt L.length t=true->cg L.length (y::x::L) 8 t=some t:=fun h=>by unfold cg;rw [if_pos h]
 have e2:cg L.length (y::x::L) 8 (.ref (L.length+1))=some y:=by
  unfold cg;rw [if_neg (by simp [lt])];simp only [w9];unfold cg;rw [if_pos hy]
 simp [Wy,f h.1,f h.2.1,f h.2.2.1,f h.2.2.2,e2,lift]
theorem twice {T g:Prop} (a:T->g) (b:T):g:=a b
theorem Ap (ks:List Kd) (hG:KG ks) (c1 c2:Int) (as os ws:List Cs) (ha:1<=as.length) (Ii:as.length<=10) (hw:1<=ws.length) (Uj:ws.length<=10) (sS:∀a∈as,a∈os++ws) (hok:∀a∈as,dG a) :
  ∃r:Rl,Kp ks os ws r/\∀L,fF [.lst (ks.map kT),.int c1,.int c2,.lst (as.map .str),.lst (ws.map .str)] L=.ok (xT r) L:=by
 refine sP fun G n9=>?_
 obtain⟨tk,kp,t2,k2,B2,FT,FK,eh⟩:=C6 ks hG c1 as ha (by omega);have Ho:∀k∈ks,k.c<=4:=fun k hk=>(hG.ok k hk).2
 have FA:∀f∈tk++kp,lF ks as f:=fun f hf=>by
  rcases UH.mp hf with h|h
  ·obtain⟨⟨k,hk,e⟩,h2⟩:=FT f h
   exact⟨⟨k,(U5.mp hk).1,e⟩,h2⟩
  ·exact FK f h
 have IU:=oU Ho FA (by simp;omega);have en:=fun L=>qq (tk++kp) (fun f hf a h=>hok a ((FA f hf).2 a h)) IU L
 have ho:(opens (tk++kp)).length<=0+_:=Bk.iG _ [];obtain⟨ns,DW⟩:∃ns,ns=opens (tk++kp)++ws:=⟨_,rfl⟩;have Hr:1<=ns.length:=by rw [DW,Ut];omega
 have wA:ns.length<=100:=by rw [DW,Ut];omega
 obtain⟨kk,B0⟩:∃kk,kk=if tk=[] then ks.filter (·.l) else ks:=⟨_,rfl⟩
 have tw:1<=kk.length:=by rw [B0];split;exact KG.last hG;rw [hG.len];decide
 have qD:kk.length<=100:=by rw [B0];split;exact eS (by rw [hG.len];decide);rw [hG.len];decide
 have Ia:∀k∈kk,k.c<=4:=fun k hk=>by
  rw [B0] at hk;split at hk
  ·exact Ho k (U5.mp hk).1
  ·exact Ho k hk
 obtain⟨_,p,e⟩:=lq c2 [3,2500,2500] (by decide) (by decide);obtain⟨d0,_,rfl,h0,p⟩:=P1 p;obtain⟨d1,_,rfl,h1,p⟩:=P1 p;obtain⟨d2,_,rfl,h2,p⟩:=P1 p;obtain rfl:=P0 p;obtain⟨_,p,e'⟩:=lq (c2 % 2147483629 * 40692 % 2147483629) [2,5,5,3,5,5] (by decide) (by decide);obtain⟨b0,_,rfl,q0,p⟩:=P1 p;obtain⟨b1,_,rfl,_,p⟩:=P1 p;obtain⟨b2,_,rfl,_,p⟩:=P1 p;obtain⟨b3,_,rfl,_,p⟩:=P1 p;obtain⟨b4,_,rfl,_,p⟩:=P1 p;obtain⟨b5,_,rfl,_,p⟩:=P1 p;obtain rfl:=P0 p;simp only [UG,Vz] at e e';obtain⟨f1,F1,x1⟩:=gQ kk ns d1 tw qD Ia Hr wA;obtain⟨f2,F2,x2⟩:=gQ kk ns d2 tw qD Ia Hr wA;obtain⟨lk,l2,Tj,el⟩:=C7 ns Hr wA (c2 % 2147483629 * 69621 % 2147483629);obtain⟨a1,A1,y1⟩:=lr ns Hr b1;obtain⟨a2,A2,y2⟩:=lr ns Hr b2;obtain⟨a4,A4,y4⟩:=lr ns Hr b4;obtain⟨a5,A5,y5⟩:=lr ns Hr b5;have hp:(0:Int)<ns.length:=by omega
 have tT:∀f∈tk,lF (ks.filter sX) (os++ws) f:=fun f hf=>⟨(FT f hf).1,fun a h=>sS a ((FT f hf).2 a h)⟩
 have tK:∀f∈kp,lF ks (os++ws) f:=fun f hf=>⟨(FK f hf).1,fun a h=>sS a ((FK f hf).2 a h)⟩
 have tP:∀f∈[f1,f2].take d0,lF kk ns f:=fun f hf=>Hn F1 F2 hf
 obtain⟨tl,Tn,ON,tell⟩:∃tl:List (Cs × Cs),(∀p∈tl,p.1∈ns/\p.2∈ns)/\tl.length<=2/\tl=[(a1,a2)].take b0++(if b3=1 then [(a4,a5)] else []):=by
  refine⟨_,fun p hp=>?_,?_,rfl⟩
  ·rcases UH.mp hp with h|h
   ·rw [UY.mp (V4 h)];exact⟨A1,A2⟩
   ·split at h
    ·rw [UY.mp h];exact⟨A4,A5⟩
    ·cases h
  ·have:([(a1,a2)].take b0).length<=1:=by rw [Vj];exact Yq _ _
   rw [Ut];split <;> simp at this ⊢ <;> omega
 have p2:([f1,f2].take d0).length<=2:=by rw [Vj];exact Yq _ _
 refine n9 ?_;clear n9;refine⟨⟨[],tk,kp,lk,[f1,f2].take d0,tl⟩,⟨tT,tK,?_,?_,?_,B2,t2,k2,l2,p2,ON⟩,fun L=>?_⟩
 ·rw [<- B0,<- DW];exact tP
 ·rw [<- DW];exact Tj
 ·rw [<- DW];exact Tn
 ·unfold fF
  simp_arith [eh,Ut,ax (show tk.length+kp.length<=lim by unfold lim;omega),en,ax (show(opens (tk++kp)).length+ws.length<=lim by unfold lim;omega),<- UL,<- DW,ax (show ns.length<=lim by unfold lim;omega)];have fin:∀L,fin L (.tup [.lst (tk.map fT),.lst (kp.map fT),.lst (lk.map nV),.lst (([f1,f2].take d0).map fT),.ref (L.length+1)]) (.lst (tl.map pT) :: .lst [pT (a1,a2)]::L)=.ok (xT ⟨[],tk,kp,lk,[f1,f2].take d0,tl⟩) L:=fun L=>Hq ⟨ao aZ,ao aZ,ao uz,ao aZ⟩ (ao fh)
  apply twice
  ·intro key
   by_cases ht:tk=[]
   ·rw [if_pos ht] at B0
    simp_arith [show((tk.length:Int) == 0)=true by rw [ht];rfl];rw [cZ rfl ks kT (·.l) kT (by exact rfl) (by exact ak) (by rw [hG.len];decide) (by exact fun b _=>by simp_arith) (by exact fun b _ _=>by simp_arith)];simp_arith [<- B0];exact key
   ·rw [if_neg ht] at B0
    simp_arith [show((tk.length:Int) == 0)=false by simpa using ht,<- B0];exact key
  simp_arith [e,x1,x2];rw [C5 fT f1 f2,nv (by simp;decide),<- Wx];simp_arith [el,e',hp,y1,y2];rw [show T.tup [.str a1,.str a2]=pT (a1,a2) from rfl,qp (by simp;decide)];simp_arith;by_cases h3:b3=1
  ·rw [if_pos h3] at tell
   simp_arith [show((b3:Int) == 1)=true by rw [h3];rfl,hp,y4,y5];rw [ax (show _<_ by rw [Vj];simp;unfold lim;omega)];simp_arith;rw [show [pT (a1,a2)].take b0++[.tup [.str a4,.str a5]]=tl.map pT by rw [tell,UL,Wx];rfl];exact fin L
  ·rw [if_neg h3,U2] at tell
   simp_arith [show((b3:Int) == 1)=false by simp;omega];rw [show [pT (a1,a2)].take b0=tl.map pT by rw [tell,Wx];rfl];exact fin L
theorem Aq {B:Nat}:∀{ls:List Cs},(∀l∈ls,l.length<=B)->(ls.map (·.length)).sum<=ls.length * B
 | [],_=>by simp
 | a::r,h=>by
  have h1:=Aq (fun l hl=>h l (Uw _ hl));have h2:=h a Uv
  rw [UG,List.sum_cons,UA,aar];have h1:(r.map (·.length)).sum<=r.length * B:=h1
  omega
theorem qr {sep:Cs} {zs:List Cs} {t:T} {L:aa} {n B:Nat} (ht:t=.lst (zs.map .str)) (hz:zs.length<=n) (hB:∀z∈zs,z.length<=B) (h:n * B+n * sep.length<=16777216):kW (.str sep) [t] L=.ok (.str (jn sep zs)) L:=by
 subst ht;refine G6 ?_;have:=Aq hB
 have h1:=Yw B hz;have h2:=Yw sep.length hz
 omega
theorem Ar (f:Fc):ik f=if f.as=[] then f.k else ((f.k++[40])++jn [44] f.as)++[41]:=rfl
theorem C8 (f:Fc) (h:FG f) (L:aa):cx [fT f] L=.ok (.str (ik f)) L:=by
 have ha:∀a∈f.as,a.length<=12:=fun a h2=>(aN (h.as a h2)).2
 have hn:=h.n;have hf:(ik f).length<=70:=h.im.1
 unfold cx;simp_arith;by_cases h0:f.as=[]
 ·simp_arith [show((f.as.length:Int) == 0)=true by rw [h0];rfl]
  rw [Ar,if_pos h0]
 ·have hb:eV true [.tup (f.as.map .str)] L=.ok (.lst (f.as.map .str)) L:=by
   show fo true (f.as.map .str) L=_;rw [fo,ax (by rw [Lm9];unfold lim;omega)];rfl
  rw [Ar,if_neg h0] at hf;simp only [Ut,Vy] at hf;simp_arith [show((f.as.length:Int) == 0)=false by simpa using h0,Vy];rw [ax (by unfold lim;omega)];simp_arith [hb,qr (sep:=[44]) rfl hn ha (by decide)];simp only [Ut,UA,U8];rw [ax (by unfold lim;omega)];simp_arith;rw [ax (by simp only [Ut,UA,U8];unfold lim;omega),Ar,if_neg h0];simp_arith
theorem jW {α:Type} (n:Nat) (l:List α) (g:α->Im) (h:n<5/\(l.map g).length<=2/\∀i∈l.map g,rV i) (L:aa):aJ [.str (wordAt n),.lst (l.map fun a=>.str (g a).tx)] L=.ok (.lst ((oG (wordAt n) ((l.map g).map (·.tx))).map .str)) L:=by
 have hw:=(Bk.zV h.1).2;have hl:∀m∈(l.map g).map (·.tx),m.length<=70:=fun m hm=>by
  obtain⟨i,hi,rfl⟩:=Uz.mp hm;exact(h.2.2 i hi).1
 have hr:=Bk.ky (sep:=[44,32]) hl;have hm:((l.map g).map (·.tx)).length<=2:=by rw [Lm9];exact h.2.1
 rw [show(l.map fun a=>T.str (g a).tx)=((l.map g).map (·.tx)).map .str by rw [UZ,UZ];rfl];generalize (l.map g).map (·.tx)=ms at hr hm hl;unfold aJ oG;simp_arith;by_cases h0:ms=[]
 ·simp_arith [show((ms.length:Int) == 0)=true by rw [h0];rfl]
  rw [if_pos h0];exact fin_same rfl
 ·simp_arith [show((ms.length:Int) == 0)=false by simpa using h0,Vy]
  rw [ax (by unfold lim;omega)];simp_arith [show S ", "=[44,32] from rfl,qr (sep:=[44,32]) rfl hm hl (by decide)];rw [ax (by simp only [Ut,UA,U8] at hr ⊢;unfold lim;omega)];simp_arith;rw [if_neg h0,UU];exact fin_same rfl
theorem vZ {α:Type} {g:α->T}:∀(l:List α) (n:Nat),num n (l.map g)=(l.zipIdx n).map fun p=>.tup [.int (p.2:Nat),g p.1]
 | [],_=>rfl
 | a::l,n=>by rw [UG,num,vZ l (n+1)];rfl
theorem v5:∀c≤4,(V5 (toString ((c:Nat):Int))).cps.toList=[48+c]/\((c:Nat):Int).natAbs.log2<1920:=by decide +kernel
theorem v7 (c:Nat) (h:c<=4) (L:aa):tc [.int (c:Nat)] L=.ok (.str [48+c]) L:=by
 unfold tc;simp only [(v5 c h).1];exact ax ⟨(v5 c h).2,by simp;decide⟩
theorem qt (fs:List Fc) (h:∀f∈fs,FG f) (hl:fs.length<=10) {s:SI} {aU:List (Option Nat)} {φ:Fr} {L:aa} {k:aa->Prop} {r:R T} (hc:comp true s aU (.one 1) yes (ae cx [v 1]) φ L=r) (hs:s φ L=.ok (fs.map fT,k) L) (hk:k L) (hv:∀x,((inner aU φ).set 1 (some x))[1]?=some (some x)) :
  r=.ok (.lst (fs.map fun f=>.str (ik f))) L:=by
 rw [bc hc fs fT (fun f=>.str (ik f)) hs hk (by unfold lim;omega) fun f hf=>by simp only [zP,mV,mU,Ie,hv,W8,eT,aH];exact C8 f (h f hf) L];rfl
theorem OO {a b:Cs} {L:aa} (h:a.length+b.length<=lim):aX true .Add (.str a) (.str b) L=.ok (.str (a++b)) L:=KJ.trans (if_pos h)
theorem iy (w:Cs) (m:List Cs):(oG w m).length<=1:=by
 unfold oG;split <;> simp
theorem oV {α β:Type} (f:α->β):∀(l:List α) (acc:List β),l.foldl (fun acc k=>acc++[f k]) acc=acc++l.map f
 | [],acc=>(U2 acc).symm
 | a::l,acc=>by rw [X1,oV f l,UU];rfl
theorem Hs (ks:List Kd) (hG:KG ks) (rs:List Rl) (h2:rs.length=2) (hT:∀r∈rs,∀i<2,sW ks (Bk.gY r (Bk.rT i))) (L:aa) :
  dW [.lst (ks.map kT),.lst (rs.map xT)] L=.ok (.str (jn [10] (ks.map aw++(aC rs).map cq))) L:=by
 unfold dW;simp_arith;generalize ho:forL _ _ _ _ _ _=o;obtain⟨o3,o4,rfl⟩:=si ks kT (fun acc=>.lst (acc.map .str)) (fun acc k=>acc++[aw k]) (fun r acc=>acc.length+r.length<=4/\∀k∈r,bW k.n=true/\k.c<=4) (fun z w=>[some (.lst (ks.map kT)),some (.lst (rs.map xT)),some (.ref L.length),z,w,none,none,none]) (s:=[]) ho (fun _=>sv) (fun _ _ _=>rfl) ⟨by rw [hG.len];decide,hG.ok⟩ fun k r acc w h=>by
  have hk:=h.2 k Uv;have hl:=(aN (Bk.bj hk.1)).2
  have h1:=h.1;rw [UA] at h1;have hd:acc.length<lim:=by unfold lim;omega
  refine⟨⟨by rw [Ut,Vy];omega,fun g hg=>h.2 g (Uw _ hg)⟩,?_⟩;simp_all_arith [v7 k.c hk.2,show S "lasting "=Bk.cB++[32] from rfl,show S "passing "=Bk.cA++[32] from rfl];cases Qt:k.l with
  | true =>
   simp_all_arith [v7 k.c hk.2];exact⟨_,by simp [aw,Qt];rfl⟩
  | false =>
   simp_all_arith [v7 k.c hk.2];exact⟨_,by simp [aw,Qt];rfl⟩
 rw [oV,Vt];simp_arith;rw [vZ rs 0];generalize ho:forL _ _ _ _ _ _=o;have h:=c7 ho rs.zipIdx (fun p=>.tup [.int (p.2:Nat),xT p.1]) (fun q φ L'=>∃done o5 o6 o7,done++q=rs.zipIdx/\φ=[some (.lst (ks.map kT)),some (.lst (rs.map xT)),some (.ref L.length),o3,o4,o5,o6,o7]/\L'=.lst ((ks.map aw++done.map fun p=>cq (Bk.gY p.1 (Bk.rT p.2))).map .str)::L)
  (fun o=>∃φ,o=.nx (some (.lst (ks.map kT))::some (.lst (rs.map xT))::some (.ref L.length)::φ) (.lst ((ks.map aw++(aC rs).map cq).map .str)::L)) rfl ⟨[],none,none,none,rfl,rfl,by simp⟩ (fun _ _ eJ eP p q φ L' hh=>by
   obtain⟨done,o5,o6,o7,e1,rfl,rfl⟩:=hh;obtain⟨r,i⟩:=p;have hm:(r,i)∈rs.zipIdx:=by rw [<- e1];simp
   have hi:i<2:=by have:=List.mem_zipIdx hm;omega
   have hr:r∈rs:=(List.mem_zipIdx' hm).2 ▸ UQ _;refine sP fun G n9=>?_
   have H:=hT r hr i hi;have hf:∀f∈r.take++r.keep++r.put,FG f:=fun f hf=>(H.f f hf).1
   have gt:∀f∈r.take,FG f:=fun f h=>hf f (UD _ (UD _ h))
   have gk:∀f∈r.keep,FG f:=fun f h=>hf f (UD _ (UK _ h))
   have gp:∀f∈r.put,FG f:=fun f h=>hf f (UK _ h)
   have g2:∀k∈r.aj,au k.l=true/\au k.r=true:=H.l;have g3:∀k∈r.tell,au k.1=true/\au k.2=true:=H.p
   obtain⟨f1,f2,f3,f4,f5⟩:Mc 2 r:=H.pB;have c1:=iy (wordAt 0) ((r.take.map fI).map (·.tx))
   have c2:=iy (wordAt 1) ((r.keep.map fI).map (·.tx));have c3:=iy (wordAt 2) ((r.aj.map lI).map (·.tx))
   have c4:=iy (wordAt 3) ((r.put.map fI).map (·.tx));have c5:=iy (wordAt 4) ((r.tell.map pI).map (·.tx))
   have row:=H.row;have q0:∀L,aJ [.str (wordAt 0),.lst (r.take.map fun f=>.str (ik f))] L=_:=jW 0 r.take fI (row _ (.head _))
   have q1:∀L,aJ [.str (wordAt 1),.lst (r.keep.map fun f=>.str (ik f))] L=_:=jW 1 r.keep fI (row _ (.tail _ (.head _)));have q2:∀L,aJ [.str (wordAt 2),.lst (r.aj.map fun f=>.str (mY f))] L=_:=jW 2 r.aj lI (row _ (.tail _ (.tail _ (.head _))))
   have q3:∀L,aJ [.str (wordAt 3),.lst (r.put.map fun f=>.str (ik f))] L=_:=jW 3 r.put fI (row _ (.tail _ (.tail _ (.tail _ (.head _)))));have q4:∀L,aJ [.str (wordAt 4),.lst (r.tell.map fun f=>.str (mZ f))] L=_:=jW 4 r.tell pI (row _ (.tail _ (.tail _ (.tail _ (.tail _ (.head _))))))
   have hdn:done.length<=2:=by
    have:=congrArg WR e1;simp [h2] at this;omega
   have h4:=hG.len;refine n9 ?_;clear n9;refine⟨sv,_,rfl,?_⟩;simp_arith [eJ,eP];rw [qt r.take gt (by omega) rfl (by exact rfl) (by exact sv) (by exact fun _=>rfl)];simp_arith [eJ,eP,show S "take"=wordAt 0 from rfl,q0];rw [qt r.keep gk (by omega) rfl (by exact rfl) (by exact sv) (by exact fun _=>rfl)];simp_all_arith [eJ,eP,show S "keep"=wordAt 1 from rfl,q1];rw [bc rfl r.aj nV (fun k=>.str (mY k)) (by exact rfl) (by exact sv) (by unfold lim;omega) (fun k hk=>by
    have z:=g2 k hk;have z1:=(aN z.1).2
    have z2:=(aN z.2).2;have z3:=(Bk.zW k.same).2
    simp_all_arith [eJ,eP];simp [mY])]
   simp_all_arith [eJ,eP,show S "look"=wordAt 2 from rfl,q2];rw [qt r.put gp (by omega) rfl (by exact rfl) (by exact sv) (by exact fun _=>rfl)];simp_all_arith [eJ,eP,show S "put"=wordAt 3 from rfl,q3];rw [bc rfl r.tell pT (fun k=>.str (mZ k)) (by exact rfl) (by exact sv) (by unfold lim;omega) (fun k hk=>by
    have z:=g3 k hk;have z1:=(aN z.1).2
    have z2:=(aN z.2).2;simp_all_arith [eJ,eP,show S " = "=[32,61,32] from rfl];simp [mZ])]
   simp_all_arith [eJ,eP,show S "tell"=wordAt 4 from rfl,q4];have hz:_++(_++(_++(_++(_++[]))))=(hO r).map gW:=Bk.rU (rows r)
   obtain⟨zl,zb⟩:((hO r).map gW).length<=5/\∀l∈(hO r).map gW,l.length<=150:=H.parts;have zj:=UW (Bk.ky (sep:=[59,32]) zb) (Yw 152 zl)
   have hj:=fun L=>qr (sep:=S "; ") (zs:=(hO r).map gW) (L:=L) rfl zl zb (by decide)
   rw [<- hz] at hj;simp only [U2,UL,<- UU] at hj;simp only [U2,<- UU] at hz;rw [hz,show S "; "=[59,32] from rfl] at hj;simp_all_arith [eJ,eP,v7 i (by omega),show S "rule r"=[114,117,108,101,32,114] from rfl,show S ": "=[58,32] from rfl,show S "; "=[59,32] from rfl,hj];exact⟨done++[(r,i)],_,_,_,by simpa using e1,rfl,by simp [cq,Bk.gY,Bk.rT,hO,rows]⟩)
  fun φ L' hh=>by
   obtain⟨done,o5,o6,o7,e1,rfl,rfl⟩:=hh;rw [U2] at e1;subst e1;rw [show(aC rs).map cq=rs.zipIdx.map fun p=>cq (Bk.gY p.1 (Bk.rT p.2)) by unfold aC;rw [UZ];rfl];exact⟨sv,_,rfl⟩
 obtain⟨φ,rfl⟩:=h;have To:(ks.map aw++(aC rs).map cq).length<=6:=by simp [aC,hG.len,h2]
 have Tp:kW (.str (S "\n")) [.ref L.length] (.lst ((ks.map aw++(aC rs).map cq).map .str)::L)=.ok (.str (jn [10] (ks.map aw++(aC rs).map cq))) (.lst ((ks.map aw++(aC rs).map cq).map .str)::L):=by
  have:=qr (sep:=S "\n") (zs:=ks.map aw++(aC rs).map cq) (L:=.lst ((ks.map aw++(aC rs).map cq).map .str)::L) (B:=800) rfl To (fun l h=>by
   rcases UH.mp h with h|h
   ·obtain⟨k,hk,rfl⟩:=Uz.mp h
    exact(Bk.kz (hG.ok k hk)).2
   ·obtain⟨r,hr,rfl⟩:=Uz.mp h
    obtain⟨x,hx,rfl⟩:=Uz.mp hr;have:=List.mem_zipIdx hx
    exact(hT x.1 ((List.mem_zipIdx' hx).2 ▸ UQ _) x.2 (by omega)).line.2) (by decide)
  rw [show S "\n"=[10] from rfl] at this ⊢;rw [<- this];unfold kW;simp only [items,jl,dC,fB];rfl
 simp_arith [Tp];exact dS rfl
noncomputable def oN (a b k:Nat):Cs:=78::nameOf a b k
theorem Ht {a b k:Nat} (hk:k<8) (hab:a+b<=4):(nameOf a b k).all fw=true:=by
 have h:=Bk.bj (Bk.cN hk hab);unfold au at h;simp only [UC] at h;exact h.2.2
theorem Eg (a b k:Nat):(nameOf a b k).length=a+b+1:=by simp [nameOf];omega
theorem gj (a b k:Nat):great (oN a b k)=true:=by
 show decide ((78:Nat)∈DZ.p8.cps.toList)=true;decide +kernel
theorem iz {a b k:Nat} (hk:k<8) (hab:a+b<=4):great (nameOf a b k)=false:=by
 have h:=Bk.cN hk hab;unfold bW at h;rw [UC] at h;have h:=of_decide_eq_true h.2
 unfold great;refine decide_eq_false fun z=>?_
 generalize (nameOf a b k).headD 0=c at h z;exact(by decide +kernel:∀c∈DZ.uw.cps.toList,c∉DZ.p8.cps.toList) c h z
theorem jm {a b k:Nat} (hk:k<8) (hab:a+b<=4):dG (oN a b k):=by
 refine⟨?_,by rw [gj];rfl⟩;unfold au oN;rw [Vl,Ht hk hab,show fw 78=true by decide +kernel,UA,Eg,decide_eq_true (by omega),decide_eq_true (by omega)];rfl
theorem uJ {a b k:Nat} (hk:k<8) (hab:a+b<=4):dG (nameOf a b k):=by
 refine⟨Bk.bj (Bk.cN hk hab),?_⟩;rw [iz hk hab];refine(decide_eq_false fun z=>?_).symm;have:great (nameOf a b k)=true:=by unfold great;rw [z];decide +kernel
 rw [iz hk hab] at this;cases this
theorem Hu {L:aa} {a b c x:T} (ha:lt L.length a=true) (hb:lt L.length b=true) (hc:lt L.length c=true) (hx:lt L.length x=true):fin L (.tup [a,b,c,.ref L.length]) (x::L)=.ok (.tup [a,b,c,x]) L:=by
 unfold fin;have e:(x::L).drop ((x::L).length - L.length)=L:=by simp
 rw [e,if_pos (gi L)];unfold cg;rw [if_neg (by simp [lt,cf,ha,hb,hc])];have f:∀{t:T},lt L.length t=true->cg L.length (x::L) 8 t=some t:=fun h=>by unfold cg;rw [if_pos h]
 have e2:cg L.length (x::L) 8 (.ref L.length)=some x:=by
  unfold cg;rw [if_neg (by simp [lt])];simp only [dC];unfold cg;rw [if_pos hx]
 simp [Wy,f ha,f hb,f hc,e2,lift]
theorem al {α:Type} {p:α->Prop} {a:α} {l:List α} (h:p a) (t:∀x∈l,p x):∀x∈a::l,p x:=XF.mpr ⟨h,t⟩
theorem As {α:Type} {p:α->Prop}:∀x∈([]:List α),p x:=fun _ h=>nomatch h
theorem OP (cs:List Int):∃ks ns ws rs,r9 ks ns ws rs/\(ks.filter sX).length=2/\∀L,dT [.lst (cs.map .int)] L=.ok (.tup [.lst (ks.map kT),.lst (ns.map .str),.lst (ws.map .str),.lst (rs.map xT)]) L:=by
 refine sP fun G n9=>?_
 obtain⟨ks,hG,hP,ek⟩:=C4 (cs.getD 0 0);obtain⟨a,b,hab,hn⟩:=K8 (cs.getD 1 0 % 25);have n4:=hn 4 (by decide) (by decide)
 have n5:=hn 5 (by decide) (by decide);have Qu:∀x∈[oN a b 0,oN a b 1,oN a b 2,nameOf a b 4],dG x:=al (jm (by decide) hab) (al (jm (by decide) hab) (al (jm (by decide) hab) (al (uJ (by decide) hab) As)))
 have Qv:∀x∈[oN a b 0,oN a b 1,oN a b 2,nameOf a b 4],x∈[oN a b 0,oN a b 1,oN a b 2]++[nameOf a b 4,nameOf a b 5]:=fun x hx=>(UH.mp (show x∈[oN a b 0,oN a b 1,oN a b 2]++[nameOf a b 4] from hx)).elim (UD _) fun h=>UK _ (UD [nameOf a b 5] h)
 obtain⟨r1,D1,x1⟩:=Ap ks hG (cs.getD 2 0) (cs.getD 3 0) [oN a b 0,oN a b 1,oN a b 2,nameOf a b 4] [oN a b 0,oN a b 1,oN a b 2] [nameOf a b 4,nameOf a b 5] (by simp) (by simp) (by simp) (by simp) Qv Qu;obtain⟨r2,D2,x2⟩:=Ap ks hG (cs.getD 4 0) (cs.getD 5 0) [oN a b 0,oN a b 1,oN a b 2,nameOf a b 4] [oN a b 0,oN a b 1,oN a b 2] [nameOf a b 4,nameOf a b 5] (by simp) (by simp) (by simp) (by simp) Qv Qu;have neN:∀i j,i<8->j<8->i≠j->oN a b i≠oN a b j:=fun i j h1 h2 h e=>h (Bk.m4 h1 h2 (Ww e).2)
 have Tq:nameOf a b 4≠nameOf a b 5:=fun e=>absurd (Bk.m4 (by decide) (by decide) e) (by decide)
 have Eh:∀i j,j<8->oN a b i≠nameOf a b j:=fun i j h e=>by have:=gj a b i;rw [e,iz h hab] at this;cases this
 refine n9 ?_;clear n9;refine⟨ks,[oN a b 0,oN a b 1,oN a b 2,oN a b 3],[nameOf a b 4,nameOf a b 5],[r1,r2],⟨hG,rfl,rfl,?_,?_,?_,?_,rfl,?_⟩,hP,fun L=>?_⟩
 ·exact al (jm (by decide) hab) (al (jm (by decide) hab) (al (jm (by decide) hab) (al (jm (by decide) hab) (al (uJ (by decide) hab) (al (uJ (by decide) hab) As)))))
 ·exact al (gj _ _ _) (al (gj _ _ _) (al (gj _ _ _) (al (gj _ _ _) As)))
 ·exact al (iz (by decide) hab) (al (iz (by decide) hab) As)
 ·exact .cons (al (neN 0 1 (by decide) (by decide) (by decide)) (al (neN 0 2 (by decide) (by decide) (by decide)) (al (neN 0 3 (by decide) (by decide) (by decide)) (al (Eh 0 4 (by decide)) (al (Eh 0 5 (by decide)) As))))) (.cons (al (neN 1 2 (by decide) (by decide) (by decide)) (al (neN 1 3 (by decide) (by decide) (by decide)) (al (Eh 1 4 (by decide)) (al (Eh 1 5 (by decide)) As)))) (.cons (al (neN 2 3 (by decide) (by decide) (by decide)) (al (Eh 2 4 (by decide)) (al (Eh 2 5 (by decide)) As))) (.cons (al (Eh 3 4 (by decide)) (al (Eh 3 5 (by decide)) As)) (.cons (al Tq As) (.cons As .nil)))))
 ·exact al (by assumption) (al (by assumption) As)
 ·have Tr:∀k,k<8->(nameOf a b k).length<=5:=fun k _=>by rw [Eg];omega
  unfold dT;simp_all_arith [qo,ek];rw [bc rfl (Vx 4) (fun j:Nat=>T.int (0+(j:Int))) (fun j=>.str (oN a b j)) (by exact D6 _ _ _ _ rfl rfl ⟨vR (n:=0) (by decide),vR (n:=4) (by decide)⟩) (by exact trivial) (by decide) (fun j hj=>by
   have hj:j<4:=Vv.mp hj;have:=Tr j (by omega)
   have e:=fun L=>hn (0+(j:Int)) (by omega) (by omega) L
   simp only [show(0+(j:Int)).toNat=j by omega] at e;simp_all_arith [e,show S "N"=[78] from rfl];rfl)]
  simp_all_arith [n4,n5];rw [show(Vx 4).map (fun j=>T.str (oN a b j))=[.str (oN a b 0),.str (oN a b 1),.str (oN a b 2),.str (oN a b 3)] from rfl];simp only [UG,Vz] at x1 x2;have s3:∀L,i9 true (.lst [.str (oN a b 0),.str (oN a b 1),.str (oN a b 2),.str (oN a b 3)]) none (some 3) L=.ok (.lst [.str (oN a b 0),.str (oN a b 1),.str (oN a b 2)]) L:=fun L=>nv (n:=3) (by simp;decide)
  have s1:∀L,i9 true (.lst [.str (nameOf a b 4),.str (nameOf a b 5)]) none (some 1) L=.ok (.lst [.str (nameOf a b 4)]) L:=fun L=>nv (n:=1) (by simp;decide)
  generalize ho:forL _ _ _ _ _ _=o;have h:=c7 ho [2,4] T.int (fun q φ L'=>∃done o6 o7 o8,φ=[some (.lst (cs.map .int)),some (.lst (ks.map kT)),some (.int (cs.getD 1 0 % 25)),some (.lst [.str (oN a b 0),.str (oN a b 1),.str (oN a b 2),.str (oN a b 3)]),some (.lst [.str (nameOf a b 4),.str (nameOf a b 5)]),some (.ref L.length),o6,o7,o8]/\L'=.lst done::L/\((q=[2,4]/\done=[])\/(q=[4]/\done=[xT r1])\/(q=[]/\done=[xT r1,xT r2])))
   (fun o=>∃o2 o6 o7 o8,o=.nx [some (.lst (cs.map .int)),some (.lst (ks.map kT)),o2,some (.lst [.str (oN a b 0),.str (oN a b 1),.str (oN a b 2),.str (oN a b 3)]),some (.lst [.str (nameOf a b 4),.str (nameOf a b 5)]),some (.ref L.length),o6,o7,o8] (.lst [xT r1,xT r2]::L)) rfl ⟨[],none,none,none,rfl,rfl,.inl ⟨rfl,rfl⟩⟩ (fun _ _ eJ eP x q φ L' hh=>by
    obtain⟨done,o6,o7,o8,rfl,rfl,hh⟩:=hh;refine⟨sv,_,rfl,?_⟩;rcases hh with⟨hq,rfl⟩|⟨hq,rfl⟩|⟨hq,_⟩
    ·obtain⟨rfl,rfl⟩:=Ww hq
     simp_all_arith [eJ,eP,qo,s3,s1,Int.reduceAdd,x1];exact⟨_,_,_,_,rfl,rfl,.inr (.inl ⟨by trivial,by trivial⟩)⟩
    ·obtain⟨rfl,rfl⟩:=Ww hq
     simp_all_arith [eJ,eP,qo,s3,s1,Int.reduceAdd,x2];exact⟨_,_,_,_,rfl,rfl,.inr (.inr ⟨by trivial,by trivial⟩)⟩
    ·cases hq)
   fun φ L' hh=>by
    obtain⟨done,o6,o7,o8,rfl,rfl,hh⟩:=hh;rcases hh with⟨hq,_⟩|⟨hq,_⟩|⟨_,rfl⟩
    ·cases hq
    ·cases hq
    ·exact⟨sv,_,_,_,_,rfl⟩
  obtain⟨o2,o6,o7,o8,rfl⟩:=h;simp_arith;refine(Hu (ao oJ) ?_ ?_ ?_).trans rfl
  ·exact ao (g:=T.str) (l:=[oN a b 0,oN a b 1,oN a b 2,oN a b 3]) fun _ _=>rfl
  ·exact ao (g:=T.str) (l:=[nameOf a b 4,nameOf a b 5]) fun _ _=>rfl
  ·exact ao (g:=xT) (l:=[r1,r2]) Ku
theorem jX:∀(st:ba) (n:Cs),du (st.map fun p=>(T.str p.1,T.str p.2)) (.str n)=(j5 st n).map .str
 | [],n=>rfl
 | (a,b)::st,n=>by
  rw [UG,iN,jX st n];unfold j5;rw [VU];by_cases h:a=n
  ·rw [if_pos (by rw [h]),decide_eq_true h];rfl
  ·rw [if_neg (fun e=>h (T.str.inj e)),decide_eq_false h]
theorem ny (st:ba) (n:Cs):dM (st.map fun p=>(T.str p.1,T.str p.2)) (.str n):=vX (g:=fun p:Cs × Cs=>p.1) (h:=fun p=>T.str p.2) st n
theorem Ei (st:ba) (n:Cs) (L:aa):iP (.aP (st.map fun p=>(T.str p.1,T.str p.2))) [.str n,.str n] L=.ok (.str (ah st n)) L:=by
 unfold iP vw;simp only [];rw [ax (ny st n),jX];unfold ah;cases j5 st n <;> rfl
theorem Lf {st:ba} {m:Nat} {n:Cs} {L:aa} (h:at_ L m=some (bL st)):iP (.ref m) [.str n,.str n] L=.ok (.str (ah st n)) L:=by
 have:=Ei st n L;unfold iP at this ⊢;rw [jl,h];exact this
noncomputable def kU (L:aa) (x:T) (st:ba):Prop:=x=bL st\/∃n,x=.ref n/\at_ L n=some (bL st)
theorem nY {L:aa} {x:T} {st:ba} (h:kU L x st) {a:SE} {ms:List SE} {φ:Fr} {n:Cs} (ha:a φ L=.ok x L) (hm:iA ms φ L=.ok [.str n,.str n] L):aM cF a ms φ L=.ok (.str (ah st n)) L:=by
 unfold aM;rw [ha,aH];rcases h with rfl|⟨m,rfl,h⟩
 ·simp only [Dw,vw,bL,WK,cF,hm,aH,Ei]
 ·simp only [Dw,jl,h,fB,bL,WK,cF,hm,aH]
  exact Lf h
theorem oW {L:aa} {x:T} {st:ba} (h:kU L x st) (f:Fc) (hf:f.as.length<=1000):bu [x,fT f] L=.ok (fT (wr st f)) L:=by
 unfold bu;simp_arith;rw [bc rfl f.as T.str (fun n=>.str (ah st n)) (by exact rfl) (by exact ak) (by unfold lim;omega) (by exact fun b _=>nY h rfl rfl)];simp_arith;rw [show((f.as.map fun n=>T.str (ah st n)))=(f.as.map (ah st)).map .str by simp];exact fin_same (aZ _ (wr st f))
theorem Hv {L:aa} {x:T} {st:ba} (h:kU L x st) (f:Fc) (hf:f.as.length<=1000):eU [fT f,x] L=.ok (fT (wr st f)) L:=by
 unfold eU;simp_arith;rw [bc rfl f.as T.str (fun n=>.str (ah st n)) (by exact rfl) (by exact ak) (by unfold lim;omega) (by exact fun b _=>nY h rfl rfl)];simp_arith;rw [show((f.as.map fun n=>T.str (ah st n)))=(f.as.map (ah st)).map .str by simp];exact fin_same (aZ _ (wr st f))
theorem v8 {L:aa} {x:T} {st:ba} (h:kU L x st) (p:Cs × Cs):cv [x,pT p] L=.ok (pT (ah st p.1,ah st p.2)) L:=by
 unfold cv;simp only [lh,UA,U8,X7,if_true,ku,ur,zS,DY,mV,mU,UG,Vz,Wr,Vt];rw [nY (n:=p.1) h rfl rfl];simp only [aH];rw [nY (n:=p.2) h rfl rfl];simp_arith;exact fin_same (fh _ (ah st p.1,ah st p.2))
theorem v9 (st:ba) (n v:Cs):dput (st.map fun p=>(T.str p.1,T.str p.2)) (.str n) (.str v)=(if n∈st.map (·.1) then st.map (fun e=>if e.1=n then (e.1,v) else e) else st++[(n,v)]).map fun p=>(T.str p.1,T.str p.2):=by
 by_cases h:n∈st.map (·.1)
 ·obtain⟨e,he,rfl⟩:=Uz.mp h
  rw [if_pos h];unfold dput;rw [if_pos (Wb.mpr ⟨(.str e.1,.str e.2),Uz.mpr ⟨e,he,rfl⟩,by simp⟩),UZ,UZ];refine Vb fun p hp=>?_
  simp only [VY];by_cases z:p.1=e.1
  ·rw [if_pos (by rw [z]),if_pos z]
  ·rw [if_neg (fun q=>z (T.str.inj q)),if_neg z]
 ·rw [if_neg h,eX]
  ·simp
  ·intro p hp
   obtain⟨y,hy,rfl⟩:=Uz.mp hp;exact fun e=>h (by rw [<- T.str.inj e];exact UP hy)
theorem Hw {st:ba} {n:Cs} {L:aa} (hl:st.length<lim) (hg:great n=true):∃t,xE (.ref L.length) [.str n,.str n] (bL st::L)=.ok t (bL (gL st n)::L):=by
 unfold xE;simp only [dC,bL];rw [ax ⟨by simpa using hl,ny st n⟩,jX];cases e:j5 st n with
 | some v =>
  refine⟨.str v,?_⟩;have hm:n∈st.map (·.1):=by
   unfold j5 at e;obtain⟨p,hp,_⟩:=UI.mp e;have:=List.find?_some hp
   exact Uz.mpr ⟨p,WT hp,by simpa using this⟩
  unfold gL;rw [if_pos hg,if_pos hm];rfl
 | none =>
  refine⟨.str n,?_⟩;have hm:n∉st.map (·.1):=fun h=>by
   obtain⟨p,hp,rfl⟩:=Uz.mp h;unfold j5 at e;have:=V6.mp (ZW.mp e) p hp
   simp at this
  unfold gL;rw [if_pos hg,if_neg hm];simp only [Option.map_none];rw [v9,if_neg hm,xc]
theorem sJ (st:ba) (n:Cs):(gL st n).length<=st.length+1:=by unfold gL;split <;> (try split) <;> simp
theorem l9 (ns:List Cs):∀st:ba,(iV st ns).length<=st.length+ns.length:=by
 induction ns with
 | nil=>intro st;simp [iV]
 | cons n ns ih =>
  intro st;have h1:=ih (gL st n)
  have h2:=sJ st n;have:iV st (n::ns)=iV (gL st n) ns:=rfl
  rw [this,UA];omega
theorem Au (st:ba) (ns:List Cs) (x:T) (hx:items x (bL st::L)=some (ns.map .str)) (hv:∀k,x≠.ref k) (hn:∀n∈ns,1<=n.length) (hl:st.length+ns.length<1000):m8 [.ref L.length,x] (bL st::L)=.ok .bZ (bL (iV st ns)::L):=by
 have hs:src (v 1) [some (.ref L.length),some x,none] (bL st::L)=.ok (ns.map .str,stays x (bL st::L)) (bL st::L):=by
  simp only [zQ,Ie,ZC,W5,W8,eT,aH,hx]
 unfold m8;simp only [lh,UA,U8,X7,if_true,ku,ur,UG,Vz,Wr,Vt,ZE,Va,zT,hs,of_ok];generalize ho:forL _ _ _ _ _ _=o;obtain⟨z,_,rfl⟩:=si ns T.str bL gL (fun r s=>s.length+r.length<1000/\∀n∈r,1<=n.length) (fun z (_:Unit)=>[some (.ref L.length),some x,z]) (w:=()) ho (fun _=>CQ hv _) (fun _ _ _=>rfl) ⟨hl,hn⟩ fun n r s _ h=>by
  have h1:=sJ s n;have h2:=h.1
  rw [UA] at h2;refine⟨⟨by omega,fun m hm=>h.2 m (Uw _ hm)⟩,(),?_⟩;simp_arith [eO n (h.2 n Uv)];cases hg:great n with
  | false=>simp_arith;rw [show gL s n=s by unfold gL;rw [hg];rfl]
  | true =>
   obtain⟨t,ht⟩:=Hw (L:=L) (st:=s) (n:=n) (by unfold lim;omega) hg;simp only [bL] at ht ⊢;simp_arith [ht]
 simp_arith;exact nj (qd _ _) rfl
theorem nz (a b:Cs):fR a b=decide (a<b):=rfl
theorem Av (p q:Cs) (hp:1<=p.length) (hq:1<=q.length) (L:aa):jS [.str p,.str q] L=.ok (.str (Un.bF great fR p q)) L:=by
 unfold jS Un.bF;simp_arith [eO p hp];cases h1:great p with
 | false=>simp_arith
 | true =>
  simp_arith [eO q hq];cases h2:great q with
  | false=>simp_arith;simp
  | true=>simp_arith [xC,Un.mn,nz,decide_eq_true_eq];simp
theorem xg {k:aa->Prop} {b:SS} {o:O} {L:aa} {st:ba} {ch:Cs} (g:Cs->Bool) (i:Nat) (F:Option T->Fr) (z:Option T) (nd:(st.map (·.1)).Nodup) (hl:st.length<=1000)
  (ho:forL k (.one i) b ((st.map (·.1)).map .str) (F z) (bL st::L)=o) (hk:∀L',k L') (hF:∀z x,(F z).set i (some x)=F (some x))
  (hb:∀(D D':ba) (x:Cs × Cs),ix (.ref L.length) (.str x.1) (bL D::L)=.ok (.str x.2) (bL D::L)->jr (.ref L.length) (.str x.1) (.str ch) (bL D::L)=some (bL D'::L)->b (F (some (.str x.1))) (bL D::L)=.nx (F (some (.str x.1))) (bL (if g x.2=true then D' else D)::L)) :
  ∃z,o=.nx (F z) (bL (st.map fun e=>(e.1,if g e.2=true then ch else e.2))::L):=by
 generalize hG:(fun e:Cs × Cs=>(e.1,if g e.2=true then ch else e.2))=G;have gk:∀l:ba,(l.map G).map (·.1)=l.map (·.1):=fun l=>by rw [UZ,<- hG];rfl
 refine c7 ho st (fun e=>T.str e.1) (fun r φ L'=>∃done z,done++r=st/\φ=F z/\L'=bL (done.map G++r)::L) (fun o=>∃z,o=.nx (F z) (bL (st.map G)::L)) (by simp) ⟨[],z,rfl,rfl,rfl⟩ (fun _ _ eJ eP x r φ L' hh=>?_) fun φ L' hh=>?_
 ·obtain⟨done,z,e1,rfl,rfl⟩:=hh
  refine⟨hk _,_,rfl,?_⟩;have nk:((done.map G++x::r).map (·.1)).Nodup:=by
   rw [UL,gk,<- UL,e1];exact nd
  have hlen:(done.map G++x::r).length<=1000:=by rw [Ut,Lm9,<- Ut,e1];exact hl
  rw [UL,Wd,UG,Vn] at nk;have hx:j5 (done.map G++x::r) x.1=some x.2:=by
   unfold j5;rw [List.find?_append,V6.mpr,Option.none_or,VU,decide_eq_true rfl];rfl;exact fun y hy z=>nk.2.2 _ (UP hy) _ Uv (by simpa using z)
  rw [hF,hb (done.map G++x::r) (done.map G++(x.1,ch)::r) x ?_ ?_,sf,eJ]
  ·refine⟨done++[x],_,by simpa using e1,rfl,?_⟩
   rw [UL,UG,Vz,UU,Xs,<- hG];by_cases h:g x.2=true <;> simp only [h,if_true,if_false,UJ]
  ·unfold ix
   simp only [jl,dC,fB,bL];rw [ax (ny _ _),jX,hx];rfl
  ·have Qw:∀l:List (Cs × Cs),(∀e∈l,e.1≠x.1)->l.map (fun e=>if e.1=x.1 then (e.1,ch) else e)=l:=fun l h=>by
    conv=>rhs;rw [<- Yi l]
    exact Vb fun e he=>by rw [if_neg (h e he)];rfl
   unfold jr bL;simp only [dC];rw [if_pos ⟨by rw [Lm9];unfold lim;omega,ny _ _⟩,v9,if_pos (by simp),xc];congr 4;rw [UL,UG,if_pos rfl,Qw _ fun e he z=>nk.2.2 _ (UP he) _ Uv z,Qw r fun e he z=>nk.2.1.1 (by rw [<- z];exact UP he)]
 ·obtain⟨done,z,e1,rfl,rfl⟩:=hh
  rw [U2] at e1;rw [e1,U2];exact⟨hk _,_,rfl⟩
theorem list_st {st:ba} {L:aa} (hl:st.length<=1000):eV true [.ref L.length] (bL st::L)=.ok (.lst ((st.map (·.1)).map .str)) (bL st::L):=by
 have e:(st.map fun p=>(T.str p.1,T.str p.2)).map (·.1)=(st.map (·.1)).map .str:=by simp
 unfold eV bL;simp only [jl,dC,fB];rw [e,ax (by simp [j6]),fo,ax (by simp;unfold lim;omega)];rfl
theorem Hx (st:ba) (a b:Cs) (nd:(st.map (·.1)).Nodup) (hl:st.length<=1000) (hp:1<=(ah st a).length) (hq:1<=(ah st b).length) (L:aa) :
  fG [.ref L.length,.str a,.str b] (bL st::L)=if dQ (ah st a) (ah st b) then .ok (.bl false) (bL st::L) else .ok (.bl true) (bL (dq st (ah st a) (ah st b))::L):=by
 have lL:kU (bL st::L) (.ref L.length) st:=.inr ⟨_,rfl,dC⟩;unfold fG;simp only [lh,UA,U8,X7,if_true,ku,UG,Vz,Wr,Vt,ZE,Va,zR];rw [nY (n:=a) lL rfl rfl];simp only [of_ok,Tg.set,vM,List.set_cons_succ,List.set_cons_zero,ku,zR];rw [nY (n:=b) lL rfl rfl];generalize ah st a=p at *
 generalize ah st b=q at *
 simp_arith;by_cases e:p=q
 ·subst e
  rw [if_neg (show ¬ dQ p p from fun z=>z.1 rfl),show dq st p p=st by unfold dq;rw [if_pos rfl]];simp_arith
 ·simp_arith [show(p == q)=false from beq_eq_false_iff_ne.mpr e,eO p hp,eO q hq]
  by_cases ht:dQ p q
  ·rw [if_pos ht]
   simp_arith [ht.2.1,ht.2.2]
  ·rw [if_neg ht]
   have hg:(if (!great p)=true then !great q else false)=false:=by
    cases h1:great p with
    | true=>rfl
    | false =>
     cases h2:great q with
     | true=>rfl
     | false=>exact absurd ⟨e,h1,h2⟩ ht
   simp_arith [hg,Av p q hp hq,list_st hl];generalize qE:Un.bF great fR p q=ch;generalize ho:forL _ _ _ _ _ _=o;obtain⟨z,rfl⟩:=xg (ch:=ch) (fun v=>decide (v∈[p,q])) 6 (fun z=>[some (.ref L.length),some (.str a),some (.str b),some (.str p),some (.str q),some (.str ch),z]) none nd hl ho (fun _=>sv) (fun _ _=>rfl) (fun D D' x Mg OQ=>by
    have sS:=KO (x:=x.2) (ys:=[p,q]) (L:=bL D::L);simp only [UG,Vz] at sS;simp_arith [Mg,sS];by_cases hm:x.2∈[p,q]
    ·simp_arith [hm,decide_true,OQ]
    ·simp only [hm,decide_false,UJ,if_false];simp_arith)
   simp_arith;rw [show dq st p q=st.map fun e=>(e.1,if decide (e.2∈[p,q])=true then ch else e.2) by unfold dq;rw [if_neg e,<- qE];exact Vb fun e _=>by simp [lj]];exact nj (qd _ _) rfl
theorem qv {f g:Fc} (h:fT f=fT g):f=g:=by
 have:=congrArg (fun t=>eqT t (fT g)) h;simp only [se,decide_true,decide_eq_true_eq] at this;exact this
abbrev Wn:=List (Fc × Int)
noncomputable def wD (W:Wn):List (T × T):=W.map fun p=>(fT p.1,.int p.2)
noncomputable def wV (W:Wn) (f:Fc):Int:=((W.find? fun p=>decide (p.1=f)).map (·.2)).getD 0
noncomputable def wS (W:Wn) (f:Fc) (n:Int):Wn:=if f∈W.map (·.1) then W.map (fun p=>if p.1=f then (p.1,n) else p) else W++[(f,n)]
theorem Hy (n:Nat) (l:List Cs):(l.map T.str).all (kd (n+1))=true:=by simp [kd,j6]
theorem Aw (f:Fc):En (fT f)=true:=by
 show(kd 6 (.str f.k) && (kd 6 (.tup (f.as.map .str)) && true))=true;rw [show kd 6 (.tup (f.as.map .str))=(f.as.map T.str).all (kd 5) from rfl,Hy 4];rfl
theorem Ax (W:Wn) (f:Fc):dM (wD W) (fT f):=by
 unfold dM gq wD;rw [Xm];refine .inr (Uu.mpr fun x hx=>?_);rcases UN.mp hx with rfl|hx
 ·exact Aw f
 ·obtain⟨p,hp,rfl⟩:=Uz.mp hx
  obtain⟨q,_,rfl⟩:=Uz.mp hp;exact Aw q.1
theorem uK:∀(W:Wn) (f:Fc),du (wD W) (fT f)=(W.find? fun p=>decide (p.1=f)).map fun p=>.int p.2
 | [],f=>rfl
 | (a,b)::W,f=>by
  have ih:=uK W f;unfold wD at ih ⊢;rw [UG,iN,ih,VU];by_cases h:a=f
  ·rw [if_pos (by rw [h]),decide_eq_true h];rfl
  ·rw [if_neg (fun e=>h (qv e)),decide_eq_false h]
theorem Hz (W:Wn) (f:Fc) (n:Int):dput (wD W) (fT f) (.int n)=wD (wS W f n):=by
 unfold wS;by_cases h:f∈W.map (·.1)
 ·obtain⟨e,he,rfl⟩:=Uz.mp h
  rw [if_pos h];unfold dput wD;rw [if_pos (Wb.mpr ⟨(fT e.1,.int e.2),Uz.mpr ⟨e,he,rfl⟩,by simp⟩),UZ,UZ];refine Vb fun p hp=>?_
  simp only [VY];by_cases z:p.1=e.1
  ·rw [if_pos (by rw [z]),if_pos z]
  ·rw [if_neg (fun q=>z (qv q)),if_neg z]
 ·rw [if_neg h,eX]
  ·simp [wD]
  ·intro p hp
   obtain⟨y,hy,rfl⟩:=Uz.mp hp;exact fun e=>h (by rw [<- qv e];exact UP hy)
theorem Lg (W:Wn) (f g:Fc) (n:Int):wV (wS W f n) g=if g=f then n else wV W g:=by
 unfold wV wS;by_cases h:f∈W.map (·.1)
 ·rw [if_pos h]
  induction W with
  | nil=>cases h
  | cons p W ih =>
   rw [UG,VU,VU];by_cases e:p.1=f
   ·rw [if_pos e]
    by_cases q:g=f
    ·rw [if_pos q,decide_eq_true (by rw [e,q])];rfl
    ·rw [if_neg q,decide_eq_false (by rw [e];exact V0 q)]
     simp only [];by_cases h':f∈W.map (·.1)
     ·rw [ih h',if_neg q]
     ·rw [show W.map (fun p=>if p.1=f then (p.1,n) else p)=W from ?_]
      conv=>rhs;rw [<- Yi W]
      refine Vb fun y hy=>?_
      rw [if_neg (fun z=>h' (by rw [<- z];exact UP hy))];rfl
   ·rw [if_neg e]
    have h':f∈W.map (·.1):=(UN.mp h).resolve_left (V0 e);by_cases z:p.1=g
    ·rw [decide_eq_true z]
     simp only [];rw [if_neg (fun q=>e (z.trans q))]
    ·rw [decide_eq_false z]
     exact ih h'
 ·rw [if_neg h,List.find?_append]
  by_cases q:g=f
  ·subst q
   rw [V6.mpr]
   ·simp
   ·intro y hy z
    exact h (Uz.mpr ⟨y,hy,by simpa using z⟩)
  ·rw [if_neg q]
   cases W.find? fun p=>decide (p.1=g) with
   | some y=>rfl
   | none=>simp [V0 q]
theorem uL {W:Wn} {f:Fc} {n:Int}:f∈(wS W f n).map (·.1)/\∀g∈W.map (·.1),g∈(wS W f n).map (·.1):=by
 unfold wS;by_cases h:f∈W.map (·.1)
 ·have e:(W.map fun p=>if p.1=f then (p.1,n) else p).map (·.1)=W.map (·.1):=by
   rw [UZ];refine Vb fun p _=>?_
   simp only [VY];split <;> rfl
  rw [if_pos h,e];exact⟨h,fun _ z=>z⟩
 ·rw [if_neg h]
  exact⟨by simp,fun g hg=>by rw [UL];exact UD _ hg⟩
theorem HA {W:Wn} {f:Fc} (h:f∈W.map (·.1)):∃p,W.find? (fun p=>decide (p.1=f))=some p/\p.2=wV W f:=by
 obtain⟨q,hq,rfl⟩:=Uz.mp h;unfold wV;cases e:W.find? fun p=>decide (p.1=q.1) with
 | none=>exact absurd (V6.mp e q hq) (by simp)
 | some p=>exact⟨p,rfl,rfl⟩
theorem Ay (W:Wn) (f:Fc) (n:Int):(wS W f n).length<=W.length+1:=by unfold wS;split <;> simp
section
variable {L:aa} {W:Wn} {c:T} {f:Fc}
theorem Lh (h:at_ L n=some (.aP (wD W))):iP (.ref n) [fT f,.int 0] L=.ok (.int (wV W f)) L:=by
 unfold iP;simp only [jl,h,fB];rw [ax (Ax W f),uK];unfold wV;cases W.find? fun p=>decide (p.1=f) <;> rfl
theorem Li (h:at_ L n=some (.aP (wD W))) (hl:W.length<lim) (i:Int):jr (.ref n) (fT f) (.int i) L=some (put L n (.aP (wD (wS W f i)))):=by
 unfold jr;simp only [h];rw [if_pos ⟨by unfold wD;simpa using hl,Ax W f⟩,Hz]
end
theorem Qx {L:aa} {W:Wn} {f:Fc} {n:Nat} (h:at_ L n=some (.aP (wD W))) (hf:f∈W.map (·.1)):ix (.ref n) (fT f) L=.ok (.int (wV W f)) L/\Iz (.ref n) (fT f) L=.ok (.int (wV W f)) L:=by
 obtain⟨p,hp,e⟩:=HA hf;unfold ix Iz;simp only [jl,h,fB];rw [ax (Ax W f),uK,hp,<- e];exact⟨rfl,rfl⟩
theorem Lj (bp ts:List Fc) (hb:bp.length<=1000) (ht:ts.length<=1000) (hs:∀f,ts.count f<=bp.count f) (L:aa):∃left:List Fc,(∀f,left.count f=bp.count f - ts.count f)/\cQ [.tup (bp.map fT),.lst (ts.map fT)] L=.ok (.lst (left.map fT)) L:=by
 by_cases h0:ts=[]
 ·subst h0
  refine⟨bp,fun f=>by simp,?_⟩;have OR:eV true [.tup (bp.map fT)] L=.ok (.lst (bp.map fT)) L:=by
   show fo true (bp.map fT) L=_;rw [fo,ax (by simp;unfold lim;omega)];rfl
  unfold cQ;simp_arith [show(((([]:List Fc).map fT).length:Int) == 0)=true from rfl,OR];exact fin_same (ao aZ)
 have main:∃left:List Fc,(∀f,left.count f=bp.count f - ts.count f)/\∃W,cQ [.tup (bp.map fT),.lst (ts.map fT)] L=fin L (.ref (L.length+1)) (.lst (left.map fT) :: .aP (wD W)::L):=by
  unfold cQ;simp_arith [show((ts.length:Int) == 0)=false by simpa using h0];generalize ho:forL _ _ _ _ _ _=o;have h:=c7 ho ts fT (fun r φ L'=>∃(done:List Fc) (W:Wn) (o3:Option T),done++r=ts/\(∀f,wV W f=done.count f)/\W.length<=done.length/\(∀f∈done,f∈W.map (·.1))/\φ=[some (.tup (bp.map fT)),some (.lst (ts.map fT)),some (.ref L.length),o3,none]/\L'=.aP (wD W)::L)
   (fun o=>∃(W:Wn) (o3:Option T),(∀f,wV W f=ts.count f)/\W.length<=ts.length/\(∀f∈ts,f∈W.map (·.1))/\o=.nx [some (.tup (bp.map fT)),some (.lst (ts.map fT)),some (.ref L.length),o3,none] (.aP (wD W)::L)) rfl ⟨[],[],none,rfl,fun f=>rfl,UM _,(by simp),rfl,rfl⟩ (fun _ _ eJ eP f r φ L' hh=>by
    obtain⟨done,W,o3,e1,h1,h2,h3,rfl,rfl⟩:=hh;have hd:done.length<=ts.length:=by rw [<- e1];simp
    refine⟨sv,_,rfl,?_⟩;simp_arith [eJ,eP,Lh (f:=f) (W:=W) (L:=.aP (wD W)::L) dC,Li (f:=f) (W:=W) (L:=.aP (wD W)::L) dC (by unfold lim;omega)];refine⟨done++[f],wS W f (wV W f+1),_,by simpa using e1,fun g=>?_,?_,fun g hg=>?_,rfl,rfl⟩
    ·rw [Lg,h1,VZ,Yx]
     by_cases z:g=f
     ·subst z;simp [h1]
     ·rw [if_neg z,if_neg (by simpa using V0 z),h1];simp
    ·have:=Ay W f (wV W f+1);simp;omega
    ·rcases UH.mp hg with hg|hg
     ·exact uL.2 g (h3 g hg)
     ·rw [UY.mp hg];exact uL.1)
   fun φ L' hh=>by
    obtain⟨done,W,o3,e1,h1,h2,h3,rfl,rfl⟩:=hh;rw [U2] at e1;subst e1;exact⟨sv,W,o3,h1,h2,h3,rfl⟩
  obtain⟨W0,o3,Qy,Ts,Tt,rfl⟩:=h;simp_arith;generalize ho:forL _ _ _ _ _ _=o;have h:=c7 ho bp fT (fun r φ L'=>∃(done:List Fc) (W:Wn) (left:List Fc) (o3:Option T),done++r=bp/\W.length<=ts.length+done.length/\left.length<=done.length/\(∀f∈ts,f∈W.map (·.1))/\(∀f,0<=wV W f/\(left.count f:Int)+(ts.count f - wV W f)=done.count f/\(0<wV W f->left.count f=0))/\φ=[some (.tup (bp.map fT)),some (.lst (ts.map fT)),some (.ref L.length),o3,some (.ref (L.length+1))]/\L'=.lst (left.map fT) :: .aP (wD W)::L)
   (fun o=>∃(W:Wn) (left:List Fc) (o3:Option T),(∀f∈ts,f∈W.map (·.1))/\(∀f,wV W f=0/\left.count f=bp.count f - ts.count f)/\o=.nx [some (.tup (bp.map fT)),some (.lst (ts.map fT)),some (.ref L.length),o3,some (.ref (L.length+1))] (.lst (left.map fT) :: .aP (wD W)::L)) rfl
   ⟨[],W0,[],o3,rfl,by simpa using Ts,UM _,Tt,fun f=>⟨by rw [Qy];omega,by rw [Qy];simp,fun _=>rfl⟩,rfl,rfl⟩ (fun _ _ eJ eP f r φ L' hh=>by
    obtain⟨done,W,left,o3,e1,h1,h2,h3,h4,rfl,rfl⟩:=hh;have hd:done.length<=bp.length:=by rw [<- e1];simp
    refine⟨sv,_,rfl,?_⟩;have Ih:at_ (.lst (left.map fT) :: .aP (wD W)::L) L.length=some (.aP (wD W)):=m6
    simp_arith [eJ,eP,Lh (f:=f) Ih];have cd:∀g:Fc,(done++[f]).count g=done.count g+if g=f then 1 else 0:=fun g=>by
     rw [VZ,Yx];by_cases z:g=f
     ·subst z;simp
     ·rw [if_neg (by simpa using V0 z),if_neg z]
    by_cases hp:0<wV W f
    ·have hmem:f∈W.map (·.1):=by
      refine Decidable.byContradiction fun z=>?_
      have:wV W f=0:=by
       unfold wV;rw [V6.mpr fun p hp q=>z (Uz.mpr ⟨p,hp,by simpa using q⟩)];rfl
      omega
     simp_arith [eJ,eP,hp,decide_true,(Qx Ih hmem).2,Li (f:=f) Ih (by unfold lim;omega)];refine⟨done++[f],wS W f (wV W f - 1),left,_,by simpa using e1,?_,?_,fun g hg=>uL.2 g (h3 g hg),fun g=>?_,rfl,rfl⟩
     ·have:=Ay W f (wV W f - 1);simp;omega
     ·simp;omega
     ·rw [Lg,cd]
      obtain⟨a1,a2,a3⟩:=h4 g;by_cases z:g=f
      ·subst z
       rw [if_pos rfl,if_pos rfl];exact⟨by omega,by omega,fun _=>a3 hp⟩
      ·rw [if_neg z,if_neg z]
       exact⟨a1,by omega,a3⟩
    ·simp_arith [eJ,eP,hp,decide_false,ax (show left.length<lim by unfold lim;omega),bo]
     refine⟨done++[f],W,left++[f],_,by simpa using e1,?_,by simp;omega,h3,fun g=>?_,rfl,rfl⟩
     ·simp;omega
     ·rw [cd]
      obtain⟨a1,a2,a3⟩:=h4 g;have cl:(left++[f]).count g=left.count g+if g=f then 1 else 0:=by
       rw [VZ,Yx];by_cases z:g=f
       ·subst z;simp
       ·rw [if_neg (by simpa using V0 z),if_neg z]
      rw [cl];by_cases z:g=f
      ·subst z
       rw [if_pos rfl];exact⟨a1,by omega,fun q=>absurd q hp⟩
      ·rw [if_neg z]
       exact⟨a1,by omega,fun q=>by have:=a3 q;omega⟩)
   fun φ L' hh=>by
    obtain⟨done,W,left,o3,e1,h1,h2,h3,h4,rfl,rfl⟩:=hh;rw [U2] at e1;subst e1;refine⟨sv,W,left,o3,h3,fun f=>?_,rfl⟩;obtain⟨a1,a2,a3⟩:=h4 f;have:=hs f
    by_cases q:0<wV W f
    ·have:=a3 q;omega
    ·omega
  obtain⟨W,left,o3,hm,hw,rfl⟩:=h;simp_arith;generalize ho:forL _ _ _ _ _ _=o;obtain⟨z,rfl⟩:=kI ts fT (fun z=>[some (.tup (bp.map fT)),some (.lst (ts.map fT)),some (.ref L.length),z,some (.ref (L.length+1))]) ho sv (fun _ _=>rfl) fun f h=>by simp_arith [(Qx (L:=.lst (left.map fT) :: .aP (wD W)::L) m6 (hm f h)).1,(hw f).1,Zu,decide_false]
  simp_arith;exact⟨left,fun f=>(hw f).2,W,rfl⟩
 obtain⟨left,hc,W,e⟩:=main;exact⟨left,hc,e.trans (Hc (ao aZ))⟩
theorem HB {x y:T} (hx:kd 8 x=true) (hy:kd 8 y=true) (h:ltN 8 y x=false):x=y\/ltN 8 x y=true:=by
 by_cases e:x=y
 ·exact .inl e
 ·rcases jF 8 _ _ hx hy e with q|q
  ·exact .inr q
  ·rw [h] at q;cases q
theorem sL (x:T) (hx:kd 8 x=true):∀l:List T,(∀y∈l,kd 8 y=true)->g6 l->∃l',l'.Perm (x::l)/\g6 l'
 | [],_,_=>⟨[x],.refl _,by simp [g6]⟩
 | y::l,hk,hr=>by
  have hy:=hk y Uv;have hr':=Wq.mp hr
  cases e:ltN 8 y x with
  | false =>
   refine⟨x::y::l,.refl _,Wq.mpr ⟨fun z hz=>?_,hr⟩⟩;rcases UN.mp hz with rfl|hz
   ·exact e
   ·have h1:=hr'.1 z hz
    rcases HB hx hy e with rfl|q
    ·exact h1
    ·cases e2:ltN 8 z x with
     | false=>rfl
     | true=>rw [dz 8 _ _ _ e2 q] at h1;cases h1
  | true =>
   obtain⟨l',p,r⟩:=sL x hx l (fun z hz=>hk z (Uw _ hz)) hr'.2;refine⟨y::l',(p.cons y).trans (.swap _ _ _),Wq.mpr ⟨fun z hz=>?_,r⟩⟩;rcases UN.mp (p.mem_iff.mp hz) with rfl|hz
   ·cases e2:ltN 8 z y with
    | false=>rfl
    | true=>have:=dz 8 _ _ _ e e2;rw [lR] at this;cases this
   ·exact hr'.1 z hz
theorem wa:∀l:List T,(∀y∈l,kd 8 y=true)->∃l',l'.Perm l/\g6 l'
 | [],_=>⟨[],.refl _,Zn⟩
 | x::l,h=>by
  obtain⟨l1,p1,r1⟩:=wa l fun y hy=>h y (Uw _ hy)
  obtain⟨l2,p2,r2⟩:=sL x (h x Uv) l1 (fun y hy=>h y (Uw _ (p1.mem_iff.mp hy))) r1;exact⟨l2,p2.trans (p1.cons x),r2⟩
theorem gn {l:List T} (h:∀y∈l,kd 8 y=true):(jH l).Perm l/\g6 (jH l):=by
 obtain⟨l',p,r⟩:=wa l h;rw [pM (Uu.mpr h) p r];exact⟨p,r⟩
theorem sM {α:Type} {g:α->T} {l l2:List T} (p:l.Perm l2):∀fs:List α,l2=fs.map g->∃gs:List α,gs.Perm fs/\l=gs.map g:=by
 induction p with
 | nil =>
  intro fs e;cases fs with
  | nil=>exact⟨[],.refl _,rfl⟩
  | cons f fs=>cases e
 | cons x p ih =>
  intro fs e;cases fs with
  | nil=>cases e
  | cons f fs =>
   cases e;obtain⟨gs,q,e⟩:=ih fs rfl;exact⟨f::gs,q.cons f,by rw [e];rfl⟩
 | swap x y l =>
  intro fs e
  match fs,e with
  | a::b::fs,e=>cases e;exact⟨b::a::fs,.swap _ _ _,rfl⟩
 | trans p q Nq Nr =>
  intro fs e;obtain⟨gs,r1,e1⟩:=Nr fs e;obtain⟨hs,r2,e2⟩:=Nq gs e1;exact⟨hs,r2.trans r1,e2⟩
theorem Az (f:Fc):kd 8 (fT f)=true:=by
 show(kd 7 (.str f.k) && (kd 7 (.tup (f.as.map .str)) && true))=true;rw [show kd 7 (.tup (f.as.map .str))=(f.as.map T.str).all (kd 6) from rfl,Hy 5];rfl
theorem Ll (f:Fc):kd 6 (fT f)=true:=by
 show(kd 5 (.str f.k) && (kd 5 (.tup (f.as.map .str)) && true))=true;rw [show kd 5 (.tup (f.as.map .str))=(f.as.map T.str).all (kd 4) from rfl,Hy 3];rfl
theorem Lm (n:Nat):∀a b:List Cs,shl (qZ (n+1)) (a.map .str) (b.map .str)=true
 | [],_=>by simp [shl]
 | _::_,[]=>by simp [shl]
 | x::a,y::b=>by rw [UG,UG,shl,Lm n a b];rfl
theorem OS (f g:Fc):qZ 8 (fT f) (fT g)=true:=by
 show(qZ 7 (.str f.k) (.str g.k) && (shl (qZ 6) (f.as.map .str) (g.as.map .str) && true))=true;rw [Lm 5];rfl
theorem w7 {fs:List Fc} (h:fs.length<64):cH (fs.map fT) :=
 ⟨by simpa using h,by simp [Az],.inl (by simp [qF,fT]),by simp [OS]⟩
theorem kd_p (p:Cs × Cs):kd 8 (pT p)=true:=rfl
theorem Lq {fs:List (Cs × Cs)} (h:fs.length<64):cH (fs.map pT) :=
 ⟨by simpa using h,by simp [kd_p],.inl (by simp [qF,pT]),by simp [show ∀a b,qZ 8 (pT a) (pT b)=true from fun _ _=>rfl]⟩
theorem wb (fs:List Fc):∃gs:List Fc,gs.Perm fs/\jH (fs.map fT)=gs.map fT :=
 sM (gn fun y hy=>by obtain⟨f,_,rfl⟩:=Uz.mp hy;exact Az f).1 fs rfl
theorem Ej (fs:List (Cs × Cs)):∃gs:List (Cs × Cs),gs.Perm fs/\jH (fs.map pT)=gs.map pT :=
 sM (gn fun y hy=>by obtain⟨f,_,rfl⟩:=Uz.mp hy;exact kd_p f).1 fs rfl
theorem HC {x:T} {ys:List T} {L:aa} (hx:vw L x=.lst ys) (h:cH ys) (hl:(jH ys).length<=lim):ib true [x] L=.ok (.lst (jH ys)) L:=by
 unfold ib;simp only [hx];unfold cH at h;rw [ax h,fo,ax hl];rfl
theorem C9 {ys:List T} (h:cH ys):(jH ys).length<=lim:=by
 rw [(gn (Uu.mp h.2.1)).1.length_eq];have:=h.1;unfold lim;omega
theorem qw {x:T} {ys:List T} {L:aa} (hx:vw L x=.lst ys) (h:cH ys):ib true [x] L=.ok (.lst (jH ys)) L:=HC hx h (C9 h)
theorem Ek (fs:List Fc):∃gs:List Fc,gs.Nodup/\(∀f,f∈gs↔f∈fs)/\gs.length<=fs.length/\q8 (fs.map fT)=gs.map fT:=by
 induction fs with
 | nil=>exact⟨[],Xb,fun _=>Iff.rfl,UM _,rfl⟩
 | cons f fs ih =>
  obtain⟨gs,h1,h2,h3,h4⟩:=ih;rw [UG,q8];by_cases h:f∈fs
  ·rw [if_pos (UP h)]
   exact⟨gs,h1,fun g=>by rw [h2,UN];exact⟨.inr,fun z=>z.elim (fun e=>by rw [e];exact h) id⟩,by simp;omega,h4⟩
  ·rw [if_neg fun z=>by obtain⟨g,hg,e⟩:=Uz.mp z;exact h (by rw [<- qv e];exact hg)]
   exact⟨f::gs,Vn.mpr ⟨fun z=>h ((h2 f).mp z),h1⟩,fun g=>by rw [UN,UN,h2],by simp;omega,by rw [h4];rfl⟩
theorem Dc (fs:List Fc) (h:fs.length<64) (L:aa):∃gs:List Fc,gs.Nodup/\(∀f,f∈gs↔f∈fs)/\jH (q8 (fs.map fT))=gs.map fT/\mH true [.lst (fs.map fT)] L=.ok (.lst (gs.map fT)) L:=by
 refine sP fun G n9=>?_
 obtain⟨g1,a1,a2,a3,a4⟩:=Ek fs;obtain⟨g2,b1,b2⟩:=wb g1;refine n9 ?_;clear n9;refine⟨g2,b1.nodup_iff.mpr a1,fun f=>(b1.mem_iff).trans (a2 f),by rw [a4];exact b2,?_⟩;show cb _ _=_
 rw [ax ⟨w7 h,by simp [Ll],Uu.mpr fun x hx=>by obtain⟨f,_,rfl⟩:=Uz.mp hx;rfl⟩,a4,b2,fo,ax (by rw [Lm9,b1.length_eq];unfold lim;omega)];rfl
theorem Dd (st:ba) (h:st.length<64) (L:aa):∃gs:List (Cs × Cs),gs.Perm st/\jH (st.map pT)=gs.map pT/\kj true [.ref L.length] (bL st::L)=.ok (.lst (gs.map pT)) (bL st::L):=by
 obtain⟨gs,b1,b2⟩:=Ej st;refine⟨gs,b1,b2,?_⟩;have e:br (st.map fun p=>(T.str p.1,T.str p.2))=st.map pT:=by unfold br;rw [UZ];rfl
 unfold kj bL;simp only [jl,dC,fB];rw [e,ax (Lq h),b2,fo,ax (by rw [Lm9,b1.length_eq];unfold lim;omega)];rfl
theorem HD {st:ba} {n:Cs} (h:(st.map (·.1)).Nodup):((gL st n).map (·.1)).Nodup:=by
 unfold gL;split
 ·split
  ·exact h
  ·rename_i hn
   rw [UL,Wd];exact⟨h,by simp,fun a ha b hb e=>hn (by simp at hb;rw [<- hb,<- e];exact ha)⟩
 ·exact h
theorem AA:∀(ns:List Cs) {st:ba},(st.map (·.1)).Nodup->((iV st ns).map (·.1)).Nodup
 | [],_,h=>h
 | n::ns,_,h=>AA ns (HD h)
theorem De {st:ba} {p q:Cs} (h:(st.map (·.1)).Nodup):((dq st p q).map (·.1)).Nodup:=by
 unfold dq;split
 ·exact h
 ·rw [Bk.ji];exact h
theorem HE {st:ba} {n:Cs} (h:lH st) (hn:dG n):lH (gL st n):=by
 unfold gL;split
 ·split
  ·exact h
  ·intro e he
   rcases UH.mp he with he|he
   ·exact h e he
   ·rw [UY.mp he];exact⟨hn,hn⟩
 ·exact h
theorem AB:∀(ns:List Cs) {st:ba},lH st->(∀n∈ns,dG n)->lH (iV st ns)
 | [],_,h,_=>h
 | n::ns,_,h,hn=>AB ns (HE h (hn n Uv)) fun m hm=>hn m (Uw _ hm)
theorem nA (st:ba) (p q:Cs):(dq st p q).length=st.length:=by unfold dq;split <;> simp
theorem AD:∀(br:List (Cs × Cs)) {st bD:ba},bx st br=some bD->bD.length<=st.length+2 * br.length
 | [],st,bD,h=>by cases h;simp
 | (a,b)::r,st,bD,h=>by
  unfold bx at h;split at h
  ·cases h
  ·have:=AD r h
   rw [nA] at this;have z:=l9 [a,b] st
   simp at z ⊢;omega
noncomputable def aR (bp bl:List Fc) (st:ba):T:=.tup [.tup (bp.map fT),.tup (bl.map fT),.tup (st.map pT),.bl false]
theorem jo {st:ba} {x:T} {L:aa} (hx:kU L x st) {fs:List Fc} (hf:∀f∈fs,f.as.length<=1000) (hl:fs.length<=1000) {s:SI} {aU:List (Option Nat)} {φ:Fr} {k:aa->Prop} {r:R T} (hc:comp true s aU (.one 1) yes (ae bu [v 2,v 1]) φ L=r) (hs:s φ L=.ok (fs.map fT,k) L) (hk:k L)
  (h1:∀y,((inner aU φ).set 1 (some y))[1]?=some (some y)) (h2:∀y,((inner aU φ).set 1 (some y))[2]?=some (some x)):r=.ok (.lst ((fs.map (wr st)).map fT)) L:=by
 rw [bc hc fs fT (fun f=>fT (wr st f)) hs hk (by unfold lim;omega) fun f Mi=>by
  simp only [zP,mV,mU,Ie,h1,h2,W8,eT,aH];exact oW hx f (hf f Mi),UZ]
 rfl
noncomputable def g9 (ks:List Kd) (fs:List Fc):List Fc:=fs.filter fun f=>!decide (f.k∈(ks.filter (·.l)).map (·.n))
noncomputable def jY (ks:List Kd) (fs:List Fc):List Fc:=fs.filter fun f=>decide (f.k∈(ks.filter (·.l)).map (·.n))
structure Mv (ks:List Kd) (bp bl:List Fc) (st:ba) (ts fs:List Fc) (br:List (Cs × Cs)):Prop where
 hn:(ks.map (·.n)).Nodup
 hk:ks.length<=100
 ft:∀f∈ts,aK ks f
 ff:∀f∈fs,aK ks f
 tl:∀f∈ts,f.k∉(ks.filter (·.l)).map (·.n)
 nd:(st.map (·.1)).Nodup
 sm:lH st
 Tu:st.length<=10
 z1:bp.length+fs.length<64
 z2:bl.length+fs.length<64
 z3:ts.length<=10
 z4:fs.length<=4
 z5:br.length<=4
 a4:∀f∈(bp++bl)++(ts++fs),f.as.length<=4
 nf:∀f∈fs,∀a∈f.as,dG a
 np:∀p∈br,dG p.1/\dG p.2
 cnt:∀f,(ts.map (wr st)).count f<=bp.count f
noncomputable def i8 (ks:List Kd) (bp bl:List Fc) (st:ba) (ts fs:List Fc) (br:List (Cs × Cs)) (r:T):Prop :=
 (bx (iV st (fs.flatMap (·.as))) br=none/\r=bS) \/
 ∃bD left P Q S,bx (iV st (fs.flatMap (·.as))) br=some bD/\(∀f,left.count f=bp.count f - (ts.map (wr st)).count f)/\P.Perm (lw br bD left++g9 ks (fs.map (wr bD)))/\jH ((lw br bD left++g9 ks (fs.map (wr bD))).map fT)=P.map fT /\
  Q.Nodup/\(∀f,f∈Q↔f∈lw br bD bl++jY ks (fs.map (wr bD)))/\jH (q8 ((lw br bD bl++jY ks (fs.map (wr bD))).map fT))=Q.map fT/\S.Perm bD/\jH (bD.map pT)=S.map pT/\r=aR P Q S
theorem Lr {l:List Fc} (h:∀g∈l,g.as.length<=4):(l.flatMap (·.as)).length<=4 * l.length:=by
 induction l with
 | nil=>exact UM _
 | cons a l ih =>
  have h1:=h a Uv;have h2:=ih fun g hg=>h g (Uw _ hg)
  rw [Yh,Ut,UA];omega
theorem AE {br:List (Cs × Cs)} {st:ba} {l:List Fc}:(lw br st l).length=l.length:=by
 unfold lw;split
 ·rfl
 ·rw [Lm9]
theorem Dg (ks:List Kd) (bp bl:List Fc) (st:ba) (ts fs:List Fc) (br:List (Cs × Cs)) (M:Mv ks bp bl st ts fs br) (L:aa) :
  ∃r,i8 ks bp bl st ts fs br r/\lY [.lst (ks.map kT),aR bp bl st,.lst (ts.map fT),.lst (fs.map fT),.lst (br.map pT)] L=.ok r L:=by
 have hk':=M.hk;have h3:=M.z3
 have h4:=M.z4;have h5:=M.z5
 have Uk:=M.Tu;have aB:∀f∈bp,f.as.length<=4:=fun f hf=>M.a4 f (UD _ (UD _ hf))
 have aL:∀f∈bl,f.as.length<=4:=fun f hf=>M.a4 f (UD _ (UK _ hf))
 have aT:∀f∈ts,f.as.length<=4:=fun f hf=>M.a4 f (UK _ (UD _ hf))
 have aF:∀f∈fs,f.as.length<=4:=fun f hf=>M.a4 f (UK _ (UK _ hf))
 have z1:=M.z1;have z2:=M.z2
 unfold lY aR;simp_arith [fU ks ts (.lst (ks.map kT)) L rfl M.hn (by omega) M.ft,fU ks fs (.lst (ks.map kT)) L rfl M.hn (by omega) M.ff];rw [cZ rfl ks kT (·.l) (fun k=>.str k.n) (by exact rfl) (by exact ak) (by unfold lim;omega) (by exact fun b _=>by simp_arith) (by exact fun b _ _=>by simp_arith)];have C3:((ks.filter (·.l)).map fun k=>T.str k.n)=((ks.filter (·.l)).map (·.n)).map T.str:=by simp
 have hd:jt [.tup (st.map pT)] L=.ok (.ref L.length) (bL st::L):=qj (g:=fun p:Cs × Cs=>p.1) (h:=fun p=>.str p.2) st M.nd (by omega) L;simp_arith [C3,i0 _ ts M.tl,hd];rw [jo (fs:=ts) (st:=st) (x:=.ref L.length) (.inr ⟨_,rfl,dC⟩) (fun f hf=>UW (aT f hf) (by decide)) (by omega) rfl (by exact rfl) (by exact ak) (by exact fun _=>rfl) (by exact fun _=>rfl)];obtain⟨left,OT,ho⟩:=Lj bp (ts.map (wr st)) (by omega) (by rw [Lm9];omega) M.cnt (bL st::L);have Ul:left.length<=bp.length:=Bk.iH left bp fun f=>by rw [OT];exact Nat.sub_le _ _
 have hle:∀f∈left,f.as.length<=4:=fun f hf=>aB f (Bk.vQ OT hf)
 simp_arith [ho];generalize ho:forL _ _ _ _ _ _=o;obtain⟨o7,_,rfl⟩:=si fs fT bL (fun st f=>iV st f.as) (fun r s=>s.length+4 * r.length<=26/\∀f∈r,f∈fs) (fun z (_:Unit)=>[some (.lst (ks.map kT)),some (.tup [.tup (bp.map fT),.tup (bl.map fT),.tup (st.map pT),.bl false]),some (.lst (ts.map fT)),some (.lst (fs.map fT)),some (.lst (br.map pT)),some (.lst (((ks.filter (·.l)).map (·.n)).map T.str)),some (.ref L.length),z,some (.lst (left.map fT)),none,none,none,none]) (w:=()) ho (fun _=>sv) (fun _ _ _=>rfl) ⟨by omega,fun _ h=>h⟩ fun f r s _ h=>by
  have Mi:=h.2 f Uv;have h1:=l9 f.as s
  have h2:=h.1;have h3:=aF f Mi
  rw [UA] at h2;exact⟨⟨by omega,fun g hg=>h.2 g (Uw _ hg)⟩,(),by simp_arith [Au (L:=L) s f.as (.tup (f.as.map .str)) rfl (fun _ z=>by cases z) (fun n hn=>(fV (M.nf f Mi n hn)).1) (by omega)]⟩
 rw [show fs.foldl (fun st f=>iV st f.as) st=iV st (fs.flatMap (·.as)) from List.foldl_flatMap.symm];have hz:=Lr aF
 have LR:=l9 (fs.flatMap (·.as)) st;have n0:=AA (fs.flatMap (·.as)) M.nd
 have m0:=AB (fs.flatMap (·.as)) M.sm fun n hn=>by obtain⟨f,hf,h⟩:=XO.mp hn;exact M.nf f hf n h
 unfold i8;generalize iV st (fs.flatMap (·.as))=S0 at *
 simp_arith;generalize ho:forL _ _ _ _ _ _=o;have h:=c7 ho br pT (fun q φ L'=>∃done dY o9,done++q=br/\bx dY q=bx S0 br/\(dY.map (·.1)).Nodup/\lH dY/\dY.length<=26+2 * done.length/\φ=[some (.lst (ks.map kT)),some (.tup [.tup (bp.map fT),.tup (bl.map fT),.tup (st.map pT),.bl false]),some (.lst (ts.map fT)),some (.lst (fs.map fT)),some (.lst (br.map pT)),some (.lst (((ks.filter (·.l)).map (·.n)).map T.str)),some (.ref L.length),o7,some (.lst (left.map fT)),o9,none,none,none]/\L'=bL dY::L)
  (fun o=>(bx S0 br=none/\∃c,o=.rt bS (c::L))\/∃bD o9,bx S0 br=some bD/\(bD.map (·.1)).Nodup/\lH bD/\bD.length<=40/\o=.nx [some (.lst (ks.map kT)),some (.tup [.tup (bp.map fT),.tup (bl.map fT),.tup (st.map pT),.bl false]),some (.lst (ts.map fT)),some (.lst (fs.map fT)),some (.lst (br.map pT)),some (.lst (((ks.filter (·.l)).map (·.n)).map T.str)),some (.ref L.length),o7,some (.lst (left.map fT)),o9,none,none,none] (bL bD::L)) rfl ⟨[],S0,none,rfl,rfl,n0,m0,by omega,rfl,rfl⟩ (fun _ _ eJ eP p q φ L' hh=>by
   obtain⟨done,dY,o9,e1,e2,n1,m1,l1,rfl,rfl⟩:=hh;obtain⟨pa,pb⟩:=p;refine⟨sv,_,rfl,?_⟩;have hp:=M.np (pa,pb) (e1 ▸ UK _ Uv)
   have hd:done.length+1<=br.length:=by rw [<- e1,Ut,UA];omega
   have n2:=AA [pa,pb] n1;have m2:=AB [pa,pb] m1 fun n hn=>all2 (P:=dG) hp.1 hp.2 hn
   have l2:=l9 [pa,pb] dY;simp only [UA,U8] at l2;have k1:=Au (L:=L) dY [pa,pb] (pT (pa,pb)) rfl (fun _ z=>by cases z) (fun n hn=>all2 (P:=fun n=>1<=n.length) (fV hp.1).1 (fV hp.2).1 hn) (by simp only [UA,U8];omega)
   have k2:=Hx (iV dY [pa,pb]) pa pb n2 (by omega) (fV (m2.ah hp.1)).1 (fV (m2.ah hp.2)).1 L;have e3:bx dY ((pa,pb)::q)=if dQ (ah (iV dY [pa,pb]) pa) (ah (iV dY [pa,pb]) pb) then none else bx (dq (iV dY [pa,pb]) (ah (iV dY [pa,pb]) pa) (ah (iV dY [pa,pb]) pb)) q:=rfl
   rw [e3] at e2;by_cases ht:dQ (ah (iV dY [pa,pb]) pa) (ah (iV dY [pa,pb]) pb)
   ·rw [if_pos ht] at k2 e2
    simp_arith [eJ,eP,k1,k2];exact .inl ⟨e2.symm,_,rfl⟩
   ·rw [if_neg ht] at k2 e2
    simp_arith [eJ,eP,k1,k2];exact⟨done++[(pa,pb)],_,_,by rw [UU];exact e1,e2,De n2,m2.tell (m2.ah hp.1) (m2.ah hp.2),by rw [nA,Ut,Vy];omega,rfl,rfl⟩)
  fun φ L' hh=>by
   obtain⟨done,dY,o9,e1,e2,n1,m1,l1,rfl,rfl⟩:=hh;rw [U2] at e1;subst e1;exact⟨sv,.inr ⟨dY,o9,e2.symm,n1,m1,by omega,rfl⟩⟩
 rcases h with⟨hN,c,rfl⟩|⟨bD,o9,hS,n2,m2,l2,rfl⟩
 ·simp_arith
  exact⟨bS,.inl ⟨hN,rfl⟩,dS rfl⟩
 have OR:eV true [.tup (bl.map fT)] (bL bD::L)=.ok (.lst (bl.map fT)) (bL bD::L):=by
  show fo true (bl.map fT) _=_;rw [fo,ax (by simp;unfold lim;omega)];rfl
 have lL:kU (bL bD::L) (.ref L.length) bD:=.inr ⟨_,rfl,dC⟩;refine sP fun G n9=>?_
 obtain⟨sN,j4⟩:∃x,x=lw br bD left:=⟨_,rfl⟩;obtain⟨OU,Bs⟩:∃x,x=lw br bD bl:=⟨_,rfl⟩;have w1:sN.length=left.length:=j4 ▸ AE
 have w2:OU.length=bl.length:=Bs ▸ AE;have Um:=eS (p:=fun f:Fc=>!decide (f.k∈(ks.filter (·.l)).map (·.n))) (l:=fs.map (wr bD)) (n:=fs.length) (by simp)
 have Uo:=eS (p:=fun f:Fc=>decide (f.k∈(ks.filter (·.l)).map (·.n))) (l:=fs.map (wr bD)) (n:=fs.length) (by simp);obtain⟨P,Dh,Ls⟩:=wb (sN++g9 ks (fs.map (wr bD)));obtain⟨Q,OV,Ij,Tv,Qz⟩:=Dc (OU++jY ks (fs.map (wr bD))) (by rw [Ut];unfold jY;omega) (bL bD::L);obtain⟨S,hS1,hS2,Tw⟩:=Dd bD (by omega) L;have QA:ib true [.lst ((sN++g9 ks (fs.map (wr bD))).map fT)] (bL bD::L)=.ok (.lst (P.map fT)) (bL bD::L):=by
  rw [qw (ys:=(sN++g9 ks (fs.map (wr bD))).map fT) rfl (w7 (by rw [Ut];unfold g9;omega)),Ls]
 refine n9 ?_;clear n9;refine⟨aR P Q S,.inr ⟨bD,left,P,Q,S,hS,OT,j4 ▸ Dh,j4 ▸ Ls,OV,Bs ▸ Ij,Bs ▸ Tv,hS1,hS2,rfl⟩,?_⟩;have fin:fin L (aR P Q S) (bL bD::L)=.ok (aR P Q S) L:=dS (by unfold aR;rw [lt,cf,cf,cf,cf,cf,bY aZ,bY aZ,bY fh];rfl)
 simp_arith [OR];apply twice
 ·intro key
  by_cases Ik:br=[]
  ·have e1:lw br bD left=left:=if_pos Ik
   have e2:lw br bD bl=bl:=if_pos Ik;simp_arith [show decide ((0:Int)<(br.length:Int))=false by rw [Ik];rfl];rw [show T.lst (left.map fT)=.lst (sN.map fT) by rw [j4,e1],show T.lst (bl.map fT)=.lst (OU.map fT) by rw [Bs,e2]];exact key
  ·have e1:lw br bD left=left.map (wr bD):=if_neg Ik
   have e2:lw br bD bl=bl.map (wr bD):=if_neg Ik;have hpl:(0:Int)<(br.length:Int):=by
    have:=XT.mpr Ik;omega
   simp_arith [hpl,decide_true];rw [jo (fs:=left) lL (fun f hf=>UW (hle f hf) (by decide)) (by omega) rfl (by exact rfl) (by exact sv) (by exact fun _=>rfl) (by exact fun _=>rfl)];simp_arith;rw [jo (fs:=bl) lL (fun f hf=>UW (aL f hf) (by decide)) (by omega) rfl (by exact rfl) (by exact sv) (by exact fun _=>rfl) (by exact fun _=>rfl)];simp_arith;rw [<- e1,<- e2,<- j4,<- Bs];exact key
 rw [jo (fs:=fs) lL (fun f hf=>UW (aF f hf) (by decide)) (by omega) rfl (by exact rfl) (by exact sv) (by exact fun _=>rfl) (by exact fun _=>rfl)];simp_arith;rw [cZ rfl (fs.map (wr bD)) fT (fun f=>!decide (f.k∈(ks.filter (·.l)).map (·.n))) fT (by exact rfl) (by exact sv) (by simp;unfold lim;omega) (by exact fun b _=>by simp_arith) (by exact fun b _ _=>by simp_arith)];simp_all_arith [<- UL];rw [cZ rfl (fs.map (wr bD)) fT (fun f=>decide (f.k∈(ks.filter (·.l)).map (·.n))) fT (by exact rfl) (by exact sv) (by simp;unfold lim;omega) (by exact fun b _=>by simp_arith) (by exact fun b _ _=>by simp_arith)];simp_all_arith [<- UL];unfold g9 at QA;unfold jY at Qz;simp_arith [QA,Qz,Tw];exact fin
theorem OW {α β:Type} {g:α->T} {h:β->T} (a:List α) (b:List β):zp (a.map g) (b.map h)=(a.zip b).map fun p=>.tup [g p.1,h p.2]:=by
 unfold zp;rw [List.zip_map,UZ];rfl
theorem AF {α β:Type} {a:List α} {b:List β} (h:a.length<=b.length):(a.zip b).map (·.1)=a:=by
 induction a generalizing b with
 | nil=>rfl
 | cons x a ih =>
  cases b with
  | nil=>simp at h
  | cons y b=>rw [VP,UG,ih (by simpa using h)]
theorem OX {α:Type} {h:α->T} {x y:T} {ns:List Cs} {vs:List α} {L:aa} (hx:vw L x=.lst (ns.map .str)) (hy:vw L y=.lst (vs.map h)\/vw L y=.tup (vs.map h)) (hn:ns.Nodup) (hl:ns.length<=vs.length) (h1:ns.length<=1000):gT [x,y] L=.ok (.ref L.length) (.aP ((ns.zip vs).map fun p=>(.str p.1,h p.2))::L):=by
 have e:gT [x,y] L=xF (zp (ns.map .str) (vs.map h)) L:=by
  unfold gT;rcases hy with hy|hy
  ·simp only [hx,hy]
   exact ax (by simpa using hl)
  ·simp only [hx,hy]
   exact ax (by simpa using hl)
 rw [e,OW];exact qj (g:=fun p:Cs × α=>p.1) (h:=fun p=>h p.2) (ns.zip vs) (by rw [AF hl];exact hn) (by rw [List.length_zip];omega) L
theorem uM {x y:T} {ns vs:List Cs} {L:aa} (hx:vw L x=.lst (ns.map .str)) (hy:vw L y=.lst (vs.map .str)\/vw L y=.tup (vs.map .str)) (hn:ns.Nodup) (hl:ns.length<=vs.length) (h1:ns.length<=1000):gT [x,y] L=.ok (.ref L.length) (bL (ns.zip vs)::L):=OX hx hy hn hl h1
noncomputable def stepT (i:Nat) (vs:List Cs):T:=.tup [.int (i:Nat),.tup (vs.map .str)]
theorem AG {rs:List Rl} {i:Nat} {r:Rl} (h:rs[i]?=some r) (L:aa):ix (.lst (rs.map aO)) (.int (i:Nat)) L=.ok (aO r) L:=dB (by rw [UT,h];rfl)
theorem qx (ks:List Kd) (rs:List Rl) (i:Nat) (vs:List Cs) (r:Rl) (hr:rs[i]?=some r) (hv:vs.length=(opens (r.take++r.keep)).length) (L:aa):eG [jO ks rs,stepT i vs] L=.ok .bZ L:=by
 have hi:=(UO.mp hr).1;unfold eG stepT;simp_arith [show ¬ ((i:Nat):Int)<0 by omega,decide_false,show ¬ (rs.length:Int)<=(i:Nat) by omega,AG hr,show((vs.length:Int) != ((opens (r.take++r.keep)).length:Int))=false by simp [hv]]
theorem AH {f:Str->Option Fn} {a:SE} {ms:List SE} {φ:Fr} {L:aa} {k:Lk} (ha:a φ L=.ok (lT k) L) (h1:f "Same"=some cD) (h2:f "Unlike"=some bG):oX "holds" f a ms φ L=(iA ms φ L).bind fun ts L2=>(if k.same=true then cD else bG) (lT k::ts) L2:=by
 unfold oX;rw [ha,aH];cases hs:k.same with
 | true =>
  have e:vw L (lT k)=.obj "Same" [("left",.str k.l),("right",.str k.r)]:=by unfold lT;rw [hs];rfl
  rw [e];simp only [h1];rfl
 | false =>
  have e:vw L (lT k)=.obj "Unlike" [("left",.str k.l),("right",.str k.r)]:=by unfold lT;rw [hs];rfl
  rw [e];simp only [h2];rfl
theorem Di (k:Lk) (a b:Cs) (ha:1<=a.length) (hb:1<=b.length) (L:aa):(if k.same=true then cD else bG) [lT k,.str a,.str b] L=.ok (.bl (jk k.same a b)) L:=by
 cases hs:k.same with
 | true =>
  rw [if_pos rfl];unfold cD jk;simp_arith;rw [show(a == b)=decide (a=b) by by_cases h:a=b <;> simp [h]]
 | false =>
  rw [if_neg (by simp)];unfold bG jk;simp_arith [eO a ha,eO b hb,if_false];cases great a <;> cases great b <;> simp_arith;rw [show(a == b)=decide (a=b) by by_cases h:a=b <;> simp [h]]
theorem HF {α:Type} {p:α->Bool} (l:List α) (L:aa):qK [.lst (l.map fun x=>.bl (p x))] L=.ok (.bl (l.all p)) L:=by
 have:=mapM_map (f:=HV) (g:=fun x=>T.bl (p x)) (h:=p) (fun _=>rfl) l;simp [qK,Et,vw,this,lift,ZY,VY]
theorem AI {α:Type} {p:α->Bool} (l:List α) (L:aa):wt [.lst (l.map fun x=>.bl (p x))] L=.ok (.bl (l.any p)) L:=by
 have:=mapM_map (f:=HV) (g:=fun x=>T.bl (p x)) (h:=p) (fun _=>rfl) l;simp [wt,Et,vw,this,lift,List.any_map,VY]
theorem qy {L:aa} {x:T} {st:ba} (h:kU L x st) (r:Rl) (sm:lH st) (hn:∀k∈r.aj,dG k.l/\dG k.r) (hl:r.aj.length<=1000):eH [aO r,x] L=.ok (.bl (r.aj.all (dR st))) L:=by
 unfold eH;simp_arith;generalize hc:comp _ _ _ _ _ _ _ _=r';obtain rfl:=bc hc r.aj lT (fun k=>.bl (dR st k)) rfl sv (by unfold lim;omega) (fun k hk=>by
  obtain⟨h1,h2⟩:=hn k hk;rw [AH (k:=k) rfl rfl rfl];simp only [mV,mU];rw [nY (n:=k.l) h rfl (by simp_arith),aH,nY (n:=k.r) h rfl (by simp_arith),aH,aH,aH,aH];exact Di k _ _ (fV (sm.ah h1)).1 (fV (sm.ah h2)).1 L)
 simp_arith [HF]
theorem El (ys:List Fc) (f:Fc):(ys.map fT).countP (fun y=>eqT y (fT f))=ys.countP fun a=>decide (a=f):=by
 rw [Z3];exact List.countP_congr fun a _=>by simp [se]
theorem Lu (ys:List Fc) (f:Fc) (L:aa):uT (.tup (ys.map fT)) [fT f] L=.ok (.int (ys.countP fun a=>decide (a=f):Nat)) L:=by
 show cb _ _=_;rw [ax ⟨iY f,fE iY ys⟩,El]
theorem Lv (ys:List Fc) (f:Fc) (L:aa):uS (.lst (ys.map fT)) [fT f] L=.ok (.int (ys.countP fun a=>decide (a=f):Nat)) L:=by
 show cb _ _=_;rw [ax ⟨iY f,fE iY ys⟩,El]
theorem nZ {L:aa} {x:T} {st:ba} (h:kU L x st) (ks:List Kd) (hk:ks.length<=1000) (r:Rl) (ha:∀f∈r.take++r.keep,f.as.length<=4) (hl:r.take.length+r.keep.length<=1000) (bp bl:List Fc) (s3:T) :
  dH [.lst (ks.map kT),aO r,x,.tup [.tup (bp.map fT),.tup (bl.map fT),s3,.bl false]] L=.ok (.bl (fS ks st r bp bl)) L:=by
 unfold dH;simp_arith;rw [cZ rfl ks kT (·.l) (fun k=>.str k.n) (by exact rfl) (by exact ak) (by unfold lim;omega) (by exact fun b _=>by simp_arith) (by exact fun b _ _=>by simp_arith)];have C3:((ks.filter (·.l)).map fun k=>T.str k.n)=(aq ks).map T.str:=by simp [aq]
 simp_arith [C3];rw [jo (fs:=r.take++r.keep) h (fun f hf=>by have:=ha f hf;omega) (by simp;omega) rfl (k:=stays (.lst ((r.take++r.keep).map fT)) L) (by simp_all_arith [<- UL]) (by exact sv) (by exact fun _=>rfl) (by exact fun _=>rfl)];rw [show(r.take++r.keep).map (wr st)=av st r from rfl];simp_arith;unfold fS;generalize av st r=hs;generalize ho:forL _ _ _ _ _ _=o;have h:=c7 ho hs fT (fun q φ L'=>∃o6,q.all (cO ks bp bl hs)=hs.all (cO ks bp bl hs)/\φ=[some (.lst (ks.map kT)),some (aO r),some x,some (.tup [.tup (bp.map fT),.tup (bl.map fT),s3,.bl false]),some (.lst ((aq ks).map .str)),some (.lst (hs.map fT)),o6]/\L'=L)
  (fun o=>(hs.all (cO ks bp bl hs)=false/\o=.rt (.bl false) L)\/(hs.all (cO ks bp bl hs)=true/\∃φ,o=.nx φ L)) rfl ⟨none,rfl,rfl,rfl⟩ (fun _ _ eJ eP f q φ L' hh=>by
   obtain⟨o6,e1,rfl,rfl⟩:=hh;refine⟨sv,_,rfl,?_⟩;rw [Vl] at e1;simp_arith [eJ,eP];by_cases hm:f.k∈aq ks
   ·have hb:cO ks bp bl hs f=decide (f∈bl):=by unfold cO;rw [if_pos hm]
    rw [hb] at e1;simp_arith [eJ,eP,hm,decide_true];by_cases hi:f∈bl
    ·simp_arith [eJ,eP,hi,decide_true]
     rw [decide_eq_true hi,Xw] at e1;exact⟨_,e1,rfl,by trivial⟩
    ·simp_arith [eJ,eP,hi,decide_false]
     rw [decide_eq_false hi,W9] at e1;exact .inl ⟨e1.symm,by trivial⟩
   ·have hb:cO ks bp bl hs f=decide (hs.countP (fun a=>decide (a=f))<=bp.countP fun a=>decide (a=f)):=by unfold cO;rw [if_neg hm]
    rw [hb] at e1;simp_arith [eJ,eP,hm,decide_false,Lu,Lv];by_cases hi:hs.countP (fun a=>decide (a=f))<=bp.countP fun a=>decide (a=f)
    ·rw [decide_eq_true hi,Xw] at e1
     rw [decide_eq_false (show ¬ (((bp.countP fun a=>decide (a=f):Nat)):Int)<((hs.countP fun a=>decide (a=f):Nat):Int) by omega)];simp_arith [eJ,eP];exact⟨_,e1,rfl,by trivial⟩
    ·rw [decide_eq_false hi,W9] at e1
     rw [decide_eq_true (show(((bp.countP fun a=>decide (a=f):Nat)):Int)<((hs.countP fun a=>decide (a=f):Nat):Int) by omega)];simp_arith [eJ,eP];exact .inl ⟨e1.symm,by trivial⟩)
  fun φ L' hh=>by
   obtain⟨o6,e1,rfl,rfl⟩:=hh;exact⟨sv,.inr ⟨e1.symm,_,rfl⟩⟩
 rcases h with⟨e,rfl⟩|⟨e,φ,rfl⟩
 ·rw [e];simp_arith
 ·rw [e];simp_arith
theorem xh {L:aa} {x:T} {st:ba} (h:kU L x st) (r:Rl) (ha:∀f∈r.put,f.as.length<=4) (hl:r.put.length<=1000) (j4:r.tell.length<=1000) (bl:List Fc):iJ [aO r,x,.tup (bl.map fT)] L=.ok (.bl (gh st r bl)) L:=by
 unfold iJ gh;simp_arith;generalize hc:comp _ _ _ _ _ _ _ _=r';obtain rfl:=bc hc r.put fT (fun f=>.bl (!decide (wr st f∈bl))) rfl sv (by unfold lim;omega) (fun f hf=>by
  simp_arith [oW h f (by have:=ha f hf;omega)])
 simp_arith [AI];cases h1:r.put.any fun f=>!decide (wr st f∈bl) with
 | true=>simp_arith;simp
 | false =>
  simp_arith;rw [bc rfl r.tell pT (fun p=>pT (ah st p.1,ah st p.2)) (by exact rfl) (by exact sv) (by unfold lim;omega) (by exact fun p hp=>by simp_arith [v8 h p])];simp_arith;generalize hc:comp _ _ _ _ _ _ _ _=r';obtain rfl:=bc (xs:=r.tell) (enc:=fun p=>pT (ah st p.1,ah st p.2)) (f:=fun p=>.bl (!decide (ah st p.1=ah st p.2))) hc rfl sv (by unfold lim;omega) (fun p hp=>by
   simp_arith;rw [show(ah st p.1 == ah st p.2)=decide (ah st p.1=ah st p.2) by by_cases h:ah st p.1=ah st p.2 <;> simp [h]])
  simp_arith [AI];simp
theorem AJ (ks:List Kd) (hk:ks.length<=1000) (rs:List Rl) (i:Nat) (vs:List Cs) (r:Rl) (hr:rs[i]?=some r) (hv:vs.length=(opens (r.take++r.keep)).length) (Il:vs.length<=100) (bp bl:List Fc) (xx:ba) (sm:lH (ai r vs)) (hn:∀k∈r.aj,dG k.l/\dG k.r) (ha:∀f∈r.take++r.keep++r.put,f.as.length<=4) (pB:r.take.length<=4/\r.keep.length<=4/\r.aj.length<=4/\r.put.length<=4/\r.tell.length<=4) (L:aa) :
  fk [jO ks rs,aR bp bl xx,stepT i vs] L=.ok (.bl (d8 ks (ai r vs) r bp bl false)) L:=by
 have hx:=fun L=>uM (x:=.lst ((opens (r.take++r.keep)).map .str)) (y:=.tup (vs.map .str)) (L:=L) rfl (.inr rfl) (Bk.dP _) (by omega) (by omega)
 have lL:kU (bL (ai r vs)::L) (.ref L.length) (ai r vs):=.inr ⟨_,rfl,dC⟩;have hx:∀L,gT [.lst ((opens (r.take++r.keep)).map .str),.tup (vs.map .str)] L=.ok (.ref L.length) (bL (ai r vs)::L):=hx
 unfold fk;simp_arith [qx ks rs i vs r hr hv];unfold aR stepT;simp_arith [AG hr,hx,qy lL r sm hn (by omega),nZ lL ks hk r (fun f hf=>ha f (UD _ hf)) (by omega)];unfold d8;cases h1:r.aj.all (dR (ai r vs)) with
 | false=>simp_arith;exact dS rfl
 | true =>
  simp_arith;cases h2:fS ks (ai r vs) r bp bl with
  | false=>simp_arith;exact dS rfl
  | true =>
   simp_arith;rw [sF (r:=r) (F:=bP) rfl rfl];simp_arith [vY];cases h3:decide (r.take=[]) with
   | false=>simp_arith;exact dS rfl
   | true =>
    simp_arith [xh lL r (fun f hf=>ha f (UK _ hf)) (by omega) (by omega)];exact dS rfl
theorem AK (ks:List Kd) (rs:List Rl) (i:Nat) (vs:List Cs) (r:Rl) (hr:rs[i]?=some r) (hv:vs.length=(opens (r.take++r.keep)).length) (Il:vs.length<=100) (bp bl:List Fc) (xx:ba) (M:Mv ks bp bl xx (r.take.map (wr (ai r vs))) (r.put.map (wr (ai r vs))) (r.tell.map (CV (ai r vs)))) (ha:∀f∈r.take++r.keep++r.put,f.as.length<=4) (pB:r.take.length<=4/\r.keep.length<=4/\r.aj.length<=4/\r.put.length<=4/\r.tell.length<=4) (L:aa) :
  ∃x,i8 ks bp bl xx (r.take.map (wr (ai r vs))) (r.put.map (wr (ai r vs))) (r.tell.map (CV (ai r vs))) x/\jT [jO ks rs,aR bp bl xx,stepT i vs] L=.ok x L:=by
 have hx:∀L,gT [.lst ((opens (r.take++r.keep)).map .str),.tup (vs.map .str)] L=.ok (.ref L.length) (bL (ai r vs)::L):=fun L=>uM rfl (.inr rfl) (Bk.dP _) (by omega) (by omega)
 have lL:kU (bL (ai r vs)::L) (.ref L.length) (ai r vs):=.inr ⟨_,rfl,dC⟩;obtain⟨x,hR,he⟩:=Dg ks bp bl xx _ _ _ M (bL (ai r vs)::L);refine⟨x,hR,?_⟩;have bJ:lt L.length x=true:=by
  rcases hR with⟨_,rfl⟩|⟨bD,left,P,Q,S,_,_,_,_,_,_,_,_,_,rfl⟩
  ·rfl
  ·unfold aR;rw [lt,cf,cf,cf,cf,cf,bY aZ,bY aZ,bY fh];rfl
 unfold jT;unfold stepT;simp_arith [AG hr,hx];rw [jo lL (fun f hf=>by have:=ha f (UD _ (UD _ hf));omega) (by omega) rfl (by exact rfl) (by exact sv) (by exact fun _=>rfl) (by exact fun _=>rfl)];simp_arith;rw [jo lL (fun f hf=>by have:=ha f (UK _ hf);omega) (by omega) rfl (by exact rfl) (by exact sv) (by exact fun _=>rfl) (by exact fun _=>rfl)];simp_arith;rw [bc rfl r.tell pT (fun p=>pT (CV (ai r vs) p)) (by exact rfl) (by exact sv) (by unfold lim;omega) (by exact fun p hp=>by simp_arith [v8 lL p];rfl)];rw [show(r.tell.map fun p=>pT (CV (ai r vs) p))=(r.tell.map (CV (ai r vs))).map pT by rw [UZ];rfl];simp_arith [he];exact dS bJ
theorem Dj (ks:List Kd) (hk:ks.length<=1000) (rs:List Rl) (i:Nat) (vs:List Cs) (r:Rl) (hr:rs[i]?=some r) (hv:vs.length=(opens (r.take++r.keep)).length) (Il:vs.length<=100) (bp bl:List Fc) (xx:ba) (sm:lH (ai r vs)) (hn:∀k∈r.aj,dG k.l/\dG k.r) (M:Mv ks bp bl xx (r.take.map (wr (ai r vs))) (r.put.map (wr (ai r vs))) (r.tell.map (CV (ai r vs)))) (ha:∀f∈r.take++r.keep++r.put,f.as.length<=4) (pB:r.take.length<=4/\r.keep.length<=4/\r.aj.length<=4/\r.put.length<=4/\r.tell.length<=4) (hF:d8 ks (ai r vs) r bp bl false=true) (L:aa) :
  ∃x,i8 ks bp bl xx (r.take.map (wr (ai r vs))) (r.put.map (wr (ai r vs))) (r.tell.map (CV (ai r vs))) x/\lt L.length x=true/\dI [jO ks rs,aR bp bl xx,stepT i vs] L=.ok x L:=by
 obtain⟨x,hR,he⟩:=AK ks rs i vs r hr hv Il bp bl xx M ha pB L;have bJ:lt L.length x=true:=by
  rcases hR with⟨_,rfl⟩|⟨bD,left,P,Q,S,_,_,_,_,_,_,_,_,_,rfl⟩
  ·rfl
  ·unfold aR;rw [lt,cf,cf,cf,cf,cf,bY aZ,bY aZ,bY fh];rfl
 refine⟨x,hR,bJ,?_⟩;unfold dI;simp_arith [AJ ks hk rs i vs r hr hv Il bp bl xx sm hn ha pB,hF,he];exact fin_same bJ
theorem HG {a b:Cs} (h:fR a b=false) (h2:fR b a=false):a=b:=by
 rw [nz,decide_eq_false_iff_not] at h h2;by_cases e:a=b
 ·exact e
 ·exact((pL e).elim h h2).elim
theorem HH {a b c:Cs} (h:fR b a=false) (h2:fR c b=false):fR c a=false:=by
 rw [nz,decide_eq_false_iff_not] at h h2 ⊢;intro z;by_cases e:a=b
 ·exact h2 (e ▸ z)
 ·exact(pL e).elim (fun q=>h2 (aam z q)) h
noncomputable def qI (ρ:Cs->Cs):Prop:=(∀x,ρ (ρ x)=ρ x)/\∀x y,ρ x=ρ y->(great y=false->ρ x=y)/\(great (ρ x)=true->fR y (ρ x)=false)
theorem qI.wd {ρ:Cs->Cs} (s:qI ρ) {x:Cs} (h:great x=false):ρ x=x:=(s.2 x x rfl).1 h
theorem jZ (p q:Cs):bF great fR p q=p\/bF great fR p q=q:=by
 unfold bF;split
 ·exact .inl rfl
 ·split
  ·exact .inr rfl
  ·exact Un.D3 p q
theorem xi {p q:Cs} (h:great (bF great fR p q)=true):fR p (bF great fR p q)=false/\fR q (bF great fR p q)=false:=by
 unfold bF at h ⊢;split at h
 ·simp_all
 ·rw [if_neg (by assumption)]
  split at h
  ·simp_all
  ·rw [if_neg (by assumption)]
   unfold mn;have ir:∀a:Cs,fR a a=false:=fun a=>by rw [nz];simp [Y2]
   split
   ·rename_i z
    refine⟨?_,ir q⟩;rw [nz,decide_eq_true_eq] at z;rw [nz,decide_eq_false_iff_not];exact fun y=>Y2 _ (aam z y)
   ·rename_i z
    exact⟨ir p,by simpa using z⟩
theorem j0 {ρ:Cs->Cs} (s:qI ρ) (a b:Cs) {x y:Cs}:told great fR ρ a b x=told great fR ρ a b y↔ρ x=ρ y\/((ρ x=ρ a\/ρ x=ρ b)/\(ρ y=ρ a\/ρ y=ρ b)):=by
 have hc:ρ (bF great fR (ρ a) (ρ b))=bF great fR (ρ a) (ρ b):=by rcases jZ (ρ a) (ρ b) with e|e <;> rw [e] <;> exact s.1 _
 have hm:∀z,ρ z=bF great fR (ρ a) (ρ b)->ρ z=ρ a\/ρ z=ρ b:=fun z e=>by rcases jZ (ρ a) (ρ b) with q|q <;> rw [q] at e <;> simp [e]
 unfold told;grind
theorem AL {ρ:Cs->Cs} (s:qI ρ) {a b:Cs} (h:¬ dQ (ρ a) (ρ b)):qI (told great fR ρ a b):=by
 obtain⟨s1,s2⟩:=s;have hc:=jZ (ρ a) (ρ b)
 have hl:=xi (p:=ρ a) (q:=ρ b);have hw:∀y,(ρ y=ρ a\/ρ y=ρ b)->great y=false->bF great fR (ρ a) (ρ b)=y:=fun y hy g=>by
  have e:=(s2 y y rfl).1 g;unfold dQ at h;unfold bF;grind
 refine⟨fun x=>?_,fun x y e=>?_⟩
 ·unfold told
  have:=s1 x;have:=s1 a
  have:=s1 b;grind
 ·rw [j0 ⟨s1,s2⟩] at e
  have k:(ρ x=ρ a\/ρ x=ρ b)->(ρ y=ρ a\/ρ y=ρ b)->(great y=false->bF great fR (ρ a) (ρ b)=y)/\(great (bF great fR (ρ a) (ρ b))=true->fR y (bF great fR (ρ a) (ρ b))=false):=fun _ hy=>⟨hw y hy,fun g=>by
   have hl:=hl g;have q:=(s2 y y rfl).2
   by_cases gy:great y=true
   ·by_cases gr:great (ρ y)=true
    ·exact HH (hy.elim (fun e=>e ▸ hl.1) fun e=>e ▸ hl.2) (q gr)
    ·have:bF great fR (ρ a) (ρ b)=ρ y:=hw (ρ y) (by rw [s1];exact hy) (by simpa using gr)
     rw [this] at g;exact absurd g gr
   ·rw [hw y hy (by simpa using gy)] at g
    exact absurd g gy⟩
  show(_->told great fR ρ a b x=y)/\(great (told great fR ρ a b x)=true->fR y (told great fR ρ a b x)=false);by_cases hx:ρ x=ρ a\/ρ x=ρ b
  ·have e1:told great fR ρ a b x=bF great fR (ρ a) (ρ b):=by unfold told;rw [if_pos hx]
   rw [e1];exact k hx (by grind)
  ·have e1:told great fR ρ a b x=ρ x:=by unfold told;rw [if_neg hx]
   rw [e1];exact s2 x y (by grind)
noncomputable def sY (ρ:Cs->Cs) (br:List (Cs × Cs)) (σ:Cs->Cs):Prop:=qI σ/\(∀x y,ρ x=ρ y->σ x=σ y)/\∀p∈br,σ p.1=σ p.2
noncomputable def HI (ρ:Cs->Cs) (br:List (Cs × Cs)) (τ:Cs->Cs):Prop:=sY ρ br τ/\∀σ,sY ρ br σ->∀x y,τ x=τ y->σ x=σ y
theorem HI.uniq {ρ ρ' τ τ':Cs->Cs} {p p':List (Cs × Cs)} (h:HI ρ p τ) (h':HI ρ' p' τ') (e:∀σ,sY ρ p σ↔sY ρ' p' σ):τ=τ':=funext fun x=>by
 have a:=(h.2 _ ((e _).mpr h'.1) x (τ x) (h.1.1.1 x).symm);have b:=(h'.2 _ ((e _).mp h.1) x (τ' x) (h'.1.1.1 x).symm)
 have q:=h.1.1.2 x (τ' x) b;have q':=h'.1.1.2 x (τ x) a
 cases g:great (τ' x) with
 | false=>exact q.1 g
 | true =>
  cases g2:great (τ x) with
  | false=>exact(q'.1 g2).symm
  | true=>exact HG (q'.2 g) (q.2 g2)
noncomputable def nB:(Cs->Cs)->List (Cs × Cs)->Option (Cs->Cs)
 | ρ,[]=>some ρ
 | ρ,(a,b)::r=>if dQ (ρ a) (ρ b) then none else nB (told great fR ρ a b) r
theorem nC {ρ σ:Cs->Cs} (s:qI ρ) {a b:Cs} {r:List (Cs × Cs)}:sY ρ ((a,b)::r) σ↔sY (told great fR ρ a b) r σ:=by
 unfold sY;refine and_congr_right fun hs=>?_
 constructor
 ·rintro⟨h1,h2⟩
  have hab:=h2 (a,b) (by simp);refine⟨fun x y e=>?_,fun p hp=>h2 p (by simp [hp])⟩;rw [j0 s] at e;rcases e with e|⟨e1,e2⟩
  ·exact h1 x y e
  ·have u:σ x=σ a:=e1.elim (h1 x a) fun e=>(h1 x b e).trans hab.symm
   have w:σ y=σ a:=e2.elim (h1 y a) fun e=>(h1 y b e).trans hab.symm
   exact u.trans w.symm
 ·rintro⟨h1,h2⟩
  refine⟨fun x y e=>h1 x y ((j0 s a b).mpr (.inl e)),fun p hp=>?_⟩;rcases UN.mp hp with rfl|hp
  ·exact h1 _ _ ((j0 s _ _).mpr (.inr ⟨.inl rfl,.inr rfl⟩))
  ·exact h2 p hp
theorem Dk {ρ σ:Cs->Cs} (s:qI ρ) {a b:Cs} {r:List (Cs × Cs)} (h:dQ (ρ a) (ρ b)) (q:sY ρ ((a,b)::r) σ):False:=by
 obtain⟨hs,h1,h2⟩:=q;have e:=h2 (a,b) (by simp)
 have ea:=h1 (ρ a) a (s.1 a);have eb:=h1 (ρ b) b (s.1 b)
 rw [hs.wd h.2.1] at ea;rw [hs.wd h.2.2] at eb;exact h.1 (ea.trans (e.trans eb.symm))
theorem nE:∀(br:List (Cs × Cs)) {ρ:Cs->Cs},qI ρ->(nB ρ br=none->∀σ,¬ sY ρ br σ)/\∀τ,nB ρ br=some τ->HI ρ br τ
 | [],ρ,s=>⟨fun h=>(by cases h),fun τ h=>by
  cases h;exact⟨⟨s,fun _ _ e=>e,fun p hp=>by cases hp⟩,fun σ h=>h.2.1⟩⟩
 | (a,b)::r,ρ,s=>by
  unfold nB;by_cases h:dQ (ρ a) (ρ b)
  ·rw [if_pos h]
   exact⟨fun _ σ q=>Dk s h q,fun τ z=>by cases z⟩
  ·rw [if_neg h]
   obtain⟨i1,i2⟩:=nE r (AL s h);refine⟨fun z σ q=>i1 z σ ((nC s).mp q),fun τ z=>?_⟩;obtain⟨j1,j2⟩:=i2 τ z;exact⟨(nC s).mpr j1,fun σ q=>j2 σ ((nC s).mp q)⟩
structure Sk (K:List Cs) (st:ba):Prop where
 nd:(st.map (·.1)).Nodup
 ks:∀x,x∈st.map (·.1)↔x∈K
 gv:∀e∈st,great e.2=true->e.2∈K
 kg:∀x∈K,great x=true
theorem wc {st:ba}:∀(ns:List Cs),(∀n∈ns,great n=true->n∈st.map (·.1))->iV st ns=st
 | [],_=>rfl
 | n::ns,h=>by
  have e:gL st n=st:=by
   unfold gL;split
   ·rw [if_pos (h n (by simp) (by assumption))]
   ·rfl
  show iV (gL st n) ns=st;rw [e];exact wc ns fun m hm=>h m (by simp [hm])
theorem nF (p q:Cs) (x:Cs):∀st:ba,j5 (st.map (lj p q)) x=(j5 st x).map fun v=>if v=p\/v=q then bF great fR p q else v
 | []=>rfl
 | e::st=>by
  have ih:=nF p q x st;unfold j5 at ih ⊢;rw [UG,VU,VU];show Option.map _ (match decide (e.1=x) with|true=>some (lj p q e)|false=>_)=_
  cases decide (e.1=x) with
  | true=>rfl
  | false=>exact ih
theorem lx {st:ba} {x:Cs}:(∃v,j5 st x=some v/\(x,v)∈st/\ah st x=v)\/(j5 st x=none/\x∉st.map (·.1)/\ah st x=x):=by
 unfold ah;cases e:j5 st x with
 | none =>
  unfold j5 at e;refine .inr ⟨rfl,fun h=>?_,rfl⟩;obtain⟨y,hy,rfl⟩:=Uz.mp h;exact absurd (V6.mp (ZW.mp e) y hy) (by simp)
 | some v =>
  unfold j5 at e;obtain⟨y,h1,h2⟩:=UI.mp e;have h3:y.1=x:=by simpa using List.find?_some h1
  exact .inl ⟨v,rfl,by rw [<- h3,<- h2];exact WT h1,rfl⟩
theorem Sk.tell {K:List Cs} {st:ba} (s:Sk K st) {a b:Cs} (ha:great a=true->a∈K) (hb:great b=true->b∈K) (ht:¬ dQ (ah st a) (ah st b)):Sk K (dq st (ah st a) (ah st b))/\ah (dq st (ah st a) (ah st b))=told great fR (ah st) a b:=by
 have gr:∀{a:Cs},(great a=true->a∈K)->great (ah st a)=true->ah st a∈K:=fun {a} ha g=>by
  rcases lx (st:=st) (x:=a) with⟨v,_,h2,h3⟩|⟨_,_,h3⟩
  ·rw [h3] at g ⊢;exact s.gv _ h2 g
  ·rw [h3] at g ⊢;exact ha g
 have ga:=gr ha;have gb:=gr hb
 have ck:=jZ (ah st a) (ah st b);refine⟨?_,funext fun x=>?_⟩
 ·unfold dq
  split
  ·exact s
  ·refine⟨by rw [Bk.ji];exact s.nd,fun x=>by rw [Bk.ji];exact s.ks x,fun e he g=>?_,s.kg⟩
   obtain⟨e',he',rfl⟩:=Uz.mp he;unfold lj at g ⊢;dsimp only at g ⊢;split at g
   ·rename_i z
    rw [if_pos z];rcases ck with e|e <;> rw [e] at g ⊢
    ·exact ga g
    ·exact gb g
   ·rename_i z
    rw [if_neg z];exact s.gv _ he' g
 ·unfold dq
  split
  ·rename_i e
   unfold told;rw [<- e];split
   ·rename_i z
    rw [show ah st x=ah st a by simpa using z];unfold bF mn;simp
   ·rfl
  ·rename_i hne
   rcases lx (st:=st) (x:=x) with⟨v,h1,h2,h3⟩|⟨h1,h2,h3⟩
   ·unfold told
    rw [h3]
    conv=>lhs;unfold ah
    rw [nF,h1];rfl
   ·unfold told
    rw [h3]
    conv=>lhs;unfold ah
    rw [nF,h1];show x=_
    have hx:great x=true->x∉K:=fun _ h=>h2 ((s.ks x).mpr h)
    unfold dQ at ht;unfold bF;grind
theorem Sk.rep {K:List Cs} {st:ba} (s:Sk K st) {a:Cs} (ha:great a=true->a∈K) (g:great (ah st a)=true):ah st a∈K:=by
 rcases lx (st:=st) (x:=a) with⟨v,_,h2,h3⟩|⟨_,_,h3⟩
 ·rw [h3] at g ⊢;exact s.gv _ h2 g
 ·rw [h3] at g ⊢;exact ha g
theorem we {K:List Cs}:∀(br:List (Cs × Cs)) {st:ba},Sk K st->(∀p∈br,(great p.1=true->p.1∈K)/\(great p.2=true->p.2∈K))->(bx st br=none->nB (ah st) br=none)/\∀dY,bx st br=some dY->nB (ah st) br=some (ah dY)/\Sk K dY
 | [],st,s,_=>⟨fun h=>(by cases h),fun dY h=>by cases h;exact⟨rfl,s⟩⟩
 | (a,b)::r,st,s,h=>by
  obtain⟨ha,hb⟩:=h (a,b) (by simp);have e:iV st [a,b]=st:=wc _ fun n hn g=>(s.ks n).mpr (all2 (P:=fun n=>great n=true->_) ha hb hn g)
  unfold bx nB;rw [e];by_cases ht:dQ (ah st a) (ah st b)
  ·rw [if_pos ht,if_pos ht]
   exact⟨fun _=>rfl,fun _ z=>by cases z⟩
  ·rw [if_neg ht,if_neg ht]
   obtain⟨s',e'⟩:=s.tell ha hb ht;rw [<- e'];exact we r s' fun p hp=>h p (by simp [hp])
noncomputable def wf (τ:Cs->Cs) (f:Fc):Fc:=⟨f.k,f.as.map τ⟩
theorem nG {τ ρ:Cs->Cs} (h:∀x,τ (ρ x)=τ x) (f:Fc):wf τ (wf ρ f)=wf τ f:=by
 unfold wf;simp [h,VY]
theorem AM {τ ρ:Cs->Cs} (h:∀x,τ (ρ x)=τ x) (l:List Fc):(l.map (wf ρ)).map (wf τ)=l.map (wf τ):=by
 rw [UZ];exact Vb fun f _=>nG h f
theorem AO (ks:List Kd) (τ:Cs->Cs) (l:List Fc):g9 ks (l.map (wf τ))=(g9 ks l).map (wf τ):=by unfold g9;rw [List.filter_map];rfl
theorem AQ (ks:List Kd) (τ:Cs->Cs) (l:List Fc):jY ks (l.map (wf τ))=(jY ks l).map (wf τ):=by unfold jY;rw [List.filter_map];rfl
theorem jj {a b c:Cs} {st:ba} (nd:(st.map (·.1)).Nodup) (h:(a,b)∈st) (h2:(a,c)∈st):b=c:=congrArg Prod.snd (Bk.jj nd h h2 rfl)
theorem sO {st dY:ba} (nd:(st.map (·.1)).Nodup) (h:dY.Perm st):ah dY=ah st:=funext fun n=>by
 rcases lx (st:=dY) (x:=n) with⟨v,_,h2,h3⟩|⟨_,h2,h3⟩ <;> rcases lx (st:=st) (x:=n) with⟨u,_,q2,q3⟩|⟨_,q2,q3⟩
 ·rw [h3,q3,jj nd (h.mem_iff.mp h2) q2]
 ·exact absurd (Uz.mpr ⟨_,h.mem_iff.mp h2,rfl⟩) q2
 ·exact absurd (Uz.mpr ⟨_,h.mem_iff.mpr q2,rfl⟩) h2
 ·rw [h3,q3]
theorem Sk.perm {K:List Cs} {st dY:ba} (s:Sk K st) (h:dY.Perm st):Sk K dY :=
 ⟨((h.map (·.1)).nodup_iff).mpr s.nd,fun x=>((h.map (·.1)).mem_iff).trans (s.ks x),fun e he=>s.gv e (h.mem_iff.mp he),s.kg⟩
theorem Sk.all {K:List Cs} {st:ba} (s:Sk K st) (hK:K.Nodup):st.Perm (K.map fun n=>(n,ah st n)):=by
 have e:st=(st.map (·.1)).map fun n=>(n,ah st n):=by
  rw [UZ]
  conv=>lhs;rw [<- Yi st]
  refine Vb fun q hq=>?_
  rcases lx (st:=st) (x:=q.1) with⟨v,_,h2,h3⟩|⟨_,h2,_⟩
  ·show q=(q.1,ah st q.1)
   rw [h3,<- jj s.nd (show(q.1,q.2)∈st from hq) h2]
  ·exact absurd (UP hq) h2
 conv=>lhs;rw [e]
 exact((WG s.nd hK).mpr s.ks).map _
structure Pl (K:List Cs) (τ:Cs->Cs) (m5 lG:List Fc) (P Q:List Fc) (S:ba):Prop where
 sk:Sk K S
 ro:ah S=τ
 sd:qI τ
 p:P.Perm (m5.map (wf τ))
 rp:g6 (P.map fT)
 qn:Q.Nodup
 q:∀f,f∈Q↔f∈lG.map (wf τ)
 rq:g6 (Q.map fT)
 rs:g6 (S.map pT)
theorem Pl.one {K:List Cs} (hK:K.Nodup) {τ:Cs->Cs} {m5 lG AR AS P Q P' Q':List Fc} {S S':ba} (h:Pl K τ m5 lG P Q S) (h':Pl K τ AR AS P' Q' S') (hb:m5.Perm AR) (hl:∀f,f∈lG↔f∈AS):aR P Q S=aR P' Q' S':=by
 have kf:∀l:List Fc,(l.map fT).all (kd 8)=true:=fun l=>Uu.mpr fun y hy=>by obtain⟨f,_,rfl⟩:=Uz.mp hy;exact Az f
 have e1:P.map fT=P'.map fT:=jG (kf _) (((h.p.trans (hb.map _)).trans h'.p.symm).map _) h.rp h'.rp;have e2:Q.map fT=Q'.map fT:=jG (kf _) (((WG h.qn h'.qn).mpr fun f=>by
  rw [h.q,h'.q,Uz,Uz];simp only [hl]).map _) h.rq h'.rq
 have e3:S.map pT=S'.map pT:=jG (Uu.mpr fun y hy=>by obtain⟨p,_,rfl⟩:=Uz.mp hy;exact kd_p p) (((h.sk.all hK).trans (by rw [h.ro,<- h'.ro];exact(h'.sk.all hK).symm)).map _) h.rs h'.rs;unfold aR;rw [e1,e2,e3]
noncomputable def Kn (K:List Cs) (a:Cs):Prop:=great a=true->a∈K
theorem uN {K:List Cs}:∀(br:List (Cs × Cs)) {st bD:ba},Sk K st->(∀p∈br,Kn K p.1/\Kn K p.2)->bx st br=some bD->bD.length=st.length/\(lH st->(∀p∈br,dG p.1/\dG p.2)->lH bD)
 | [],st,bD,_,_,e=>by cases e;exact⟨rfl,fun m _=>m⟩
 | (a,b)::r,st,bD,s,hp,e=>by
  obtain⟨ka,kb⟩:=hp (a,b) (by simp);have e0:iV st [a,b]=st:=wc _ fun n hn g=>(s.ks n).mpr (all2 (P:=fun n=>great n=true->_) ka kb hn g)
  unfold bx at e;rw [e0] at e;split at e
  ·cases e
  ·rename_i ht
   obtain⟨i1,i2⟩:=uN r (s.tell ka kb ht).1 (fun q hq=>hp q (by simp [hq])) e;refine⟨by rw [i1,nA],fun m np=>i2 ?_ fun q hq=>np q (by simp [hq])⟩;obtain⟨na,nb⟩:=np (a,b) (by simp);exact m.tell (m.ah na) (m.ah nb)
theorem AU {K:List Cs} {ks:List Kd} {bp bl ts fs rest:List Fc} {st:ba} {br:List (Cs × Cs)} {x:T} (s:Sk K st) (sd:qI (ah st)) (hx:i8 ks bp bl st ts fs br x) (hf:∀f∈fs,∀a∈f.as,Kn K a) (hp:∀p∈br,Kn K p.1/\Kn K p.2)
  (hb:∀f∈bp++bl,wr st f=f) (hr:bp.Perm (ts.map (wr st)++rest)) :
  ((∀σ,¬ sY (ah st) br σ)/\x=bS)\/∃τ P Q S,HI (ah st) br τ/\x=aR P Q S/\Pl K τ (rest++g9 ks fs) (bl++jY ks fs) P Q S/\(lH st->(∀p∈br,dG p.1/\dG p.2)->lH S)/\S.length=st.length:=by
 have ek:iV st (fs.flatMap (·.as))=st:=wc _ fun n hn g=>by
  obtain⟨f,h1,h2⟩:=XO.mp hn;exact(s.ks n).mpr (hf f h1 n h2 g)
 obtain⟨t1,t2⟩:=we br s hp;obtain⟨f1,f2⟩:=nE br sd;unfold i8 at hx;rw [ek] at hx;rcases hx with⟨h1,h2⟩|⟨bD,left,P,Q,S,h1,h2,h3,h4,h5,h6,h7,h8,h9,rfl⟩
 ·exact .inl ⟨f1 (t1 h1),h2⟩
 ·obtain⟨e2,s2⟩:=t2 bD h1
  have ls:=f2 _ e2;have hw:∀l:List Fc,(∀f∈l,wr st f=f)->lw br bD l=l.map (wf (ah bD)):=fun l hl=>by
   unfold lw;split
   ·rename_i q
    subst q;cases h1;exact(Bk.uy hl).symm
   ·rfl
  have lp:left.Perm rest:=YH.mpr fun f=>by
   rw [h2,hr.count_eq,VZ];omega
  have ll:∀f∈left,wr st f=f:=fun f hf=>hb f (UD _ (Bk.vQ h2 hf))
  have sp:=(sO s2.nd h8);have nb:=Ek (lw br bD bl++jY ks (fs.map (wr bD)))
  obtain⟨gs,_,_,_,hg⟩:=nb;refine .inr ⟨ah bD,P,Q,S,ls,rfl,⟨s2.perm h8,sp,ls.1.1,?_,?_,h5,fun f=>?_,?_,?_⟩,fun m np=>?_,?_⟩
  ·rw [hw left ll,show fs.map (wr bD)=fs.map (wf (ah bD)) from rfl,AO,<- UL] at h3
   exact h3.trans ((lp.append_right _).map _)
  ·rw [<- h4]
   exact(gn fun y hy=>by obtain⟨f,_,rfl⟩:=Uz.mp hy;exact Az f).2
  ·rw [h6,hw bl fun f hf=>hb f (UK _ hf),show fs.map (wr bD)=fs.map (wf (ah bD)) from rfl,AQ,<- UL]
  ·rw [<- h7,hg]
   exact(gn fun y hy=>by obtain⟨f,_,rfl⟩:=Uz.mp hy;exact Az f).2
  ·rw [<- h9]
   exact(gn fun y hy=>by obtain⟨p,_,rfl⟩:=Uz.mp hy;exact kd_p p).2
  ·exact fun e he=>(uN br s hp h1).2 m np e (h8.mem_iff.mp he)
  ·rw [h8.length_eq]
   exact(uN br s hp h1).1
noncomputable def xj (K:List Cs) (m5 lG:List Fc) (br:List (Cs × Cs)) (x:T):Prop:=((∀σ,¬ sY id br σ)/\x=bS)\/∃τ P Q S,HI id br τ/\x=aR P Q S/\Pl K τ m5 lG P Q S
theorem xj.one {K:List Cs} (hK:K.Nodup) {m5 lG AR AS:List Fc} {br HJ:List (Cs × Cs)} {x x':T} (h:xj K m5 lG br x) (h':xj K AR AS HJ x') (hb:m5.Perm AR) (hl:∀f,f∈lG↔f∈AS) (hp:∀p,p∈br↔p∈HJ):x=x':=by
 have e:∀σ,sY id br σ↔sY id HJ σ:=fun σ=>by
  unfold sY;refine and_congr_right fun _=>and_congr_right fun _=>?_
  simp only [hp]
 rcases h with⟨h1,rfl⟩|⟨τ,P,Q,S,h1,rfl,h2⟩ <;> rcases h' with⟨q1,rfl⟩|⟨τ',P',Q',S',q1,rfl,q2⟩
 ·rfl
 ·exact absurd ((e _).mpr q1.1) (h1 _)
 ·exact absurd ((e _).mp h1.1) (q1 _)
 ·obtain rfl:=h1.uniq q1 e
  exact h2.one hK q2 hb hl
theorem qz {ρ σ:Cs->Cs} {p1 p2:List (Cs × Cs)} (l:HI id p1 ρ):sY ρ (p2.map fun p=>(ρ p.1,ρ p.2)) σ↔sY id (p1++p2) σ:=by
 obtain⟨⟨s,_,h1⟩,h2⟩:=l;constructor
 ·rintro⟨a,b,c⟩
  refine⟨a,fun x y e=>by rw [show x=y from e],fun p hp=>?_⟩;rcases UH.mp hp with h|h
  ·exact b _ _ (h1 p h)
  ·have:=c _ (UP h)
   rw [b _ _ (s.1 p.1),b _ _ (s.1 p.2)] at this;exact this
 ·rintro⟨a,b,c⟩
  have k:=h2 σ ⟨a,b,fun p hp=>c p (UD _ hp)⟩;refine⟨a,k,fun p hp=>?_⟩;obtain⟨q,hq,rfl⟩:=Uz.mp hp;show σ (ρ q.1)=σ (ρ q.2)
  rw [k _ _ (s.1 q.1),k _ _ (s.1 q.2)];exact c q (UK _ hq)
theorem HK:qI id:=⟨fun _=>rfl,fun x y e=>by
 have e:x=y:=e;subst e;exact⟨fun _=>rfl,fun _=>by rw [nz];simp [Y2]⟩⟩
theorem AV (r:Rl) (ds:List Nat) (uO:List Cs) (hn:∀f∈r.take++r.keep,∀a∈f.as,dG a) (hf:((r.take++r.keep).flatMap (·.as)).length<=32) (hl:r.take.length+r.keep.length<=100) (ho:(opens (r.take++r.keep)).length<=ds.length) (hd:ds.length<=100) (hr:∀d∈ds,d<uO.length) :
  ∃vs:List Cs,vs.length=(opens (r.take++r.keep)).length/\(∀v∈vs,v∈uO)/\∀L,bE [xT r,.lst (ds.map fun d=>.int (d:Nat)),.lst (uO.map .str)] L=.ok (bL (ai r vs)) L:=by
 refine⟨(ds.take (opens (r.take++r.keep)).length).map fun d=>uO.getD d [],by simp;omega,fun v hv=>?_,fun L=>?_⟩
 ·obtain⟨d,hm,rfl⟩:=Uz.mp hv
  have:=hr d (V4 hm);rw [Gd9,Ge9 this];exact UQ _
 ·have en:=fun L=>qq (r.take++r.keep) hn hf L
  unfold bE;simp_all_arith [<- UL,en];generalize hc:comp _ _ _ _ _ _ _ _=r';obtain rfl:=bc hc (ds.take (opens (r.take++r.keep)).length) (fun d:Nat=>T.int (d:Nat)) (fun d=>.str (uO.getD d [])) (k:=stays (.lst ((ds.take (opens (r.take++r.keep)).length).map fun d=>.int (d:Nat))) L) (by
   simp_arith;rw [nv (by simp;unfold lim;omega),aH,<- Wx]) ak (by simp;unfold lim;omega) (fun d hd=>by
    have:=hr d (V4 hd);simp_arith;exact dB (by rw [UT,Gd9,Ge9 this];rfl))
  have hx:=uM (x:=.lst ((opens (r.take++r.keep)).map .str)) (y:=.lst ((ds.take (opens (r.take++r.keep)).length).map fun d=>.str (uO.getD d []))) (vs:=(ds.take (opens (r.take++r.keep)).length).map fun d=>uO.getD d []) (L:=L) rfl (.inl (by rw [UZ];rfl)) (Bk.dP _) (by simp;omega) (by omega);simp_arith [hx];exact fj (qd _ _)
theorem wh:∀(ns vs:List Cs),ns.Nodup->vs.length=ns.length->ns.map (ah (ns.zip vs))=vs
 | [],[],_,_=>rfl
 | [],_::_,_,h=>by simp at h
 | _::_,[],_,h=>by simp at h
 | n::ns,v::vs,hn,hl=>by
  rw [Vn] at hn;have ih:=wh ns vs hn.2 (by simpa using hl)
  rw [UG,VP];have e1:ah ((n,v)::ns.zip vs) n=v:=by unfold ah j5;rw [VU,decide_eq_true rfl];rfl
  have e2:ns.map (ah ((n,v)::ns.zip vs))=ns.map (ah (ns.zip vs)):=Vb fun m hm=>by
   unfold ah j5;rw [VU,decide_eq_false (fun e=>hn.1 (by have e:n=m:=e;rw [e];exact hm))]
  rw [e1,e2,ih]
theorem HL (rs:List Rl) (i:Nat) (r:Rl) (hi:rs[i]?=some r) (vs:List Cs) (hv:vs.length=(opens (r.take++r.keep)).length) (hn:∀f∈r.take++r.keep,∀a∈f.as,dG a) (hf:((r.take++r.keep).flatMap (·.as)).length<=32) (hl:r.take.length+r.keep.length<=100) (h3:vs.length<=100) (L:aa) :
  cw [.lst (rs.map xT),.int (i:Nat),bL (ai r vs)] L=.ok (stepT i vs) L:=by
 have en:=fun L=>qq (r.take++r.keep) hn hf L
 have hx:∀L,ix (.lst (rs.map xT)) (.int (i:Nat)) L=.ok (xT r) L:=fun L=>dB (by rw [UT,hi];rfl)
 unfold cw;simp_arith [hx];generalize hc:comp _ _ _ _ _ _ _ _=r';obtain rfl:=bc hc (opens (r.take++r.keep)) T.str (fun n=>.str (ah (ai r vs) n)) (k:=stays (.lst ((opens (r.take++r.keep)).map .str)) L) (by simp_all_arith [<- UL,en]) ak (by unfold lim;omega) (fun n hm=>by
  simp_arith;have Lw:=Bk.kH hv
  have ha:∃w,j5 (ai r vs) n=some w:=by
   rw [<- Lw] at hm;obtain⟨e,he,rfl⟩:=Uz.mp hm;unfold j5;cases q:(ai r vs).find? fun p=>decide (p.1=e.1) with
   | none=>exact absurd (V6.mp q e he) (by simp)
   | some y=>exact⟨_,rfl⟩
  obtain⟨w,hw⟩:=ha;unfold ix bL vw;simp only [];rw [ax (ny _ _),jX,hw];unfold ah;rw [hw];rfl)
 simp_arith;rw [show((opens (r.take++r.keep)).map fun n=>T.str (ah (ai r vs) n))=((opens (r.take++r.keep)).map (ah (ai r vs))).map .str by rw [UZ];rfl,show(opens (r.take++r.keep)).map (ah (ai r vs))=vs from wh _ _ (Bk.dP _) hv];exact fin_same (by simp [lt,cf,jP])
theorem HM (r:Rl) (st:ba) (ha:∀f∈r.take++r.keep,f.as.length<=1000) (hl:r.take.length+r.keep.length<=100) (L:aa):aV [xT r,bL st] L=.ok (.lst (((r.take++r.keep).map (wr st)).map fT)) L:=by
 unfold aV;simp_arith;rw [bc rfl (r.take++r.keep) fT (fun f=>fT (wr st f)) (k:=stays (.lst ((r.take++r.keep).map fT)) L) (by simp_all_arith [<- UL]) (by exact ak) (by simp;unfold lim;omega) (by exact fun f hf=>by simp_arith;exact Hv (.inl rfl) f (ha f hf))];rw [show((r.take++r.keep).map fun f=>fT (wr st f))=((r.take++r.keep).map (wr st)).map fT by rw [UZ];rfl];simp_arith;exact fin_same (ao aZ)
theorem HN (n0 n1 n2 n3:Cs) (L:aa):dU [.lst [.str n0,.str n1,.str n2,.str n3]] L=.ok (.lst ([(n1,n1),(n2,n2),(n3,n3)].map pT)) L:=by
 unfold dU;simp_arith;rw [bc rfl [n1,n2,n3] T.str (fun n=>pT (n,n)) (by exact rfl) (by exact sv) (by unfold lim;simp) (by exact fun n _=>by simp_arith;rfl)];simp_arith;exact fin_same (by simp [lt,cf,pT])
theorem HO (ks:List Kd) (hk:ks.length<=1000) (fs:List Fc) (hf:fs.length<64) (st:ba) (hs:st.length<64) (L:aa):∃P Q S,P.Perm (fs.filter fun f=>!decide (f.k∈aq ks))/\Q.Nodup/\(∀f,f∈Q↔f∈fs/\f.k∈aq ks)/\S.Perm st/\jH ((fs.filter fun f=>!decide (f.k∈aq ks)).map fT)=P.map fT/\jH (st.map pT)=S.map pT /\
  cR [.lst (ks.map kT),.ref L.length,.lst (st.map pT)] (.lst (fs.map fT)::L)=.ok (aR P Q S) (.lst (fs.map fT)::L):=by
 have C3:((ks.filter (·.l)).map fun k=>T.str k.n)=(aq ks).map T.str:=by simp [aq]
 refine sP fun G n9=>?_
 obtain⟨P,Dh,Ls⟩:=wb (fs.filter fun f=>!decide (f.k∈aq ks));obtain⟨S,hS1,hS2⟩:=Ej st;have main:∃kp:List Fc,kp.Nodup/\(∀f,f∈kp↔f∈fs/\f.k∈aq ks)/\∀Q,jH (kp.map fT)=Q.map fT->cR [.lst (ks.map kT),.ref L.length,.lst (st.map pT)] (.lst (fs.map fT)::L)=.ok (aR P Q S) (.lst (fs.map fT)::L):=by
  unfold cR;simp_arith;rw [cZ rfl ks kT (·.l) (fun k=>.str k.n) (by exact rfl) (by exact sv) (by unfold lim;omega) (by exact fun b _=>by simp_arith) (by exact fun b _ _=>by simp_arith)];simp_arith [C3];generalize ho:forL _ _ _ _ _ _=o;have h:=c7 ho fs fT (fun q φ L'=>∃(done kp:List Fc) (o5:Option T),done++q=fs/\kp.Nodup/\kp.length<=done.length/\(∀f,f∈kp↔f∈done/\f.k∈aq ks)/\φ=[some (.lst (ks.map kT)),some (.ref L.length),some (.lst (st.map pT)),some (.lst ((aq ks).map .str)),some (.ref (L.length+1)),o5,none]/\L'=.lst (kp.map fT) :: .lst (fs.map fT)::L)
   (fun o=>∃(kp:List Fc) (o5:Option T),kp.Nodup/\kp.length<=fs.length/\(∀f,f∈kp↔f∈fs/\f.k∈aq ks)/\o=.nx [some (.lst (ks.map kT)),some (.ref L.length),some (.lst (st.map pT)),some (.lst ((aq ks).map .str)),some (.ref (L.length+1)),o5,none] (.lst (kp.map fT) :: .lst (fs.map fT)::L)) rfl
   ⟨[],[],none,rfl,Xb,UM _,(by simp),rfl,rfl⟩ (fun _ _ eJ eP f q φ L' hh=>by
    obtain⟨done,kp,o5,e1,h1,h2,h3,rfl,rfl⟩:=hh;refine⟨fun n e=>by cases e;rw [m6];exact m6.symm,_,rfl,?_⟩;have hd:done.length<=fs.length:=by rw [<- e1];simp
    simp_arith [eJ,eP];have Em:(f.k∉aq ks\/f∈kp)->(∀g,g∈kp↔g∈done++[f]/\g.k∈aq ks):=fun hz g=>by
     rw [h3,UH,UY];refine⟨fun z=>⟨.inl z.1,z.2⟩,fun z=>⟨z.1.elim id fun e=>?_,z.2⟩⟩;subst e;rcases hz with hz|hz
     ·exact absurd z.2 hz
     ·exact((h3 g).mp hz).1
    by_cases hm:f.k∈aq ks
    ·simp_arith [eJ,eP,hm,decide_true,KP (x:=f) (t:=.ref (L.length+1)) (ys:=kp) (L:=.lst (kp.map fT) :: .lst (fs.map fT)::L) (by simp_arith [eJ,eP])]
     by_cases hi:f∈kp
     ·simp_arith [eJ,eP,hi,decide_true]
      exact⟨done++[f],kp,_,by simpa using e1,h1,by simp;omega,Em (.inr hi),rfl,rfl⟩
     ·simp_arith [eJ,eP,hi,decide_false,ax (show kp.length<lim by unfold lim;omega),bo]
      refine⟨done++[f],kp++[f],_,by simpa using e1,?_,by simp;omega,fun g=>?_,rfl,rfl⟩
      ·rw [Wd]
       exact⟨h1,by simp,fun a ha b hb e=>hi (by simp at hb;rw [<- hb,<- e];exact ha)⟩
      ·rw [UH,UY,UH,UY,h3]
       refine⟨fun z=>z.elim (fun z=>⟨.inl z.1,z.2⟩) fun e=>⟨.inr e,by rw [e];exact hm⟩,fun z=>z.1.elim (fun y=>.inl ⟨y,z.2⟩) .inr⟩
    ·simp_arith [eJ,eP,hm,decide_false]
     exact⟨done++[f],kp,_,by simpa using e1,h1,by simp;omega,Em (.inl hm),rfl,rfl⟩)
   fun φ L' hh=>by
    obtain⟨done,kp,o5,e1,h1,h2,h3,rfl,rfl⟩:=hh;rw [U2] at e1;subst e1;exact⟨fun n e=>by cases e;rw [m6];exact m6.symm,kp,o5,h1,h2,h3,rfl⟩
  obtain⟨kp,o5,k1,k2,k3,rfl⟩:=h;refine⟨kp,k1,k3,fun Q hQ=>?_⟩;simp_arith;rw [cZ rfl fs fT (fun f=>!decide (f.k∈aq ks)) fT (k:=stays (.ref L.length) (.lst (kp.map fT) :: .lst (fs.map fT)::L)) (by simp_arith) (by exact ak) (by unfold lim;omega) (by exact fun b _=>by simp_arith) (by exact fun b _ _=>by simp_arith)];have s1:=qw (x:=.lst ((fs.filter fun f=>!decide (f.k∈aq ks)).map fT)) (L:=.lst (kp.map fT) :: .lst (fs.map fT)::L) rfl (w7 (by have:=eS (p:=fun f:Fc=>!decide (f.k∈aq ks)) (l:=fs) (n:=63) (by omega);omega))
  have s2:=qw (x:=.ref (L.length+1)) (ys:=kp.map fT) (L:=.lst (kp.map fT) :: .lst (fs.map fT)::L) (by simp_arith) (w7 (by omega));have s3:=qw (x:=.lst (st.map pT)) (L:=.lst (kp.map fT) :: .lst (fs.map fT)::L) rfl (Lq hs)
  rw [Ls] at s1;rw [hQ] at s2;rw [hS2] at s3;simp_arith [s1,s2,s3];exact dS (L:=.lst (fs.map fT)::L) (by rw [lt,cf,cf,cf,cf,cf,bY aZ,bY aZ,bY fh];rfl)
 obtain⟨kp,k1,k2,k3⟩:=main;obtain⟨Q,q1,q2⟩:=wb kp;refine n9 ?_;clear n9;exact⟨P,Q,S,Dh,q1.nodup_iff.mpr k1,fun f=>(q1.mem_iff).trans (k2 f),hS1,Ls,hS2,k3 Q q2⟩
theorem Lx (st:ba) (n:Cs) (L:aa):dD [.str n,bL st] L=.ok (.str (ah st n)) L:=by
 unfold dD;simp only [lh,UA,U8,X7,if_true,ku,UG,Vz,Wr,Vt,ZE,Va,zS];rw [nY (n:=n) (.inl rfl) rfl rfl];simp_arith
theorem AW (st:ba) (sm:lH st) (k:Lk) (h1:dG k.l) (h2:dG k.r) (L:aa):eF [nV k,bL st] L=.ok (.bl (dR st k)) L:=by
 unfold eF dR jk;have a1:=sm.ah h1
 have a2:=sm.ah h2;simp_arith [Lx];cases hs:k.same with
 | true =>
  simp_arith [show(Bk.fA true == S "same")=true by decide +kernel];rw [show(ah st k.l == ah st k.r)=decide (ah st k.l=ah st k.r) by by_cases h:ah st k.l=ah st k.r <;> simp [h]]
 | false =>
  simp_arith [show(Bk.fA false == S "same")=false by decide +kernel,oL (fV a1).1,oL (fV a2).1,show S "N"=[78] from rfl];rw [a1.2,a2.2,show(ah st k.l == ah st k.r)=decide (ah st k.l=ah st k.r) by by_cases h:ah st k.l=ah st k.r <;> simp [h]];have e:∀x:Nat,(x == 78)=decide (x=78):=fun x=>by by_cases h:x=78 <;> simp [h]
  rw [e,e];cases decide ((ah st k.l).headD 0=78) <;> cases decide ((ah st k.r).headD 0=78) <;> exact fin_same rfl
theorem Dl {α β:Type} (p:α->Bool) (q:β->Bool) (a:List α) (b:List β):decide ((0:Int)<((a.filter p).length:Int)+((b.filter q).length:Int))=(a.any p || b.any q):=by
 have k:∀{γ:Type} (p:γ->Bool) (a:List γ),a.any p=decide (0<(a.filter p).length):=fun p a=>by
  induction a with
  | nil=>rfl
  | cons x a ih=>rw [List.any_cons,ih,List.filter_cons];cases p x <;> simp
 rw [k,k,<- Bool.decide_or];congr 1;simp only [eq_iff_iff];omega
theorem Dm (ks:List Kd) (hk:ks.length<=1000) (r:Rl) (st:ba) (sm:lH st) (hn:∀k∈r.aj,dG k.l/\dG k.r) (ha:∀f∈r.take++r.keep++r.put,f.as.length<=4) (pB:r.take.length<=4/\r.keep.length<=4/\r.aj.length<=4/\r.put.length<=4/\r.tell.length<=4) (bp bl:List Fc) (s0:ba) (L:aa) :
  cu [.lst (ks.map kT),aR bp bl s0,xT r,bL st] L=.ok (.bl (d8 ks st r bp bl false)) L:=by
 have C3:((ks.filter (·.l)).map fun k=>T.str k.n)=(aq ks).map T.str:=by simp [aq]
 unfold cu aR;simp_arith;rw [cZ rfl ks kT (·.l) (fun k=>.str k.n) (by exact rfl) (by exact sv) (by unfold lim;omega) (by exact fun b _=>by simp_arith) (by exact fun b _ _=>by simp_arith)];simp_arith [C3];rw [bc rfl (r.take++r.keep) fT (fun f=>fT (wr st f)) (k:=stays (.lst ((r.take++r.keep).map fT)) L) (by simp_all_arith [<- UL]) (by exact ak) (by simp;unfold lim;omega) (by exact fun f hf=>by simp_arith;exact Hv (.inl rfl) f (by have:=ha f (UD _ hf);omega))];rw [show((r.take++r.keep).map fun f=>fT (wr st f))=(av st r).map fT by unfold av;rw [UZ];rfl];simp_arith;unfold d8 fS;generalize Up:av st r=hs;generalize ho:forL _ _ _ _ _ _=o;have h:=c7 ho hs fT (fun q φ L'=>∃o5,q.all (cO ks bp bl hs)=hs.all (cO ks bp bl hs)/\φ=[some (.lst (ks.map kT)),some (.tup [.tup (bp.map fT),.tup (bl.map fT),.tup (s0.map pT),.bl false]),some (xT r),some (bL st),some (.lst ((aq ks).map .str)),o5,some (.lst (hs.map fT)),none,none]/\L'=L)
  (fun o=>(hs.all (cO ks bp bl hs)=false/\o=.rt (.bl false) L)\/(hs.all (cO ks bp bl hs)=true/\∃o5,o=.nx [some (.lst (ks.map kT)),some (.tup [.tup (bp.map fT),.tup (bl.map fT),.tup (s0.map pT),.bl false]),some (xT r),some (bL st),some (.lst ((aq ks).map .str)),o5,some (.lst (hs.map fT)),none,none] L)) rfl ⟨none,rfl,rfl,rfl⟩ (fun _ _ eJ eP f q φ L' hh=>by
   obtain⟨o5,e1,rfl,rfl⟩:=hh;refine⟨sv,_,rfl,?_⟩;rw [Vl] at e1;simp_arith [eJ,eP];by_cases hm:f.k∈aq ks
   ·have hb:cO ks bp bl hs f=decide (f∈bl):=by unfold cO;rw [if_pos hm]
    rw [hb] at e1;by_cases hi:f∈bl
    ·simp_arith [eJ,eP,hm,hi,decide_true]
     rw [decide_eq_true hi,Xw] at e1;exact⟨_,e1,rfl,by trivial⟩
    ·simp_arith [eJ,eP,hm,hi,decide_false,decide_true]
     rw [decide_eq_false hi,W9] at e1;exact .inl ⟨e1.symm,by trivial⟩
   ·have hb:cO ks bp bl hs f=decide (hs.countP (fun a=>decide (a=f))<=bp.countP fun a=>decide (a=f)):=by unfold cO;rw [if_neg hm]
    rw [hb] at e1;simp_arith [eJ,eP,hm,decide_false,Lu,Lv];by_cases hi:hs.countP (fun a=>decide (a=f))<=bp.countP fun a=>decide (a=f)
    ·rw [decide_eq_true hi,Xw] at e1
     rw [decide_eq_false (show ¬ (((bp.countP fun a=>decide (a=f):Nat)):Int)<((hs.countP fun a=>decide (a=f):Nat):Int) by omega)];simp_arith [eJ,eP];exact⟨_,e1,rfl,by trivial⟩
    ·rw [decide_eq_false hi,W9] at e1
     rw [decide_eq_true (show(((bp.countP fun a=>decide (a=f):Nat)):Int)<((hs.countP fun a=>decide (a=f):Nat):Int) by omega)];simp_arith [eJ,eP];exact .inl ⟨e1.symm,by trivial⟩)
  fun φ L' hh=>by
   obtain⟨o5,e1,rfl,rfl⟩:=hh;exact⟨sv,.inr ⟨e1.symm,_,rfl⟩⟩
 rcases h with⟨e,rfl⟩|⟨e,o5,rfl⟩
 ·rw [e]
  simp_arith
 ·rw [e]
  simp_arith;generalize ho:forL _ _ _ _ _ _=o;have h:=c7 ho r.aj nV (fun q φ L'=>(∀k∈q,k∈r.aj)/\q.all (dR st)=r.aj.all (dR st)/\(∃o7,φ=[some (.lst (ks.map kT)),some (.tup [.tup (bp.map fT),.tup (bl.map fT),.tup (s0.map pT),.bl false]),some (xT r),some (bL st),some (.lst ((aq ks).map .str)),o5,some (.lst (hs.map fT)),o7,none])/\L'=L)
   (fun o=>(r.aj.all (dR st)=false/\o=.rt (.bl false) L)\/(r.aj.all (dR st)=true/\∃o7,o=.nx [some (.lst (ks.map kT)),some (.tup [.tup (bp.map fT),.tup (bl.map fT),.tup (s0.map pT),.bl false]),some (xT r),some (bL st),some (.lst ((aq ks).map .str)),o5,some (.lst (hs.map fT)),o7,none] L)) rfl ⟨fun _ h=>h,rfl,⟨none,rfl⟩,rfl⟩ (fun _ _ eJ eP k q φ L' hh=>by
    obtain⟨hq,e1,⟨o7,rfl⟩,rfl⟩:=hh;refine⟨sv,_,rfl,?_⟩;rw [Vl] at e1;obtain⟨q1,q2⟩:=hn k (hq k (by simp));simp_arith [eJ,eP,AW st sm k q1 q2];cases hb:dR st k with
    | true =>
     rw [hb,Xw] at e1;simp_arith [eJ,eP];exact⟨fun j hj=>hq j (by simp [hj]),e1,⟨_,rfl⟩,by trivial⟩
    | false =>
     rw [hb,W9] at e1;simp_arith [eJ,eP];exact .inl ⟨e1.symm,by trivial⟩)
   fun φ L' hh=>by
    obtain⟨_,e1,⟨o7,rfl⟩,rfl⟩:=hh;exact⟨sv,.inr ⟨e1.symm,_,rfl⟩⟩
  rcases h with⟨e2,rfl⟩|⟨e2,o7,rfl⟩
  ·rw [e2]
   simp_arith
  ·rw [e2]
   simp_arith;by_cases ht:r.take=[]
   ·simp_arith [show decide ((0:Int)<(r.take.length:Int))=false by rw [ht];rfl,decide_eq_true ht]
    generalize hc:comp _ _ _ _ _ _ _ _=r';obtain rfl:=cZ hc r.put fT (fun f=>!decide (wr st f∈bl)) fT rfl sv (by unfold lim;omega) (fun f hf=>by
     simp_arith [Hv (x:=bL st) (.inl rfl) f (by have:=ha f (UK _ hf);omega)]) fun f _ _=>by simp_arith
    simp_arith;generalize hc:comp _ _ _ _ _ _ _ _=r';obtain rfl:=cZ hc r.tell pT (fun p=>!decide (ah st p.1=ah st p.2)) pT rfl sv (by unfold lim;omega) (fun p hp=>by
     simp_arith [Lx];rw [show(ah st p.1 == ah st p.2)=decide (ah st p.1=ah st p.2) by by_cases h:ah st p.1=ah st p.2 <;> simp [h]]) fun p _ _=>by simp_arith
    have q:∀(p:Fc->Bool) (q:Cs × Cs->Bool),((r.put.filter p).map fT++(r.tell.filter q).map pT).length<=lim:=fun p q=>by
     simp only [Ut,Lm9];exact UW (Nat.add_le_add (WQ _ _) (WQ _ _)) (by unfold lim;omega)
    simp_arith [ax (q _ _)];simp only [Ut,Lm9,Int.natCast_add,Dl,Bool.false_or];rfl
   ·simp_arith [show decide ((0:Int)<(r.take.length:Int))=true by rw [decide_eq_true_eq];have:=XT.mpr ht;omega,decide_eq_false ht]
    rw [Bool.true_or]
theorem Dp (bk rl sp:T) (L:aa):bA [bk,rl,bS,sp] L=.ok bS L:=by
 unfold bA bS;simp_arith;exact fin_same rfl
theorem AX (bk rl x:T) (P Q:List Fc) (S:ba) (r:Rl) (i:Nat) (vs:List Cs) (b:Bool) (hS:(S.map (·.1)).Nodup) (hl:S.length<=100) (hv:vs.length<=100) (hx:∀L,ix rl (.int (i:Nat)) L=.ok (xT r) L)
  (hf:∀L,fk [bk,aR P Q S,stepT i (vs.map (ah S))] L=.ok (.bl b) L) (L:aa) (ha:b=true->dI [bk,aR P Q S,stepT i (vs.map (ah S))] (bL S::L)=.ok x (bL S::L)) (bJ:lt L.length x=true) :
  bA [bk,rl,aR P Q S,stepT i vs] L=.ok (if b=true then x else if r.take=[] then aR P Q S else .bZ) L:=by
 have hd:jt [.tup (S.map pT)] L=.ok (.ref L.length) (bL S::L):=qj (g:=fun p:Cs × Cs=>p.1) (h:=fun p=>.str p.2) S hS (by omega) L;have lL:kU (bL S::L) (.ref L.length) S:=.inr ⟨_,rfl,dC⟩
 have hp:lt L.length (aR P Q S)=true:=by unfold aR;rw [lt,cf,cf,cf,cf,cf,bY aZ,bY aZ,bY fh];rfl
 unfold bA;unfold aR stepT at *
 simp_arith [hd];generalize hc:comp _ _ _ _ _ _ _ _=r';obtain rfl:=bc hc vs T.str (fun n=>.str (ah S n)) rfl sv (by unfold lim;omega) (fun n _=>by
  rw [nY (n:=n) lL rfl (by simp_arith)])
 rw [show(vs.map fun n=>T.str (ah S n))=(vs.map (ah S)).map .str by rw [UZ];rfl];simp_arith [hf];cases b with
 | true =>
  simp_arith [ha rfl];exact dS bJ
 | false =>
  simp_arith [hx];by_cases ht:r.take=[]
  ·simp_arith [show decide ((0:Int)<(r.take.length:Int))=false by rw [ht];rfl]
   rw [if_pos ht];exact dS hp
  ·simp_arith [show decide ((0:Int)<(r.take.length:Int))=true by rw [decide_eq_true_eq];have:=XT.mpr ht;omega]
   rw [if_neg ht];exact dS rfl
theorem AY {ns vs:List Cs} {g:Cs->Cs} (hl:vs.length=ns.length) {a:Cs} (h:a∉ns->g a=a):ah (ns.zip (vs.map g)) a=g (ah (ns.zip vs) a):=by
 induction ns generalizing vs with
 | nil=>simpa [ah,j5] using (h (by simp)).symm
 | cons n ns ih =>
  cases vs with
  | nil=>simp at hl
  | cons v vs =>
   unfold ah j5 at ih ⊢;rw [UG,VP,VP,VU,VU];by_cases e:n=a
   ·rw [decide_eq_true (show(n,g v).1=a from e)];rfl
   ·rw [decide_eq_false (show ¬ (n,g v).1=a from e)]
    exact ih (by simpa using hl) fun z=>h (by simp [z,V0 e])
structure Rv (ks:List Kd) (K:List Cs) (r:Rl) (vs:List Cs):Prop where
 hv:vs.length=(opens (r.take++r.keep)).length
 AZ:vs.length<=100
 kv:∀v∈vs,Kn K v/\dG v
 nh:∀f∈r.take++r.keep,∀a∈f.as,dG a/\(a∈opens (r.take++r.keep)\/great a=false)
 np:∀f∈r.put,∀a∈f.as,dG a/\(a∈opens (r.take++r.keep)\/great a=false)
 nl:∀k∈r.aj,(dG k.l/\(k.l∈opens (r.take++r.keep)\/great k.l=false))/\dG k.r/\(k.r∈opens (r.take++r.keep)\/great k.r=false)
 nt:∀p∈r.tell,(dG p.1/\(p.1∈opens (r.take++r.keep)\/great p.1=false))/\dG p.2/\(p.2∈opens (r.take++r.keep)\/great p.2=false)
 pB:r.take.length<=4/\r.keep.length<=4/\r.aj.length<=4/\r.put.length<=4/\r.tell.length<=4
 ff:∀f∈r.take++r.keep++r.put,aK ks f/\f.as.length<=4
 tl:∀f∈r.take,f.k∉aq ks
 cl:r.take=[]->∀f∈r.put,f.k∈aq ks
section
variable {ks:List Kd} {K:List Cs} {r:Rl} {vs:List Cs}
theorem Rv.ah (h:Rv ks K r vs) {a:Cs} (ha:dG a/\(a∈opens (r.take++r.keep)\/great a=false)):Kn K (Bk.ah (ai r vs) a)/\dG (Bk.ah (ai r vs) a):=by
 rcases lx (st:=ai r vs) (x:=a) with⟨v,_,h2,h3⟩|⟨_,h2,h3⟩
 ·rw [h3]
  exact h.kv v (Xl h2).2
 ·rw [h3]
  rw [Bk.kH h.hv] at h2;exact⟨fun g=>(by rw [ha.2.resolve_left h2] at g;cases g),ha.1⟩
theorem Rv.turn (h:Rv ks K r vs) {g:Cs->Cs} (sd:qI g) {a:Cs} (ha:dG a/\(a∈opens (r.take++r.keep)\/great a=false)):Bk.ah (ai r (vs.map g)) a=g (Bk.ah (ai r vs) a) :=
 AY h.hv fun z=>sd.wd (ha.2.resolve_left z)
theorem Rv.wr (h:Rv ks K r vs) {g:Cs->Cs} (sd:qI g) {f:Fc} (hf:∀a∈f.as,dG a/\(a∈opens (r.take++r.keep)\/great a=false)):Bk.wr (ai r (vs.map g)) f=wf g (Bk.wr (ai r vs) f):=by
 unfold Bk.wr wf;simp only [UZ];congr 1;exact Vb fun a ha=>h.turn sd (hf a ha)
theorem Rv.rv (h:Rv ks K r vs) {S:ba} (s:Sk K S) (sm:lH S):Rv ks K r (vs.map (Bk.ah S)) :=
 ⟨by rw [Lm9];exact h.hv,by rw [Lm9];exact h.AZ,fun v hv=>by
  obtain⟨u,hu,rfl⟩:=Uz.mp hv;exact⟨s.rep (h.kv u hu).1,sm.ah (h.kv u hu).2⟩,h.nh,h.np,h.nl,h.nt,h.pB,h.ff,h.tl,h.cl⟩
theorem Rv.sm (h:Rv ks K r vs):lH (ai r vs):=fun e he=>by
 have e1:e.1∈opens (r.take++r.keep):=by rw [<- Bk.kH h.hv];exact UP he
 obtain⟨⟨g,hg,hx⟩,_⟩:=Bk.jM e1;exact⟨(h.nh g hg _ hx).1,(h.kv _ (Bk.CU (UP he))).2⟩
theorem Dq {p:Fc->Bool} {g:Fc->Fc} {y:Fc} (l:List Fc) (h:∀x∈l,g x=y->p x=true):(l.map g).countP (fun a=>decide (a=y))=((l.filter p).map g).countP fun a=>decide (a=y):=by
 rw [Z3,Z3,List.countP_filter];refine List.countP_congr fun x hx=>?_
 simp only [Function.comp_apply,UC,decide_eq_true_eq];exact⟨fun e=>⟨e,h x hx e⟩,fun e=>e.1⟩
theorem uP (h:Rv ks K r vs) {g:Cs->Cs} (sd:qI g):av (ai r (vs.map g)) r=(av (ai r vs) r).map (wf g):=by
 unfold av;rw [UZ];exact Vb fun f hf=>h.wr sd (h.nh f hf)
theorem xk (h:Rv ks K r vs) {τ:Cs->Cs} {m5 lG P Q E:List Fc} {S:ba} (pl:Pl K τ m5 lG P Q S) (hl:r.aj.all (dR (ai r vs))=true) (hq:∀f∈av (ai r vs) r,f.k∈aq ks->f∈lG) (hb:m5.Perm ((av (ai r vs) r).filter (fun f=>!decide (f.k∈aq ks))++E)) :
  r.aj.all (dR (ai r (vs.map τ)))=true/\fS ks (ai r (vs.map τ)) r P Q=true:=by
 constructor
 ·rw [Uu] at hl ⊢
  intro k hk;have z:=hl k hk
  obtain⟨n1,n2⟩:=h.nl k hk;unfold dR jk at z ⊢;rw [h.turn pl.sd n1,h.turn pl.sd n2];split
  ·rename_i e
   rw [if_pos e] at z;rw [of_decide_eq_true z];simp
  ·rename_i e
   rw [if_neg e] at z;simp only [UC,Zp] at z;rw [pl.sd.wd z.1,pl.sd.wd z.2.1];simpa using z
 ·unfold fS
  rw [uP h pl.sd,Uu];intro y hy;obtain⟨f,hf,rfl⟩:=Uz.mp hy;unfold cO;split
  ·rename_i e
   exact decide_eq_true ((pl.q _).mpr (UP (hq f hf e)))
  ·rename_i e
   rw [decide_eq_true_eq,pl.p.countP_eq,(hb.map _).countP_eq,UL,List.countP_append,Dq (p:=fun f=>!decide (f.k∈aq ks)) (av (ai r vs) r) fun x _ q=>?_]
   ·exact XR _ _
   ·have:x.k=f.k:=by
     have:=congrArg Fc.k q;exact this
    rw [this];simpa using (show ¬ f.k∈aq ks from e)
noncomputable def tk (r:Rl) (vs:List Cs):List Fc:=r.take.map (Bk.wr (ai r vs))
noncomputable def pu (r:Rl) (vs:List Cs):List Fc:=r.put.map (Bk.wr (ai r vs))
noncomputable def te (r:Rl) (vs:List Cs):List (Cs × Cs):=r.tell.map (CV (ai r vs))
end
section
variable {ks:List Kd} {K:List Cs} {r:Rl} {vs:List Cs}
theorem Rv.kt (h:Rv ks K r vs):∀p∈te r vs,(Kn K p.1/\Kn K p.2)/\dG p.1/\dG p.2:=fun p hp=>by
 obtain⟨q,hq,rfl⟩:=Uz.mp hp;obtain⟨a,b⟩:=h.nt q hq;exact⟨⟨(h.ah a).1,(h.ah b).1⟩,(h.ah a).2,(h.ah b).2⟩
theorem Rv.kp (h:Rv ks K r vs):∀f∈pu r vs,∀a∈f.as,Kn K a/\dG a:=fun f hf a ha=>by
 obtain⟨g,hg,rfl⟩:=Uz.mp hf;obtain⟨b,hb,rfl⟩:=Uz.mp ha;exact h.ah (h.np g hg b hb)
theorem qA {st:ba} {f:Fc} (h:aK ks f/\f.as.length<=4):aK ks (wr st f)/\(wr st f).as.length<=4:=by
 obtain⟨⟨k,h1,h2,h3⟩,h4⟩:=h;exact⟨⟨k,h1,h2,by simpa [wr] using h3⟩,by simpa [wr] using h4⟩
theorem wi (h:Rv ks K r vs) {g:Cs->Cs} (sd:qI g):te r (vs.map g)=(te r vs).map fun p=>(g p.1,g p.2):=by
 unfold te;rw [UZ];refine Vb fun p hp=>?_
 obtain⟨a,b⟩:=h.nt p hp;show(_,_)=(_,_)
 rw [h.turn sd a,h.turn sd b];rfl
theorem wj (h:Rv ks K r vs) {g:Cs->Cs} (sd:qI g):tk r (vs.map g)=(tk r vs).map (wf g):=by
 unfold tk;rw [UZ];exact Vb fun f hf=>h.wr sd (h.nh f (UD _ hf))
theorem wm (h:Rv ks K r vs) {g:Cs->Cs} (sd:qI g):pu r (vs.map g)=(pu r vs).map (wf g):=by
 unfold pu;rw [UZ];exact Vb fun f hf=>h.wr sd (h.np f hf)
structure Rm (ks:List Kd) (P Q:List Fc) (S:ba) (n:Nat):Prop where
 nd:(ks.map (·.n)).Nodup
 kl:ks.length<=100
 sm:lH S
 sl:S.length<=10
 pl:P.length<=n
 ql:Q.length<=n
 a4:∀f∈P++Q,f.as.length<=4
theorem Rv.mv (h:Rv ks K r vs) {P Q:List Fc} {S:ba} {n:Nat} (hn:n<=40) (m:Rm ks P Q S n) (nd:(S.map (·.1)).Nodup) (hc:∀f,((tk r vs).map (Bk.wr S)).count f<=P.count f):Mv ks P Q S (tk r vs) (pu r vs) (te r vs):=by
 obtain⟨f1,f2,f3,f4,f5⟩:=h.pB;have m1:=m.pl
 have m2:=m.ql;have l1:(tk r vs).length=r.take.length:=by simp [tk]
 have l2:(pu r vs).length=r.put.length:=by simp [pu]
 have l3:(te r vs).length=r.tell.length:=by simp [te]
 have ft:∀f∈tk r vs,aK ks f/\f.as.length<=4:=fun f hf=>by
  obtain⟨g,hg,rfl⟩:=Uz.mp hf;exact qA (h.ff g (UD _ (UD _ hg)))
 have fp:∀f∈pu r vs,aK ks f/\f.as.length<=4:=fun f hf=>by
  obtain⟨g,hg,rfl⟩:=Uz.mp hf;exact qA (h.ff g (UK _ hg))
 refine⟨m.nd,m.kl,fun f hf=>(ft f hf).1,fun f hf=>(fp f hf).1,fun f hf=>?_,nd,m.sm,m.sl,by omega,by omega,by omega,by omega,by omega,fun f hf=>?_,fun f hf a ha=>(h.kp f hf a ha).2,fun p hp=>(h.kt p hp).2,hc⟩
 ·obtain⟨g,hg,rfl⟩:=Uz.mp hf
  exact h.tl g hg
 ·rcases UH.mp hf with h|h
  ·exact m.a4 f h
  ·rcases UH.mp h with h|h
   ·exact(ft f h).2
   ·exact(fp f h).2
end
theorem HP {ks:List Kd} {bp bl ts fs:List Fc} {st:ba} {br:List (Cs × Cs)} {x:T} (n:Nat) (h:i8 ks bp bl st ts fs br x):lt n x=true:=by
 rcases h with⟨_,rfl⟩|⟨bD,left,P,Q,S,_,_,_,_,_,_,_,_,_,rfl⟩
 ·rfl
 ·unfold aR;rw [lt,cf,cf,cf,cf,cf,bY aZ,bY aZ,bY fh];rfl
theorem half {ks:List Kd} {K:List Cs} {r1 r2:Rl} {v1 v2:List Cs} {P Q E C:List Fc} {S:ba} {i:Nat} {bk rl x1:T} (V1:Rv ks K r1 v1) (V2:Rv ks K r2 v2) (s:Sk K S) (ro:ah S=id) (m:Rm ks P Q S 24) (hr:i8 ks P Q S (tk r1 v1) (pu r1 v1) (te r1 v1) x1)
  (hp:P.Perm (tk r1 v1++((av (ai r2 v2) r2).filter (fun f=>!decide (f.k∈aq ks))++E))) (hc:((av (ai r2 v2) r2).filter (fun f=>!decide (f.k∈aq ks))++E).Perm (tk r2 v2++C))
  (hl:r2.aj.all (dR (ai r2 v2))=true) (hq:∀f∈av (ai r2 v2) r2,f.k∈aq ks->f∈Q)
  (hx:∀L,ix rl (.int (i:Nat)) L=.ok (xT r2) L)
  (qf:∀vs,Rv ks K r2 vs->∀bp bl st L,fk [bk,aR bp bl st,stepT i vs] L=.ok (.bl (d8 ks (ai r2 vs) r2 bp bl false)) L)
  (qa:∀vs,Rv ks K r2 vs->∀bp bl st,Mv ks bp bl st (tk r2 vs) (pu r2 vs) (te r2 vs)->d8 ks (ai r2 vs) r2 bp bl false=true->∀L,∃x,i8 ks bp bl st (tk r2 vs) (pu r2 vs) (te r2 vs) x/\dI [bk,aR bp bl st,stepT i vs] L=.ok x L) (L:aa) :
  ∃x,bA [bk,rl,x1,stepT i v2] L=.ok x L/\xj K (C++(g9 ks (pu r1 v1)++g9 ks (pu r2 v2))) (Q++(jY ks (pu r1 v1)++jY ks (pu r2 v2))) (te r1 v1++te r2 v2) x:=by
 have QB:∀f,wr S f=f:=fun f=>Bk.D5 fun a _=>by rw [ro];rfl
 have tid:(tk r1 v1).map (wr S)=tk r1 v1:=Bk.uy fun f _=>QB f
 rcases AU (rest:=(av (ai r2 v2) r2).filter (fun f=>!decide (f.k∈aq ks))++E) s (by rw [ro];exact HK) hr (fun f hf a ha=>(V1.kp f hf a ha).1) (fun p hp=>(V1.kt p hp).1) (fun f _=>QB f) (by rw [tid];exact hp) with⟨no,rfl⟩|⟨τ,P1,Q1,S1,ls,rfl,pl,Tx,len⟩
 ·refine⟨bS,Dp _ _ _ L,.inl ⟨fun σ h=>no σ ?_,rfl⟩⟩
  rw [ro];exact⟨h.1,h.2.1,fun p hp=>h.2.2 p (UD _ hp)⟩
 ·rw [ro] at ls
  have QC:=Tx m.sm fun p hp=>(V1.kt p hp).2
  have Tz:=pl.ro;subst Tz;have sd:=pl.sd
  have idem:∀x,ah S1 (ah S1 x)=ah S1 x:=sd.1;obtain⟨g1,g2⟩:=xk V2 pl hl (fun f hf hk=>UD _ (hq f hf hk)) (E:=E++g9 ks (pu r1 v1)) (by rw [UU]);have Io:=V2.rv pl.sk QC
  have fb:d8 ks (ai r2 (v2.map (ah S1))) r2 P1 Q1 false=(!decide (r2.take=[]) || gh (ai r2 (v2.map (ah S1))) r2 Q1):=by
   unfold d8;rw [g1,g2];simp
  have hb:P1.Perm (tk r2 (v2.map (ah S1))++(C++g9 ks (pu r1 v1)).map (wf (ah S1))):=by
   rw [wj V2 sd,<- UL,<- UU];exact pl.p.trans ((hc.append_right _).map _)
  have fixed:∀f∈P1++Q1,wr S1 f=f:=fun f hf=>by
   obtain⟨g,rfl⟩:∃g,f=wf (ah S1) g:=by
    rcases UH.mp hf with h|h
    ·obtain⟨g,_,e⟩:=Uz.mp (pl.p.mem_iff.mp h)
     exact⟨g,e.symm⟩
    ·obtain⟨g,_,e⟩:=Uz.mp ((pl.q f).mp h)
     exact⟨g,e.symm⟩
   exact nG idem g
  have Ly:(tk r2 (v2.map (ah S1))).map (wr S1)=tk r2 (v2.map (ah S1)):=by
   rw [wj V2 sd];exact AM idem _
  have QD:∀f∈pu r1 v1,f.as.length<=4:=fun f hf=>by
   obtain⟨g,hg,rfl⟩:=Uz.mp hf;exact(qA (V1.ff g (UK _ hg))).2
  have lp:(pu r1 v1).length<=4:=by simpa [pu] using V1.pB.2.2.2.1
  have m1:Rm ks P1 Q1 S1 28:=by
   refine⟨m.nd,m.kl,QC,by rw [len];exact m.sl,?_,?_,fun f hf=>?_⟩
   ·rw [pl.p.length_eq,Lm9,Ut]
    have h1:(g9 ks (pu r1 v1)).length<=4:=eS lp;have h2:=hp.length_eq
    rw [Ut] at h2;have:=m.pl
    omega
   ·have h1:(jY ks (pu r1 v1)).length<=4:=eS lp
    have h2:=m.ql;have h3:=Bk.iH Q1 ((Q++jY ks (pu r1 v1)).map (wf (ah S1))) fun f=>by
     by_cases h:f∈Q1
     ·have h1:=Z8.mp pl.qn f
      have h2:=Xh.mpr ((pl.q f).mp h);omega
     ·rw [List.count_eq_zero.mpr h];exact Vc _
    rw [Lm9,Ut] at h3;omega
   ·rcases UH.mp hf with h|h
    ·obtain⟨g,hg,rfl⟩:=Uz.mp (pl.p.mem_iff.mp h)
     have:g.as.length<=4:=by
      rcases UH.mp hg with z|z
      ·exact m.a4 g (UD _ (hp.mem_iff.mpr (UK _ z)))
      ·exact QD g (U5.mp z).1
     simpa [wf] using this
    ·obtain⟨g,hg,rfl⟩:=Uz.mp ((pl.q f).mp h)
     have:g.as.length<=4:=by
      rcases UH.mp hg with z|z
      ·exact m.a4 g (UK _ z)
      ·exact QD g (U5.mp z).1
     simpa [wf] using this
  cases hF:d8 ks (ai r2 (v2.map (ah S1))) r2 P1 Q1 false with
  | true =>
   have M:=Io.mv (by omega) m1 pl.sk.nd fun f=>by
    rw [Ly,hb.count_eq,VZ];exact XR _ _
   obtain⟨x,hR,ex⟩:=qa _ Io P1 Q1 S1 M hF (bL S1::L);have e:=AX bk rl x P1 Q1 S1 r2 i v2 true pl.sk.nd (by rw [len];have:=m.sl;omega) V2.AZ hx (fun L=>by rw [qf _ Io,hF]) L (fun _=>ex) (HP _ hR)
   rw [if_pos rfl] at e;refine⟨x,e,?_⟩;rcases AU pl.sk sd hR (fun f hf a ha=>(Io.kp f hf a ha).1) (fun p hp=>(Io.kt p hp).1) fixed (by rw [Ly];exact hb) with⟨no,rfl⟩|⟨τ,P2,Q2,S2,Mj,rfl,Dr,_,_⟩
   ·refine .inl ⟨fun σ h=>no σ ?_,rfl⟩
    rw [wi V2 sd];exact(qz ls).mpr h
   ·rw [wi V2 sd] at Mj
    have le:∀x,τ (ah S1 x)=τ x:=fun x=>Mj.1.2.1 _ _ (idem x)
    refine .inr ⟨τ,P2,Q2,S2,⟨(qz ls).mp Mj.1,fun σ h=>Mj.2 σ ((qz ls).mpr h)⟩,rfl,⟨Dr.sk,Dr.ro,Dr.sd,?_,Dr.rp,Dr.qn,fun f=>?_,Dr.rq,Dr.rs⟩⟩
    ·have:=Dr.p
     rw [wm V2 sd,AO,<- UL,AM le,UU] at this;exact this
    ·rw [Dr.q,wm V2 sd,AQ]
     simp only [Uz,UH];constructor
     ·rintro⟨g,hg|⟨g',hg',rfl⟩,rfl⟩
      ·obtain⟨g',hg',rfl⟩:=Uz.mp ((pl.q g).mp hg)
       refine⟨g',?_,(nG le g').symm⟩;rcases UH.mp hg' with z|z
       ·exact .inl z
       ·exact .inr (.inl z)
      ·exact⟨g',.inr (.inr hg'),(nG le g').symm⟩
     ·rintro⟨g,hg,rfl⟩
      rcases hg with z|z|z
      ·exact⟨wf (ah S1) g,.inl ((pl.q _).mpr (UP (UD _ z))),nG le g⟩
      ·exact⟨wf (ah S1) g,.inl ((pl.q _).mpr (UP (UK _ z))),nG le g⟩
      ·exact⟨wf (ah S1) g,.inr ⟨g,z,rfl⟩,nG le g⟩
  | false =>
   rw [fb] at hF;simp only [Yv,Bool.not_eq_false',decide_eq_true_eq] at hF;obtain⟨h0,qE⟩:=hF;have e:=AX bk rl .bZ P1 Q1 S1 r2 i v2 false pl.sk.nd (by rw [len];have:=m.sl;omega) V2.AZ hx (fun L=>by rw [qf _ Io,fb,h0,qE];rfl) L (fun z=>by cases z) rfl
   rw [if_neg (by simp),if_pos h0] at e;refine⟨_,e,.inr ⟨ah S1,P1,Q1,S1,?_,rfl,⟨pl.sk,rfl,sd,?_,pl.rp,pl.qn,fun f=>?_,pl.rq,pl.rs⟩⟩⟩;all_goals
    unfold gh at qE;rw [Yv,Yc,Yc] at qE
   ·refine⟨⟨sd,ls.1.2.1,fun p hp=>?_⟩,fun σ h=>ls.2 σ ⟨h.1,h.2.1,fun p hp=>h.2.2 p (UD _ hp)⟩⟩
    rcases UH.mp hp with z|z
    ·exact ls.1.2.2 p z
    ·obtain⟨q,hq,rfl⟩:=Uz.mp z
     have:=qE.2 q hq;obtain⟨n1,n2⟩:=V2.nt q hq;rw [V2.turn sd n1,V2.turn sd n2] at this;have this:ah S1 (ah (ai r2 v2) q.1)=ah S1 (ah (ai r2 v2) q.2):=by simpa using this
     exact this
   ·have t0:tk r2 v2=[]:=by unfold tk;rw [h0];rfl
    have b0:g9 ks (pu r2 v2)=[]:=by
     unfold g9;rw [ZV];intro f hf;obtain⟨g,hg,rfl⟩:=Uz.mp hf;have z:=V2.cl h0 g hg
     show ¬ (!decide (g.k∈aq ks))=true;simp [z]
    rw [b0,U2];rw [t0,Vt] at hc;exact pl.p.trans ((hc.append_right _).map _)
   ·rw [pl.q]
    simp only [Uz,UH];constructor
    ·rintro⟨g,hg,rfl⟩
     exact⟨g,hg.elim .inl fun z=>.inr (.inl z),rfl⟩
    ·rintro⟨g,hg,rfl⟩
     rcases hg with z|z|z
     ·exact⟨g,.inl z,rfl⟩
     ·exact⟨g,.inr z,rfl⟩
     ·obtain⟨g',hg',rfl⟩:=Uz.mp (U5.mp z).1
      have:=qE.1 g' hg';rw [V2.wr sd (V2.np g' hg')] at this;have hm:wf (ah S1) (wr (ai r2 v2) g')∈Q1:=by simpa using this
      obtain⟨a,ha,e⟩:=Uz.mp ((pl.q _).mp hm);exact⟨a,UH.mp ha,e⟩
theorem Lz (cs:List Int) (L:aa) (h:cs.length<=63):∃Ml:List Int,Ml.length<=12/\i9 true (.lst (cs.map .int)) (some 7) (some 19) L=.ok (.lst (Ml.map .int)) L:=by
 have e:cut (cs.map T.int) (some 7) (some 19)=(cut cs (some 7) (some 19)).map T.int:=by
  unfold cut;rw [Lm9,Wx,List.map_drop]
 have hl:(cut cs (some (7:Int)) (some 19)).length<=12:=by
  unfold cut clip;rw [Vj];simp only [];rw [if_neg (by decide),if_neg (by decide)];omega
 refine⟨cut cs (some 7) (some 19),hl,?_⟩;show fo true (cut (cs.map .int) (some 7) (some 19)) L=_
 rw [e,fo,ax (by rw [Lm9];unfold lim;omega)];rfl
def HQ (F1 F2 F3 F4 F5 F6 F7 F8 F9 Mm Ip Iq Ir Iu Iv:Fn):Fn:=run 1 17 (ab [asg (.many [1,2,3,4]) (ae F1 [v 0]),asg (.one 5) (ae F2 [ae F3 [v 0,c (.int 6)],lst true [c (.int 2),c (.int 4),c (.int 4),c (.int 4),c (.int 2),c (.int 4),c (.int 4),c (.int 4)]]),asg (.one 6) (ae F4 [ae F5 [v 1,v 4]]),asg (.one 7) (b2 (sl true (v 3) none (some (c (.int 1)))) (sl true (v 2) (some (c (.int 1))) none) (aX true .Add)),asg (.one 8) (ae F6 [b2 (v 4) (vi 5 0) ix,sl true (v 5) (some (c (.int 1))) (some (c (.int 4))),v 7]),asg (.one 9) (ae F6 [b2 (v 4) (vi 5 4) ix,sl true (v 5) (some (c (.int 5))) none,v 7]),asg (.one 10) (b2 (ae F7 [b2 (v 4) (vi 5 0) ix,v 8]) (ae F7 [b2 (v 4) (vi 5 4) ix,v 9]) (aX false .Add)),bQ (src (sl true (v 0) (some (c (.int 7))) (some (c (.int 19))))) (.one 11) (ab [fX (aM (aE) (v 10) [ae F8 [v 1,b2 (ae F2 [v 11,lst true [c (.int 1024)]]) (c (.int 0)) ix,v 7]])]),asg (.one 12) (ae F9 [v 1,v 10,ae Mm [v 2]]),asg (.one 13) (ae Ip [v 4,vi 5 0,v 8]),asg (.one 14) (ae Ip [v 4,vi 5 4,v 9]),iff (vz [d9 (tv (ae Iq [v 6,v 12,v 13])),d9 (tv (ae Iq [v 6,v 12,v 14]))]) (ab [ret (Bf [mc (ae Ir [v 1,v 12,b2 (v 4) (vi 5 0) ix,v 8]),mc (ae Ir [v 1,v 12,b2 (v 4) (vi 5 4) ix,v 9])])]) (ab []),asg (.one 15) (ae Iu [v 6,v 4,ae Iv [v 6,v 12,v 13],v 14]),asg (.one 16) (ae Iu [v 6,v 4,ae Iv [v 6,v 12,v 14],v 13]),ret (kq [b2 (v 15) (c .bZ) (cmp .IsNot),b2 (v 15) (v 16) (cmp .Eq)])])
theorem Ds:so=HQ dT aD bz dX dW bE aV aI cR dU cw fk cu bA dI:=rfl
section
variable {F1 F2 F3 F4 F5 F6 F7 F8 F9 Mm Ip Iq Ir Iu Iv:Fn}
theorem Dt (cs:List Int) (hc:cs.length<=63) (kl rl bk Iw Iy tu bD:T) (tx:Cs) (r1 r2:Rl) (n0 n1 n2 n3 w0 w1:Cs) (d0 d1 d2 d3 d4 d5 d6 d7:Nat) (A B:List Fc) (S0:List T) (good:Fc->Prop)
  (eb:∀L,F1 [.lst (cs.map .int)] L=.ok (.tup [kl,.lst [.str n0,.str n1,.str n2,.str n3],.lst [.str w0,.str w1],rl]) L)
  (LA:∀k,0<=k->∀L,F3 [.lst (cs.map .int),.int k] L=.ok (.int (cs.getD k.toNat 0)) L)
  (ed:∀L,F2 [.int (cs.getD 6 0),.lst [.int 2,.int 4,.int 4,.int 4,.int 2,.int 4,.int 4,.int 4]] L=.ok (.lst [.int (d0:Nat),.int (d1:Nat),.int (d2:Nat),.int (d3:Nat),.int (d4:Nat),.int (d5:Nat),.int (d6:Nat),.int (d7:Nat)]) L)
  (A0:∀L,F5 [kl,rl] L=.ok (.str tx) L) (A3:∀L,F4 [.str tx] L=.ok bk L) (IS:∀L,ix rl (.int (d0:Nat)) L=.ok (xT r1) L) (OY:∀L,ix rl (.int (d4:Nat)) L=.ok (xT r2) L)
  (e1:∀L,F6 [xT r1,.lst [.int (d1:Nat),.int (d2:Nat),.int (d3:Nat)],.lst [.str w0,.str n1,.str n2,.str n3]] L=.ok Iw L)
  (e2:∀L,F6 [xT r2,.lst [.int (d5:Nat),.int (d6:Nat),.int (d7:Nat)],.lst [.str w0,.str n1,.str n2,.str n3]] L=.ok Iy L)
  (q1:∀L,F7 [xT r1,Iw] L=.ok (.lst (A.map fT)) L) (q2:∀L,F7 [xT r2,Iy] L=.ok (.lst (B.map fT)) L) (hA:A.length<=4) (hB:B.length<=4)
  (OZ:∀c:Int,∃d:Nat,∀L,F2 [.int c,.lst [.int 1024]] L=.ok (.lst [.int (d:Nat)]) L)
  (HR:∀n:Int,∃f,good f/\∀L,F8 [kl,.int n,.lst [.str w0,.str n1,.str n2,.str n3]] L=.ok (fT f) L)
  (LB:∀L,Mm [.lst [.str n0,.str n1,.str n2,.str n3]] L=.ok (.lst S0) L)
  (s1:∀L,Ip [rl,.int (d0:Nat),Iw] L=.ok tu L) (s2:∀L,Ip [rl,.int (d4:Nat),Iy] L=.ok bD L)
  (rest:∀(D:List Fc) (L:aa),D.length<=12->(∀f∈D,good f)->∃(pl:T) (b1 b2:Bool),F9 [kl,.ref L.length,.lst S0] (.lst ((A++B++D).map fT)::L)=.ok pl (.lst ((A++B++D).map fT)::L)/\(∀L,Iq [bk,pl,tu] L=.ok (.bl b1) L)/\(∀L,Iq [bk,pl,bD] L=.ok (.bl b2) L)/\(∀L,Ir [kl,pl,xT r1,Iw] L=.ok (.bl b1) L)/\(∀L,Ir [kl,pl,xT r2,Iy] L=.ok (.bl b2) L) /\
   (b1=true->b2=true->∀L,∃x1 x2 x,Iv [bk,pl,tu] L=.ok x1 L/\Iu [bk,rl,x1,bD] L=.ok x L/\Iv [bk,pl,bD] L=.ok x2 L/\Iu [bk,rl,x2,tu] L=.ok x L/\Dv x=false/\(∀L,Ep x x L=.ok true L))) (L:aa) :
  HQ F1 F2 F3 F4 F5 F6 F7 F8 F9 Mm Ip Iq Ir Iu Iv [.lst (cs.map .int)] L=.ok (.bl true) L:=by
 have TC:∀L,i9 true (.lst [.str w0,.str w1]) none (some 1) L=.ok (.lst [.str w0]) L:=fun L=>rfl
 have TF:∀L,i9 true (.lst [.str n0,.str n1,.str n2,.str n3]) (some 1) none L=.ok (.lst [.str n1,.str n2,.str n3]) L:=fun L=>rfl
 have TG:∀L,i9 true (.lst [.int (d0:Nat),.int (d1:Nat),.int (d2:Nat),.int (d3:Nat),.int (d4:Nat),.int (d5:Nat),.int (d6:Nat),.int (d7:Nat)]) (some 1) (some 4) L=.ok (.lst [.int (d1:Nat),.int (d2:Nat),.int (d3:Nat)]) L:=fun L=>rfl
 have TH:∀L,i9 true (.lst [.int (d0:Nat),.int (d1:Nat),.int (d2:Nat),.int (d3:Nat),.int (d4:Nat),.int (d5:Nat),.int (d6:Nat),.int (d7:Nat)]) (some 5) none L=.ok (.lst [.int (d5:Nat),.int (d6:Nat),.int (d7:Nat)]) L:=fun L=>rfl
 unfold HQ;simp_arith [eb,LA 6 (by decide),ed,A0,A3,TC,TF,TG,TH,IS,OY,e1,e2,q1,q2,ax (show 8<=lim by decide),ax (show 4<=lim by decide),<- UL,ax (show(A++B).length<=lim by rw [Ut];unfold lim;omega)];obtain⟨Ml,O3,O4⟩:=Lz cs (.lst ((A++B).map fT)::L) hc;simp_arith [O4];generalize ho:forL _ _ _ _ _ _=o;have h:=c7 ho Ml T.int (fun q φ L'=>∃(D:List Fc) (HS:Option T),D.length+q.length<=12/\(∀f∈D,good f)/\φ=[some (.lst (cs.map .int)),some kl,some (.lst [.str n0,.str n1,.str n2,.str n3]),some (.lst [.str w0,.str w1]),some rl,some (.lst [.int (d0:Nat),.int (d1:Nat),.int (d2:Nat),.int (d3:Nat),.int (d4:Nat),.int (d5:Nat),.int (d6:Nat),.int (d7:Nat)]),some bk,some (.lst [.str w0,.str n1,.str n2,.str n3]),some Iw,some Iy,some (.ref L.length),HS,none,none,none,none,none]/\L'=.lst ((A++B++D).map fT)::L)
  (fun o=>∃(D:List Fc) (HS:Option T),D.length<=12/\(∀f∈D,good f)/\o=.nx [some (.lst (cs.map .int)),some kl,some (.lst [.str n0,.str n1,.str n2,.str n3]),some (.lst [.str w0,.str w1]),some rl,some (.lst [.int (d0:Nat),.int (d1:Nat),.int (d2:Nat),.int (d3:Nat),.int (d4:Nat),.int (d5:Nat),.int (d6:Nat),.int (d7:Nat)]),some bk,some (.lst [.str w0,.str n1,.str n2,.str n3]),some Iw,some Iy,some (.ref L.length),HS,none,none,none,none,none] (.lst ((A++B++D).map fT)::L)) rfl ⟨[],none,by simpa using O3,by simp,rfl,by simp⟩ (fun _ _ eJ eP x q φ L' hh=>by
   obtain⟨D,HS,z1,hg,rfl,rfl⟩:=hh;refine⟨sv,_,rfl,?_⟩;obtain⟨d,hd⟩:=OZ x;obtain⟨f,hf,ef⟩:=HR (d:Nat);simp only [UA] at z1;simp_arith [eJ,eP,hd,ef,ax (show(A++B++D).length<lim by rw [Ut,Ut];unfold lim;omega),bo];refine⟨D++[f],_,by simp;omega,fun g TJ=>?_,rfl,by simp⟩;rcases UH.mp TJ with h|h
   ·exact hg g h
   ·rw [UY.mp h];exact hf)
  fun φ L' hh=>by
   obtain⟨D,HS,z1,hg,rfl,rfl⟩:=hh;exact⟨sv,D,HS,by simpa using z1,hg,rfl⟩
 obtain⟨D,HS,hD,O5,rfl⟩:=h;obtain⟨pl,b1,b2,p1,p2,p3,p4,p5,p6⟩:=rest D L hD O5;have O6:∀(b:Bool) (x:T),fin L (.bl b) (x::L)=.ok (.bl b) L:=fun b x=>dS rfl
 simp_arith [LB,p1,s1,s2,p2,p3];cases b1 with
 | false =>
  simp_arith [IS,OY,p4,p5];exact O6 true _
 | true=>cases b2 with
  | false =>
   simp_arith [IS,OY,p4,p5];exact O6 true _
  | true =>
   obtain⟨x1,x2,x,y1,y2,y3,y4,y5,y6⟩:=p6 rfl rfl (.lst ((A++B++D).map fT)::L);simp_arith [y1,y2,y3,y4,y6];show fin L (if (!Dv x)=true then .bl true else .bl false) _=_
   rw [y5];exact O6 true _
end
theorem QE {ks:List Kd} {k:Kd} (hk:k∈ks):k.n∈aq ks\/k.n∈(ks.filter fun k=>!k.l).map (·.n):=by
 cases h:k.l with
 | true=>exact .inl (Uz.mpr ⟨k,U5.mpr ⟨hk,h⟩,rfl⟩)
 | false=>exact .inr (Uz.mpr ⟨k,U5.mpr ⟨hk,by simp [h]⟩,rfl⟩)
theorem HT {ks:List Kd} (nd:(ks.map (·.n)).Nodup) {n:Cs} (h1:n∈aq ks) (h2:n∈(ks.filter fun k=>!k.l).map (·.n)):False:=by
 obtain⟨j,hj,e1⟩:=Uz.mp h1;obtain⟨k,hk,e2⟩:=Uz.mp h2;obtain⟨j1,j2⟩:=U5.mp hj;obtain⟨k1,k2⟩:=U5.mp hk;have:=Bk.jj nd j1 k1 (e1.trans e2.symm)
 subst this;rw [j2] at k2;cases k2
theorem lF.ff {ks tR:List Kd} {ns:List Cs} {f:Fc} (hs:∀k∈tR,k∈ks) (h:lF tR ns f):aK ks f:=by
 obtain⟨⟨k,hk,e1,e2⟩,_⟩:=h;exact⟨k,hs k hk,e1.symm,e2⟩
theorem QF {ks:List Kd} {st:ba} {f:Fc} (h:aK ks f):aK ks (wr st f):=by
 obtain⟨k,hk,e1,e2⟩:=h;exact⟨k,hk,e1,by show(f.as.map _).length=_;rw [Lm9];exact e2⟩
theorem LC {ks:List Kd} (hG:KG ks) {f:Fc} (h:aK ks f):f.as.length<=4:=by
 obtain⟨k,hk,_,e⟩:=h;have:=(hG.ok k hk).2;omega
section
variable {ks:List Kd} {rs:List Rl} {n0 n1 n2 n3 w0 w1:Cs}
theorem A6 (B:r9 ks [n0,n1,n2,n3] [w0,w1] rs) {d:Nat} {r:Rl} (hr:rs[d]?=some r) (a b c:Nat) (ha:a<4) (hb:b<4) (hc:c<4) :
  ∃vs,Rv ks [n1,n2,n3] r vs/\(∀L,bE [xT r,.lst [.int (a:Nat),.int (b:Nat),.int (c:Nat)],.lst [.str w0,.str n1,.str n2,.str n3]] L=.ok (bL (ai r vs)) L) /\
   (∀L,aV [xT r,bL (ai r vs)] L=.ok (.lst ((av (ai r vs) r).map fT)) L)/\(av (ai r vs) r).length<=4/\(∀f∈av (ai r vs) r,f.as.length<=4) /\
   (∀L,cw [.lst (rs.map xT),.int (d:Nat),bL (ai r vs)] L=.ok (stepT d vs) L) /\
   (∀bp bl st L,cu [.lst (ks.map kT),aR bp bl st,xT r,bL (ai r vs)] L=.ok (.bl (d8 ks (ai r vs) r bp bl false)) L) /\
   (∀vs,Rv ks [n1,n2,n3] r vs->∀bp bl st L,fk [jO ks (aC rs),aR bp bl st,stepT d vs] L=.ok (.bl (d8 ks (ai r vs) r bp bl false)) L) /\
   ∀vs,Rv ks [n1,n2,n3] r vs->∀bp bl st,Mv ks bp bl st (tk r vs) (pu r vs) (te r vs)->d8 ks (ai r vs) r bp bl false=true->∀L,∃x,i8 ks bp bl st (tk r vs) (pu r vs) (te r vs) x/\dI [jO ks (aC rs),aR bp bl st,stepT d vs] L=.ok x L:=by
 have hG:=B.kg;have h4:=hG.len
 have Cf:∀k∈ks.filter sX,k∈ks:=fun k hk=>(U5.mp hk).1
 have xu:=B.xu;have O7:=Ve hr
 have D:=B.rd r O7;refine sP fun G n9=>?_
 obtain⟨f1,f2,f3,f4,f5⟩:=(B.rd r O7).pB;have Nn:=B.Ha O7
 have hd:=(UO.mp hr).1;have QG:(aC rs)[d]?=some (gY r (rT d)):=by
  have:=Bk.qb hd;rw [Ge9 hd] at hr;cases hr;exact this
 have O8:∀f∈r.take++r.keep,lF ks ([n0,n1,n2]++[w0,w1]) f:=fun f hf=>by
  rcases UH.mp hf with h|h
  ·obtain⟨⟨k,hk,e⟩,h2⟩:=D.take f h
   exact⟨⟨k,Cf k hk,e⟩,h2⟩
  ·exact D.keep f h
 have LD:∀a∈[n0,n1,n2]++[w0,w1],dG a/\(great a=false\/a∈[n0,n1,n2]):=fun a ha=>by
  rcases UH.mp ha with h|h
  ·exact⟨xu a (UD _ (by simp at h ⊢;grind)),.inr h⟩
  ·exact⟨xu a (UK _ h),.inl (B.wg a h)⟩
 have hnames:∀f∈r.take++r.keep,∀a∈f.as,dG a:=fun f hf a h=>(LD a ((O8 f hf).2 a h)).1
 have IU:=oU (fun k hk=>(hG.ok k hk).2) O8 (by simp;omega);obtain⟨vs,hv1,Il,QH⟩:=AV r [a,b,c] [w0,n1,n2,n3] hnames IU (by omega) (by simpa using Nn) (by simp) (fun d hd=>by
  simp only [UN,Wh,or_false] at hd;rcases hd with e|e|e <;> rw [e] <;> simpa)
 simp only [UG,Vz] at QH;have LF:∀f∈r.put,aK ks f:=fun f hf=>lF.ff (fun k hk=>by
  split at hk
  ·exact(U5.mp hk).1
  ·exact hk) (D.put f hf)
 have HU:∀f∈r.take++r.keep,aK ks f:=fun f hf=>lF.ff (fun _ h=>h) (O8 f hf)
 have ux:∀a∈opens (r.take++r.keep)++[w0,w1],dG a/\(a∈opens (r.take++r.keep)\/great a=false):=fun a ha=>by
  rcases UH.mp ha with h|h
  ·obtain⟨⟨g,hg,hx⟩,_⟩:=Bk.jM h
   exact⟨hnames g hg a hx,.inl h⟩
  ·exact⟨xu a (UK _ h),.inr (B.wg a h)⟩
 have ff:∀f∈r.take++r.keep++r.put,aK ks f/\f.as.length<=4:=fun f hf=>by
  have h:aK ks f:=(UH.mp hf).elim (HU f) (LF f);exact⟨h,LC hG h⟩
 have Du:r.take.length<=4/\r.keep.length<=4/\r.aj.length<=4/\r.put.length<=4/\r.tell.length<=4:=⟨by omega,by omega,by omega,by omega,by omega⟩;have V:Rv ks [n1,n2,n3] r vs:=by
  refine⟨hv1,by omega,fun v hv=>?_,fun f hf a ha=>?_,fun f hf a ha=>ux a ((D.put f hf).2 a ha),fun k hk=>⟨ux _ (D.aj k hk).1,ux _ (D.aj k hk).2⟩,fun p hp=>⟨ux _ (D.tell p hp).1,ux _ (D.tell p hp).2⟩,Du,ff,fun f hf=>?_,fun h0 f hf=>?_⟩
  ·have h:=Il v hv
   have h2:v=w0\/v∈[n1,n2,n3]:=by simpa using h
   rcases h2 with rfl|h2
   ·exact⟨fun g=>(by rw [B.wg v (by simp)] at g;cases g),xu v (by simp)⟩
   ·exact⟨fun _=>h2,xu v (UD _ (Uw _ h2))⟩
  ·refine⟨hnames f hf a ha,?_⟩
   cases g:great a with
   | true=>exact .inl (Bk.w8 hf ha g)
   | false=>exact .inr rfl
  ·obtain⟨⟨k,hk,e,_⟩,_⟩:=D.take f hf
   rw [e];obtain⟨h1,h2⟩:=U5.mp hk;exact fun z=>HT hG.nd z (Uz.mpr ⟨k,U5.mpr ⟨h1,h2⟩,rfl⟩)
  ·obtain⟨⟨k,hk,e,_⟩,_⟩:=D.put f hf
   rw [if_pos h0] at hk;rw [e];exact UP hk
 have Mn:∀f∈r.take++r.keep++r.put,f.as.length<=4:=fun f hf=>(ff f hf).2
 refine n9 ?_;clear n9;refine⟨vs,V,QH,fun L=>HM r (ai r vs) (fun f hf=>by have:=Mn f (UD _ hf);omega) (by omega) L,by unfold av;simp;omega,fun f hf=>?_,fun L=>HL rs d r hr vs hv1 hnames IU (by omega) (by omega) L,fun bp bl st L=>Dm ks (by omega) r _ V.sm (fun k hk=>⟨(V.nl k hk).1.1,(V.nl k hk).2.1⟩) Mn Du bp bl st L,fun vs V bp bl st L=>AJ ks (by omega) (aC rs) d vs (gY r (rT d)) QG V.hv V.AZ bp bl st V.sm (fun k hk=>⟨(V.nl k hk).1.1,(V.nl k hk).2.1⟩) Mn Du L,fun vs V bp bl st M hF L=>?_⟩
 ·obtain⟨g,hg,rfl⟩:=Uz.mp hf
  exact(qA (ks:=ks) (ff g (UD _ hg))).2
 ·obtain⟨x,h1,_,h2⟩:=Dj ks (by omega) (aC rs) d vs (gY r (rT d)) QG V.hv V.AZ bp bl st V.sm (fun k hk=>⟨(V.nl k hk).1.1,(V.nl k hk).2.1⟩) M Mn Du hF L
  exact⟨x,h1,h2⟩
end
theorem ly {ks:List Kd} {r:Rl} {vs:List Cs} {K:List Cs} (V:Rv ks K r vs):(av (ai r vs) r).filter (fun f=>!decide (f.k∈aq ks))=tk r vs++(r.keep.map (wr (ai r vs))).filter (fun f=>!decide (f.k∈aq ks)):=by
 unfold av;rw [UL,YX];congr 1;refine YG.mpr fun f hf=>?_
 obtain⟨g,hg,rfl⟩:=Uz.mp hf;simpa using (show ¬ (wr (ai r vs) g).k∈aq ks from V.tl g hg)
theorem xj.eq {K:List Cs} {m5 lG:List Fc} {br:List (Cs × Cs)} {x:T} (h:xj K m5 lG br x):Dv x=false/\∀L,Ep x x L=.ok true L:=by
 have key:∀xs:List T,dat 8 (.tup xs)=true->Dv (.tup xs)=false/\∀L,Ep (.tup xs) (.tup xs) L=.ok true L:=fun xs d=>⟨rfl,fun L=>by
  show cb (dat 8 (.tup xs)=true/\dat 8 (.tup xs)=true) _=_;rw [ax ⟨d,d⟩];show R.ok (uQ 8 (.tup xs) (.tup xs)) L=_
  rw [ia 8 d]⟩
 have df:∀l:List Fc,(l.map fT).all (dat 6)=true:=fun l=>by simp [fT,dat]
 rcases h with⟨_,rfl⟩|⟨_,P,Q,S,_,rfl,_⟩
 ·exact key _ rfl
 ·refine key _ ?_
  simp only [dat,Vl,YS,df];simp [pT,dat]
theorem diag {l:List Cs} {e:Cs × Cs} (h:e∈l.map fun a=>(a,a)):e.1∈l/\e.2=e.1:=by
 obtain⟨a,ha,rfl⟩:=Uz.mp h;exact⟨ha,rfl⟩
theorem LG (cs:List Int) (hc:cs.length<=63) (L:aa):so [.lst (cs.map .int)] L=.ok (.bl true) L:=by
 refine sP fun G n9=>?_
 obtain⟨ks,ns,ws,rs,B,hP,eb⟩:=OP cs;have hG:=B.kg
 have h4:=hG.len;have A3:=sH hG B.N4.1 B.N4.2.1 B.N4.2.2
 have A0:=Hs ks hG rs B.r2 B.rl;obtain⟨n0,n1,n2,n3,rfl⟩:∃a b c d,ns=[a,b,c,d]:=by
  have:=B.n4
  match ns,this with
  | [a,b,c,d],_=>exact⟨a,b,c,d,rfl⟩
 obtain⟨w0,w1,rfl⟩:∃a b,ws=[a,b]:=by
  have:=B.w2
  match ws,this with
  | [a,b],_=>exact⟨a,b,rfl⟩
 have xu:=B.xu;have hK:[n1,n2,n3].Nodup:=((Wd.mp B.nd).1.tail)
 obtain⟨_,p,ed⟩:=lq (cs.getD 6 0) [2,4,4,4,2,4,4,4] (by decide) (by decide);obtain⟨d0,_,rfl,h0,p⟩:=P1 p;obtain⟨d1,_,rfl,h1,p⟩:=P1 p;obtain⟨d2,_,rfl,h2,p⟩:=P1 p;obtain⟨d3,_,rfl,h3,p⟩:=P1 p;obtain⟨d4,_,rfl,g0,p⟩:=P1 p;obtain⟨d5,_,rfl,g1,p⟩:=P1 p;obtain⟨d6,_,rfl,g2,p⟩:=P1 p;obtain⟨d7,_,rfl,g3,p⟩:=P1 p;obtain rfl:=P0 p;simp only [UG,Vz] at ed eb;obtain⟨r1,JF⟩:∃r,rs[d0]?=some r:=⟨_,Ge9 (by rw [B.r2];omega)⟩;obtain⟨r2,QI⟩:∃r,rs[d4]?=some r:=⟨_,Ge9 (by rw [B.r2];omega)⟩;obtain⟨v1,V1,a1,a2,a3,a4,a5,a6,a7,a8⟩:=A6 B JF d1 d2 d3 (by omega) (by omega) (by omega);obtain⟨v2,V2,b1,b2,b3,b4,b5,b6,b7,b8⟩:=A6 B QI d5 d6 d7 (by omega) (by omega) (by omega);have x1:∀L,ix (.lst (rs.map xT)) (.int (d0:Nat)) L=.ok (xT r1) L:=fun L=>dB (by rw [UT,JF];rfl)
 have x2:∀L,ix (.lst (rs.map xT)) (.int (d4:Nat)) L=.ok (xT r2) L:=fun L=>dB (by rw [UT,QI];rfl)
 refine n9 ?_;clear n9;rw [Ds];refine Dt cs hc (.lst (ks.map kT)) (.lst (rs.map xT)) (jO ks (aC rs)) _ _ _ _ _ r1 r2 n0 n1 n2 n3 w0 w1 d0 d1 d2 d3 d4 d5 d6 d7 _ _ _ (fun f=>f.as.length<=4) eb (fun k hk L=>qo cs k hk L) ed A0 A3 x1 x2 a1 b1 a2 b2 a3 b3 (fun c=>?_) (fun n=>?_) (fun L=>HN n0 n1 n2 n3 L) a5 b5 (fun D L hD O5=>?_) L
 ·obtain⟨_,p,e⟩:=lq c [1024] (by decide) (by decide)
  obtain⟨d,_,rfl,_,p⟩:=P1 p;obtain rfl:=P0 p;simp only [UG,Vz] at e;exact⟨d,e⟩
 ·obtain⟨f,hf,e⟩:=gQ ks [w0,n1,n2,n3] n (by omega) (by omega) (fun k hk=>(hG.ok k hk).2) (by simp) (by simp)
  exact⟨f,LC hG (lF.ff (fun _ h=>h) hf),e⟩
 generalize hA:av (ai r1 v1) r1=A at *
 generalize hB:av (ai r2 v2) r2=C at *
 have TK:(A++C++D).length<=20:=by simp only [Ut];omega
 have QJ:∀f∈A++C++D,f.as.length<=4:=fun f hf=>by
  rcases UH.mp hf with h|h
  ·exact(UH.mp h).elim (a4 f) (b4 f)
  ·exact O5 f h
 refine sP fun G n9=>?_
 obtain⟨P,Q,S,Dh,OV,Ij,hS1,_,_,LH⟩:=HO ks (by omega) (A++C++D) (by omega) [(n1,n1),(n2,n2),(n3,n3)] (by simp) L;refine n9 ?_;clear n9;refine⟨aR P Q S,_,_,LH,a7 v1 V1 P Q S,b7 v2 V2 P Q S,a6 P Q S,b6 P Q S,fun F1 F2 L=>?_⟩;have QK:Sk [n1,n2,n3] [(n1,n1),(n2,n2),(n3,n3)]:=⟨hK,fun x=>Iff.rfl,fun e he _=>by
  obtain⟨h1,h2⟩:=diag (l:=[n1,n2,n3]) he;rw [h2];exact h1,fun x hx=>B.ng x (Uw _ hx)⟩
 have s:=QK.perm hS1;have ro:ah S=id:=funext fun x=>by
  rw [sO QK.nd hS1];rcases lx (st:=[(n1,n1),(n2,n2),(n3,n3)]) (x:=x) with⟨v,_,h2,h3⟩|⟨_,_,h3⟩
  ·rw [h3]
   exact(diag (l:=[n1,n2,n3]) h2).2
  ·exact h3
 have TL:∀f∈P,f∈A++C++D:=fun f hf=>(U5.mp (Dh.mem_iff.mp hf)).1
 have m:Rm ks P Q S 24:=by
  refine⟨hG.nd,by omega,fun e he=>?_,by rw [hS1.length_eq];simp,?_,?_,fun f hf=>?_⟩
  ·obtain⟨h1,h2⟩:=diag (l:=[n1,n2,n3]) (hS1.mem_iff.mp he)
   have k:=xu _ (Uw _ (UD [w0,w1] h1));exact⟨k,by rw [h2];exact k⟩
  ·rw [Dh.length_eq]
   have:((A++C++D).filter fun f=>!decide (f.k∈aq ks)).length<=20:=eS TK;omega
  ·have:=Bk.iH Q (A++C++D) fun f=>by
    by_cases h:f∈Q
    ·have h1:=Z8.mp OV f
     have h2:=Xh.mpr ((Ij f).mp h).1;omega
    ·rw [List.count_eq_zero.mpr h];exact Vc _
   omega
  ·rcases UH.mp hf with h|h
   ·exact QJ f (TL f h)
   ·exact QJ f ((Ij f).mp h).1
 have aj:∀{r:Rl} {v:List Cs},d8 ks (ai r v) r P Q false=true->r.aj.all (dR (ai r v))=true:=fun {r v} h=>by
  unfold d8 at h;simp only [UC] at h;exact h.2.1
 have s1:=ly V1;have s2:=ly V2
 rw [hA] at s1;rw [hB] at s2;rw [YX,YX,s1,s2] at Dh;generalize (r1.keep.map (wr (ai r1 v1))).filter (fun f=>!decide (f.k∈aq ks))=k1 at *
 generalize (r2.keep.map (wr (ai r2 v2))).filter (fun f=>!decide (f.k∈aq ks))=k2 at *
 generalize D.filter (fun f=>!decide (f.k∈aq ks))=k3 at *
 have pe:∀(t1 t2 k1 k2 k3:List Fc),(t1++k1++(t2++k2)++k3).Perm (t1++(t2++k2++(k1++k3)))/\(t1++k1++(t2++k2)++k3).Perm (t2++(t1++k1++(k2++k3))):=fun t1 t2 k1 k2 k3=>by
  constructor <;> refine YH.mpr fun f=>?_ <;> simp only [VZ] <;> omega
 have tid:∀l:List Fc,l.map (wr S)=l:=fun l=>Bk.uy fun f _=>Bk.D5 fun a _=>by rw [ro];rfl
 have vV:=Dh.trans (pe (tk r1 v1) (tk r2 v2) k1 k2 k3).1;have sU:=Dh.trans (pe (tk r1 v1) (tk r2 v2) k1 k2 k3).2
 have M1:=V1.mv (by omega) m s.nd fun f=>by rw [tid,vV.count_eq,VZ];exact XR _ _
 have M2:=V2.mv (by omega) m s.nd fun f=>by rw [tid,sU.count_eq,VZ];exact XR _ _
 obtain⟨y1,TM,e1⟩:=a8 v1 V1 P Q S M1 F1 L;obtain⟨y2,TN,e2⟩:=b8 v2 V2 P Q S M2 F2 L;obtain⟨z1,u1,c1⟩:=half V1 V2 s ro m TM (by rw [hB,s2];exact vV) (C:=k2++(k1++k3)) (by rw [hB,s2,UU]) (aj F2) (fun f hf hk=>(Ij f).mpr ⟨by rw [hB] at hf;simp [hf],hk⟩) x2 b7 b8 L;obtain⟨z2,u2,c2⟩:=half V2 V1 s ro m TN (by rw [hA,s1];exact sU) (C:=k1++(k2++k3)) (by rw [hA,s1,UU]) (aj F1) (fun f hf hk=>(Ij f).mpr ⟨by rw [hA] at hf;simp [hf],hk⟩) x1 a7 a8 L;obtain rfl:=c1.one hK c2 (YH.mpr fun f=>by simp only [VZ];omega) (fun f=>by simp only [UH];grind) (fun p=>by simp only [UH];exact Or.comm);exact⟨y1,y2,z1,e1,u1,e2,u2,c1.eq.1,c1.eq.2⟩
theorem A7:∀ns:List Int,ns.length<=63->∃L,so [.lst (ns.map .int)] []=.ok (.bl true) L:=fun ns h=>⟨[],LG ns h []⟩
end Ea
end
namespace Ea
open PySem M
set_option maxHeartbeats 4000000
def G0:Ct:=⟨[],[("SMALL",jQ),("GREAT",jR),("FIGURES",kJ),("LONGEST",kL),("BROKEN",bS),("LINE_MARKS",gM),("KIND_WORDS",gN),("RULE_WORD",cP),("PART_WORDS",bO),("COUNTS",m7)],[],["given","kept","kinds","left","looks","names","right","rules","taken","title","told"],["len","list","tuple","all","any","min","str","int","range","enumerate","zip","sorted","set","dict"],[(38,12),(50,12),(83,12),(138,13),(141,11),(268,12),(305,11),(305,12),(308,24),(332,12),(339,12),(340,12),(375,11),(390,17),(408,17),(428,17),(436,22),(438,26),(451,16),(460,17),(479,17),(513,16),(546,17)]⟩
def ds:List Df:=.f false "_law_cell" 2 79 bz :: .f false "_law_digits" 2 80 aD :: .f false "_law_name" 2 81 bg :: .f false "_law_kinds" 1 85 eD :: .f false "_law_drawn" 3 84 aI :: .f false "_law_heads" 3 86 da :: .f false "_law_looks" 2 88 eE :: .f false "_law_names" 1 87 cC :: .f false "_law_rule" 5 89 fF :: .f false "_law_book" 1 92 dT :: .f false "_law_as" 2 94 eU :: .f false "_law_at" 2 93 dD :: .f false "_law_holds" 2 95 eF :: .f false "_law_fits" 4 96 cu :: .f false "_law_instance" 2 100 aV :: .f false "check_facts" 2 30 bU :: .f false "check_taken" 2 31 bV :: .f false "is_great" 1 19 aW :: .f false "know" 2 34 m8 :: .f false "taken_out" 2 33 cQ :: .f false "chosen" 2 36 jS :: .f false "tell_same" 3 35 fG :: .f false "written" 2 32 bu :: .f false "moved" 5 29 lY :: .f false "pair_written" 2 45 cv :: .f false "behind" 3 40 jT :: .f false "changes" 3 44 iJ :: .f false "check_step" 2 41 eG :: .f false "heads_there" 4 43 dH :: .mt "Same" "holds" "Same.holds" 3 48 0 cD :: .mt "Unlike" "holds" "Unlike.holds" 3 49 0 bG :: .f false "looks_hold" 2 42 eH :: .mt "Rule" "calls" "Rule.calls" 1 69 1 bP :: .f false "fits" 3 38 fk :: .f false "after" 3 39 dI :: .f false "_law_next" 4 102 bA :: .f false "_law_pool" 3 97 cR :: .f false "_law_same" 1 101 dU :: .f false "_law_step" 3 99 cw :: .f false "_law_fact" 1 82 cx :: .f false "_law_part" 2 90 aJ :: .f false "_law_text" 2 91 dW :: .f false "_law_values" 3 98 bE :: .f false "open_names" 1 71 eI :: .mk "Rule" "Rule.__init__" 3 69 0 il :: .f false "is_name_sign" 1 20 cy :: .f false "name_end" 2 23 gO :: .f false "pieces" 2 22 jU :: .f false "line_pieces" 1 58 dJ :: .f false "is_name" 1 18 dE :: .f false "is_small_word" 1 17 bw :: .f false "read_kind" 1 59 fH :: .f false "parted" 2 67 fm :: .f false "piece_at" 2 24 aG :: .mk "Same" "Look.__init__" 3 47 0 cS :: .mk "Unlike" "Look.__init__" 3 47 0 cS :: .f false "check_two_names" 1 66 bB :: .f false "read_look" 1 63 fJ :: .f false "read_looks" 1 62 de :: .f false "read_pair" 1 65 fK :: .f false "read_pairs" 1 64 dh :: .f false "arguments_at" 2 26 di :: .f false "fact_at" 2 25 iK :: .f false "row_of_facts" 1 21 dj :: .f false "read_part" 2 61 cz :: .f false "read_rule" 1 60 fL :: .f false "hear_line" 3 73 cT :: .f false "is_told" 1 57 iM :: .f false "told_lines" 1 56 eK :: .mk "Book" "Book.__init__" 3 70 0 ip :: .f false "check_call" 2 75 dm :: .f false "said_names" 1 77 eL :: .f false "check_names" 1 76 dK :: .f false "whole_book" 2 74 eM :: .f false "read_book" 1 72 dX :: .f false "law" 1 103 so::[]
theorem TQ:zL PySem.Challenge.pw_poolrules_k21_steps_that_do_not_meet.main.body G0 ds:=by
 unfold ds
 repeat' first|refine M.w7 ?_|refine M.JX ?_|refine M.JY ?_|exact M.NQ
end Ea
open PySem PySem.W PyProof.Rows M
set_option maxHeartbeats 0 in
theorem PySem.Challenge.cw_poolrules_k21_steps_that_do_not_meet_holds : PySem.Challenge.rw_poolrules_k21_steps_that_do_not_meet.Holds := by
 w_on;o_law;k_head;(case hw=>w_witness2)
 k_fill
 refine CF (l:=PySem.Challenge.rw_poolrules_k21_steps_that_do_not_meet) (n:=63) (k:=80) (m:=Ea.so) rfl (by decide) rfl ⟨rfl,by decide,by decide⟩ (fun w h Y=>kIn_of Y) (fun w mg fa h X G e=>?_) Ea.A7;refine GD PySem.Challenge.pw_poolrules_k21_steps_that_do_not_meet.main.body Ea.G0 ["Book","Rule","Same","Unlike"] Ea.ds X G e Ea.TQ (by decide) (by kernel_rfl) ⟨rfl,rfl⟩ (by decide +kernel) (zN (by k_is) (by decide) (zN (by k_is) (by decide) (zN (by k_is) (by decide) (NW (by k_is) (CH (us:=#[.ref _,.ref _,.ref _,.bool true]) (by k_is) (by k_is) (by decide) (GF (us:=#[]) (by k_is) (by decide) uo (GF (us:=#[]) (by k_is) (by decide) uo (GF (us:=#[]) (by k_is) (by decide) uo (NY uo)))) (zN (by k_is) (by decide) (CH (us:=#[.str ⟨(S "passing").toArray⟩ _,.str ⟨(S "lasting").toArray⟩ _]) (by k_is) (by k_is) (by decide) (lD (by decide) (lD (by decide) uo)) (zN (by k_is) (by decide) (CH (us:=#[.str ⟨(S "take").toArray⟩ _,.str ⟨(S "keep").toArray⟩ _,.str ⟨(S "look").toArray⟩ _,.str ⟨(S "put").toArray⟩ _,.str ⟨(S "tell").toArray⟩ _]) (by k_is) (by k_is) (by decide) (lD (by decide) (lD (by decide) (lD (by decide) (lD (by decide) (lD (by decide) uo))))) (CH (us:=#[.str ⟨(S "0").toArray⟩ _,.str ⟨(S "1").toArray⟩ _,.str ⟨(S "2").toArray⟩ _,.str ⟨(S "3").toArray⟩ _,.str ⟨(S "4").toArray⟩ _]) (by k_is) (by k_is) (by decide) (lD (by decide) (lD (by decide) (lD (by decide) (lD (by decide) (lD (by decide) uo))))) JU)))))))))) ?_ ?_ ?_;all_goals repeat' first|exact JU|refine NS (by k_is) ?_|refine NT (by k_is) ?_|refine NU (by k_is) (by k_is) (by k_is) (by k_is) (by k_is) (by k_is) (by k_is) ?_ ?_|refine NV (by k_is) (by k_is) (by k_is) (by k_is) ?_|refine JV (by k_is) (by k_is) (by k_is) (by k_is) (by k_is) (by k_is) (by decide) ?_|refine JW (by k_is) (by k_is) (by k_is) (by k_is) (by k_is) (by k_is) (by decide) ?_
