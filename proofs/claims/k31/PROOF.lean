import PyProof.Rows.All
import Wide.All
import OpenK.AllK
import Wide.FinOn
import PyProof.EqAt
import PyProof.EqKinds
import PyProof.TupleCall
import PyProof.EnumFor
import PyProof.EnumStmt
import PyProof.EnumMake
import PyProof.StrOps2
import PyProof.ZipIter
import PyProof.SumWalkG
import PyProof.IsiPairs
import PyProof.DictRoadsH
import PyProof.Rows.TupTab
import KE.KSortAsk
import KE.KSortTup
import PySem.Challenge.RW_poolrules_k31_a_step_moves_the_tally
set_option Elab.async false
set_option linter.all false
namespace PySem.W.Fast
def tw1720575611526966122:=True
def tw14621733246187419156:=True
def tw11723926720918286846:=True
def tw1902569901107691155:=True
def tw13997644602192879782:=True
def tw13024868843946534538:=True
def tw14778961215630715695:=True
def tw3344387261765312663:=True
def tw3545054331722868935:=True
def tw13388361140754039551:=True
def tw13832119737673513375:=True
def tw15468146932315966191:=True
def tw12857171773783234338:=True
def tw5801247414614758787:=True
def tw8646718874308579782:=True
def tw8117514761085652052:=True
def tw10703014367185777966:=True
def tw11154691883447299514:=True
def tw12799867737074249249:=True
def tw13928418454411947998:=True
def tw2459689626796257244:=True
def tw12360791920522318240:=True
def tw8772375388671758748:=True
def tw9904746539022973153:=True
def tw12662882383751723051:=True
def tw6236404722951459317:=True
def tw1014304073516915091:=True
def tw11086994261863608712:=True
def tw2504067762440341774:=True
def tw17022909752446572623:=True
def tw16134598422551201376:=True
def tw6434610050698839388:=True
def tw7968724432529616808:=True
def tw4424452462030683171:=True
def tw16562249482013805108:=True
def tw5262081726504961587:=True
def tw4059049033688288266:=True
def tw927205438350170213:=True
def tw12841356536035749767:=True
def tw8792095268662988764:=True
def tw13759702044551703902:=True
def tw11858576148572315639:=True
def tw2268762598518928538:=True
def tw7266493207836510457:=True
def tw12638880943663567083:=True
def tw9865595905173711280:=True
def tw7693654675655344053:=True
def tw8143817719925062095:=True
def tw14908514513813547137:=True
def tw4849343841567784484:=True
def tw8722191005004149122:=True
def tw10298432589612082842:=True
def tw14913282246600602991:=True
def tw17026716539779345889:=True
def tw4549664175302159401:=True
def tw16272640684249711211:=True
def tw5774658997740412993:=True
def tw5745926478413779759:=True
def tw9041335061398077438:=True
def tw1604140832538977919:=True
def tw13712490526792573728:=True
def tw3153561677330157229:=True
def tw16364611253202406792:=True
def tw148264612521833249:=True
def tw6404171212688116034:=True
def tw11078040732268465741:=True
def tw12880576811938202050:=True
def tw15964329219071236188:=True
def tw13091702799428822121:=True
def tw619275776691452120:=True
def tw3867040664232515505:=True
def tw13877944295084215796:=True
def tw3937454929473177522:=True
def tw4760783291600346354:=True
def tw8020555607508039607:=True
def tw879069061245940354:=True
def tw5664096923765930069:=True
def tw4027646720305857414:=True
def tw18279169015476177057:=True
def tw14738391235804869822:=True
def tw8514594268733646128:=True
def tw3745162508659927542:=True
def tw10412219559175223048:=True
def tw2838683585241851477:=True
def tw14680069861563083557:=True
def tw13862249569968328317:=True
def tw3965095149464218657:=True
def tw1044016761400730586:=True
def tw3555252027417923361:=True
def tw9156765789264408232:=True
def tw996624266869002235:=True
def tw774579454144603524:=True
def tw3170517999104090450:=True
def tw7740432522645234420:=True
def tw8884039417681549444:=True
def tw7363012789135786734:=True
def tw17029146478452811084:=True
def tw13700291539957461655:=True
def tw1571202336334557852:=True
def tw4985073453204366165:=True
def tw5786607760308076973:=True
def tw390603475421013858:=True
def tw830039403616204039:=True
def tw9371602797541062602:=True
def tw18055715007772847575:=True
def tw17920950217543049750:=True
def tw6585569382127210918:=True
def tw13723982473445746038:=True
def tw17609194806984792972:=True
def tw14549948228667355429:=True
def tw17140738912274534417:=True
def tw1586348857326604262:=True
def tw11923573357315279481:=True
def tw347970316993356582:=True
def tw3357021852352475055:=True
def tw6211959239138412577:=True
def tw3885485813114887355:=True
def tw2647575951216631334:=True
def tw16333406557921674884:=True
def tw3767470415234313179:=True
def tw18018879116453312550:=True
def tw11077387156014594411:=True
def tw4298344651586657284:=True
def tw18308101730148214925:=True
def tw9331093109884010761:=True
def tw7777681905985645549:=True
def tw8171204578317539029:=True
def tw17585612506688828099:=True
def tw10725584680639056465:=True
def tw2384507134973209305:=True
def tw5039508551536759287:=True
def tw16703692963957073284:=True
def tw1473555049639434451:=True
def tw8774298621619170828:=True
def tw4010390882618094689:=True
def tw2488300316125864454:=True
def tw12311192159843892528:=True
def tw2352981921184032764:=True
def tw5598074787462837032:=True
def tw7111170026153321784:=True
def tw6393963431488349529:=True
def tw17435464315250975983:=True
def tw161760358814501418:=True
def tw6854204099490719072:=True
def tw18427906911742741372:=True
def tw13287211257157169521:=True
def tw12401360161886065982:=True
def tw13762410044474177569:=True
def tw9342006836021497982:=True
def tw16324247206588884175:=True
def tw6298061488183659999:=True
def tw12747309176149881051:=True
def tw8261339275360589894:=True
def tw12000901197216642091:=True
def tw12732838045251219831:=True
def tw16685184298955296261:=True
def tw4982198668973452523:=True
def tw2070058454856507955:=True
def tw11793587549816033502:=True
def tw1698021803913864769:=True
def tw2171249178490109052:=True
def tw11925850711976792723:=True
def tw7879505197232435376:=True
def tw5149085659121183415:=True
def tw14479427365680133042:=True
def tw2180283005988491631:=True
def tw6469162598620097954:=True
def tw6930301296055475942:=True
def tw16612392003033756453:=True
def tw11984170397334442941:=True
def tw13571504156389259583:=True
def tw15579428698031417284:=True
def tw12063410944986282282:=True
def tw13527591784363666257:=True
def tw4313710517067725969:=True
def tw2145223624906580669:=True
def tw12902515930648922494:=True
def tw11197825716041288626:=True
def tw16287488244869878376:=True
def tw9455510128275580466:=True
def tw7639144098589343068:=True
def tw15458883296627030154:=True
def tw15277011169063570057:=True
def tw2301835623433310380:=True
def tw1054522042421801533:=True
def tw8066077632939194708:=True
def tw2207580386277508952:=True
def tw3824178261312240163:=True
def tw2713263312132729628:=True
def tw15529095662016507609:=True
def tw4359832351260106709:=True
def tw10609369214033443537:=True
def tw13317356090140775937:=True
def tw1250093820451095920:=True
def tw7708296797918089384:=True
def tw6966062882616872743:=True
def tw16269445355223997636:=True
def tw3145593127408697797:=True
def tw16311994788532872138:=True
def tw14689061285697455808:=True
def tw2392608871869836681:=True
def tw9778531499001184536:=True
def tw5793433739430393550:=True
def tw7540622094349280965:=True
def tw1750329845252660568:=True
def tw5786743445794102445:=True
def tw10488030225610225822:=True
def tw6376510238756920516:=True
def tw15131738666603637080:=True
def tw14799628076896013477:=True
def tw16135177004045124629:=True
def tw2626377984576644508:=True
def tw4972264251935165710:=True
def tw16324341900540075536:=True
def tw1547336141229463370:=True
def tw747122649088336486:=True
def tw908052547083898625:=True
def tw5551211220716048608:=True
def tw8907421119266989520:=True
def tw2036752098908716311:=True
def tw11559443401983296552:=True
def tw1506108386453354913:=True
def tw8655064134480341320:=True
def tw3708332346965192978:=True
def tw11601170015053922937:=True
def tw1871950574931025410:=True
def tw2161531800854109396:=True
def tw8380214809281940649:=True
def tw7753289903659515060:=True
def tw16913264992755217376:=True
def tw899335530041849986:=True
def tw3443095433730206366:=True
def tw3172299485207551890:=True
def tw17333019100122905801:=True
def tw14551930528549836701:=True
def tw6411362934554670729:=True
def tw17684628810057038009:=True
def tw13363051744581411446:=True
def tw1888623039513235731:=True
def tw17392417873429096828:=True
def tw6160354186231882929:=True
def tw17907195452805026661:=True
def tw11951373966469094952:=True
def tw3006709390949945923:=True
def tw3352358981860794055:=True
def tw4984289574579406384:=True
def tw18077609814285823908:=True
def tw6565166318991761142:=True
def tw268943884729575607:=True
def tw3794384243492955463:=True
def tw4845569135819975070:=True
def tw5556886540408663042:=True
def tw6301563300394270354:=True
def tw10602083626374985012:=True
def tw11248073988339462850:=True
def tw13806494658713712069:=True
def tw13660745145048203295:=True
def tw11567504811121617487:=True
def tw10994567985638097461:=True
def tw8729910948460697159:=True
def tw7671238976312049038:=True
def tw7924208288663586015:=True
def tw4686226116124459335:=True
def tw10114959081904002425:=True
def tw7119835765957935641:=True
def tw364208730606835141:=True
def tw15177721724437058504:=True
def tw14922207800245310286:=True
def tw9372302876051140311:=True
def tw3202595594569313013:=True
def tw14708201745747167112:=True
def tw8173930023487369033:=True
def tw6084104689376334709:=True
def tw4669170563413265586:=True
def tw7471822668922273193:=True
def tw17364467764358958778:=True
def tw11016587196499760456:=True
def tw13056628199108808634:=True
def tw575737862901726658:=True
def tw15345267205430055534:=True
def tw15101089274864016331:=True
def tw2529122016348383193:=True
def tw7408272903269069012:=True
def tw16747003405235168816:=True
def tw17114301080343844821:=True
def tw210456326621412244:=True
def tw4685211057715615984:=True
def tw10778878785951835654:=True
def tw14996759615051566628:=True
def tw2441591958370845691:=True
def tw8203784227661997020:=True
def tw10333168837849958703:=True
def tw8252775842470530290:=True
def tw15523776147868049857:=True
def tw9382851174709017186:=True
def tw11557830157082890156:=True
def tw13034559419606089144:=True
def tw10678921146490298571:=True
def tw17161465383753910383:=True
def tw17108564026051402543:=True
def tw1223464555649608648:=True
def tw1559621685821916989:=True
def tw11027324693827240323:=True
def tw5318858743603289822:=True
def tw8848228457493216019:=True
def tw11625604813869896848:=True
def tw14529533143616803871:=True
def tw9051053861368448236:=True
def tw3342847164032972843:=True
def tw6642504882355289490:=True
def tw11812269390438129713:=True
def tw832476960631410193:=True
def tw16295173784535653847:=True
def tw12710063237951284099:=True
def tw16484726833272146615:=True
def tw8990233076922385397:=True
def tw5835678136057907261:=True
def tw9315569538437594131:=True
def tw5030947663697697299:=True
def tw18224579206974715892:=True
def tw13648846076430891811:=True
def tw8119391883483780147:=True
def tw3339956595240657321:=True
def tw16895068722343526340:=True
def tw14784120153561601686:=True
def tw12097885456074837543:=True
def tw6492438976637545452:=True
def tw13539678091542210630:=True
def tw3610111137806395163:=True
def tw10295639642194591232:=True
def tw9837015897333806621:=True
def tw8398217665953265100:=True
def tw2563261572599814957:=True
def tw6600942013776745687:=True
def tw11703982016408742778:=True
def tw14960657949637129175:=True
def tw56439491484828314:=True
def tw13125151302506872467:=True
def tw10037177143342951863:=True
def tw6194441960869562860:=True
def tw11811540199034968690:=True
def tw15640759244498618173:=True
def tw14621243172178665571:=True
def tw5475147337257208886:=True
def tw14835268709379652509:=True
def tw15899752430250543729:=True
def tw435564207628776684:=True
def tw9655721225515571517:=True
def tw16813663660963596581:=True
def tw14785670753627944633:=True
def tw8489429801433070356:=True
def tw12289556309766504526:=True
def tw10228788852189530723:=True
def tw7503631742331388427:=True
def tw13798095732649337405:=True
def tw8906714426814194600:=True
def tw11081683431447573941:=True
def tw10147153540466211714:=True
def tw15477903895400187227:=True
def tw2004255321467145597:=True
def tw18363974170568063582:=True
def tw819313881915930699:=True
def tw10497079809800395909:=True
def tw16527044016873207130:=True
def tw8488813530749331563:=True
def tw5369658161616161489:=True
def tw9375791036381395266:=True
def tw10637400674423294288:=True
def tw6883945100174255456:=True
def tw15214330737941405169:=True
def tw6488673195434647878:=True
def tw2855247052013456730:=True
def tw9562951907494225902:=True
def tw2626635288927007393:=True
def tw3347599617510000834:=True
def tw4767944869854060939:=True
def tw11461208289485812828:=True
def tw14083271247249283409:=True
def tw10963428282362139610:=True
def tw16660991667972211089:=True
def tw9910869294509484711:=True
def tw1553522528653746245:=True
def tw2299509496168241203:=True
def tw11699369003266974364:=True
def tw2260071036751172118:=True
def tw16172310028453438885:=True
def tw10054540006580695821:=True
def tw18182520930032669820:=True
def tw13198871343897716854:=True
def tw12267445026117402758:=True
def tw11676352410382148868:=True
def tw3733194215545243691:=True
def tw13590377845899637632:=True
def tw13149083196727607811:=True
def tw10441662794997925590:=True
def tw12668305010578862755:=True
def tw13252885986506147504:=True
def tw4045666726914279128:=True
def tw4078455343981375669:=True
def tw11909161325959509639:=True
def tw9008009363525041773:=True
def tw10466839001157868110:=True
def tw5659125205373527869:=True
def tw5359266739979560531:=True
def tw6047368246020154513:=True
def tw772691850423386181:=True
def tw17487266974385008869:=True
def tw235885401737515764:=True
def tw18064510163891459765:=True
def tw9621836366549096665:=True
def tw10967448041657236460:=True
def tw2751981345914958637:=True
def tw14188817311603265908:=True
def tw4122645241971773355:=True
def tw16270423953061236386:=True
def tw13706976532127167585:=True
def tw8064351661795471557:=True
def tw10333549391738631523:=True
def tw4007593140926904976:=True
def tw7109279476478378847:=True
def tw6033533298216304816:=True
def tw1479713393679656989:=True
def tw11470151573257890315:=True
def tw634058199166064174:=True
def tw2201334677989211935:=True
def tw500774056589960398:=True
def tw4402733901621452931:=True
def tw8861652427243191878:=True
def tw9609504406211725406:=True
def tw9568381851324714097:=True
def tw10789329938806538648:=True
def tw11055219767975568161:=True
def tw6869115181019597703:=True
def tw18139890996745466173:=True
def tw14764716018612330349:=True
def tw1517945156493858841:=True
def tw14714452927626301287:=True
def tw14172869218688693834:=True
def tw14576323660959044087:=True
def tw15252275130851555917:=True
def tw8326745904614337723:=True
def tw16510799316423520523:=True
def tw11823136506314752677:=True
def tw7848590800484400675:=True
def tw17295924861284946044:=True
def tw15619443403231306756:=True
def tw9977110458367749162:=True
def tw25486498289503670:=True
def tw8093247586506558990:=True
def tw1881208616935583819:=True
def tw8727971573238234192:=True
def tw12856112433901350887:=True
def tw6565332804972844045:=True
def tw2394652579876848366:=True
def tw692118168730572977:=True
def tw13126720692715477995:=True
def tw16162149931565151635:=True
def tw12721096910023734065:=True
def tw7907726931440819943:=True
def tw6688256032059556210:=True
def tw4340670479799702070:=True
def tw4732781866017677139:=True
def tw4543128548643967438:=True
def tw14429466522705562426:=True
def tw13193559796017087206:=True
def tw11862399171777670898:=True
def tw16300753955386592268:=True
def tw13849066764182379733:=True
def tw12328300299433843375:=True
def tw15941241187322436033:=True
def tw2332998648993293091:=True
def tw12820937442276356029:=True
def tw9363087220025537195:=True
def tw9149282541392657181:=True
def tw13612258166398224335:=True
def tw11621652480926114780:=True
def tw12613125304041307985:=True
def tw1104318858751196242:=True
def tw11550559494747612089:=True
def tw14435588505954905909:=True
def tw2094518522760892940:=True
def tw6750512930755354079:=True
def tw1412401775207006598:=True
def tw11887973297902353203:=True
def tw13142417001833216299:=True
def tw4940699123165835598:=True
def tw3769007684903918555:=True
def tw6640402871339034321:=True
def tw8825127598842919100:=True
def tw11161571411413825345:=True
def tw14705855580308194650:=True
def tw10868472777498038179:=True
def tw7291176933492839986:=True
def tw11674629313662482414:=True
def tw3424040535940018506:=True
def tw6714561755237038290:=True
def tw8733683014964078941:=True
def tw17391811117011616484:=True
def tw12234657855664632865:=True
def tw3002569355074603223:=True
def tw17592418415383703460:=True
def tw13771897282847329408:=True
def tw17526194142249813809:=True
def tw14643222742160488040:=True
def tw4915499678904194497:=True
def tw10697969495077564602:=True
def tw13084009352436035569:=True
def tw17714224485962321195:=True
def tw18333583666545414251:=True
def tw15916522811955084692:=True
def tw17186990470624596402:=True
def tw17384557912689544599:=True
def tw1701276955502262306:=True
def tw12808921122246124832:=True
def tw9477966295571152681:=True
def tw3551574350368828045:=True
def tw5070465977473488993:=True
def tw4770423946053440281:=True
def tw8472059405178463120:=True
def tw17227804264490949417:=True
def tw5775310107332072708:=True
def tw3525430549901513035:=True
def tw11495707126533223808:=True
def tw17241913059271440263:=True
def tw13058709979530037725:=True
def tw2541929598499186822:=True
def tw16218585219362963973:=True
def tw9444093882062784456:=True
def tw10234715073647918206:=True
def tw12984837480351720156:=True
def tw1405765623625418167:=True
def tw14373339186918417514:=True
def tw10049500556642324671:=True
def tw2576007011768877131:=True
def tw9055803040881869528:=True
def tw12791993188831586985:=True
def tw18129043726928503100:=True
def tw8950492126594076768:=True
def tw16947249253712344422:=True
def tw2945430112983536834:=True
def tw529753673496692288:=True
def tw9963853349445475721:=True
def tw9321506177124182796:=True
def tw1335467856395817965:=True
def tw2104760024214088522:=True
def tw16915590778539853911:=True
def tw15885761581731820141:=True
def tw10362225592210372950:=True
def tw13942390408048423311:=True
def tw2805881929145441184:=True
def tw9529165201441852073:=True
def tw13502084483016757772:=True
def tw13923407252216321811:=True
def tw12877586190929914878:=True
def tw12867548195824754231:=True
def tw3278107053353481925:=True
def tw13502746725509741621:=True
def tw3850176008253679867:=True
def tw9396913374823849166:=True
def tw12635846845122041914:=True
def tw12700906655988405026:=True
def tw11444310927068772969:=True
def tw17145621211552577956:=True
def tw12084068010521694193:=True
def tw5945464959623180131:=True
def tw3131860533958025869:=True
def tw8812844210074006697:=True
def tw11216353932088407337:=True
def tw6056635358011976870:=True
def tw28740563712924365:=True
def tw1752021426478668360:=True
def tw12067899723756679807:=True
def tw600333339880645609:=True
def tw14462687200248701156:=True
def tw3251252828462677229:=True
def tw2012880252010932192:=True
def tw6996998055202435900:=True
def tw10976199210531080802:=True
def tw6808520672815089451:=True
def tw8289988117987033705:=True
def tw5941163859090454083:=True
def tw26764020983550106:=True
def tw13177362059733501163:=True
def tw15756433248084780575:=True
def tw168555435521130882:=True
def tw187397956789164754:=True
def tw14883479325863087750:=True
def tw14387035517329298866:=True
def tw16216340340042348946:=True
def tw5759926980352439923:=True
def tw4313757209949382621:=True
def tw4393860517504451412:=True
def tw8694344672165175647:=True
def tw7335196948438321682:=True
def tw4037610484018656717:=True
def tw672946082783245454:=True
def tw4602382370964980067:=True
def tw7180006971292532156:=True
def tw8553098989423656066:=True
def tw248151969205048044:=True
def tw5518419819406492783:=True
def tw12926346162424492462:=True
def tw16334844814206179511:=True
def tw7705961067949854658:=True
def tw17088691493256180176:=True
def tw8048870623745993832:=True
def tw8746232183891787759:=True
def tw2984136718233145760:=True
def tw3224011735152437877:=True
def tw10550631473558997711:=True
def tw13160359889271958057:=True
def tw1483447760945813116:=True
def tw4927233969078909708:=True
def tw6219255649747281006:=True
def tw1746417108857390245:=True
def tw15249058608551801180:=True
def tw11013280234371925499:=True
def tw16622479105191831178:=True
def tw12325089664894109146:=True
def tw13874051485302633489:=True
def tw6250753859645761628:=True
def tw9199047605639855180:=True
def tw13884247364456504942:=True
def tw17917200202467611479:=True
def tw11442593238152699324:=True
def tw8538024362993264983:=True
def tw2434900608296091739:=True
def tw9883568043060965128:=True
def tw3044043231967372094:=True
def tw14648877469350535663:=True
def tw3615628551362500681:=True
def tw1865912301030526770:=True
def tw5909484066288126727:=True
def tw3783159975131298504:=True
def tw269551683926929820:=True
def tw16954921683369174575:=True
def tw16346376315078062973:=True
def tw13095033362489327823:=True
def tw6518930686472148455:=True
def tw7569346804558364086:=True
def tw6645683976424508441:=True
def tw16017199488600218261:=True
def tw1488340083024458936:=True
def tw4605316932222316933:=True
def tw9964609644429487443:=True
def tw2915409751309347087:=True
def tw9682130653259820844:=True
def tw11155282278087465247:=True
def tw11845440793961785564:=True
def tw373899888509680021:=True
def tw12495597480321374682:=True
def tw10522332420833449416:=True
def tw10833398217987969908:=True
def tw11407837703704681103:=True
def tw5304070487899956764:=True
def tw10354145573098160150:=True
def tw13801225316001033689:=True
def tw16653219182058552732:=True
def tw1172461620896905593:=True
def tw4437810317251994377:=True
def tw14274576037756148918:=True
def tw6981670658043393882:=True
def tw16561208610134886611:=True
def tw2992569341469605094:=True
def tw6638075955175803683:=True
def tw9994351852393113046:=True
def tw12572731314198339189:=True
def tw218432067331412120:=True
def tw3814789313448457644:=True
def tw3539948860963894494:=True
def tw10397253538758726819:=True
def tw17815378977499070343:=True
def tw4700205687565504346:=True
def tw15820383706025936355:=True
def tw9285416295447329364:=True
def tw1221790793412060242:=True
def tw12938795001585384142:=True
def tw11187660608919589711:=True
def tw18099115161250178376:=True
def tw16308275517653507087:=True
def tw14105679441384878467:=True
def tw6890519459132249702:=True
def tw10071561009967489738:=True
def tw5687511951219453209:=True
def tw13988709889079470557:=True
def tw10493528329966895828:=True
def tw17839106122679389247:=True
def tw5725958439323946641:=True
def tw10958906263821422254:=True
def tw8632683058663894451:=True
def tw4438184149541316398:=True
def tw10155779730649854077:=True
def tw10989335044469586932:=True
def tw6095156048794484276:=True
def tw15126571342888749827:=True
def tw4652749396435588147:=True
def tw16689633217805172593:=True
def tw17810293094971789825:=True
def tw6284256177066380254:=True
def tw4300447044040254572:=True
def tw940204694357279891:=True
def tw6063448555801814924:=True
def tw2257453443802498278:=True
def tw13564632622382874215:=True
def tw9427047837404478556:=True
def tw15549088035170467175:=True
def tw3288528580905917809:=True
def tw547688253147680803:=True
def tw16491682662827204301:=True
def tw8531182885753671024:=True
def tw14700142762323493488:=True
def tw3533604906987637336:=True
def tw518527549664518332:=True
def tw18065515438100345267:=True
def tw683970479951829549:=True
def tw1758577596191004804:=True
end PySem.W.Fast
set_option maxRecDepth 100000
open PySem renaming wpAny_bind->Ti,wpAny_pure->Tn,Value->Ts,Shared->Tv,wpAny->TR,sizeLine->T7,Addr->Ug,SetTable->Um,mem_of_lookup->Up,wpAny_setState_of->Ut,mainGlobals->Uv,Around->Ux,Program->UU,sizeLine_eq->Vb,World->VL,evalArgs_none->Zc
open PySem.Heap renaming get?_push_of_some->Tj,get?_push_size->Tt,lt_size->T3,get?_update_other->Uk,size_push->UM,get?_update_self->U4,SameBut->Vl,get?_push_ne->Wv,size_update->Xn,get?_update_ne->XD,NewExcOf->Zn
open List renaming mem_cons_self->To,mem_cons_of_mem->Tp,length_append->Tq,all_eq_true->Tr,length_cons->Tu,mem_map->Tz,map_cons->TC,mem_append_left->TF,mem_cons->TJ,mem_append->TL,getElem?_eq_some_iff->TM,getElem_mem->TN,mem_append_right->TQ,map_append->TS,getElem?_map->TX,mem_singleton->TY,mem_map_of_mem->TZ,append_nil->T4,lookup_cons->T6,append_assoc->T8,length_nil->T9,map_map->Ud,mem_filter->Uh,replicate->Ui,mem_of_getElem?->Ul,length_drop->Uo,length_take->Ur,nodup_cons->Uu,take_of_length_le->UA,map_nil->UB,mem_range->UC,range->UE,all_cons->UG,nil_append->UH,length_singleton->UQ,map_congr_left->UT,nodup_append->UX,findIdx?_eq_some_iff_getElem->U0,zip_cons_cons->U1,not_mem_nil->U6,size_toArray->U8,mem_of_mem_take->Vc,find?_eq_none->Ve,drop_eq_getElem_cons->Vf,ext_getElem->Vj,any_eq_true->Vk,cons_append->Vq,getElem_of_mem->Vr,getElem?_eq_none->Vv,find?_cons->Vx,pairwise_cons->Vy,getElem?_cons_zero->VD,map_take->VE,mapM_cons->VF,map_eq_nil_iff->VK,getElem_map->VO,length_filter_le->VU,length->VV,mem_of_find?_eq_some->VX,nodup_nil->Wa,drop_eq_nil_of_le->We,length_pos_of_mem->Wf,forIn_cons->Wi,take_append_drop->Wo,singleton_append->Ws,pairwise_map->Ww,length_range->Wx,count_append->Wy,exists_cons_of_ne_nil->WB,mem_iff_getElem->WD,forall_mem_cons->WE,cons_ne_nil->WN,length_erase_of_mem->WU,of_mem_zip->WW,count_pos_iff->W4,getElem?_cons_succ->W5,drop_left->Xf,drop_drop->Xg,toArray->Xj,mem_flatMap->Xo,getElem?_set_ne->Xp,count_singleton->Xt,foldl_cons->XA,map_id->XF,filter_sublist->XG,perm_ext_iff_of_nodup->XK,length_eraseIdx_of_lt->XN,mem_filterMap->XR,findIdx?_cons->XS,getElem?_eq_none_iff->X0,findIdx?_eq_none_iff->X2,pairwise_iff_getElem->X3,forIn_nil->X4,extract_eq_drop_take->X5,ext_getElem?->X7,any_eq_false->X8,foldl_append->Yh,flatMap_cons->Yr,lookup->Ys,length_eq_zero_iff->Yz,filter_cons->YI,getElem?_set_self->YJ,drop_of_length_le->YK,range_succ_eq_map->YL,pairwise_lt_range->YS,all_map->YY,all_nil->Y0,dropLast_concat->Y7,drop_zero->Y8,take_succ->Y9,replicate_succ->Zb,take_succ_cons->Ze,filterMap_cons->Zf,filter_eq_self->Zh,takeWhile_cons->Zi,length_pos_iff->Zj,flatMap_append->Zk
open Bool renaming and_eq_true->Tw,false_eq_true->TH,eq_iff_iff->Vo,not_true->VC,false_ne_true->VR,not_false->Wb,or_eq_true->Wk,and_false->Xe,false_and->XZ,true_and->Yx,and_true->YD
open Array renaming getElem?_eq_getElem->Tx,getD_eq_getD_getElem?->Ue,size_map->UO,length_toList->U3,getD->Vs,getElem_of_mem->VA,getElem?_eq_some_iff->WA,mem_toList_iff->WC,getElem?_push->WQ,forIn_toList->WY,getElem?_toList->Xi,getElem?_eq_none_iff->XO,getElem_mem->Yd,toList_push->Yg,toList_map->YG,getElem?_extract->YR,toList_filterMap->YT,toList_extract->Y6
open Option renaming map_eq_some_iff->TG,isSome_iff_exists->UJ,bind_eq_some_iff->VB,getD_some->VM,bind_some->VP,join_some->VQ,getD_none->YE,map_eq_none_iff->YW
open Nat renaming le_refl->TK,le_trans->TU,ne_of_lt->Ub,lt_of_lt_of_le->Uc,zero_le->Uj,lt_succ_of_lt->UK,ne_of_gt->UP,lt_irrefl->Vg,lt_succ_self->Vh,lt_trans->VG,le_succ->VJ,le_of_eq->Wj,pow_succ->Wm,add_assoc->Wu,le_of_lt->WR,le_add_left->WZ,mod_lt->Xc,min_le_right->Xm,mul_le_mul_right->Xs,reduceAdd->Xx,lt_of_le_of_lt->XQ,add_zero->XT,succ_pos->XU,add_sub_cancel->XX,lt_trichotomy->Yl,succ_le_succ->YF,mod_eq_of_lt->YH,lt_or_ge->YZ,pow_le_pow_right->Y5,reduceSub->Zq,sub_self->Zs,mul_comm->Zt,succ_mul->Zu
open PySem.Paired renaming length->TV
open PySem.W renaming Frag->Ua,instObj->UI,emptyDict->UL,findIn->UN,keepIn->UW,nsIn->UZ,fnOf->Vw,codeIn->V9,plainGet->WM,isFn->WS,cellsFrom_some->W7,hasDictIn->Xa,plainGet_of->Xy,makesIn->Xz,lookIn->X1,plainOver->X9,takerIn->YX,callWith_K0->Za,callWith_K->Zl,codeRec_of->Zm,mg_of->Zp,handedIn->Zw
open PySem.SetTable renaming insertAt->Uq,runEnd->Us,bits->Uw,below->UD,leap->US,turns->Vu,Probe->VH,grown->VI,advance->V8,fresh->WL,layClean->Xd,sizeAbove->XW,has->Y2,fill->Zo
open PySem.Builtin.SmallTypes renaming nextOf->Uy,ownedTupleIsFree->Uz,ownedTupleHandOut->WK
open Classical renaming propDecidable->UR,byContradiction->Vt,skolem->Zy
open PySem.Around renaming under_plainId->UY
open PySem.Value renaming none->U2,ref->Vz,str->Xh,builtin->Xu,type->Yn,int->ZA
open PySem.Heap.SameBut renaming update->U5
open Ne renaming symm->U7
open PySem.Obj renaming mapSeq->U9,data_mapFields->VS,isFreed_of_fields->Xk,cls_mapFields->Yk,mapFields->YA,data_mapDictKeys->Y4,putSet->Zr
open PyProof.Rows renaming slot_tuple_getitem->Va,callWith_type1->Wg,lt_str->Zd
open PySem.Str renaming ofString->Vd
open PySem.NameKind renaming free->Vi,cell->Yt
open Function renaming comp_def->Vm
open Option.some renaming inj->Vn
open List.cons renaming inj->Vp
open PySem.SeqAt renaming EqAt->VN
open Int renaming emod_lt_of_pos->VT,toNat_natCast->V2,emod_nonneg->V3,lt_irrefl->Yw,toNat->ZC
open PySem.Builtin.Slice renaming slicePlaces->VW,sliceAdjust->WI,sliceApplied->XI
open PySem.PassesOwn renaming never->VY
open PySem.Builtin.Tuple renaming tupleExact->VZ,tupleItemsOf->Wz,tupleHashOf->WH
open PySem.Builtin.List renaming listTooLong->V0,listExtendWith->Wr,listLengthHint->XE,listSameRef->Yo
open PySem.F renaming slot_tuple_getattribute->V1,slot_list_getattribute->V5,slot_zip_getattribute->V7,slot_str_split->Wc,slot_tuple_hash->Wd,slot_zip_next->Wl,called_set->Wq,args_str_split_2->WT,entry_str_split->WX,plainAttrs_dict->W2,plainAttrs_list->W3,slot_tuple_iterator_next->W6,plainAttrs_str->W9,slot_list_append->Xq,slot_list_extend->Xr,slot_dict_setdefault->Xv,kt_typeCall_dict_1->XJ,plain_extend_loop->X6,slot_tuple_count->Ye,slot_tuple_index->Yf,args_dict_init_2->Yi,plainAttrs_tuple->Yq,slot_list_count->Yu,entry_dict_init->Yv,args_zip_next_1->Yy,plain_list_iadd->YB,slot_dict_items->YC,kt_called_dict->YO,entry_zip_next->YQ,slot_dict_get->Y1
open PySem.SetTable.probe renaming go->V4
open PySem.Builtin.Dict renaming updateFrom->V6,selfAndRest->Yj,pairItems->YN
open ForInStep renaming yield->Wh
open PySem.Calls renaming spliced_nil->Wt,call_function_entry->WJ,spliced_cons->WV,Name_function_global->XH,callWith_builtin->YM
open PySem.Txt renaming split->WG,stripChars->XY,slice->Zz
open PySem.SetTable.layClean renaming free->W8
open PySem.SetTable.below renaming go->Xb
open List.Pairwise renaming sublist->Xl,imp_of_mem->Ym,nil->Yp
open PySem.Shared renaming TypeIs->Xw
open PySem.Builtin.Str renaming strSliceIndices->XC
open PySem.Manifest.ParamKind renaming posOnly->XM
open False renaming elim->Ya
open PySem.AutoSeq1 renaming sub_tuple_tuple->Yb,wpAny_loadPart'->Yc
open PySem.Manifest.Receiver renaming self->YU,none->YV
open PySem.SetTable.sizeAbove renaming go->Y3
open PySem.W.KT renaming app_list->Zg
open PySem.IsL renaming update->Zv
open Std.Legacy renaming Range->Zx
theorem Lm9 {α:Type _} {β:Type _} {as:List α} (f:α->β):(as.map f).length=as.length:=List.length_map f
theorem Ge9 {α:Type _} {l:List α} {i:Nat} (h:i<l.length):l[i]?=some l[i]:=List.getElem?_eq_getElem h
theorem Gd9 {α:Type _} {l:List α} {i:Nat} {a:α}:l.getD i a=(l[i]?).getD a:=List.getD_eq_getElem?_getD
namespace Om
theorem q0 {a m k:Nat} (h:a<=m:=by with_reducible assumption) (g:m<=k:=by decide):a<=k:=TU h g
theorem q1 {a m k:Nat} (h:a<=m:=by with_reducible assumption) (g:m<k:=by decide):a<k:=XQ h g
theorem q2 {a b k:Nat} (h:a<b:=by with_reducible assumption) (e:b=k:=by with_reducible assumption):a<k:=e▸h
theorem q3 {a b k:Nat} (h:a<b:=by with_reducible assumption) (e:k=b:=by with_reducible assumption):a<k:=e▸h
theorem q4 {a b m k:Nat} (e:a=b:=by with_reducible assumption) (h:b<=m:=by with_reducible assumption) (g:m<=k:=by decide):a<=k:=TU (e▸h) g
theorem q5 {a b m k:Nat} (e:b=a:=by with_reducible assumption) (h:b<=m:=by with_reducible assumption) (g:m<=k:=by decide):a<=k:=TU (e▸h) g
theorem q6 {a m k:Nat} (e:a=m:=by with_reducible assumption) (g:m<=k:=by decide):a<=k:=e▸g
end Om
local macro_rules|`(tactic| omega)=>`(tactic| first|exact Om.q0|exact Om.q1|exact Om.q2|exact Om.q3|exact Om.q4|exact Om.q5|exact Om.q6|lia -abstractProof)
local macro_rules|`(tactic| grind)=>`(tactic| grind -abstractProof)
set_option bootstrap.genMatcherCode false
set_option compiler.extract_closed false
namespace M
open PySem
abbrev Cs:=List Nat
theorem rK {g:Prop} (h:∀G:Prop,(g->G)->G):g:=h g id
inductive T where
 | cb|bl (b:Bool)|int (i:Int)|str (s:Cs)|tup (xs:List T)|lst (xs:List T)|aP (ks:List (T × T))|obj (c:Str) (fs:List (Str × T))|ref (n:Nat)|cl (c:Ts)
abbrev aa:=List T
abbrev Fr:=List (Option T)
noncomputable def at_ {α:Type}:List α->Nat->Option α
 | [],_=>none
 | c::L,n=>if n=L.length then some c else at_ L n
noncomputable def put {α:Type}:List α->Nat->α->List α
 | [],_,_=>[]
 | c::L,n,d=>if n=L.length then d::L else c::put L n d
inductive R (α:Type) where
 | ok (a:α) (L:aa)|bad
noncomputable def R.bind {α β:Type}:R α->(α->aa->R β)->R β
 | .ok a L,f=>f a L
 | .bad,_=>.bad
theorem R.of {α β:Type} {r:R α} {f:α->aa->R β} {b L} (h:r.bind f=.ok b L):∃a L1,r=.ok a L1/\f a L1=.ok b L:=by
 cases r with
 | ok a L1=>exact⟨a,L1,rfl,h⟩
 | bad=>cases h
inductive O where
 | nx (φ:Fr) (L:aa)|rt (t:T) (L:aa)|bk (φ:Fr) (L:aa)|ct (φ:Fr) (L:aa)|bad
noncomputable def O.of {α:Type} (r:R α) (f:α->aa->O):O:=match r with
 | .ok a L=>f a L
 | .bad=>.bad
abbrev SE:=Fr->aa->R T
abbrev ST:=Fr->aa->R Bool
abbrev SA:=Fr->aa->R (List T)
abbrev SS:=Fr->aa->O
abbrev Fn:=List T->aa->R T
abbrev SI:=Fr->aa->R (List T × (aa->Prop))
noncomputable def vw (L:aa):T->T
 | .ref n=>(at_ L n).getD .cb
 | t=>t
noncomputable def lim:Nat:=16777216
noncomputable def bT {α:Type} (c:Prop) [Decidable c] (r:R α):R α:=if c then r else .bad
noncomputable def mk (fz:Bool) (t:T) (L:aa):R T:=if fz=true then .ok t L else .ok (.ref L.length) (t::L)
noncomputable def eO (fz:Bool) (xs:List T) (L:aa):R T:=bT (xs.length<=lim) (mk fz (.lst xs) L)
noncomputable def lift (o:Option T) (L:aa):R T:=match o with
 | some t=>.ok t L
 | none=>.bad
noncomputable def dat:Nat->T->Bool
 | _+1,.cb=>true
 | _+1,.bl _=>true
 | _+1,.int _=>true
 | _+1,.str _=>true
 | n+1,.tup xs=>xs.all (dat n)
 | n+1,.lst xs=>xs.all (dat n)
 | _,_=>false
noncomputable def mP (f:T->T->Bool):List T->List T->Bool
 | [],[]=>true
 | a::r,b::q=>f a b && mP f r q
 | _,_=>false
noncomputable def vB:Nat->T->T->Bool
 | _+1,.cb,.cb=>true
 | _+1,.bl a,.bl b=>a == b
 | _+1,.bl a,.int b=>(if a then 1 else 0) == b
 | _+1,.int a,.bl b=>a == (if b then 1 else 0)
 | _+1,.int a,.int b=>a == b
 | _+1,.str a,.str b=>a == b
 | n+1,.tup a,.tup b=>mP (vB n) a b
 | n+1,.lst a,.lst b=>mP (vB n) a b
 | _,_,_=>false
noncomputable abbrev eqT:T->T->Bool:=vB 8
noncomputable def jI:T->Bool
 | .int _=>true
 | .str _=>true
 | _=>false
noncomputable def kd:Nat->T->Bool
 | n+1,.tup xs=>xs.all (kd n)
 | _+1,t=>jI t
 | 0,_=>false
noncomputable def DI:T->Bool
 | .tup xs=>xs.all (kd 6)
 | _=>false
noncomputable def fW (ks:List T):Bool:=ks.all jI || ks.all DI
noncomputable def dq (ks:List (T × T)) (y:T):Prop:=fW (y::ks.map (·.1))=true
noncomputable instance (ks:List (T × T)) (y:T):Decidable (dq ks y):=by unfold dq;exact inferInstance
open Classical in
noncomputable def dm (ks:List (T × T)) (k:T):Option T:=(ks.find? fun p=>decide (p.1=k)).map (·.2)
open Classical in
noncomputable def dput (ks:List (T × T)) (k v:T):List (T × T) :=
 if (ks.any fun p=>decide (p.1=k))=true then ks.map (fun p=>if p.1=k then (p.1,v) else p) else ks++[(k,v)]
noncomputable def tZ (i j:Int):Prop:=(-(2 ^ 64)<i/\i<2 ^ 64)\/(-(2 ^ 64)<j/\j<2 ^ 64)
noncomputable instance (i j:Int):Decidable (tZ i j):=UR _
noncomputable def wQ (j:Int):Prop:=0<j/\j<1073741824
noncomputable instance (j:Int):Decidable (wQ j):=UR _
noncomputable def wR (i j:Int):Prop:=0<=j/\j<=1000000/\i.natAbs<2 ^ 64
noncomputable instance (i j:Int):Decidable (wR i j):=UR _
noncomputable def rQ (j:Int):Prop:=-(2 ^ 62)<=j/\j<=1000000
noncomputable instance (j:Int):Decidable (rQ j):=UR _
noncomputable def oI (op:Operator) (i j:Int) (L:aa):R T:=match op with
 | .Add=>.ok (.int (i+j)) L
 | .Sub=>.ok (.int (i - j)) L
 | .Mult=>bT (tZ i j) (.ok (.int (i * j)) L)
 | .FloorDiv=>bT (wQ j) (.ok (.int (i / j)) L)
 | .Mod=>bT (0<j) (.ok (.int (i % j)) L)
 | .Pow=>bT (wR i j) (.ok (.int (i ^ j.toNat)) L)
 | _=>.bad
noncomputable def oS (op:Operator) (a:Cs) (y:T) (L:aa):R T:=match y with
 | .str b=>match op with
  | .Add=>bT (a.length+b.length<=lim) (.ok (.str (a++b)) L)
  | _=>.bad
 | .int j=>match op with
  | .Mult=>match a with
   | [ch]=>bT (rQ j) (.ok (.str (Ui j.toNat ch)) L)
   | _=>.bad
  | _=>.bad
 | _=>.bad
noncomputable def aQ (fz:Bool) (op:Operator) (x y:T) (L:aa):R T:=match vw L x with
 | .int i=>match vw L y with
  | .int j=>oI op i j L
  | _=>.bad
 | .str a=>oS op a (vw L y) L
 | .lst a=>match vw L y with
  | .lst b=>match op with
   | .Add=>eO fz (a++b) L
   | _=>.bad
  | _=>.bad
 | _=>.bad
noncomputable def ag (op:Operator) (x y:T) (L:aa):R T:=match op,x,y with
 | .Add,.int i,.int j=>.ok (.int (i+j)) L
 | .Sub,.int i,.int j=>.ok (.int (i - j)) L
 | _,_,_=>.bad
noncomputable def KP (x y:T) (L:aa):R Bool:=bT (dat 8 (vw L x)=true/\dat 8 (vw L y)=true) (.ok (eqT (vw L x) (vw L y)) L)
noncomputable def KQ (x y:T) (L:aa):R Bool:=match x,y with
 | .int i,.int j=>.ok (i != j) L
 | .str a,.str b=>.ok (a != b) L
 | _,_=>.bad
noncomputable def KR (x y:T) (L:aa):R Bool:=match x,y with
 | .int i,.int j=>.ok (decide (i<j)) L
 | .str a,.str b=>.ok (decide (a<b)) L
 | _,_=>.bad
noncomputable def KS (x y:T) (L:aa):R Bool:=match x,y with
 | .int i,.int j=>.ok (decide (j<i)) L
 | _,_=>.bad
noncomputable def DJ (x y:T) (L:aa):R Bool:=match x,y with
 | .int i,.int j=>.ok (decide (i<=j)) L
 | _,_=>.bad
noncomputable def mW (x y:T) (L:aa):R Bool:=match vw L y with
 | .str b=>match x with
  | .str [ch]=>.ok (decide (ch∈b)) L
  | _=>.bad
 | .lst ys=>bT (dat 8 x=true/\ys.all (dat 8)=true) (.ok (ys.any fun y=>eqT y x) L)
 | .tup ys=>bT (dat 8 x=true/\ys.all (dat 8)=true) (.ok (ys.any fun y=>eqT y x) L)
 | .aP ks=>bT (dq ks x) (.ok (dm ks x).isSome L)
 | _=>.bad
noncomputable def KU:T->Bool
 | .cb=>true
 | _=>false
noncomputable def R.map {α β:Type} (f:α->β):R α->R β
 | .ok a L=>.ok (f a) L
 | .bad=>.bad
noncomputable def Az (op:CmpOp) (x y:T) (L:aa):R Bool:=match op with
 | .Eq=>KP x y L
 | .NotEq=>KQ x y L
 | .Lt=>KR x y L
 | .Gt=>KS x y L
 | .LtE=>DJ x y L
 | .GtE=>DJ y x L
 | .In=>mW x y L
 | .NotIn=>(mW x y L).map (!·)
 | .Is=>match y with
  | .cb=>.ok (KU x) L
  | _=>.bad
 | .IsNot=>match y with
  | .cb=>.ok (!KU x) L
  | _=>.bad
noncomputable def cmp (op:CmpOp) (x y:T) (L:aa):R T:=(Az op x y L).map .bl
noncomputable def place (n:Nat) (i:Int):Option Nat:=if 0<=i then (if i<n then some i.toNat else none) else if -(n:Int)<=i then some (i+n).toNat else none
noncomputable def ix (x y:T) (L:aa):R T:=match vw L x with
 | .str s=>match y with
  | .int i=>lift (((place s.length i).bind fun k=>s[k]?).map fun ch=>.str [ch]) L
  | _=>.bad
 | .tup xs=>match y with
  | .int i=>lift ((place xs.length i).bind fun k=>xs[k]?) L
  | _=>.bad
 | .lst xs=>match y with
  | .int i=>lift ((place xs.length i).bind fun k=>xs[k]?) L
  | _=>.bad
 | .aP ks=>bT (dq ks y) (lift (dm ks y) L)
 | _=>.bad
noncomputable def clip (n d:Nat):Option Int->Nat
 | none=>d
 | some i=>if i<0 then (i+n).toNat else min i.toNat n
noncomputable def cut {α:Type} (xs:List α) (lo hi:Option Int):List α:=(xs.drop (clip xs.length 0 lo)).take (clip xs.length xs.length hi - clip xs.length 0 lo)
noncomputable def iH (fz:Bool) (x:T) (lo hi:Option Int) (L:aa):R T:=match vw L x with
 | .str s=>match lo,hi with
  | some i,some j=>bT (0<=i/\i<=j/\j<=s.length) (.ok (.str ((s.drop i.toNat).take (j - i).toNat)) L)
  | _,_=>.bad
 | .tup xs=>.ok (.tup (cut xs lo hi)) L
 | .lst xs=>eO fz (cut xs lo hi) L
 | _=>.bad
noncomputable def fld (f:Str) (x:T) (L:aa):R T:=match vw L x with
 | .obj _ fs=>lift (fs.lookup f) L
 | _=>.bad
noncomputable def v (i:Nat):SE:=fun φ L=>lift ((φ[i]?).join) L
noncomputable def c (x:T):SE:=fun _ L=>.ok x L
noncomputable def no {α:Type}:Fr->aa->R α:=fun _ _=>.bad
noncomputable def ib:List SE->SA
 | [],_,L=>.ok [] L
 | m::ms,φ,L=>(m φ L).bind fun t L1=>(ib ms φ L1).bind fun ts L2=>.ok (t::ts) L2
noncomputable def b1 (a:SE) (f:T->aa->R T):SE:=fun φ L=>(a φ L).bind f
noncomputable def b2 (a b:SE) (f:T->T->aa->R T):SE:=fun φ L=>(a φ L).bind fun x L1=>(b φ L1).bind fun y L2=>f x y L2
noncomputable def neg (x:T) (L:aa):R T:=match x with
 | .int i=>.ok (.int (-i)) L
 | _=>.bad
noncomputable def vC (op nt:CmpOp) (a b d:SE):SE:=fun φ L=>(a φ L).bind fun x L1=>(b φ L1).bind fun y L2=>(Az op x y L2).bind fun k L3=>if k=true then (d φ L3).bind fun z L4=>cmp nt y z L4 else .ok (.bl false) L3
noncomputable def tv (a:SE):ST:=fun φ L=>(a φ L).bind fun x L1=>match x with
 | .bl b=>.ok b L1
 | _=>.bad
noncomputable def AA (a b:ST):ST:=fun φ L=>(a φ L).bind fun x L1=>if x=true then b φ L1 else .ok false L1
noncomputable def KV (a b:ST):ST:=fun φ L=>(a φ L).bind fun x L1=>if x=true then .ok true L1 else b φ L1
noncomputable def eR (a:ST):ST:=fun φ L=>(a φ L).map (!·)
noncomputable def AB (a b:SE):SE:=fun φ L=>(tv a φ L).bind fun x L1=>if x=true then b φ L1 else .ok (.bl false) L1
noncomputable def KW (a b:SE):SE:=fun φ L=>(tv a φ L).bind fun x L1=>if x=true then .ok (.bl true) L1 else b φ L1
noncomputable def vD (a:SE):SE:=fun φ L=>(tv a φ L).map fun b=>.bl (!b)
noncomputable def yes:ST:=fun _ L=>.ok true L
noncomputable def Lz (k:ST) (a b:SE):SE:=fun φ L=>(k φ L).bind fun x L1=>if x=true then a φ L1 else b φ L1
noncomputable def tup (ms:List SE):SE:=fun φ L=>(ib ms φ L).bind fun ts L1=>.ok (.tup ts) L1
noncomputable def lst (fz:Bool) (ms:List SE):SE:=fun φ L=>(ib ms φ L).bind fun ts L1=>eO fz ts L1
noncomputable def vE (fz:Bool):SE:=fun _ L=>mk fz (.aP []) L
noncomputable def DK:Option SE->Fr->aa->R (Option Int)
 | none,_,L=>.ok none L
 | some m,φ,L=>(m φ L).bind fun t L1=>match t with
  | .int i=>.ok (some i) L1
  | _=>.bad
noncomputable def sl (fz:Bool) (a:SE) (lo hi:Option SE):SE:=fun φ L=>(a φ L).bind fun x L1=>(DK lo φ L1).bind fun i L2=>(DK hi φ L2).bind fun j L3=>iH fz x i j L3
noncomputable def ae (f:Fn) (ms:List SE):SE:=fun φ L=>(ib ms φ L).bind f
noncomputable def oh (m:Str) (f:Str->Option Fn) (a:SE) (ms:List SE):SE:=fun φ L=>(a φ L).bind fun x L1=>match vw L1 x with
 | .obj c fs=>match f c with
  | some F=>if (fs.lookup m).isNone=true then (ib ms φ L1).bind fun ts L2=>F (x::ts) L2 else .bad
  | none=>.bad
 | _=>.bad
inductive Ty where
 | s|l|t|d
noncomputable def CJ (L:aa) (t:T):Option Ty:=match vw L t with
 | .str _=>some .s
 | .lst _=>some .l
 | .tup _=>some .t
 | .aP _=>some .d
 | _=>none
noncomputable def aS (f:Ty->Option (T->Fn)) (a:SE) (ms:List SE):SE:=fun φ L=>(a φ L).bind fun x L1=>match (CJ L1 x).bind f with
 | some F=>(ib ms φ L1).bind fun ts L2=>F x ts L2
 | none=>.bad
open Classical in
noncomputable def stays (x:T) (L:aa):aa->Prop:=fun L'=>∀n,x=.ref n->at_ L' n=at_ L n
noncomputable def items (x:T) (L:aa):Option (List T):=match vw L x with
 | .str s=>some (s.map fun ch=>.str [ch])
 | .tup xs=>some xs
 | .lst xs=>some xs
 | _=>none
noncomputable def src (a:SE):SI:=fun φ L=>(a φ L).bind fun x L1=>match items x L1 with
 | some xs=>.ok (xs,stays x L1) L1
 | none=>.bad
noncomputable def upTo (lo:Int) (n:Nat):List T:=(UE n).map fun(k:Nat)=>.int (lo+k)
noncomputable def rR (i:Int):Prop:=-(2 ^ 62)<=i/\i<2 ^ 62
noncomputable instance (i:Int):Decidable (rR i):=UR _
noncomputable def rS (a b:SE):SI:=fun φ L=>(a φ L).bind fun x L1=>(b φ L1).bind fun y L2=>match x,y with
 | .int i,.int j=>bT (rR i/\rR j) (.ok (upTo i (j - i).toNat,fun _=>True) L2)
 | _,_=>.bad
noncomputable def num (n:Nat):List T->List T
 | []=>[]
 | x::r=>.tup [.int n,x]::num (n+1) r
noncomputable def KY (a:SE):SI:=fun φ L=>(a φ L).bind fun x L1=>match vw L1 x with
 | .lst xs=>.ok (num 0 xs,stays x L1) L1
 | _=>.bad
noncomputable def zp (xs ys:List T):List T:=(xs.zip ys).map fun p=>.tup [p.1,p.2]
noncomputable def LA (a b:SE):SI:=fun φ L=>(src a φ L).bind fun p L1=>(src b φ L1).bind fun q L2=>.ok (zp p.1 q.1,fun L'=>p.2 L'/\q.2 L') L2
noncomputable def dE (ks:List (T × T)):List T:=ks.map fun p=>.tup [p.1,p.2]
noncomputable def LB (a:SE):SI:=fun φ L=>(a φ L).bind fun x L1=>match vw L1 x with
 | .aP ks=>.ok (dE ks,stays x L1) L1
 | _=>.bad
inductive Tg where
 | one (i:Nat)|many (is:List Nat)
noncomputable def sets:List Nat->List T->Fr->Fr
 | i::is,t::ts,φ=>sets is ts (φ.set i (some t))
 | _,_,φ=>φ
noncomputable def Tg.set:Tg->T->Fr->Option Fr
 | .one i,t,φ=>some (φ.set i (some t))
 | .many is,.tup ts,φ=>if ts.length=is.length then some (sets is ts φ) else none
 | _,_,_=>none
open Classical in
noncomputable def compLoop (k:aa->Prop) (tg:Tg) (ts:ST) (m:SE) (ψ:Fr):List T->List T->aa->R (List T)
 | [],acc,L=>if k L then .ok acc L else .bad
 | t::r,acc,L=>if k L/\acc.length<lim then match tg.set t ψ with
   | some ψ1=>(ts ψ1 L).bind fun b L1=>if b=true then (m ψ1 L1).bind fun y L2=>compLoop k tg ts m ψ r (acc++[y]) L2 else compLoop k tg ts m ψ r acc L1
   | none=>.bad
  else .bad
noncomputable def inner (aV:List (Option Nat)) (φ:Fr):Fr:=aV.map fun o=>o.bind fun i=>(φ[i]?).join
noncomputable def comp (fz:Bool) (s:SI) (aV:List (Option Nat)) (tg:Tg) (ts:ST) (m:SE):SE:=fun φ L=>(s φ L).bind fun u L1=>(compLoop u.2 tg ts m (inner aV φ) u.1 [] L1).bind fun xs L2=>mk fz (.lst xs) L2
noncomputable def O.next (o:O) (f:Fr->aa->O):O:=match o with
 | .nx φ L=>f φ L
 | o=>o
noncomputable def ab:List SS->SS
 | [],φ,L=>.nx φ L
 | s::r,φ,L=>(s φ L).next (ab r)
noncomputable def pass:SS:=fun φ L=>.nx φ L
noncomputable def brk:SS:=fun φ L=>.bk φ L
noncomputable def cnt:SS:=fun φ L=>.ct φ L
noncomputable def fE:SS:=fun _ _=>.bad
noncomputable def asg (tg:Tg) (m:SE):SS:=fun φ L=>O.of (m φ L) fun t L1=>match tg.set t φ with
 | some φ1=>.nx φ1 L1
 | none=>.bad
noncomputable def fF (m:SE):SS:=fun φ L=>O.of (m φ L) fun _ L1=>.nx φ L1
noncomputable def ret (m:SE):SS:=fun φ L=>O.of (m φ L) fun t L1=>.rt t L1
noncomputable def iff (k:ST) (a b:SS):SS:=fun φ L=>O.of (k φ L) fun x L1=>if x=true then a φ L1 else b φ L1
noncomputable def aug (op:Operator) (i:Nat) (m:SE):SS:=fun φ L=>O.of (b2 (v i) m (ag op) φ L) fun t L1=>.nx (φ.set i (some t)) L1
noncomputable def i0 (fs:List (Str × T)) (f:Str) (t:T):List (Str × T):=match fs with
 | []=>[(f,t)]
 | (g,u)::r=>if g=f then (f,t)::r else (g,u)::i0 r f t
noncomputable def rU (f:Str) (x t:T) (L:aa):Option aa:=match x with
 | .ref n=>match at_ L n with
  | some (.obj c fs)=>if fs.length<200 then some (put L n (.obj c (i0 fs f t))) else none
  | _=>none
 | _=>none
noncomputable def iJ (o:SE) (f:Str) (m:SE):SS:=fun φ L=>O.of (m φ L) fun t L1=>O.of (o φ L1) fun x L2=>match rU f x t L2 with
 | some L3=>.nx φ L3
 | none=>.bad
noncomputable def i8 (x y t:T) (L:aa):Option aa:=match x with
 | .ref n=>match at_ L n with
  | some (.aP ks)=>if ks.length<lim/\dq ks y then some (put L n (.aP (dput ks y t))) else none
  | some (.lst xs)=>match y with
   | .int i=>if 0<=i/\i<xs.length then some (put L n (.lst (xs.set i.toNat t))) else none
   | _=>none
  | _=>none
 | _=>none
noncomputable def pZ (o i m:SE):SS:=fun φ L=>O.of (m φ L) fun t L1=>O.of (o φ L1) fun x L2=>O.of (i φ L2) fun y L3=>match i8 x y t L3 with
 | some L4=>.nx φ L4
 | none=>.bad
noncomputable def Hz (x y:T) (L:aa):R T:=match vw L x with
 | .aP ks=>bT (dq ks y) (lift (dm ks y) L)
 | _=>.bad
noncomputable def wU (op:Operator) (o i m:SE):SS:=fun φ L=>O.of (o φ L) fun x L1=>O.of (i φ L1) fun y L2=>O.of (Hz x y L2) fun z L3=>O.of (m φ L3) fun t L4=>O.of (ag op z t L4) fun r L5=>match i8 x y r L5 with
 | some L6=>.nx φ L6
 | none=>.bad
noncomputable def pS (k:ST) (b:SS):Nat->SS
 | 0,_,_=>.bad
 | n+1,φ,L=>O.of (k φ L) fun x L1=>if x=true then match b φ L1 with
   | .nx φ2 L2=>pS k b n φ2 L2
   | .ct φ2 L2=>pS k b n φ2 L2
   | .bk φ2 L2=>.nx φ2 L2
   | o=>o
  else .nx φ L1
open Classical in
noncomputable def forL (k:aa->Prop) (tg:Tg) (b:SS):List T->SS
 | [],φ,L=>if k L then .nx φ L else .bad
 | t::r,φ,L=>if k L then match tg.set t φ with
   | some φ1=>match b φ1 L with
    | .nx φ2 L2=>forL k tg b r φ2 L2
    | .ct φ2 L2=>forL k tg b r φ2 L2
    | .bk φ2 L2=>.nx φ2 L2
    | o=>o
   | none=>.bad
  else .bad
noncomputable def bS (s:SI) (tg:Tg) (b:SS):SS:=fun φ L=>O.of (s φ L) fun u L1=>forL u.2 tg b u.1 φ L1
mutual
noncomputable def lt (n:Nat):T->Bool
 | .ref k=>decide (k<n)
 | .tup xs=>cT n xs
 | .lst xs=>cT n xs
 | .aP ks=>Aq n ks
 | .obj _ fs=>mX n fs
 | _=>true
noncomputable def cT (n:Nat):List T->Bool
 | []=>true
 | x::xs=>lt n x && cT n xs
noncomputable def Aq (n:Nat):List (T × T)->Bool
 | []=>true
 | (x,y)::xs=>lt n x && lt n y && Aq n xs
noncomputable def mX (n:Nat):List (Str × T)->Bool
 | []=>true
 | (_,y)::xs=>lt n y && mX n xs
end
noncomputable def bU (n0:Nat) (L:aa):Nat->T->Option T
 | 0,_=>none
 | k+1,t=>if lt n0 t=true then some t else match t with
  | .ref n=>match at_ L n with
   | some c=>bU n0 L k c
   | none=>none
  | .tup xs=>(xs.mapM (bU n0 L k)).map .tup
  | .lst xs=>(xs.mapM (bU n0 L k)).map .lst
  | .aP ks=>(ks.mapM fun p=>if lt n0 p.1=true then (bU n0 L k p.2).map fun x=>(p.1,x) else none).map .aP
  | .obj c fs=>(fs.mapM fun p=>(bU n0 L k p.2).map fun x=>(p.1,x)).map (.obj c)
  | _=>none
noncomputable def old (L Lo:aa):Prop:=∀n c,at_ Lo n=some c->at_ L n=some c\/lt L.length c=true
open Classical in
noncomputable def fin (L:aa) (t:T) (L':aa):R T:=if old L (L'.drop (L'.length - L.length)) then lift (bU L.length L' 9 t) (L'.drop (L'.length - L.length)) else .bad
noncomputable def run (np nn:Nat) (b:SS):Fn:=fun xs L=>if xs.length=np then match b (xs.map some++Ui (nn - np) none) L with
  | .rt t L'=>fin L t L'
  | .nx _ L'=>fin L .cb L'
  | _=>.bad
 else .bad
noncomputable def make (cn:Str) (init:Fn):Fn:=fun xs L=>match init (.ref L.length::xs) (.obj cn []::L) with
 | .ok .cb L'=>fin L (.ref L.length) L'
 | _=>.bad
end M
namespace M
open PySem PySem.Spec PyProof.Rows
noncomputable def bL:Fn:=fun xs L=>match xs with
 | [x]=>match vw L x with
  | .str s=>.ok (.int s.length) L
  | .tup ys=>.ok (.int ys.length) L
  | .lst ys=>.ok (.int ys.length) L
  | _=>.bad
 | _=>.bad
noncomputable def cL (fz:Bool):Fn:=fun xs L=>match xs with
 | [x]=>match vw L x with
  | .tup ys=>eO fz ys L
  | .lst ys=>eO fz ys L
  | .aP ks=>bT ((ks.map (·.1)).all jI=true) (eO fz (ks.map (·.1)) L)
  | _=>.bad
 | _=>.bad
noncomputable def iK:Fn:=fun xs L=>match xs with
 | [x]=>match vw L x with
  | .tup ys=>.ok (.tup ys) L
  | .lst ys=>.ok (.tup ys) L
  | _=>.bad
 | _=>.bad
noncomputable def Hc:T->Option Bool
 | .bl b=>some b
 | _=>none
noncomputable def LC:T->Option Int
 | .int i=>some i
 | _=>none
noncomputable def Hd:T->Option Cs
 | .str s=>some s
 | _=>none
noncomputable def AD {α:Type} (f:T->Option α) (g:List α->T):Fn:=fun xs L=>match xs with
 | [x]=>match vw L x with
  | .lst ys=>lift ((ys.mapM f).map g) L
  | _=>.bad
 | _=>.bad
noncomputable def p4:Fn:=AD Hc fun bs=>.bl (bs.all id)
noncomputable def vF:Fn:=AD Hc fun bs=>.bl (bs.any id)
noncomputable def wW:Fn:=AD LC fun is=>.int is.sum
noncomputable def wX:Fn:=fun xs L=>match xs with
 | [.int i,.int j]=>.ok (.int (if j<i then j else i)) L
 | [.str a,.str b]=>.ok (.str (if b<a then b else a)) L
 | _=>.bad
noncomputable def rV:Fn:=fun xs L=>match xs with
 | [.int i]=>bT (i.natAbs.log2<1920/\(Vd (toString i)).cps.toList.length<=lim) (.ok (.str (Vd (toString i)).cps.toList) L)
 | _=>.bad
noncomputable def vG:Fn:=fun xs L=>match xs with
 | [.str z]=>match PySem.intText? ⟨z.toArray⟩ with
  | some n=>bT (z.length<=640) (.ok (.int n) L)
  | none=>.bad
 | _=>.bad
noncomputable def KZ (L:aa) (n:String):T->R T
 | .bl _=>if n="bool" then .ok (.bl true) L else if n="int" then .ok (.bl true) L else .bad
 | .int _=>if n="bool" then .ok (.bl false) L else if n="int" then .ok (.bl true) L else .bad
 | _=>.bad
noncomputable def LD:T->Option String
 | .cl c=>match c with
  | .type n=>some n
  | _=>none
 | _=>none
noncomputable def He:Fn:=fun xs L=>match xs with
 | [x,y]=>match LD y with
  | some n=>KZ L n x
  | none=>.bad
 | _=>.bad
noncomputable def toS (z:Cs):Str:=⟨z.toArray⟩
noncomputable def AE:T->Fn:=fun x ts L=>match x,ts with
 | .ref n,[t]=>match at_ L n with
  | some (.lst xs)=>bT (xs.length<lim) (.ok .cb (put L n (.lst (xs++[t]))))
  | _=>.bad
 | _,_=>.bad
noncomputable def wY:T->Fn:=fun x ts L=>match x,ts with
 | .ref n,[t]=>match at_ L n,vw L t with
  | some (.lst xs),.lst ys=>bT (xs.length+ys.length<=lim) (.ok .cb (put L n (.lst (xs++ys))))
  | some (.lst xs),.tup ys=>bT (xs.length+ys.length<=lim) (.ok .cb (put L n (.lst (xs++ys))))
  | _,_=>.bad
 | _,_=>.bad
noncomputable def t4:T->Fn:=fun x ts L=>match vw L x,ts with
 | .lst xs,[t]=>bT (dat 8 t=true/\xs.all (dat 8)=true) (.ok (.int (xs.countP fun y=>eqT y t:Nat)) L)
 | _,_=>.bad
noncomputable def t5:T->Fn:=fun x ts L=>match vw L x,ts with
 | .tup xs,[t]=>bT (dat 8 t=true/\xs.all (dat 8)=true) (.ok (.int (xs.countP fun y=>eqT y t:Nat)) L)
 | _,_=>.bad
noncomputable def AF:T->Fn:=fun x ts L=>match x,ts with
 | .tup xs,[t]=>bT (dat 8 t=true/\xs.all (dat 8)=true) (match xs.findIdx? fun y=>eqT y t with
  | some j=>.ok (.int j) L
  | none=>.bad)
 | _,_=>.bad
noncomputable def jn (sep:Cs):List Cs->Cs
 | []=>[]
 | x::r=>match r with
  | []=>x
  | _::_=>x++sep++jn sep r
noncomputable def j0:T->Fn:=fun x ts L=>match x,ts with
 | .str sep,[t]=>match (items t L).bind fun ys=>ys.mapM Hd with
  | some zs=>match vw L t with
   | .str _=>.bad
   | _=>bT ((zs.map (·.length)).sum+zs.length * sep.length<=16777216) (.ok (.str (jn sep zs)) L)
  | none=>.bad
 | _,_=>.bad
noncomputable def lA (fz:Bool):T->Fn:=fun x ts L=>match x,ts with
 | .str z,[.str y]=>bT (y≠[]/\((WG (toS z) (toS y)).all fun s=>decide (s.cps.toList.length<=lim))=true) (eO fz ((WG (toS z) (toS y)).map fun s=>.str s.cps.toList) L)
 | _,_=>.bad
noncomputable def lB:T->Fn:=fun x ts L=>match x,ts with
 | .str z,[.str y]=>bT ((XY (toS z) (toS y)).cps.toList.length<=lim) (.ok (.str (XY (toS z) (toS y)).cps.toList) L)
 | _,_=>.bad
noncomputable def iz:T->Fn:=fun x ts L=>match vw L x,ts with
 | .aP ks,[y,t]=>bT (dq ks y) (.ok ((dm ks y).getD t) L)
 | _,_=>.bad
noncomputable def wZ:T->Fn:=fun x ts L=>match x,ts with
 | .ref n,[y,t]=>match at_ L n with
  | some (.aP ks)=>bT (ks.length<lim/\dq ks y) (match dm ks y with
   | some z=>.ok z L
   | none=>.ok t (put L n (.aP (dput ks y t))))
  | _=>.bad
 | _,_=>.bad
noncomputable def prsOf:List T->Option (List (T × T))
 | []=>some []
 | t::r=>match t,prsOf r with
  | .tup [k,x],some ps=>some ((k,x)::ps)
  | _,_=>none
noncomputable def pU (ps:List (T × T)):List (T × T):=ps.foldl (fun acc p=>dput acc p.1 p.2) []
noncomputable def w4 (ys:List T) (L:aa):R T:=match prsOf ys with
 | some ps=>bT (fW (ps.map (·.1))=true/\ps.length<=100000) (.ok (.ref L.length) (.aP (pU ps)::L))
 | none=>.bad
noncomputable def lC:Fn:=fun xs L=>match xs with
 | [x]=>match vw L x with
  | .lst ys=>w4 ys L
  | .tup ys=>w4 ys L
  | _=>.bad
 | _=>.bad
abbrev Hp:=Ug->Option (Bool × Obj)
noncomputable def upd (H:Hp) (a:Ug) (x:Bool × Obj):Hp:=fun b=>if b=a then some x else H b
theorem aq {H:Hp} {a x}:upd H a x a=some x:=if_pos rfl
theorem az {H:Hp} {a b x} (h:b≠a):upd H a x b=H b:=if_neg h
structure G where
 H:Hp
 α:List (Ug × Ug)
 B:Heap
 cls:Str->Option Ug
 w:VL
noncomputable def G.kn (g:G) (b:Bool) (a:Ug) (o:Obj):Prop:=g.H a=some (b,o)\/(b=true/\g.B.get? a=some o)
noncomputable def rW (p:Option (Ug × Ug)) (a d:Ug):Prop:=p=none\/p=some (a,d)
mutual
noncomputable def hT (w:VL):T->Int
 | .int i=>hashInt i
 | .str s=>hashStr w ⟨s.toArray⟩
 | .tup xs=>reduceHash (WH (Ar w xs))
 | _=>0
noncomputable def Ar (w:VL):List T->List Int
 | []=>[]
 | x::xs=>hT w x::Ar w xs
end
inductive RT (g:G):Option (Ug × Ug)->T->Ts->Prop
 | cb:RT g none .cb .none
 | bl (b):RT g none (.bl b) (.bool b)
 | int (i t):RT g none (.int i) (.int i t)
 | str (s t) (h:s.length<=T7):RT g none (.str s) (.str ⟨s.toArray⟩ t)
 | ty (n):RT g none (.cl (.type n)) (.type n)
 | own {n C} (h:g.cls n=some C):RT g none (.cl (.ref C)) (.ref C)
 | ref {n p} (h:at_ g.α n=some p):RT g none (.ref n) (.ref p.1)
 | tup {a o its n xs} (hk:g.kn true a o) (hc:o.cls=.type "tuple"/\o.dict=none) (hd:o.data=.seq its n) (hz:xs.length<=T7) (hl:xs.length=its.size)
   (hi:∀(i:Nat) x v,xs[i]?=some x->its[i]?=some v->RT g none x v):RT g none (.tup xs) (.ref a)
 | lst {p a its n xs} (ht:rW p a a) (hk:g.kn p.isNone a { cls:=.type "list",data:=.seq its n }) (hz:xs.length<=T7) (hl:xs.length=its.size)
   (hi:∀(i:Nat) x v,xs[i]?=some x->its[i]?=some v->RT g none x v):RT g p (.lst xs) (.ref a)
 | aP {p a o es n ks} (ht:rW p a a) (hk:g.kn p.isNone a o) (hx:o.ExactDict) (hd:o.data=.dict es n) (hz:ks.length<=T7) (hl:ks.length=es.size) (hn:(ks.map (·.1)).Nodup/\fW (ks.map (·.1))=true) (hs:(a == sysModules)=false)
   (hh:∀(i:Nat) x e,ks[i]?=some x->es[i]?=some e->e.hash=hT g.w x.1) (h1:∀(i:Nat) x e,ks[i]?=some x->es[i]?=some e->RT g none x.1 e.key)
   (h2:∀(i:Nat) x e,ks[i]?=some x->es[i]?=some e->RT g none x.2 e.val):RT g p (.aP ks) (.ref a)
 | obj {p a d C od es n c fs} (ht:rW p a d) (hne:d≠a) (hc:g.cls c=some C) (hk:g.kn p.isNone a (UI C d)) (pV:g.kn p.isNone d od) (hd:od.data=.dict es n) (hs:StrKeys es) (hu:UniqKeys es)
   (hz:fs.length<=1000) (hn:(fs.map (·.1)).Nodup) (hl:∀f,(fs.lookup f).isSome=(nsFind es f).isSome) (hi:∀f x v,fs.lookup f=some x->nsFind es f=some v->RT g none x v):RT g p (.obj c fs) (.ref a)
structure Le (g g':G):Prop where
 f:∀a o,g.H a=some (true,o)->g'.H a=some (true,o)
 α:∀n p,at_ g.α n=some p->at_ g'.α n=some p
 B:g'.B=g.B
 m:g'.cls=g.cls
 w:g'.w=g.w
theorem Le.refl (g:G):Le g g:=⟨fun _ _ h=>h,fun _ _ h=>h,rfl,rfl,rfl⟩
theorem Le.trans {a b c:G} (x:Le a b) (y:Le b c):Le a c:=⟨fun _ _ h=>y.f _ _ (x.f _ _ h),fun _ _ h=>y.α _ _ (x.α _ _ h),y.B.trans x.B,y.m.trans x.m,y.w.trans x.w⟩
theorem Le.kn {g g':G} (l:Le g g') {a o} (h:g.kn true a o):g'.kn true a o:=by
 rcases h with h|⟨_,h⟩
 ·exact .inl (l.f _ _ h)
 ·exact .inr ⟨rfl,by rw [l.B];exact h⟩
theorem RT.up {g g':G} (l:Le g g') {p:Option (Ug × Ug)} (hp:∀q,p=some q->g'.H q.1=g.H q.1/\g'.H q.2=g.H q.2) {t v} (h:RT g p t v):RT g' p t v:=by
 have kn:∀{p:Option (Ug × Ug)} {a d b o},(∀q,p=some q->g'.H q.1=g.H q.1/\g'.H q.2=g.H q.2)->rW p a d->b=a\/b=d->g.kn p.isNone b o->g'.kn p.isNone b o:=fun {p a d b o} hp ht hb hk=>by
  rcases ht with rfl|rfl
  ·exact l.kn hk
  ·rcases hk with hk|⟨z,_⟩
   ·refine .inl ?_
    rcases hb with rfl|rfl
    ·rw [(hp _ rfl).1];exact hk
    ·rw [(hp _ rfl).2];exact hk
   ·cases z
 have n0:∀q:Ug × Ug,(none:Option (Ug × Ug))=some q->g'.H q.1=g.H q.1/\g'.H q.2=g.H q.2:=fun q z=>by cases z
 induction h with
 | cb=>exact .cb
 | bl b=>exact .bl b
 | int i t=>exact .int i t
 | str s t h=>exact .str s t h
 | ty n=>exact .ty n
 | own h=>exact .own (by rw [l.m];exact h)
 | ref h=>exact .ref (l.α _ _ h)
 | tup hk hc hd hz hl hi ih=>exact .tup (l.kn hk) hc hd hz hl fun i x v e1 e2=>ih i x v e1 e2 n0
 | lst ht hk hz hl hi ih=>exact .lst ht (kn hp ht (.inl rfl) hk) hz hl fun i x v e1 e2=>ih i x v e1 e2 n0
 | aP ht hk hx hd hz hl hn hs hh h1 h2 i1 i2=>exact .aP ht (kn hp ht (.inl rfl) hk) hx hd hz hl hn hs (by rw [l.w];exact hh) (fun i x v e1 e2=>i1 i x v e1 e2 n0) fun i x v e1 e2=>i2 i x v e1 e2 n0
 | obj ht hne hc hk pV hd hs hu hz hn hl hi ih=>exact .obj ht hne (by rw [l.m];exact hc) (kn hp ht (.inl rfl) hk) (kn hp ht (.inr rfl) pV) hd hs hu hz hn hl fun f x v e1 e2=>ih f x v e1 e2 n0
theorem RT.le {g g':G} {t v} (h:RT g none t v) (l:Le g g'):RT g' none t v:=h.up l (fun _ z=>by cases z)
theorem RT.iI {g:G} {p:Option (Ug × Ug)} {i:Int} {v:Ts} (h:RT g p (.int i) v):∃t,v=.int i t:=by cases h;exact⟨_,rfl⟩
noncomputable def LF (g:G) (xs:List T) (its:Array Ts):Prop:=xs.length=its.size/\∀(i:Nat) x v,xs[i]?=some x->its[i]?=some v->RT g none x v
theorem RT.cI {g:G} {p:Option (Ug × Ug)} {n:String} {v:Ts} (h:RT g p (.cl (.type n)) v):v=.type n:=by cases h;rfl
theorem RT.nI {g:G} {p:Option (Ug × Ug)} {v:Ts} (h:RT g p .cb v):v=.none:=by cases h;rfl
theorem RT.bI {g:G} {p:Option (Ug × Ug)} {b:Bool} {v:Ts} (h:RT g p (.bl b) v):v=.bool b:=by cases h;rfl
theorem RT.iM {g:G} {p:Option (Ug × Ug)} {z:Cs} {v:Ts} (h:RT g p (.str z) v):∃t,v=.str ⟨z.toArray⟩ t/\z.length<=T7:=by cases h with|str _ t h=>exact⟨t,rfl,h⟩
theorem RT.sI {g:G} {p:Option (Ug × Ug)} {z:Cs} {v:Ts} (h:RT g p (.str z) v):∃t,v=.str ⟨z.toArray⟩ t:=h.iM.imp fun _ h=>h.1
theorem RT.tI {g:G} {p:Option (Ug × Ug)} {xs:List T} {v:Ts} (h:RT g p (.tup xs) v):RT g none (.tup xs) v/\∃a o its n,v=.ref a/\g.kn true a o/\(o.cls=.type "tuple"/\o.dict=none)/\o.data=.seq its n/\xs.length<=T7/\LF g xs its:=by cases h with|tup hk hc hd hz hl hi=>exact⟨.tup hk hc hd hz hl hi,_,_,_,_,rfl,hk,hc,hd,hz,hl,hi⟩
abbrev cu (g:G) (xs:List T) (us:List Ts):Prop:=Paired (RT g none) xs us
theorem cu.le {g g':G} {xs us} (h:cu g xs us) (l:Le g g'):cu g' xs us:=by
 induction h with
 | nil=>exact .nil
 | cons a _ ih=>exact .cons (a.le l) ih
theorem du {α β:Type} {F:α->β->Prop}:∀{xs:List α} {ys:List β},xs.length=ys.length->(∀(i:Nat) x v,xs[i]?=some x->ys[i]?=some v->F x v)->Paired F xs ys
 | [],[],_,_=>.nil
 | x::xs,y::ys,hl,h=>.cons (h 0 x y rfl rfl) (du (by simpa using hl) fun i a b e1 e2=>h (i+1) a b (by simpa using e1) (by simpa using e2))
theorem vH {α β:Type} {F:α->β->Prop} {xs:List α} {ys:List β} (h:Paired F xs ys):∀(i:Nat) x v,xs[i]?=some x->ys[i]?=some v->F x v:=by
 induction h with
 | nil=>intro i x v e;simp at e
 | cons a _ ih =>
  intro i x v e1 e2;cases i with
  | zero=>simp at e1 e2;subst e1 e2;exact a
  | succ i=>exact ih i x v (by simpa using e1) (by simpa using e2)
theorem rY {α β:Type} {F:α->β->Prop} {xs:List α} {ys:List β} (h:Paired F xs ys) {i:Nat} {x} (e:xs[i]?=some x):∃v,ys[i]?=some v/\F x v:=by
 have hl:=TV h;have hi:i<ys.length:=by rw [<- hl];exact(TM.mp e).1
 exact⟨ys[i],by simp,vH h i x _ e (by simp)⟩
structure Rel (g:G) (L:aa):Prop where
 len:g.α.length=L.length
 cells:∀n c,at_ L n=some c->∃p,at_ g.α n=some p/\RT g (some p) c (.ref p.1)
 apart:∀n m p q,at_ g.α n=some p->at_ g.α m=some q->n≠m->p.1≠q.1/\p.1≠q.2/\p.2≠q.1/\p.2≠q.2
 live:∀n p,at_ g.α n=some p->(∃o,g.H p.1=some (false,o))/\∃o,g.H p.2=some (false,o)
noncomputable def As (H:Hp) (h:Heap):Prop:=∀a b o,H a=some (b,o)->h.get? a=some o
structure Un (ex:List Ug) (H H':Hp) (h h':Heap):Prop where
 keep:∀b o,h.get? b=some o->H b=none->b∉ex->h'.get? b=some o
 free:∀b o,h.get? b=some o->H b=none->b∉ex->H' b=none
 bU:∀b o,H b=some (true,o)->H' b=some (true,o)
theorem Un.trans {ex H H1 H2 h h1 h2} (a:Un ex H H1 h h1) (b:Un ex H1 H2 h1 h2):Un ex H H2 h h2 where
 keep:=fun c o q n x=>b.keep c o (a.keep c o q n x) (a.free c o q n x) x
 free:=fun c o q n x=>b.free c o (a.keep c o q n x) (a.free c o q n x) x
 bU:=fun c o q=>b.bU c o (a.bU c o q)
theorem Un.kept {ex H h h'} (k:∀b u,h.get? b=some u->h'.get? b=some u):Un ex H H h h':=⟨fun b o q _ _=>k b o q,fun _ _ _ n _=>n,fun _ _ q=>q⟩
theorem As.fresh {H h a} (x:As H h) (e:h.objs.size<=a):H a=none:=by
 cases q:H a with
 | none=>rfl
 | some u=>exact absurd (Uc (T3 (x a u.1 u.2 q)) e) (Vg _)
structure Mod (K:Ua) (mg:Str->Option Ts) (base:Heap):Prop where
 Hf:K.In base
 glob:base.Ns Uv mg
 blt:∃mb,base.Ns builtinsNs mb/\∀x:Str,x≠"__name__"->mb x=bootBuiltins x
 nolimit:base.NoLimit
structure Cx where
 prog:UU
 w:VL
 K:Ua
 mg:Str->Option Ts
 cls:Str->Option Ug
 base:Heap
 A:Ux
 N:List Str
 s₀:Tv
 H₀:Hp
 env:Env
 ex:List Ug
 fn:Str->Bool
noncomputable def K0 (sc:Scope) (x:Str):Prop:=sc.names.lookup x=some .local\/sc.names.lookup x=some .cell\/sc.names.lookup x=some .free
noncomputable def Loc (sc:Scope) (x:Str):Prop:=sc.names.lookup x=some .local\/sc.names.lookup x=some .cell
noncomputable def Look (env:Env) (h:Heap) (m:Str->Option Ts) (x:Str) (u:Ts):Prop :=
 (env.kindOf x=some .local/\m x=some u)\/((env.kindOf x=some .cell\/env.kindOf x=some .free)/\∃c,env.cells.lookup x=some c/\h.IsCell c (some u))
structure Cx.Ok (X:Cx):Prop where
 mod:Mod X.K X.mg X.base
 kind:X.env.scope.kind=.function
 glob:X.env.globals=Uv
 blt:X.env.builtins=builtinsNs
 above:X.s₀.heap.objs.size<=X.env.locals
 inj:∀x y c,X.env.cells.lookup x=some c->X.env.cells.lookup y=some c->x=y
 has:∀x,(X.env.kindOf x=some .cell\/X.env.kindOf x=some .free)->∃c,X.env.cells.lookup x=some c
 P6:∀x c,X.fn x=true->X.env.cells.lookup x=some c->X.s₀.heap.objs.size<=c
 hd:X.A.handled=none
 SK:∀b∈X.ex,b≠X.env.locals/\∀x c,X.env.cells.lookup x=some c->c≠b
 bs:∀b o,X.base.get? b=some o->X.s₀.heap.get? b=some o/\X.H₀ b=none
 Hg:X.base.objs.size<=X.s₀.heap.objs.size
 DL:∀b o,X.base.get? b=some o->b∉X.ex
abbrev aX:=List (Ug × Obj)
structure Inv (X:Cx) (pins:aX) (φ:Fr) (g:G) (L:aa) (s:Tv):Prop where
 ok:X.Ok
 os:s.os=X.s₀.os
 bare:AllBare s.gens
 base:Un X.ex X.H₀ g.H X.s₀.heap s.heap
 loc:∃m,s.heap.Ns X.env.locals m/\∀(i:Nat) (x:Str) (t:T),X.N[i]?=some x->φ[i]?=some (some t)->K0 X.env.scope x->∃u,RT g none t u/\Look X.env s.heap m x u
 cell:∀x c,X.env.cells.lookup x=some c->∃v,s.heap.IsCell c v
 free:g.H X.env.locals=none
 p5:∀x c,X.env.cells.lookup x=some c->g.H c=none
 pin:∀p∈pins,s.heap.get? p.1=some p.2/\g.H p.1=none/\p.1≠X.env.locals/\∀v,p.2.data≠.cell v
 hok:As g.H s.heap
 len:φ.length=X.N.length
 rel:Rel g L
 gB:g.B=X.base
 gm:g.cls=X.cls
 gw:g.w=X.w
section
variable {X:Cx} {pins:aX} {φ:Fr} {g g':G} {L L':aa} {s:Tv} {h':Heap}
theorem Inv.bs (I:Inv X pins φ g L s):∀b o,X.base.get? b=some o->s.heap.get? b=some o/\g.H b=none:=fun b o e =>
 ⟨I.base.keep b o (I.ok.bs b o e).1 (I.ok.bs b o e).2 (I.ok.DL b o e),I.base.free b o (I.ok.bs b o e).1 (I.ok.bs b o e).2 (I.ok.DL b o e)⟩
theorem Inv.bk (I:Inv X pins φ g L s):∀b o,X.base.get? b=some o->s.heap.get? b=some o:=fun b o e=>(I.bs b o e).1
theorem Inv.kn (I:Inv X pins φ g L s) {b a o} (h:g.kn b a o):s.heap.get? a=some o:=by
 rcases h with h|⟨_,h⟩
 ·exact I.hok _ _ _ h
 ·exact I.bk _ _ (by rw [<- I.gB];exact h)
theorem Inv.mod (I:Inv X pins φ g L s):Mod X.K X.mg X.base:=I.ok.mod
theorem Inv.DM (I:Inv X pins φ g L s):X.K.In s.heap:=I.ok.mod.Hf.keeps I.bk
theorem Inv.nolimit (I:Inv X pins φ g L s):s.heap.NoLimit:=I.ok.mod.nolimit.keeps I.bk
theorem Inv.lt (I:Inv X pins φ g L s):X.env.locals<s.heap.objs.size:=let ⟨_,hn,_⟩:=I.loc;hn.lt
theorem Inv.sz (I:Inv X pins φ g L s):X.s₀.heap.objs.size<=s.heap.objs.size:=TU I.ok.above (WR I.lt)
theorem Inv.fresh (I:Inv X pins φ g L s):g.H s.heap.objs.size=none:=I.hok.fresh (TK _)
theorem Inv.Hh (I:Inv X pins φ g L s):∀x c,X.env.cells.lookup x=some c->c≠X.env.locals:=fun x c e z=>by
 obtain⟨v,o,ho,hd⟩:=I.cell x c e;obtain⟨m,⟨o',es,ep,ho',hd',_⟩,_⟩:=I.loc;rw [z,ho'] at ho;cases ho;rw [hd'] at hd;cases hd
theorem Inv.step {g1:Array GenState} {t':Nat} {d':Drawn} {ch:List Ug} (I:Inv X pins φ g L s) (l:Le g g')
  (wC:∀b∈ch,(b∈X.ex\/X.s₀.heap.objs.size<=b)/\b≠X.env.locals/\(∀x c,X.env.cells.lookup x=some c->c≠b)/\∀p∈pins,p.1≠b)
  (keep:∀b o,b≠X.env.locals->b∉ch->s.heap.get? b=some o->g.H b=none->h'.get? b=some o) (free:∀b o,b∉ch->s.heap.get? b=some o->g.H b=none->g'.H b=none)
  (ns:∀m,s.heap.Ns X.env.locals m->h'.Ns X.env.locals m) (hok:As g'.H h') (hg:AllBare g1) (rel:Rel g' L'):Inv X pins φ g' L' { s with heap:=h',gens:=g1,drawn:=d',toks:=t' }:=by
 have P7:∀b o,X.s₀.heap.get? b=some o->b≠X.env.locals:=fun b o e=>Ub (Uc (T3 e) I.ok.above)
 have Oy:∀b o,X.s₀.heap.get? b=some o->b∉X.ex->b∉ch:=fun b o e hx hb=>by
  rcases(wC b hb).1 with z|z
  ·exact hx z
  ·exact absurd (Uc (T3 e) z) (Vg _)
 have cellK:∀x c,X.env.cells.lookup x=some c->∀v,s.heap.IsCell c v->h'.IsCell c v:=fun x c e v ⟨o,ho,hd⟩ =>
  ⟨o,keep c o (I.Hh x c e) (fun z=>(wC c z).2.2.1 x c e rfl) ho (I.p5 x c e),hd⟩
 refine⟨I.ok,I.os,hg,⟨fun b o e n hx=>?_,fun b o e n hx=>?_,fun b o e=>l.f b o (I.base.bU b o e)⟩,?_,fun x c e=>?_,?_,fun x c e=>?_,fun p hp=>?_,hok,I.len,rel,l.B.trans I.gB,l.m.trans I.gm,l.w.trans I.gw⟩
 ·exact keep b o (P7 b o e) (Oy b o e hx) (I.base.keep b o e n hx) (I.base.free b o e n hx)
 ·exact free b o (Oy b o e hx) (I.base.keep b o e n hx) (I.base.free b o e n hx)
 ·obtain⟨m,hn,hl⟩:=I.loc
  refine⟨m,ns m hn,fun i x v e1 e2 e3=>?_⟩;obtain⟨u,r,q⟩:=hl i x v e1 e2 e3;refine⟨u,r.le l,?_⟩;rcases q with q|⟨k,c,e,z⟩
  ·exact .inl q
  ·exact .inr ⟨k,c,e,cellK x c e _ z⟩
 ·obtain⟨v,z⟩:=I.cell x c e
  exact⟨v,cellK x c e v z⟩
 ·obtain⟨m,⟨o,_,_,ho,_⟩,_⟩:=I.loc
  exact free _ o (fun z=>(wC _ z).2.1 rfl) ho I.free
 ·obtain⟨v,o,ho,hd⟩:=I.cell x c e
  exact free c o (fun z=>(wC c z).2.2.1 x c e rfl) ho (I.p5 x c e)
 ·obtain⟨e,n,ne,d⟩:=I.pin p hp
  have Oz:p.1∉ch:=fun z=>(wC p.1 z).2.2.2 p hp rfl
  exact⟨keep p.1 p.2 ne Oz e n,free p.1 p.2 Oz e n,ne,d⟩
theorem Inv.un {t':Nat} (I:Inv X pins φ g L s) (l:Le g g') (u:Un [] g.H g'.H s.heap h') (hok:As g'.H h') (rel:Rel g' L'):Inv X pins φ g' L' { s with heap:=h',toks:=t' }:=by
 obtain⟨m,⟨o,es,ep,ho,r⟩,_⟩:=id I.loc;have hL:=u.keep _ o ho I.free (by simp)
 exact I.step (g1:=s.gens) (d':=s.drawn) (ch:=[]) l (fun _ z=>nomatch z) (fun b o _ _ e n=>u.keep b o e n (by simp)) (fun b o _ e n=>u.free b o e n (by simp)) (fun m' hm=>by
  obtain⟨o',fq,Hi,ho',r'⟩:=hm;rw [ho] at ho';cases ho';exact⟨_,fq,Hi,hL,r'⟩) hok I.bare rel
theorem Inv.call {s':Tv} {ch:List Ug} (I:Inv X pins φ g L s) (l:Le g g') (ho:s'.os=s.os) (u:Un ch g.H g'.H s.heap s'.heap) (hok:As g'.H s'.heap) (hg:AllBare s'.gens) (rel:Rel g' L')
  (wC:∀b∈ch,(b∈X.ex\/X.s₀.heap.objs.size<=b)/\b≠X.env.locals/\(∀x c,X.env.cells.lookup x=some c->c≠b)/\∀p∈pins,p.1≠b):Inv X pins φ g' L' s':=by
 obtain⟨hh,g1,d',t',o'⟩:=s';obtain rfl:o'=s.os:=ho;obtain⟨m,⟨o,es,ep,ho,r⟩,_⟩:=id I.loc;have hL:=u.keep _ o ho I.free fun z=>(wC _ z).2.1 rfl
 exact I.step (ch:=ch) l wC (fun b o _ hc e n=>u.keep b o e n hc) (fun b o hc e n=>u.free b o e n hc) (fun m' hm=>by
  obtain⟨o',fq,Hi,ho',r'⟩:=hm;rw [ho] at ho';cases ho';exact⟨_,fq,Hi,hL,r'⟩) hok hg rel
noncomputable def fG (X:Cx) (pins:aX) (H:Hp) (b:Ug):Prop:=H b=none/\b≠X.env.locals/\(b∈X.ex\/X.s₀.heap.objs.size<=b)/\(∀x c,X.env.cells.lookup x=some c->c≠b)/\∀p∈pins,p.1≠b
theorem Inv.rZ {b:Ug} {H':Hp} (I:Inv X pins φ g L s) (hb:s.heap.objs.size<=b) (hn:H' b=none):fG X pins H' b:=by
 refine⟨hn,UP (Uc I.lt hb),.inr (TU I.sz hb),fun x c e z=>?_,fun p hp z=>?_⟩
 ·obtain⟨v,q⟩:=I.cell x c e
  exact absurd (Uc q.lt (by rw [z];exact hb)) (Vg _)
 ·exact absurd (Uc (T3 (I.pin p hp).1) (by rw [z];exact hb)) (Vg _)
theorem Inv.turned {t':Nat} {ch:List Ug} (I:Inv X pins φ g L s) (k:∀b o,b∉ch->s.heap.get? b=some o->h'.get? b=some o) (hf:∀b∈ch,fG X pins g.H b):Inv X pins φ g L { s with heap:=h',toks:=t' }:=by
 refine I.step (g1:=s.gens) (d':=s.drawn) (ch:=ch) (Le.refl g) (fun b hb=>⟨(hf b hb).2.2.1,(hf b hb).2.1,(hf b hb).2.2.2⟩) (fun b o _ hc e _=>k b o hc e) (fun _ _ _ _ n=>n) (fun m hm=>?_) (fun b c u e=>?_) I.bare I.rel
 ·obtain⟨o,es,ep,ho,r⟩:=hm
  exact⟨o,es,ep,k _ o (fun z=>(hf _ z).2.1 rfl) ho,r⟩
 ·exact k b u (fun z=>by rw [(hf b z).1] at e;cases e) (I.hok b c u e)
theorem Inv.kept {t':Nat} (I:Inv X pins φ g L s) (k:∀b u,s.heap.get? b=some u->h'.get? b=some u):Inv X pins φ g L { s with heap:=h',toks:=t' }:=I.un (Le.refl g) (Un.kept k) (fun a b o e=>k a o (I.hok a b o e)) I.rel
theorem Inv.tok (I:Inv X pins φ g L s) (t:Nat):Inv X pins φ g L { s with toks:=t }:=I.kept (h':=s.heap) fun _ _ e=>e
theorem fb {α:Type}:∀{L:List α} {n:Nat} {c:α},at_ L n=some c->n<L.length
 | c::L,n,d,h=>by
  unfold at_ at h
  split at h
  ·rename_i e;simp [e]
  ·have:=fb h;simp;omega
theorem kH {α:Type} {L:List α} {n:Nat} {c d:α} (h:at_ L n=some c):at_ (d::L) n=some c:=by
 unfold at_
 rw [if_neg (Ub (fb h))];exact h
theorem eS {α:Type} {L:List α} {d:α}:at_ (d::L) L.length=some d:=if_pos rfl
noncomputable def G.lay (g:G) (a:Ug) (o:Obj):G:={ g with H:=upd g.H a (true,o) }
theorem Rel.le {g g':G} (r:Rel g L) (l:Le g g') (e:g'.α=g.α) (k:∀a o,g.H a=some (false,o)->g'.H a=g.H a):Rel g' L:=by
 refine⟨by rw [e];exact r.len,fun n c h=>?_,by rw [e];exact r.apart,fun n p h=>?_⟩
 ·obtain⟨p,h1,h2⟩:=r.cells n c h
  refine⟨p,by rw [e];exact h1,h2.up l fun q z=>?_⟩;cases z;obtain⟨⟨o,e1⟩,o2,e2⟩:=r.live n p h1;exact⟨k _ _ e1,k _ _ e2⟩
 ·rw [e] at h
  obtain⟨⟨o,e1⟩,o2,e2⟩:=r.live n p h;exact⟨⟨o,(k _ _ e1).trans e1⟩,o2,(k _ _ e2).trans e2⟩
theorem Le.lay {a:Ug} {o:Obj} (h:g.H a=none):Le g (g.lay a o):=⟨fun b u e=>by
  have z:b≠a:=fun z=>by rw [z,h] at e;cases e
  exact(az z).trans e,fun _ _ e=>e,rfl,rfl,rfl⟩
theorem Inv.laid {a:Ug} {o:Obj} {t':Nat} (I:Inv X pins φ g L s) (k:∀b u,s.heap.get? b=some u->h'.get? b=some u) (hp:s.heap.objs.size<=a) (new:h'.get? a=some o) :
  Inv X pins φ (g.lay a o) L { s with heap:=h',toks:=t' }:=by
 have hn:=I.hok.fresh hp;refine I.un (Le.lay hn) ⟨fun b u q _ _=>k b u q,fun b u q n _=>?_,(Le.lay hn).f⟩ (fun b c u e=>?_) (I.rel.le (Le.lay hn) rfl fun b u e=>?_)
 ·exact(az (Ub (Uc (T3 q) hp))).trans n
 ·by_cases hb:b=a
  ·subst hb
   have e':some (true,o)=some (c,u):=(aq (H:=g.H)).symm.trans e;cases e';exact new
  ·exact k b u (I.hok b c u ((az hb).symm.trans e))
 ·exact az (fun z=>by rw [z,hn] at e;cases e)
noncomputable def G.new (g:G) (a:Ug) (o:Obj):G:={ g with H:=upd g.H a (false,o),α:=(a,a)::g.α }
theorem Le.new {a:Ug} {o:Obj} (h:g.H a=none):Le g (g.new a o):=⟨fun b u e=>by
  have z:b≠a:=fun z=>by rw [z,h] at e;cases e
  exact(az z).trans e,fun _ _ e=>kH e,rfl,rfl,rfl⟩
theorem Rel.new {a:Ug} {o:Obj} {c:T} (r:Rel g L) (h:g.H a=none) (hc:RT (g.new a o) (some (a,a)) c (.ref a)):Rel (g.new a o) (c::L):=by
 have ne:∀n p,at_ g.α n=some p->p.1≠a/\p.2≠a:=fun n p e=>by
  obtain⟨⟨o1,e1⟩,o2,e2⟩:=r.live n p e;exact⟨fun z=>(by rw [z,h] at e1;cases e1),fun z=>(by rw [z,h] at e2;cases e2)⟩
 refine⟨by simp [G.new,r.len],fun n d e=>?_,fun n m p q e1 e2 P8=>?_,fun n p e=>?_⟩
 ·unfold at_ at e
  split at e
  ·rename_i en
   cases e;exact⟨(a,a),by rw [en,<- r.len];exact eS,hc⟩
  ·obtain⟨p,h1,h2⟩:=r.cells n d e
   refine⟨p,kH h1,h2.up (Le.new h) fun q z=>?_⟩;cases z;exact⟨az (ne n p h1).1,az (ne n p h1).2⟩
 ·have e1':at_ ((a,a)::g.α) n=some p:=e1
  have e2':at_ ((a,a)::g.α) m=some q:=e2
  unfold at_ at e1' e2'
  split at e1'
  ·cases e1'
   split at e2'
   ·omega
   ·have z:=ne m q e2'
    exact⟨U7 z.1,U7 z.2,U7 z.1,U7 z.2⟩
  ·split at e2'
   ·cases e2'
    have z:=ne n p e1';exact⟨z.1,z.1,z.2,z.2⟩
   ·exact r.apart n m p q e1' e2' P8
 ·have e':at_ ((a,a)::g.α) n=some p:=e
  unfold at_ at e'
  split at e'
  ·cases e';exact⟨⟨o,aq⟩,o,aq⟩
  ·obtain⟨⟨o1,h1⟩,o2,h2⟩:=r.live n p e'
   exact⟨⟨o1,(az (ne n p e').1).trans h1⟩,o2,(az (ne n p e').2).trans h2⟩
theorem Inv.new {a:Ug} {o:Obj} {c:T} {t':Nat} (I:Inv X pins φ g L s) (k:∀b u,s.heap.get? b=some u->h'.get? b=some u) (hp:s.heap.objs.size<=a) (new:h'.get? a=some o) (hc:RT (g.new a o) (some (a,a)) c (.ref a)) :
  Inv X pins φ (g.new a o) (c::L) { s with heap:=h',toks:=t' }:=by
 have hn:=I.hok.fresh hp;refine I.un (Le.new hn) ⟨fun b u q _ _=>k b u q,fun b u q n _=>?_,(Le.new hn).f⟩ (fun b c u e=>?_) (I.rel.new hn hc)
 ·exact(az (Ub (Uc (T3 q) hp))).trans n
 ·by_cases hb:b=a
  ·subst hb
   have e':some (false,o)=some (c,u):=(aq (H:=g.H)).symm.trans e;cases e';exact new
  ·exact k b u (I.hok b c u ((az hb).symm.trans e))
noncomputable def G.set (g:G) (a:Ug) (o:Obj):G:={ g with H:=upd g.H a (false,o) }
theorem Le.set {a:Ug} {o u:Obj} (h:g.H a=some (false,u)):Le g (g.set a o):=⟨fun b v e=>by
  have z:b≠a:=fun z=>by rw [z,h] at e;cases e
  exact(az z).trans e,fun _ _ e=>e,rfl,rfl,rfl⟩
theorem oi {α:Type}:∀{L:List α} {n m:Nat} {c d:α},at_ (put L n d) m=some c->(m=n/\c=d)\/(m≠n/\at_ L m=some c)
 | x::L,n,m,c,d,h=>by
  have lp:∀(L:List α),(put L n d).length=L.length:=fun L=>by
   induction L with
   | nil=>rfl
   | cons y L ih=>unfold put;split <;> simp [ih]
  unfold put at h;split at h
  ·rename_i en
   unfold at_ at h ⊢
   split at h
   ·rename_i em;cases h;exact .inl ⟨by omega,rfl⟩
   ·rename_i em;rw [if_neg em];exact .inr ⟨by omega,h⟩
  ·rename_i en
   unfold at_ at h ⊢
   rw [lp] at h;split at h
   ·rename_i em;rw [if_pos em];exact .inr ⟨by omega,h⟩
   ·rename_i em;rw [if_neg em];exact oi h
theorem t6 {α:Type} {L:List α} {n:Nat} {d:α}:(put L n d).length=L.length:=by
 induction L with
 | nil=>rfl
 | cons y L ih=>unfold put;split <;> simp [ih]
theorem Inv.set {n:Nat} {p:Ug × Ug} {a:Ug} {o u:Obj} {c:T} {t':Nat} (I:Inv X pins φ g L s) (hp:at_ g.α n=some p) (ha:a=p.1\/a=p.2) (hH:g.H a=some (false,u)) (k:∀b v,b≠a->s.heap.get? b=some v->h'.get? b=some v) (new:h'.get? a=some o)
  (hc:RT (g.set a o) (some p) c (.ref p.1)):Inv X pins φ (g.set a o) (put L n c) { s with heap:=h',toks:=t' }:=by
 have hb:∀b,g.H b=none->b≠a:=fun b n z=>by rw [z,hH] at n;cases n
 refine I.un (Le.set hH) ⟨fun b v q z _=>k b v (hb b z) q,fun b v q z _=>(az (hb b z)).trans z,(Le.set hH).f⟩ (fun b c v e=>?_) ⟨by rw [t6];exact I.rel.len,fun m d e=>?_,I.rel.apart,fun m q e=>?_⟩
 ·by_cases hb:b=a
  ·subst hb
   have e':some (false,o)=some (c,v):=(aq (H:=g.H)).symm.trans e;cases e';exact new
  ·exact k b v hb (I.hok b c v ((az hb).symm.trans e))
 ·rcases oi e with⟨rfl,rfl⟩|⟨hm,e⟩
  ·exact⟨p,hp,hc⟩
  ·obtain⟨q,h1,h2⟩:=I.rel.cells m d e
   refine⟨q,h1,h2.up (Le.set hH) fun q' z=>?_⟩;cases z;have ap:=I.rel.apart m n q p h1 hp hm
   rcases ha with rfl|rfl
   ·exact⟨az ap.1,az ap.2.2.1⟩
   ·exact⟨az ap.2.1,az ap.2.2.2⟩
 ·have sel:∀b v,g.H b=some (false,v)->∃v,upd g.H a (false,o) b=some (false,v):=fun b v e=>by
   by_cases hb:b=a
   ·exact⟨o,by rw [hb];exact aq⟩
   ·exact⟨v,(az hb).trans e⟩
  obtain⟨⟨o1,h1⟩,o2,h2⟩:=I.rel.live m q e;exact⟨sel _ _ h1,sel _ _ h2⟩
theorem Inv.ic {pins':aX} (I:Inv X pins φ g L s) (h:∀p∈pins',s.heap.get? p.1=some p.2/\g.H p.1=none/\p.1≠X.env.locals/\∀v,p.2.data≠.cell v):Inv X pins' φ g L s:={ I with pin:=h }
end
end M
namespace M
open PySem PySem.Spec PyProof.Rows
abbrev F0:Ts->Tv->Prop:=fun _ _=>False
theorem thn {α:Type} {t:Sem α} {Q Q':α->Tv->Prop} {Md:Model} {A:Ux} {E:Ts->Tv->Prop} {s:Tv} (h:TR Md A t Q F0 s) (hQ:∀a s,Q a s->Q' a s):TR Md A t Q' E s:=wpAny_mono h hQ fun _ _ z=>z.elim
noncomputable def EP (X:Cx) (pins:aX) (φ:Fr) (g:G) (w:T) (L':aa) (u:Ts) (s':Tv):Prop:=∃g',Le g g'/\Inv X pins φ g' L' s'/\RT g' none w u
noncomputable def AP (X:Cx) (pins:aX) (φ:Fr) (g:G) (w:List T) (L':aa) (u:List Ts) (s':Tv):Prop:=∃g',Le g g'/\Inv X pins φ g' L' s'/\cu g' w u
noncomputable def TP (X:Cx) (pins:aX) (φ:Fr) (g:G) (w:Bool) (L':aa) (b:Bool) (s':Tv):Prop:=∃g',Le g g'/\Inv X pins φ g' L' s'/\b=w
noncomputable def SP (X:Cx) (pins:aX) (g:G) (o:O) (f:Flow) (s':Tv):Prop:=∃g',Le g g'/\match o,f with
 | .nx φ L,.next=>Inv X pins φ g' L s'
 | .bk φ L,.brk=>Inv X pins φ g' L s'
 | .ct φ L,.cont=>Inv X pins φ g' L s'
 | .rt t L,.ret u=>(∃φ,Inv X pins φ g' L s')/\RT g' none t u
 | _,_=>False
noncomputable def PE (X:Cx) (e:Expr) (m:SE):Prop:=∀{pins:aX} {φ:Fr} {g:G} {L:aa} {s:Tv} {w:T} {L':aa},Inv X pins φ g L s->m φ L=.ok w L'->TR (model X.prog X.w) X.A (eval e X.env) (EP X pins φ g w L') F0 s
noncomputable def PT (X:Cx) (e:Expr) (m:ST):Prop:=∀{pins:aX} {φ:Fr} {g:G} {L:aa} {s:Tv} {w:Bool} {L':aa} (whole:Sem Ts),(whole=eval e X.env\/∃op es p,e=.BoolOp op es p)->Inv X pins φ g L s->m φ L=.ok w L'->TR (model X.prog X.w) X.A (isTrue e X.env whole) (TP X pins φ g w L') F0 s
noncomputable def PA (X:Cx) (es:List Expr) (m:SA):Prop:=∀{pins:aX} {φ:Fr} {g:G} {L:aa} {s:Tv} {w:List T} {L':aa} (pos:Pos),Inv X pins φ g L s->m φ L=.ok w L'->TR (model X.prog X.w) X.A (spliced (backTo pos (starEach es X.env))) (AP X pins φ g w L') F0 s
noncomputable def PS (X:Cx) (st:Stmt) (m:SS):Prop:=∀{pins:aX} {φ:Fr} {g:G} {L:aa} {s:Tv},Inv X pins φ g L s->m φ L≠.bad->TR (model X.prog X.w) X.A (exec st X.env) (SP X pins g (m φ L)) F0 s
noncomputable def w5 (X:Cx) (st:List Stmt) (m:SS):Prop:=∀{pins:aX} {φ:Fr} {g:G} {L:aa} {s:Tv},Inv X pins φ g L s->m φ L≠.bad->TR (model X.prog X.w) X.A (execs st X.env) (SP X pins g (m φ L)) F0 s
noncomputable def w6 (X:Cx) (f:Ts->Ts->Sem Ts) (m:T->T->aa->R T):Prop:=∀{pins:aX} {φ:Fr} {g:G} {L:aa} {s:Tv} {x y w:T} {L':aa} {u v:Ts},Inv X pins φ g L s->RT g none x u->RT g none y v->m x y L=.ok w L'->TR (model X.prog X.w) X.A (f u v) (EP X pins φ g w L') F0 s
noncomputable def cU (X:Cx) (f:Ts) (m:Fn):Prop:=∀{pins:aX} {φ:Fr} {g:G} {L:aa} {s:Tv} {xs:List T} {w:T} {L':aa} {us:List Ts},Inv X pins φ g L s->cu g xs us->m xs L=.ok w L'->TR (model X.prog X.w) X.A (call f us) (EP X pins φ g w L') F0 s
section
variable {X:Cx} {pins:aX} {φ:Fr} {g g1:G} {L L':aa} {s s':Tv} {w:T} {u:Ts} {e a b:Expr} {es:List Expr} {m ma mb:SE} {pos:Pos} {x:Str}
theorem EP.le (h:EP X pins φ g1 w L' u s') (l:Le g g1):EP X pins φ g w L' u s':=let ⟨g',k,r⟩:=h;⟨g',l.trans k,r⟩
theorem SP.le {o:O} {f:Flow} (h:SP X pins g1 o f s') (l:Le g g1):SP X pins g o f s':=let ⟨g',k,r⟩:=h;⟨g',l.trans k,r⟩
theorem Inv.ep (I:Inv X pins φ g L s) (r:RT g none w u):EP X pins φ g w L u s:=⟨g,.refl g,I,r⟩
theorem two {f:T->T->aa->R T} (ha:PE X a ma) (hb:PE X b mb) (I:Inv X pins φ g L s) (h:b2 ma mb f φ L=.ok w L') {α:Type} {Q:α->Tv->Prop} {F:Ts->Ts->Sem α}
  (hf:∀{g' x y L2 u v s2},Le g g'->Inv X pins φ g' L2 s2->RT g' none x u->RT g' none y v->f x y L2=.ok w L'->TR (model X.prog X.w) X.A (F u v) Q F0 s2) :
  TR (model X.prog X.w) X.A (eval a X.env) (fun u s₁=>TR (model X.prog X.w) X.A (eval b X.env) (fun v s₂=>TR (model X.prog X.w) X.A (F u v) Q F0 s₂) F0 s₁) F0 s:=by
 obtain⟨x,L1,e1,h⟩:=R.of h;obtain⟨y,L2,e2,h⟩:=R.of h;refine thn (ha I e1) fun u s1 ⟨g1,l1,I1,r1⟩=>thn (hb I1 e2) fun v s2 ⟨g2,l2,I2,r2⟩=>hf (l1.trans l2) I2 (r1.le l2) r2 h
theorem DN {i:Nat} (hN:X.N[i]?=some x) (hv:K0 X.env.scope x) (hd:(x == ("__debug__":Str))=false) (hcd:(x == ("__classdict__":Str))=false):PE X (.Name x pos) (v i):=by
 intro pins φ g L s w L' I h;unfold v at h;cases e:φ[i]? with
 | none=>rw [e] at h;cases h
 | some o =>
  cases o with
  | none=>rw [e] at h;cases h
  | some t =>
   rw [e] at h;cases h;obtain⟨m,hn,hl⟩:=I.loc;obtain⟨u,r,l⟩:=hl i x _ hN e hv;have fin:=I.ep r
   rcases l with⟨hk,hm⟩|⟨hk,c,hc,hcell⟩
   ·exact wpAny_Name (wpAny_loadName_local I.ok.kind hk hn hm fin) hd
   ·rcases hk with hk|hk
    ·exact wpAny_Name (wpAny_loadName_cell I.ok.kind hk hc hcell fin) hd
    ·exact wpAny_Name (wpAny_loadName_free I.ok.kind hk hc hcell fin hcd) hd
theorem cy:PE X e no:=fun _ h=>by cases h
theorem DO {i:Int} {j:Nat}:PE X (.Constant (.int i) j pos) (c (.int i)):=fun I h=>by cases h;exact wpAny_Constant_int ((I.tok _).ep (.int i _))
theorem HA {b:Bool} {j:Nat}:PE X (.Constant (.bool b) j pos) (c (.bl b)):=fun I h=>by cases h;exact Constant_bool (I.ep (.bl b))
theorem DP {j:Nat}:PE X (.Constant .none j pos) (c .cb):=fun I h=>by cases h;exact Constant_none (I.ep .cb)
theorem DQ {x:Str} {j:Nat} (hz:x.cps.toList.length<=T7):PE X (.Constant (.str x) j pos) (c (.str x.cps.toList)):=fun I h=>by cases h;exact Calls.Constant_str ((I.tok _).ep (.str _ _ hz))
abbrev Gl (X:Cx) (x:Str):Prop:=X.env.kindOf x=some .globalImplicit
theorem om {Q:Ts->Tv->Prop} (I:Inv X pins φ g L s) (hg:Gl X x) (hm:X.mg x=some u) (h:Q u s) (hd:(x == ("__debug__":Str))=false):TR (model X.prog X.w) X.A (eval (.Name x pos) X.env) Q F0 s :=
 XH I.ok.kind hg (Calls.loadGlobal_global (by rw [I.ok.glob];exact I.mod.glob.keeps I.bk) hm h) hd
theorem fu {Q:Ts->Tv->Prop} (I:Inv X pins φ g L s) (hg:Gl X x) (hm:X.mg x=none) (hv:bootBuiltins x=some u) (h:Q u s) (hn:x≠"__name__") (hd:(x == ("__debug__":Str))=false):TR (model X.prog X.w) X.A (eval (.Name x pos) X.env) Q F0 s:=by
 obtain⟨mb,h1,h2⟩:=I.mod.blt;exact XH I.ok.kind hg (Calls.loadGlobal_builtin (by rw [I.ok.glob];exact I.mod.glob.keeps I.bk) hm (by rw [I.ok.blt];exact h1.keeps I.bk) ((h2 x hn).trans hv) h) hd
noncomputable def OA (X:Cx) (t:T) (u:Ts):Prop:=∀g:G,g.B=X.base->g.cls=X.cls->g.w=X.w->RT g none t u
theorem DR {t:T} (hg:Gl X x) (hm:X.mg x=some u) (r:OA X t u) (hd:(x == ("__debug__":Str))=false):PE X (.Name x pos) (c t):=fun I h=>by cases h;exact om I hg hm (I.ep (r _ I.gB I.gm I.gw)) hd
theorem DS {t:T} (hg:Gl X x) (hm:X.mg x=none) (hv:bootBuiltins x=some u) (r:OA X t u) (hn:x≠"__name__") (hd:(x == ("__debug__":Str))=false):PE X (.Name x pos) (c t):=fun I h=>by cases h;exact fu I hg hm hv (I.ep (r _ I.gB I.gm I.gw)) hn hd
theorem DT {op:Operator} {f:T->T->aa->R T} (ho:w6 X (binaryOp op) f) (ha:PE X a ma) (hb:PE X b mb):PE X (.BinOp a op b pos) (b2 ma mb f):=fun I h =>
 wpAny_BinOp (two ha hb I h fun l I r1 r2 h=>thn (ho I r1 r2 h) fun _ _ z=>z.le l)
theorem DU {op:CmpOp} {f:T->T->aa->R T} (ho:w6 X (compareOp op) f) (ha:PE X a ma) (hb:PE X b mb) (hm:behindInMarks op b=false):PE X (.Compare a [op] [b] pos) (b2 ma mb f):=fun I h =>
 wpAny_Compare1 (two ha hb I h fun l I r1 r2 h=>thn (ho I r1 r2 h) fun _ _ z=>z.le l) hm
theorem HB {f:T->T->aa->R T} (ho:w6 X (fun o i=>subscriptTail a b o i) f) (ha:PE X a ma) (hb:PE X b mb):PE X (.Subscript a b pos) (b2 ma mb f):=fun I h =>
 Subscript_ (two ha hb I h fun l I r1 r2 h=>thn (ho I r1 r2 h) fun _ _ z=>z.le l)
theorem HC {op:UnaryOp} {f:T->aa->R T} (ho:∀{pins φ g L s x w L' u},Inv X pins φ g L s->RT g none x u->f x L=.ok w L'->TR (model X.prog X.w) X.A (unaryOp op u) (EP X pins φ g w L') F0 s) (ha:PE X a ma):PE X (.UnaryOp op a pos) (b1 ma f):=fun I h=>by
 obtain⟨x,L1,e1,h⟩:=R.of h;exact UnaryOp_ (thn (ha I e1) fun v s1 ⟨g1,l1,I1,r1⟩=>thn (ho I1 r1 h) fun _ _ z=>z.le l1)
theorem DV {x w:T} {L':aa} (h:neg x L=.ok w L'):∃i,x=.int i/\w=.int (-i)/\L'=L:=by
 cases x with
 | int i=>cases h;exact⟨i,rfl,rfl,rfl⟩
 | _=>cases h
theorem DW {pins φ g L s x w L' u} (I:Inv X pins φ g L s) (r:RT g none x u) (h:neg x L=.ok w L'):TR (model X.prog X.w) X.A (unaryOp .USub u) (EP X pins φ g w L') F0 s:=by
 obtain⟨i,rfl,rfl,rfl⟩:=DV h;obtain⟨_,rfl⟩:=r.iI;exact neg_int ((I.tok _).ep (.int _ _))
theorem nu {a:SE} {φ L b L'} (h:tv a φ L=.ok b L'):a φ L=.ok (.bl b) L':=by
 obtain⟨x,L1,e1,h⟩:=R.of h;cases x <;> first|cases h|skip
 exact e1
theorem oo {α β:Type} {f:α->β} {r:R α} {b:β} {L:aa} (h:r.map f=.ok b L):∃a,r=.ok a L/\f a=b:=by
 cases r with
 | bad=>cases h
 | ok a L1=>cases h;exact⟨a,rfl,rfl⟩
theorem DX (ha:PE X a ma):PE X (.UnaryOp .Not a pos) (vD ma):=fun I h=>by
 obtain⟨b,e,rfl⟩:=oo h;exact UnaryOp_ (thn (ha I (nu e)) fun v s1 ⟨g1,l1,I1,r1⟩=>by obtain rfl:=r1.bI;exact not_of (wpAny_truthy_bool ⟨g1,l1,I1,.bl _⟩))
theorem w7 {op:BoolOp} (h:PE X a m):PE X (.BoolOp op [a] pos) m:=fun I hw=>BoolOp_one (h I hw)
theorem DY (ha:PE X a ma) (hb:PE X (.BoolOp .And (b::es) pos) mb):PE X (.BoolOp .And (a::b::es) pos) (AB ma mb):=fun I h=>by
 obtain⟨k,L1,e,h⟩:=R.of h;refine BoolOp_and (thn (ha I (nu e)) fun v s1 ⟨g1,l1,I1,r1⟩=>?_);obtain rfl:=r1.bI;refine wpAny_truthy_bool ?_;cases k with
 | true=>exact thn (hb I1 h) fun _ _ z=>z.le l1
 | false=>cases h;exact⟨g1,l1,I1,.bl _⟩
theorem HD (ha:PE X a ma) (hb:PE X (.BoolOp .Or (b::es) pos) mb):PE X (.BoolOp .Or (a::b::es) pos) (KW ma mb):=fun I h=>by
 obtain⟨k,L1,e,h⟩:=R.of h;refine BoolOp_or (thn (ha I (nu e)) fun v s1 ⟨g1,l1,I1,r1⟩=>?_);obtain rfl:=r1.bI;refine wpAny_truthy_bool ?_;cases k with
 | false=>exact thn (hb I1 h) fun _ _ z=>z.le l1
 | true=>cases h;exact⟨g1,l1,I1,.bl _⟩
theorem t8:PT X e no:=fun _ _ _ h=>by cases h
theorem DZ (h:PE X e m) (he:∀whole,isTrue e X.env whole=(do let v <- whole;standAt e.pos;holding [v] (truthy v))) (hb:∀op es p,e≠.BoolOp op es p):PT X e (tv m):=fun {_ _ _ _ _ _ _} whole hw I q=>by
 rcases hw with rfl|⟨_,_,_,z⟩
 ·exact isTrue_plain (thn (h I (nu q)) fun v s1 ⟨g1,l1,I1,r1⟩=>by obtain rfl:=r1.bI;exact wpAny_truthy_bool ⟨g1,l1,I1,rfl⟩) (he _)
 ·exact absurd z (hb _ _ _)
theorem D0 {m:ST} (ha:PT X a m):PT X (.UnaryOp .Not a pos) (eR m):=fun {_ _ _ _ _ _ _} whole _ I h=>by
 obtain⟨b,e,rfl⟩:=oo h;exact isTrue_not (thn (ha _ (.inl rfl) I e) fun _ _ ⟨g1,l1,I1,e1⟩=>⟨g1,l1,I1,by rw [e1]⟩)
theorem AG {m:ST} (ha:PT X a m):PT X (.BoolOp .And [a] pos) m:=fun {_ _ _ _ _ _ _} whole _ I h=>by
 refine isTrue_and (thn (ha _ (.inl rfl) I h) fun c s1 e=>?_);cases c with
 | true=>exact isTrue_and_nil e
 | false=>exact e
theorem D3 {m:ST} (ha:PT X a m):PT X (.BoolOp .Or [a] pos) m:=fun {_ _ _ _ _ _ _} whole _ I h=>by
 refine isTrue_or (thn (ha _ (.inl rfl) I h) fun c s1 e=>?_);cases c with
 | true=>exact e
 | false=>exact isTrue_or_nil e
theorem D4 {ma mb:ST} (ha:PT X a ma) (hb:PT X (.BoolOp .And (b::es) pos) mb):PT X (.BoolOp .And (a::b::es) pos) (AA ma mb):=fun {_ _ _ _ _ _ _} whole _ I h=>by
 obtain⟨k,L1,e,h⟩:=R.of h;refine isTrue_and (thn (ha _ (.inl rfl) I e) fun c s1 ⟨g1,l1,I1,e1⟩=>?_);subst e1;cases c with
 | true=>exact thn (hb whole (.inr ⟨_,_,_,rfl⟩) I1 h) fun _ _ ⟨g2,l2,r⟩=>⟨g2,l1.trans l2,r⟩
 | false=>cases h;exact⟨g1,l1,I1,rfl⟩
theorem HE {ma mb:ST} (ha:PT X a ma) (hb:PT X (.BoolOp .Or (b::es) pos) mb):PT X (.BoolOp .Or (a::b::es) pos) (KV ma mb):=fun {_ _ _ _ _ _ _} whole _ I h=>by
 obtain⟨k,L1,e,h⟩:=R.of h;refine isTrue_or (thn (ha _ (.inl rfl) I e) fun c s1 ⟨g1,l1,I1,e1⟩=>?_);subst e1;cases c with
 | false=>exact thn (hb whole (.inr ⟨_,_,_,rfl⟩) I1 h) fun _ _ ⟨g2,l2,r⟩=>⟨g2,l1.trans l2,r⟩
 | true=>cases h;exact⟨g1,l1,I1,rfl⟩
theorem D5 {op:CmpOp} {f:T->T->aa->R T} (ho:w6 X (compareOp op) f) (ha:PE X a ma) (hb:PE X b mb) (hm:behindInMarks op b=false):PT X (.Compare a [op] [b] pos) (tv (b2 ma mb f)):=fun {_ _ _ _ _ _ _} whole _ I h =>
 wpAny_isTrue_Compare1 (two ha hb I (nu h) fun l I r1 r2 h=>thn (ho I r1 r2 h) fun _ _ ⟨g1,l1,I1,r1⟩=>by obtain rfl:=r1.bI;exact wpAny_truthy_bool ⟨g1,l.trans l1,I1,rfl⟩) hm
theorem t9 {op nt:CmpOp} {a b d:SE} {φ L w L'} (h:vC op nt a b d φ L=.ok w L'):∃x L1 y L2 k L3,a φ L=.ok x L1/\b φ L1=.ok y L2/\cmp op x y L2=.ok (.bl k) L3/\((k=false/\w=.bl false/\L'=L3)\/(k=true/\∃z L4,d φ L3=.ok z L4/\cmp nt y z L4=.ok w L')):=by
 obtain⟨x,L1,e1,h⟩:=R.of h;obtain⟨y,L2,e2,h⟩:=R.of h;obtain⟨k,L3,e3,h⟩:=R.of h;refine⟨x,L1,y,L2,k,L3,e1,e2,by unfold cmp;rw [e3];rfl,?_⟩;cases k with
 | false=>cases h;exact .inl ⟨rfl,rfl,rfl⟩
 | true=>obtain⟨z,L4,e4,h⟩:=R.of h;exact .inr ⟨rfl,z,L4,e4,h⟩
theorem w8 {op nt:CmpOp} {d:Expr} {md:SE} (ho:∀op,w6 X (compareOp op) (cmp op)) (ha:PE X a ma) (hb:PE X b mb) (hd:PE X d md) (hm:lastMarks [op,nt] [b,d]=false):PE X (.Compare a [op,nt] [b,d] pos) (vC op nt ma mb md):=fun I h=>by
 obtain⟨x,L1,y,L2,k,L3,e1,e2,e3,h⟩:=t9 h;refine Compare_chain (thn (ha I e1) fun v s1 ⟨g1,l1,I1,r1⟩=>chain_link (thn (hb I1 e2) fun u s2 ⟨g2,l2,I2,r2⟩=>thn (ho op I2 (r1.le l2) r2 e3) fun d s3 ⟨g3,l3,I3,r3⟩=>?_)) hm;cases r3;refine wpAny_truthy_bool ?_;have Au:=(l1.trans l2).trans l3
 rcases h with⟨rfl,rfl,rfl⟩|⟨rfl,z,L4,e4,h⟩
 ·exact ite_ff ⟨g3,Au,I3,.bl _⟩
 ·exact ite_tt (chain_last (thn (hd I3 e4) fun w' s4 ⟨g4,l4,I4,r4⟩=>thn (ho nt I4 (r2.le (l3.trans l4)) r4 h) fun _ _ z=>z.le (Au.trans l4)))
theorem w9 {op nt:CmpOp} {d:Expr} {md:SE} (ho:∀op,w6 X (compareOp op) (cmp op)) (ha:PE X a ma) (hb:PE X b mb) (hd:PE X d md) (hm:lastMarks [op,nt] [b,d]=false):PT X (.Compare a [op,nt] [b,d] pos) (tv (vC op nt ma mb md)):=fun {_ _ _ _ _ _ _} whole _ I h=>by
 obtain⟨x,L1,y,L2,k,L3,e1,e2,e3,h⟩:=t9 (nu h);refine isTrue_chain (thn (ha I e1) fun v s1 ⟨g1,l1,I1,r1⟩=>test_link (thn (hb I1 e2) fun u s2 ⟨g2,l2,I2,r2⟩=>thn (ho op I2 (r1.le l2) r2 e3) fun d s3 ⟨g3,l3,I3,r3⟩=>?_)) hm;cases r3;refine wpAny_truthy_bool ?_;have Au:=(l1.trans l2).trans l3
 rcases h with⟨rfl,e,rfl⟩|⟨rfl,z,L4,e4,h⟩
 ·cases e;exact ite_ff ⟨g3,Au,I3,rfl⟩
 ·exact ite_tt (test_last (thn (hd I3 e4) fun w' s4 ⟨g4,l4,I4,r4⟩=>thn (ho nt I4 (r2.le (l3.trans l4)) r4 h) fun _ _ ⟨g5,l5,I5,r5⟩=>by cases r5;exact wpAny_truthy_bool ⟨g5,(Au.trans l4).trans l5,I5,rfl⟩))
theorem D6 {k:Expr} {mk:ST} (hk:PT X k mk) (ha:PE X a ma) (hb:PE X b mb):PE X (.IfExp k a b pos) (Lz mk ma mb):=fun I h=>by
 obtain⟨k,L1,e,h⟩:=R.of h;refine wpAny_IfExp (thn (hk _ (.inl rfl) I e) fun d s1 ⟨g1,l1,I1,e1⟩=>?_);subst e1;cases d with
 | true=>exact thn (ha I1 h) fun _ _ z=>z.le l1
 | false=>exact thn (hb I1 h) fun _ _ z=>z.le l1
noncomputable def aY:Expr->Bool
 | .Starred ..=>false
 | _=>true
theorem ay {env:Env} (h:aY e=true):starEach (e::es) env=(false,eval e env)::starEach es env:=by
 cases e <;> first|rfl|cases h
theorem oq:PA X [] (ib []):=fun {_ _ _ _ _ _ _} _ I h=>by cases h;exact Wt ⟨_,.refl _,I,.nil⟩
theorem i9 {ms:List SE} (ha:PE X e m) (hr:PA X es (ib ms)) (hs:aY e=true):PA X (e::es) (ib (m::ms)):=fun {_ _ _ _ _ _ _} pos I h=>by
 obtain⟨t,L1,e1,h⟩:=R.of h;obtain⟨ts,L2,e2,h⟩:=R.of h;cases h;rw [ay hs];show TR _ _ (spliced ((false,eval e X.env)::backTo pos (starEach es X.env))) _ _ _
 exact WV (thn (ha I e1) fun u s1 ⟨g1,l1,I1,r1⟩=>thn (hr pos I1 e2) fun us s2 ⟨g2,l2,I2,r2⟩=>⟨g2,l1.trans l2,I2,.cons (r1.le l2) r2⟩)
theorem cu.lst {us:List Ts} {xs:List T} {p:Option (Ug × Ug)} {a:Ug} {n:Nat} {o:Obj} (r:cu g xs us) (l:Le g g1) (ht:rW p a a) (hk:g1.kn p.isNone a { cls:=.type "list",data:=.seq us.toArray n }) (hz:xs.length<=T7):RT g1 p (.lst xs) (.ref a) :=
 .lst ht hk hz (by simpa using TV r) fun i x v e1 e2=>(vH r i x v e1 (by simpa using e2)).le l
theorem jJ {fz:Bool} {xs:List T} {us:List Ts} {L2:aa} {t' n:Nat} {h':Heap} (I:Inv X pins φ g L s) (r:cu g xs us) (h:eO fz xs L=.ok w L2) (k:∀b u,s.heap.get? b=some u->h'.get? b=some u) (new:h'.get? s.heap.objs.size=some { cls:=.type "list",data:=.seq us.toArray n }) :
  EP X pins φ g w L2 (.ref s.heap.objs.size) { s with heap:=h',toks:=t' }:=by
 unfold eO bT at h;split at h
 ·rename_i hz
  unfold mk at h;split at h
  ·cases h
   exact⟨_,Le.lay I.fresh,I.laid k (TK _) new,r.lst (n:=n) (o:=default) (Le.lay I.fresh) (.inl rfl) (.inl aq) hz⟩
  ·cases h
   refine⟨_,Le.new I.fresh,I.new k (TK _) new (r.lst (n:=n) (o:=default) (Le.new I.fresh) (.inr rfl) (.inl aq) hz),?_⟩;have:=I.rel.len
   exact .ref (p:=(s.heap.objs.size,s.heap.objs.size)) (by show at_ ((_,_)::g.α) _=_;rw [<- this];exact eS)
 ·cases h
theorem ou {fz:Bool} {xs:List T} {L2:aa} (h:eO fz xs L=.ok w L2):xs.length<=T7:=by
 unfold eO bT at h;split at h
 ·assumption
 ·cases h
theorem D7 {ms:List SE} {fz:Bool} (h:PA X es (ib ms)):PE X (.List es pos) (lst fz ms):=fun I q=>by
 obtain⟨ts,L1,e1,q⟩:=R.of q;refine wpAny_List_spliced (thn (h pos I e1) fun us s1 ⟨g1,l1,I1,r⟩=>⟨by rw [<- TV r];exact ou q,?_⟩);exact(jJ (t':=s1.toks) I1 r q (fun b u e=>Tj _ e) (Tt _ rfl)).le l1
theorem cu.tup {us:List Ts} {xs:List T} {a:Ug} {n:Nat} {o:Obj} (r:cu g xs us) (l:Le g g1) (hk:g1.kn true a o) (hc:o.cls=.type "tuple"/\o.dict=none) (hd:o.data=.seq us.toArray n) (hz:xs.length<=T7):RT g1 none (.tup xs) (.ref a) :=
 .tup hk hc hd hz (by simpa using TV r) fun i x v e1 e2=>(vH r i x v e1 (by simpa using e2)).le l
theorem D8 {ms:List SE} {k:Nat} (h:PA X es (ib ms)) (hz:es.length<=T7) (hl:es.length=ms.length):PE X (.Tuple es k pos) (tup ms):=fun I q=>by
 obtain⟨ts,L1,e1,q⟩:=R.of q;cases q;have len:∀{ms:List SE} {φ L ts L1},ib ms φ L=.ok ts L1->ts.length=ms.length:=fun {ms}=>by
  induction ms with
  | nil=>intro φ L ts L1 h;cases h;rfl
  | cons m ms ih =>
   intro φ L ts L1 h;obtain⟨t,L1,e1,h⟩:=R.of h;obtain⟨ts,L2,e2,h⟩:=R.of h;cases h;simp [ih e2]
 have hz':ts.length<=T7:=by rw [len e1,<- hl];exact hz
 refine wpAny_Tuple_spliced (thn (h pos I e1) fun us s1 ⟨g1,l1,I1,r⟩=>⟨by rw [<- TV r];exact hz',?_⟩);exact⟨_,l1.trans (Le.lay I1.fresh),I1.laid (t':=s1.toks) (fun b u e=>Tj _ e) (TK _) (Tt _ rfl),r.tup (Le.lay I1.fresh) (.inl aq) ⟨rfl,rfl⟩ rfl hz'⟩
end
section
variable {X:Cx} {pins:aX} {φ:Fr} {g g1:G} {L L':aa} {s s':Tv} {w:T} {u:Ts} {e a b:Expr} {es:List Expr} {m ma mb:SE} {pos:Pos} {x:Str} {st:Stmt} {rest:List Stmt} {ms m1 m2:SS}
theorem xc:PS X st fE:=fun _ h=>absurd rfl h
theorem AH:w5 X [] (ab []):=fun I _=>wpAny_execs_nil ⟨_,.refl _,I⟩
theorem xd {r:List SS} (h1:PS X st ms) (h2:w5 X rest (ab r)):w5 X (st::rest) (ab (ms::r)):=fun {pins φ g L s} I h=>by
 have e:ab (ms::r) φ L=(ms φ L).next (ab r):=rfl
 rw [e] at h ⊢;refine wpAny_execs_cons (thn (h1 I fun z=>h (by rw [z];rfl)) fun f s1 q=>?_);cases o:ms φ L with
 | bad=>rw [o] at h;exact absurd rfl h
 | nx φ1 L1 =>
  rw [o] at q h;obtain⟨g',l,q⟩:=q;cases f <;> first|exact q.elim|skip
  exact thn (h2 q h) fun _ _ z=>z.le l
 | _ =>
  rw [o] at q;obtain⟨g',l,q⟩:=q;cases f <;> first|exact q.elim|exact⟨g',l,q⟩
theorem AI:PS X (.Pass pos) pass:=fun I _=>wpAny_Pass ⟨_,.refl _,I⟩
theorem D9:PS X (.Break pos) brk:=fun I _=>wpAny_Break ⟨_,.refl _,I⟩
theorem Ea:PS X (.Continue pos) cnt:=fun I _=>wpAny_Continue ⟨_,.refl _,I⟩
theorem Inv.quiet (I:Inv X pins φ g L s):interactive X.env=false:=by simp [interactive,I.ok.kind]
theorem gM {α:Type} {r:R α} {f:α->aa->O} (h:O.of r f≠.bad):∃a L,r=.ok a L/\O.of r f=f a L/\f a L≠.bad:=by
 cases r with
 | bad=>exact absurd rfl h
 | ok a L=>exact⟨a,L,rfl,rfl,h⟩
noncomputable def iB:Expr->Bool
 | .ListComp ..=>false
 | .SetComp ..=>false
 | .DictComp ..=>false
 | _=>true
theorem ja {t:Option Expr} {l:Nat} {env:Env} (h:iB e=true):swapsWith e t l env=pure false:=by
 cases e <;> first|rfl|cases h
theorem Eb (he:PE X e m) (hs:iB e=true):PS X (.Expr e pos) (fF m):=fun I h=>by
 obtain⟨t,L1,e1,e2,h⟩:=gM h;rw [show fF m _ _=_ from e2];exact wpAny_Expr_any (thn (he I e1) fun v s1 ⟨g1,l1,I1,r1⟩=>⟨g1,l1,I1⟩) I.quiet (ja hs)
theorem Ec (he:PE X e m):PS X (.Return (some e) pos) (ret m):=fun I h=>by
 obtain⟨t,L1,e1,e2,h⟩:=gM h;rw [show ret m _ _=_ from e2];exact wpAny_Return_some (thn (he I e1) fun v s1 ⟨g1,l1,I1,r1⟩=>⟨g1,l1,⟨_,I1⟩,r1⟩)
theorem AJ:PS X (.Return none pos) (ret (c .cb)):=fun I _=>wpAny_Return_none ⟨_,.refl _,⟨_,I⟩,.cb⟩
theorem HF {k:Expr} {mk:ST} {sa sb:List Stmt} (hk:PT X k mk) (ha:w5 X sa m1) (hb:w5 X sb m2):PS X (.If k sa sb pos) (iff mk m1 m2):=fun I h=>by
 obtain⟨k,L1,e1,e2,h⟩:=gM h;rw [show iff mk m1 m2 _ _=_ from e2];refine wpAny_If (thn (hk _ (.inl rfl) I e1) fun d s1 ⟨g1,l1,I1,e⟩=>?_);subst e;cases d with
 | true=>exact thn (ha I1 h) fun _ _ z=>z.le l1
 | false=>exact thn (hb I1 h) fun _ _ z=>z.le l1
theorem p6 {N:List Str} (hN:N.Nodup) {i j:Nat} {x:Str} (a:N[i]?=some x) (b:N[j]?=some x):i=j:=by
 obtain⟨h1,e1⟩:=TM.mp a;obtain⟨h2,e2⟩:=TM.mp b;exact(List.getElem_inj hN).mp (e1.trans e2.symm)
structure r6 (X:Cx) (i:Nat) (x:Str):Prop where
 nd:X.N.Nodup
 ix:X.N[i]?=some x
 loc:Loc X.env.scope x
 fn:X.fn x=true\/X.env.scope.names.lookup x=some .local
theorem lD {Md:Model} {A:Ux} {E:Ts->Tv->Prop} {i:Nat} {t:T} {Q:Unit->Tv->Prop} (I:Inv X pins φ g L s) (S:r6 X i x) (r:RT g none t u)
  (h:∀s',Inv X pins (φ.set i (some t)) g L s'->(∃a,Vl a s.heap s'.heap/\(a=X.env.locals\/X.env.cells.lookup x=some a))->Q () s'):TR Md A (storeName X.env x u) Q E s:=by
 obtain⟨m,hn,hl⟩:=id I.loc;have LG:(X.env.scope.kind == .class || (X.env.scope.kind == .module && X.env.locals != X.env.globals))=false:=by rw [I.ok.kind];rfl
 have OB:i<φ.length:=by rw [I.len];exact(TM.mp S.ix).1
 have Hh:=I.Hh;have tracked:∀{a:Ug} {h':Heap},g.H a=none->Vl a s.heap h'->As g.H h':=fun {a h'} hf hs b c o e=>(hs.2 b fun z=>by rw [z,hf] at e;cases e).trans (I.hok b c o e)
 have HG:∀{a:Ug} {h':Heap},X.s₀.heap.objs.size<=a->Vl a s.heap h'->Un X.ex X.H₀ g.H X.s₀.heap h':=fun {a h'} ha hs =>
  ⟨fun b o e n hx=>(hs.2 b (Ub (Uc (T3 e) ha))).trans (I.base.keep b o e n hx),I.base.free,I.base.bU⟩
 rcases S.loc with hk|hk
 ·refine wpAny_storeName_local hk hn (fun h' hn' hs=>?_) LG
  refine h _ { I with base:=HG I.ok.above hs,loc:=⟨_,hn',fun j y v' e1 e2 e3=>?_⟩,cell:=fun y c e=>?_,pin:=fun p hp=>?_,hok:=tracked I.free hs,len:=by simpa using I.len } ⟨_,hs,.inl rfl⟩
  ·by_cases hj:j=i
   ·subst hj
    rw [S.ix] at e1;cases e1;rw [YJ OB] at e2;cases e2;exact⟨u,r,.inl ⟨hk,by simp⟩⟩
   ·rw [Xp (U7 hj)] at e2
    obtain⟨u',r',q⟩:=hl j y v' e1 e2 e3;refine⟨u',r',?_⟩;rcases q with⟨k,e⟩|⟨k,c,e,z⟩
    ·refine .inl ⟨k,?_⟩
     have:y≠x:=fun e=>hj (p6 S.nd e1 (e ▸ S.ix))
     simp [this,e]
    ·exact .inr ⟨k,c,e,z.sameBut hs (Hh y c e)⟩
  ·obtain⟨w',z⟩:=I.cell y c e
   exact⟨w',z.sameBut hs (Hh y c e)⟩
  ·obtain⟨e,n,ne,d⟩:=I.pin p hp
   exact⟨(hs.2 p.1 ne).trans e,n,ne,d⟩
 ·have LH:X.fn x=true:=by
   rcases S.fn with z|z
   ·exact z
   ·rw [z] at hk;cases hk
  obtain⟨c,hc⟩:=I.ok.has x (.inl hk);obtain⟨w',z⟩:=I.cell x c hc;refine wpAny_storeName_cell I.ok.kind hk hc z (fun h' hc' hs=>?_);obtain⟨oc,P9,LI⟩:=id z;refine h { s with heap:=h' } { I with base:=HG (I.ok.P6 x c LH hc) hs,loc:=⟨m,hn.sameBut hs (U7 (Hh x c hc)),fun j y v' e1 e2 e3=>?_⟩,cell:=fun y c' e=>?_,pin:=fun p hp=>?_,hok:=tracked (I.p5 x c hc) hs,len:=by simpa using I.len } ⟨c,hs,.inr hc⟩
  ·by_cases hj:j=i
   ·subst hj
    rw [S.ix] at e1;cases e1;rw [YJ OB] at e2;cases e2;exact⟨u,r,.inr ⟨.inl hk,c,hc,hc'⟩⟩
   ·rw [Xp (U7 hj)] at e2
    obtain⟨u',r',q⟩:=hl j y v' e1 e2 e3;refine⟨u',r',?_⟩;rcases q with q|⟨k,c',e,z'⟩
    ·exact .inl q
    ·refine .inr ⟨k,c',e,z'.sameBut hs ?_⟩
     rintro rfl;exact hj (p6 S.nd e1 (I.ok.inj _ _ _ e hc ▸ S.ix))
  ·by_cases Hj:c'=c
   ·subst Hj;exact⟨_,hc'⟩
   ·obtain⟨w2,z2⟩:=I.cell y c' e
    exact⟨w2,z2.sameBut hs Hj⟩
  ·obtain⟨e,n,ne,d⟩:=I.pin p hp
   refine⟨(hs.2 p.1 ?_).trans e,n,ne,d⟩;intro q;rw [q,P9] at e;have q':oc=p.2:=Vn e
   exact d w' (by rw [<- q'];exact LI)
noncomputable def PG (X:Cx) (tg:Expr) (m:Tg):Prop:=∀{pins:aX} {φ φ':Fr} {g:G} {L:aa} {s:Tv} {t:T} {u:Ts},Inv X pins φ g L s->RT g none t u->m.set t φ=some φ'->TR (model X.prog X.w) X.A (assign tg X.env u) (fun _ s'=>Inv X pins φ' g L s') F0 s
theorem kI {i:Nat} (S:r6 X i x):PG X (.Name x pos) (.one i):=fun I r h=>by cases h;exact wpAny_assign_Name (lD I S r fun s' I' _=>I')
noncomputable def HH (X:Cx) (ts:List Expr) (is:List Nat):Prop:=∀{pins:aX} {φ:Fr} {g:G} {L:aa} {s:Tv} {xs:List T} {us:List Ts},Inv X pins φ g L s->cu g xs us->xs.length=is.length ->
 TR (model X.prog X.w) X.A (assignInOrder ((assignEach ts X.env).map (·.2)) us) (fun _ s'=>Inv X pins (sets is xs φ) g L s') F0 s
theorem AK:HH X [] []:=fun I r _=>by cases r with|nil=>exact assignInOrder_nil I|cons _ _=>contradiction
theorem xe {i:Nat} {is:List Nat} {ts:List Expr} (S:r6 X i x) (h:HH X ts is):HH X (.Name x pos::ts) (i::is):=fun I r hl=>by
 cases r with
 | nil=>cases hl
 | cons r1 r2 =>
  show TR _ _ (assignInOrder (assign (.Name x pos) X.env::(assignEach ts X.env).map (·.2)) _) _ _ _;exact assignInOrder_cons (thn (kI S I r1 rfl) fun _ s1 I1=>h I1 r2 (by simpa using hl))
theorem Inv.tup {xs:List T} (I:Inv X pins φ g L s) (r:RT g none (.tup xs) u):∃a its,u=.ref a/\IsTup s.heap a its/\cu g xs its.toList/\xs.length<=T7:=by
 cases r with
 | tup hk hc hd hz hl hi=>exact⟨_,_,rfl,⟨_,I.kn hk,hc.1,_,hd⟩,du (by simpa using hl) fun i x v e1 e2=>hi i x v e1 (by simpa using e2),hz⟩
theorem xf {is:List Nat} {ts:List Expr} {k:Nat} (h:HH X ts is) (hn:(assignEach ts X.env).length=is.length) (mQ:(assignEach ts X.env).findIdx? (·.1)=none):PG X (.Tuple ts k pos) (.many is):=fun {_ _ _ _ _ _ t _} I r hw=>by
 cases t <;> try cases hw
 rename_i xs;have hw':(if xs.length=is.length then some (sets is xs _) else none)=some _:=hw
 clear hw;rename_i φ φ' _ _ _ _;split at hw'
 ·rename_i hl
  cases hw';obtain⟨a,its,rfl,ht,rv,hz⟩:=I.tup r;refine assign_Tuple_tuple I.ok.hd ht (by rw [hn,<- hl,TV rv];simp) mQ fun h' hx=>?_
  exact h (I.kept (t':=_) fun b o e=>hx b o (Ub (T3 e)) e) rv hl
 ·cases hw'
theorem r7 {tg:Expr} {t:Tg} (he:PE X e m) (hg:PG X tg t) (hs:swapsWithSole [tg] e pos.line X.env=pure false) (hw:swappedStores [tg] e X.env=pure none) (h1:(assignEach [tg] X.env).map (·.2)=[assign tg X.env]):PS X (.Assign [tg] e pos) (asg t m):=fun {pins φ g L s} I h=>by
 obtain⟨v,L1,e1,e2,h⟩:=gM h;cases ef:t.set v φ with
 | none=>simp only [ef] at h;exact absurd rfl h
 | some φ1 =>
  have e3:asg t m φ L=.nx φ1 L1:=by
   rw [show asg t m φ L=_ from e2];simp only [ef]
  rw [e3];refine wpAny_Assign_stores (thn (he I e1) fun v s1 ⟨g1,l1,I1,r1⟩=>?_) hs hw;rw [h1];exact thn (hg I1 r1 ef) fun _ s2 q=>⟨g1,l1,q⟩
theorem Ed {op:Operator} {i:Nat} (S:r6 X i x) (he:PE X e m) (ho:w6 X (inplaceOp op) (ag op)):PS X (.AugAssign (.Name x pos) op e pos') (aug op i m):=fun {pins φ g L s} I h=>by
 obtain⟨t,L1,e1,e2,h⟩:=gM h;rw [show aug op i m _ _=_ from e2];obtain⟨x0,L2,q1,e3⟩:=R.of e1;obtain⟨y,L3,q2,e4⟩:=R.of e3;unfold v at q1;cases ev:φ[i]? with
 | none=>rw [ev] at q1;cases q1
 | some o =>
  cases o with
  | none=>rw [ev] at q1;cases q1
  | some t0 =>
   rw [ev] at q1;cases q1;obtain⟨mm,hn,hl⟩:=I.loc;have Qa:K0 X.env.scope x:=by rcases S.loc with k|k;exact .inl k;exact .inr (.inl k)
   obtain⟨u,r,l⟩:=hl i x _ S.ix ev Qa;refine wpAny_AugAssign_Name ?_;have go:TR (model X.prog X.w) X.A (eval e X.env) (fun w s₂=>TR (model X.prog X.w) X.A (inplaceOp op u w) (fun r s₃=>TR (model X.prog X.w) X.A (storeName X.env x r) (fun _=>SP X pins g (.nx (φ.set i (some t)) L1) .next) F0 s₃) F0 s₂) F0 s:=by
    refine thn (he I q2) fun w s1 ⟨g1,l1,I1,r1⟩=>thn (ho I1 (r.le l1) r1 e4) fun z s2 ⟨g2,l2,I2,r2⟩=>?_
    exact lD I2 S r2 fun s3 I3 _=>⟨g2,l1.trans l2,I3⟩
   rcases l with⟨hk,hm⟩|⟨hk,c,hc,hcell⟩
   ·exact wpAny_loadName_local I.ok.kind hk hn hm go
   ·rcases hk with hk|hk
    ·exact wpAny_loadName_cell I.ok.kind hk hc hcell go
    ·have hk:X.env.scope.names.lookup x=some .free:=hk
     rcases S.loc with k|k <;> (rw [k] at hk;cases hk)
theorem Ee {k:Expr} {mk:ST} {sb:List Stmt} {mb:SS} (hk:PT X k mk) (hb:w5 X sb mb) (n:Nat):PS X (.While k sb [] pos) (pS mk mb n):=fun {pins φ g L s} I h=>by
 refine wpAny_While (codeAny_whileLoop (fun n' s'=>∃φ' g' L',Le g g'/\Inv X pins φ' g' L' s'/\pS mk mb n' φ' L'≠.bad/\pS mk mb n' φ' L'=pS mk mb n φ L) ?_ n ⟨φ,g,L,.refl g,I,h,rfl⟩);rintro n' s1 ⟨φ1,g1,L1,l1,I1,h1,eq⟩;rw [<- eq];cases n' with
 | zero=>exact absurd rfl h1
 | succ n' =>
  obtain⟨b,L2,e1,e2,h2⟩:=gM h1;have e2':pS mk mb (n'+1) φ1 L1=_:=e2
  rw [e2'] at eq ⊢;refine wpAny_passesOwn VY (thn (hk _ (.inl rfl) I1 e1) fun b' s2 ⟨g2,l2,I2,e⟩=>?_);subst e;cases b' with
  | false=>exact wpAny_execs_nil ⟨g2,l1.trans l2,I2⟩
  | true =>
   rw [if_pos rfl] at h2 eq ⊢;rw [if_pos rfl];have hb':mb φ1 L2≠.bad:=fun z=>by rw [z] at h2;exact absurd rfl h2
   refine wpAny_passesOwn VY (thn (hb I2 hb') fun f s3 ⟨g3,l3,q3⟩=>?_);have Au:=(l1.trans l2).trans l3
   cases eb:mb φ1 L2 with
   | bad=>exact absurd eb hb'
   | nx φ3 L3 =>
    rw [eb] at q3 h2 eq;cases f <;> first|exact q3.elim|exact⟨n',Vh _,φ3,g3,L3,Au,q3,h2,rfl⟩
   | ct φ3 L3 =>
    rw [eb] at q3 h2 eq;cases f <;> first|exact q3.elim|exact⟨n',Vh _,φ3,g3,L3,Au,q3,h2,rfl⟩
   | bk φ3 L3 =>
    rw [eb] at q3;cases f <;> first|exact q3.elim|exact⟨g3,Au,q3⟩
   | rt t3 L3 =>
    rw [eb] at q3;cases f <;> first|exact q3.elim|exact⟨g3,Au,q3⟩
end
section
variable {X:Cx} {pins:aX} {φ:Fr} {g g1:G} {L L':aa} {s s':Tv} {w t:T} {u:Ts} {e a b:Expr} {es:List Expr} {m ma mb:SE} {pos:Pos} {x:Str} {h':Heap} {xs:List T}
theorem ow {α:Type}:∀{L:List α} {n:Nat},n<L.length->∃c,at_ L n=some c
 | c::L,n,h=>by
  unfold at_
  split
  ·exact⟨c,rfl⟩
  ·exact ow (by simp at h;omega)
theorem Inv.view (I:Inv X pins φ g L s) (r:RT g none t u):∃p,RT g p (vw L t) u:=by
 cases r with
 | ref h =>
  rename_i n p;obtain⟨c,hc⟩:=ow (L:=L) (by rw [<- I.rel.len];exact fb h);obtain⟨q,h1,h2⟩:=I.rel.cells n c hc;rw [h] at h1;cases h1;exact⟨_,by show RT g _ ((at_ L n).getD .cb) _;rw [hc];exact h2⟩
 | _=>exact⟨none,by first|exact .cb|exact .bl _|exact .int _ _|exact .str _ _ (by assumption)|exact .ty _|exact .own (by assumption)|exact .tup (by assumption) (by assumption) (by assumption) (by assumption) (by assumption) (by assumption)|exact .lst (by assumption) (by assumption) (by assumption) (by assumption) (by assumption)|exact .aP (by assumption) (by assumption) (by assumption) (by assumption) (by assumption) (by assumption) (by assumption) (by assumption) (by assumption) (by assumption) (by assumption)|exact .obj (by assumption) (by assumption) (by assumption) (by assumption) (by assumption) (by assumption) (by assumption) (by assumption) (by assumption) (by assumption) (by assumption) (by assumption)⟩
theorem Inv.lst {p:Option (Ug × Ug)} (I:Inv X pins φ g L s) (r:RT g p (.lst xs) u):∃a its n,u=.ref a/\s.heap.get? a=some { cls:=.type "list",data:=.seq its n }/\cu g xs its.toList/\xs.length<=T7:=by
 cases r with
 | lst ht hk hz hl hi=>exact⟨_,_,_,rfl,I.kn hk,du (by simpa using hl) fun i x v e1 e2=>hi i x v e1 (by simpa using e2),hz⟩
theorem Inv.tupP {p:Option (Ug × Ug)} (I:Inv X pins φ g L s) (r:RT g p (.tup xs) u):∃a its,u=.ref a/\IsTup s.heap a its/\cu g xs its.toList/\xs.length<=T7:=by
 obtain⟨_,_,_,_,_,rfl,hk,hc,hd,hz,hl,hi⟩:=r.tI;exact⟨_,_,rfl,⟨_,I.kn hk,hc.1,_,hd⟩,du (by simpa using hl) fun i x v e1 e2=>hi i x v e1 (by simpa using e2),hz⟩
theorem af {h:Heap} {a:Ug} {its:Array Ts} {n:Nat} (e:h.get? a=some { cls:=.type "list",data:=.seq its n }):h.IsList a its:=⟨_,e,rfl,n,rfl⟩
end
structure Turn (P:UU) (w:VL) (tg:Expr) (g0:G) (xs:List T) (k:aa->Prop) (fp:List Ug) (it:Ug) (tn:Nat->Heap->Prop):Prop where
 mem:it∈fp
 obj:∀i h,tn i h->∀b∈fp,∃o,h.get? b=some o/\∀v,o.data≠.cell v
 keep:∀i h h',tn i h->(∀b∈fp,∀o,h.get? b=some o->h'.get? b=some o)->tn i h'
 item:∀{X:Cx},X.prog=P->X.w=w->∀{i:Nat} {pins:aX} {φ:Fr} {g:G} {L:aa} {s:Tv} {E:Ts->Tv->Prop} {x:T},Le g0 g->Inv X pins φ g L s->(∀b∈fp,fG X pins g.H b)->tn i s.heap->k L->xs[i]?=some x ->
  TR (model P w) X.A (pyNext (.ref it)) (fun r s1=>∃u,r=some u/\TR (model P w) X.A (letOwnedTupleGo tg (.ref it) u) (fun _ s2=>∃g',Le g g'/\Inv X pins φ g' L s2/\RT g' none x u/\tn (i+1) s2.heap/\∀b∈fp,g'.H b=none) E s1) E s
 done:∀{X:Cx},X.prog=P->X.w=w->∀{i:Nat} {pins:aX} {φ:Fr} {g:G} {L:aa} {s:Tv} {E:Ts->Tv->Prop},Le g0 g->Inv X pins φ g L s->(∀b∈fp,fG X pins g.H b)->tn i s.heap->k L->i=xs.length ->
  TR (model P w) X.A (pyNext (.ref it)) (fun r s1=>r=none/\Inv X pins φ g L s1) E s
 self:∀(A:Ux) (i:Nat) (s:Tv) (Q:Ts->Tv->Prop) (E:Ts->Tv->Prop),tn i s.heap->Q (.ref it) s->TR (model P w) A (pyIter (.ref it)) Q E s
noncomputable def Hk (X:Cx) (pins:aX) (φ:Fr) (g:G) (tg:Expr) (xs:List T) (k:aa->Prop) (L':aa) (LJ:Ts) (s2:Tv):Prop :=
 ∃(it:Ug) (fp:List Ug) (tn:Nat->Heap->Prop) (g':G),LJ=.ref it/\Le g g'/\Inv X pins φ g' L' s2/\Turn X.prog X.w tg g' xs k fp it tn/\tn 0 s2.heap/\∀b∈fp,fG X pins g'.H b
noncomputable def PI (X:Cx) (tg iter:Expr) (m:SI):Prop:=∀{pins:aX} {φ:Fr} {g:G} {L:aa} {s:Tv} {xs:List T} {k:aa->Prop} {L':aa},Inv X pins φ g L s->m φ L=.ok (xs,k) L' ->
 TR (model X.prog X.w) X.A (eval iter X.env) (fun v s1=>TR (model X.prog X.w) X.A (pyIter v) (Hk X pins φ g tg xs k L') F0 s1) F0 s
theorem ua {Md:Model} {A:Ux} {E:Ts->Tv->Prop} {s:Tv} {tg:Expr} {it:Ug} {u:Ts} {o:Obj} {n:String} {vs:Array Ts} {Q:Unit->Tv->Prop} (ho:s.heap.get? it=some o) (hc:o.cls=.type n) (hd:o.data=.fields vs)
    (hn:["enumerate","zip","dict_itemiterator","dict_reverseitemiterator","odict_iterator","itertools.zip_longest","itertools.pairwise"].contains n=false) (hQ:Q () s):TR Md A (letOwnedTupleGo tg (.ref it) u) Q E s:=by
  unfold letOwnedTupleGo;cases tg <;> first
    | exact Tn hQ
    | (cases u <;> first
        | exact Tn hQ
        | (refine Ti (wpAny_load ho ?_)
           rw [hc,hd];show TR Md A (if (["enumerate","zip","dict_itemiterator","dict_reverseitemiterator","odict_iterator","itertools.zip_longest","itertools.pairwise"].contains n && vs[0]? == some (rawInt _))=true then _ else _) Q E s
           rw [if_neg (by intro h;rw [hn,XZ] at h;cases h)];exact Tn hQ))
section
variable {P:UU} {wd:VL} {tg:Expr} {g0:G} {xs:List T} {t:T} {L0:aa} {a it:Ug}
theorem kJ {o:Obj} {h:Heap} {vs:Array Ts} (e:h.get? it=some o) (d:o.data=.fields vs):∀b∈[it],∃o,h.get? b=some o/\∀v,o.data≠.cell v:=fun b hb=>by
 have z:b=it:=by simpa using hb
 subst z;exact⟨o,e,fun v z=>by rw [d] at z;cases z⟩
theorem fH {L:aa} (h:stays t L0 L):vw L t=vw L0 t:=by
 cases t with
 | ref n=>show(at_ L n).getD _=(at_ L0 n).getD _;rw [h n rfl]
 | _=>rfl
theorem vI (r0:RT g0 none t (.ref a)) (hv:vw L0 t=.lst xs):Turn P wd tg g0 xs (stays t L0) [it] it (fun i h=>h.IsListIter it a i) where
 mem:=by simp
 obj:=fun i h st=>by obtain⟨o,e,c,d⟩:=st;exact kJ e d
 keep:=fun i h h' st k=>st.at fun o e=>k it (by simp) o e
 item:=by
  intro X hP hw i pins φ g L s E x l I hf st hk hx;subst hP hw;obtain⟨p,r⟩:=I.view (r0.le l);rw [fH hk,hv] at r;obtain⟨a',its,n,e1,e2,rv,_⟩:=I.lst r;cases e1;obtain⟨u,hu,ru⟩:=rY rv hx;refine wpAny_pyNext_list_item st (af e2) (x:=u) (by simpa using hu) fun h' fX sb=>?_
  have I1:Inv X pins φ g L { s with heap:=h' }:=I.turned (t':=s.toks) (ch:=[it]) (fun b o hb e=>(sb.2 b (by simpa using hb)).trans e) hf;obtain⟨o,e,c,d⟩:=id fX;exact⟨u,rfl,ua (s:={ s with heap:=h' }) e c d (by decide) ⟨g,.refl g,I1,ru,fX,fun b hb=>(hf b hb).1⟩⟩
 done:=by
  intro X hP hw i pins φ g L s E l I hf st hk hx;subst hP hw;obtain⟨p,r⟩:=I.view (r0.le l);rw [fH hk,hv] at r;obtain⟨a',its,n,e1,e2,rv,_⟩:=I.lst r;cases e1;have hl:=TV rv
  exact wpAny_pyNext_list_end I.ok.hd st (af e2) (by have z:=hl;simp at z ⊢;omega) fun h' eb=>⟨rfl,I.turned (t':=s.toks) (ch:=[it]) (fun b o hb e=>eb b o (by simpa using hb) e) hf⟩
 self:=fun _ _ _ _ _ st h=>wpAny_pyIter_listiter st h
theorem xg (r0:RT g0 none t (.ref a)) (hv:vw L0 t=.tup xs):Turn P wd tg g0 xs (stays t L0) [it] it (fun i h=>h.IsTupleIter it a i) where
 mem:=by simp
 obj:=fun i h st=>by obtain⟨o,e,c,d⟩:=st;exact kJ e d
 keep:=fun i h h' st k=>st.at fun o e=>k it (by simp) o e
 item:=by
  intro X hP hw i pins φ g L s E x l I hf st hk hx;subst hP hw;obtain⟨p,r⟩:=I.view (r0.le l);rw [fH hk,hv] at r;obtain⟨a',its,e1,e2,rv,_⟩:=I.tupP r;cases e1;obtain⟨u,hu,ru⟩:=rY rv hx;refine wpAny_pyNext_tuple_item st (show s.heap.IsTuple a its from e2) (x:=u) (by simpa using hu) fun h' fX sb=>?_
  have I1:Inv X pins φ g L { s with heap:=h' }:=I.turned (t':=s.toks) (ch:=[it]) (fun b o hb e=>(sb.2 b (by simpa using hb)).trans e) hf;obtain⟨o,e,c,d⟩:=id fX;exact⟨u,rfl,ua (s:={ s with heap:=h' }) e c d (by decide) ⟨g,.refl g,I1,ru,fX,fun b hb=>(hf b hb).1⟩⟩
 done:=by
  intro X hP hw i pins φ g L s E l I hf st hk hx;subst hP hw;obtain⟨p,r⟩:=I.view (r0.le l);rw [fH hk,hv] at r;obtain⟨a',its,e1,e2,rv,_⟩:=I.tupP r;cases e1;have hl:=TV rv
  exact wpAny_pyNext_tuple_end I.ok.hd st (show s.heap.IsTuple a its from e2) (by have z:=hl;simp at z ⊢;omega) fun h' eb=>⟨rfl,I.turned (t':=s.toks) (ch:=[it]) (fun b o hb e=>eb b o (by simpa using hb) e) hf⟩
 self:=fun _ _ _ _ _ st h=>wpAny_pyIter_tupleiter st h
theorem r9 {lo:Int} {n:Nat}:Turn P wd tg g0 (upTo lo n) (fun _=>True) [it] it (fun i h=>IsRangeIter h it (lo+(i:Nat) * 1) ((n:Int) - (i:Nat)) 1) where
 mem:=by simp
 obj:=fun i h st=>kJ st rfl
 keep:=fun i h h' st k=>k it (by simp) _ st
 item:=by
  intro X hP hw i pins φ g L s E x l I hf st hk hx;subst hP hw;have W:=Walks.range (prog:=X.prog) (w:=X.w) I.ok.hd it lo 1 n
  have hx':i<n/\x=.int (lo+i):=by
   simp only [upTo,TX,List.getElem?_range'] at hx;by_cases hi:i<n
   ·simp [hi] at hx;exact⟨hi,hx.symm⟩
   ·simp [hi] at hx
  obtain⟨hi,rfl⟩:=hx';refine W.item i s _ _ hi st fun v h' tk hv fX kk=>?_
  obtain⟨t,rfl⟩:=hv;have I1:Inv X pins φ g L { s with heap:=h',toks:=tk }:=I.turned (ch:=[it]) (fun b o hb e=>kk b o (by simpa using hb) e) hf
  refine⟨_,rfl,ua (s:={ s with heap:=h',toks:=tk }) (n:="range_iterator") fX rfl rfl (by decide) ⟨g,.refl g,I1,?_,fX,fun b hb=>(hf b hb).1⟩⟩;rw [Int.mul_one];exact .int _ _
 done:=by
  intro X hP hw i pins φ g L s E l I hf st hk hx;subst hP hw;exact wpAny_pyNext_range_end I.ok.hd st (by simp [upTo] at hx;omega) fun h' eb=>⟨rfl,I.turned (t':=s.toks) (ch:=[it]) (fun b o hb e=>eb b o (by simpa using hb) e) hf⟩
 self:=fun _ _ _ _ _ st h=>wpAny_pyIter_rangeiter st h
theorem p7 {z:Cs} {tk:Tok} (ty:String) (Hl:ty="str_ascii_iterator"\/ty="str_iterator"):Turn P wd tg g0 (z.map fun ch=>.str [ch]) (stays (.str z) L0) [it] it (fun i h=>h.IsStrIter it ty ⟨z.toArray⟩ tk i) where
 mem:=by simp
 obj:=fun i h st=>by obtain⟨o,e,c,d⟩:=st;exact kJ e d
 keep:=fun i h h' st k=>by obtain⟨o,e,r⟩:=st;exact⟨o,k it (by simp) o e,r⟩
 item:=by
  intro X hP hw i pins φ g L s E x l I hf st hk hx;subst hP hw;have wk:Walks X.prog X.w X.A it [it] [it] z.toArray.size (SignAt ⟨z.toArray⟩) (fun i h=>h.IsStrIter it ty ⟨z.toArray⟩ tk i):=by
   rcases Hl with e|e
   ·subst e;exact Walks.strAscii I.ok.hd it _ tk
   ·subst e;exact Walks.strWide I.ok.hd it _ tk
  have hn:["enumerate","zip","dict_itemiterator","dict_reverseitemiterator","odict_iterator","itertools.zip_longest","itertools.pairwise"].contains ty=false:=by
   rcases Hl with e|e <;> subst e <;> decide
  rw [TX] at hx;obtain⟨c0,OC,rfl⟩:=TG.mp hx;refine wk.item i s _ E (by simpa using (TM.mp OC).1) st fun v h' tk' hv fX kk=>?_
  obtain⟨c,u,hc',rfl⟩:=hv;have ec:c0=c:=by
   have:z[i]?=some c:=by simpa using hc'
   rw [OC] at this;exact Vn this
  subst ec;have I1:Inv X pins φ g L { s with heap:=h',toks:=tk' }:=I.turned (ch:=[it]) (fun b o hb e=>kk b o (by simpa using hb) e) hf
  obtain⟨o,e,ec,d⟩:=id fX;exact⟨_,rfl,ua (s:={ s with heap:=h',toks:=tk' }) e ec d hn ⟨g,.refl g,I1,.str [c0] u (by show 1<=T7;decide),fX,fun b hb=>(hf b hb).1⟩⟩
 done:=by
  intro X hP hw i pins φ g L s E l I hf st hk hx;subst hP hw;have wk:Walks X.prog X.w X.A it [it] [it] z.toArray.size (SignAt ⟨z.toArray⟩) (fun i h=>h.IsStrIter it ty ⟨z.toArray⟩ tk i):=by
   rcases Hl with e|e
   ·subst e;exact Walks.strAscii I.ok.hd it _ tk
   ·subst e;exact Walks.strWide I.ok.hd it _ tk
  have hi:i=z.toArray.size:=by simpa using hx
  subst hi;exact wk.done s _ E st fun h' tk kk=>⟨rfl,I.turned (ch:=[it]) (fun b o hb e=>kk b o (by simpa using hb) e) hf⟩
 self:=fun A i s Q E st h=>by
  rcases Hl with e|e
  ·subst e;exact wpAny_pyIter_striter_ascii st h
  ·subst e;exact wpAny_pyIter_striter_wide st h
theorem p8 (h:Heap) (a:Ug) (o:Obj) (ha:a≠h.objs.size):(h.push o).get? a=h.get? a:=by
 cases h;simp only [Heap.push,Heap.get?,WQ];rw [if_neg ha]
theorem xh:∀(xs:List T) (n i:Nat),(num n xs)[i]?=(xs[i]?).map fun x=>.tup [.int ((n+i:Nat):Int),x]
 | [],n,i=>by simp [num]
 | x::xs,n,0=>by simp [num]
 | x::xs,n,i+1=>by show(num (n+1) xs)[i]?=_;rw [xh xs (n+1) i,show n+1+i=n+(i+1) by omega];simp
theorem ub:∀(xs:List T) (n:Nat),(num n xs).length=xs.length
 | [],n=>rfl
 | x::xs,n=>by simp [num,ub xs]
theorem Inv.pair {X:Cx} {pins:aX} {φ:Fr} {g:G} {L:aa} {s:Tv} {h2:Heap} {t':Nat} {ch:List Ug} {x y:T} {u v:Ts} (I:Inv X pins φ g L s) (r1:RT g none x u) (r2:RT g none y v) (hf:∀b∈ch,fG X pins g.H b) (bD:∀b∈ch,b<s.heap.objs.size)
  (ht:h2.get? s.heap.objs.size=some { cls:=.type "tuple",data:=.seq #[u,v] }) (k:∀b o,b∉ch->s.heap.get? b=some o->h2.get? b=some o) :
  ∃g',Le g g'/\Inv X pins φ g' L { s with heap:=h2,toks:=t' }/\RT g' none (.tup [x,y]) (.ref s.heap.objs.size)/\∀b∈ch,g'.H b=none:=by
 have I1:=I.laid (a:=s.heap.objs.size) (o:={ cls:=.type "tuple",data:=.seq #[u,v] }) (h':=s.heap.push { cls:=.type "tuple",data:=.seq #[u,v] }) (t':=t') (fun b u q=>Tj _ q) (TK _) (Tt _ rfl);have l:=Le.lay (o:={ cls:=.type "tuple",data:=.seq #[u,v] }) I.fresh
 have fr:∀b∈ch,(g.lay s.heap.objs.size { cls:=.type "tuple",data:=.seq #[u,v] }).H b=none:=fun b hb=>(az (Ub (bD b hb))).trans (hf b hb).1
 refine⟨_,l,Inv.turned (s:={ s with heap:=s.heap.push { cls:=.type "tuple",data:=.seq #[u,v] },toks:=t' }) (t':=t') (ch:=ch) I1 (fun b o hb q=>?_) (fun b hb=>⟨fr b hb,(hf b hb).2⟩),cu.tup (us:=[u,v]) (.cons r1 (.cons r2 .nil)) l (.inl aq) ⟨rfl,rfl⟩ rfl (by show 2<=T7;decide),fr⟩;by_cases CK:b=s.heap.objs.size
 ·subst CK
  have q2:(s.heap.push { cls:=.type "tuple",data:=.seq #[u,v] }).get? s.heap.objs.size=some o:=q;rw [Tt _ rfl] at q2;rw [ht,<- q2]
 ·exact k b o hb ((p8 _ _ _ CK).symm.trans q)
theorem vJ {elts:List Expr} {x1:Nat} {pos:Pos} {e:Ug} (hne:e≠it) (r0:RT g0 none t (.ref a)) (hv:vw L0 t=.lst xs):Turn P wd (.Tuple elts x1 pos) g0 (num 0 xs) (stays t L0) [e,it] e (fun i h=>(∃old,IsEnum h e it ((i:Nat):Int) old)/\h.IsListIter it a i) where
 mem:=by simp
 obj:=fun i h st b hb=>by
  obtain⟨⟨old,Av⟩,b8⟩:=st;rcases(by simpa using hb:b=e\/b=it) with z|z
  ·subst z
   exact⟨_,Av,fun v z=>nomatch z⟩
  ·subst z
   obtain⟨o,e,c,d⟩:=b8;exact⟨o,e,fun v z=>by rw [d] at z;cases z⟩
 keep:=fun i h h' st k=>by
  obtain⟨⟨old,Av⟩,b8⟩:=st;exact⟨⟨old,k e (by simp) _ Av⟩,b8.at fun o q=>k it (by simp) o q⟩
 item:=by
  intro X hP hw i pins φ g L s E x l I hf st hk hx;subst hP hw;obtain⟨⟨old,Av⟩,b8⟩:=st;obtain⟨p,r⟩:=I.view (r0.le l);rw [fH hk,hv] at r;obtain⟨a',its,n,e1,e2,rv,_⟩:=I.lst r;cases e1;rw [xh,TG] at hx;obtain⟨y,hy,rfl⟩:=hx;obtain⟨u,hu,ru⟩:=rY rv hy;refine wpAny_pyNext_enum_item Av b8 (af e2) (x:=u) (by simpa using hu) hne fun h1 Qb xi Qc OD sd=>?_
  refine⟨_,rfl,wpAny_letOwnedTupleGo_enum Qb fun h2 Qd rL=>?_⟩
  replace rL:Vl e h1 h2:=rL
  have Qe:e<s.heap.objs.size:=T3 Av;have SM:it<s.heap.objs.size:=by obtain⟨o,q,_⟩:=id b8;exact T3 q
  have Qf:h2.get? s.heap.objs.size=some { cls:=.type "tuple",data:=.seq #[.int i s.toks,u] }:=(rL.2 _ (UP Qe)).trans Qc;obtain⟨g',l',I',r',f'⟩:=I.pair (t':=s.toks+1) (ch:=[e,it]) (.int (i:Int) s.toks) ru hf (fun b hb=>by rcases(by simpa using hb:b=e\/b=it) with z|z <;> rw [z] <;> assumption) Qf fun b o hb q=>by
   have hb1:b≠e:=fun z=>hb (by simp [z])
   have vK:b≠it:=fun z=>hb (by simp [z])
   exact(rL.2 b hb1).trans (sd b o hb1 vK q)
  refine⟨g',l',I',by simpa using r',⟨⟨u,?_⟩,xi.at fun o q=>(rL.2 it (U7 hne)).trans q⟩,f'⟩;show IsEnum h2 e it (((i+1:Nat)):Int) u
  rw [show(((i+1:Nat)):Int)=(i:Int)+1 by push_cast;rfl];exact Qd
 done:=by
  intro X hP hw i pins φ g L s E l I hf st hk hx;subst hP hw;obtain⟨⟨old,Av⟩,b8⟩:=st;obtain⟨p,r⟩:=I.view (r0.le l);rw [fH hk,hv] at r;obtain⟨a',its,n,e1,e2,rv,_⟩:=I.lst r;cases e1;have hl:=TV rv
  rw [ub] at hx;exact wpAny_pyNext_enum_end I.ok.hd Av b8 (af e2) (by have z:=hl;simp at z ⊢;omega) fun h' eb=>⟨rfl,I.turned (t':=s.toks) (ch:=[e,it]) (fun b o hb e=>eb b o (fun z=>hb (by simp [z])) e) hf⟩
 self:=fun _ _ _ _ _ st h=>by obtain⟨⟨old,Av⟩,_⟩:=st;exact wpAny_pyIter_enum Av h
end
section
variable {X:Cx} {tg e a b:Expr} {m ma mb:SE} {pos p Qg:Pos}
theorem aA {α:Type} {c:Prop} [Decidable c] {r:R α} {a:α} {L:aa} (h:bT c r=.ok a L):c/\r=.ok a L:=by
 unfold bT at h;split at h
 ·exact⟨by assumption,h⟩
 ·cases h
theorem HI {φ:Fr} {L L':aa} {t:T} (h:m φ L=.ok t L'):ib [m] φ L=.ok [t] L':=by simp [ib,R.bind,h]
theorem LK {φ:Fr} {L L1 L':aa} {t u:T} (h:ma φ L=.ok t L1) (h2:mb φ L1=.ok u L'):ib [ma,mb] φ L=.ok [t,u] L':=by simp [ib,R.bind,h,h2]
theorem Ef {φ:Fr} {L L':aa} {xs:List T} {k:aa->Prop} (h:src m φ L=.ok (xs,k) L'):∃t,m φ L=.ok t L'/\items t L'=some xs/\k=stays t L':=by
 obtain⟨t,L1,e1,h⟩:=R.of h;cases ei:items t L1 with
 | none=>rw [ei] at h;cases h
 | some ys=>rw [ei] at h;cases h;exact⟨t,e1,ei,rfl⟩
theorem Inv.HJ {X:Cx} {pins:aX} {φ:Fr} {g:G} {L:aa} {s:Tv} {xs:List T} {k:aa->Prop} {o:Obj} {tn:Nat->Heap->Prop} (I:Inv X pins φ g L s) (T:Turn X.prog X.w tg g xs k [s.heap.objs.size] s.heap.objs.size tn) (h0:tn 0 (s.heap.push o)):Hk X pins φ g tg xs k L (.ref s.heap.objs.size) { s with heap:=s.heap.push o }:=by
 refine⟨_,_,_,g,rfl,.refl g,I.kept (t':=s.toks) fun b o e=>Tj _ e,T,h0,fun b hb=>?_⟩;have z:b=s.heap.objs.size:=by simpa using hb
 subst z;exact I.rZ (TK _) I.fresh
theorem Hk.le {X:Cx} {pins:aX} {φ:Fr} {g g1:G} {L':aa} {xs:List T} {k:aa->Prop} {u:Ts} {s':Tv} (h:Hk X pins φ g1 tg xs k L' u s') (l:Le g g1):Hk X pins φ g tg xs k L' u s':=let ⟨a,b,c,d,e,f,r⟩:=h;⟨a,b,c,d,e,l.trans f,r⟩
theorem RT.sV {g:G} {p:Option (Ug × Ug)} {t:T} {L:aa} {z:Cs} {x:Str} {k:Tok} (r:RT g p t (.str x k)) (e:vw L t=.str z):t=.str z:=by
 cases t with
 | ref n=>cases r
 | _=>exact e
theorem jK (he:PE X e m):PI X tg e (src m):=fun I h=>by
 obtain⟨t,e1,ei,rfl⟩:=Ef h;refine thn (he I e1) fun v s1 ⟨g1,l1,I1,r1⟩=>?_
 obtain⟨p,r⟩:=I1.view r1;unfold items at ei;cases ev:vw _ t with
 | lst xs =>
  rw [ev] at ei r;cases ei;obtain⟨a,its,n,rfl,e2,rv,_⟩:=I1.lst r;exact wpAny_pyIter_list (af e2) ((I1.HJ (vI r1 ev) ⟨_,Tt _ rfl,rfl,rfl⟩).le l1)
 | tup xs =>
  rw [ev] at ei r;cases ei;obtain⟨a,its,rfl,e2,rv,_⟩:=I1.tupP r;exact wpAny_pyIter_tuple (show s1.heap.IsTuple a its from e2) ((I1.HJ (xg r1 ev) ⟨_,Tt _ rfl,rfl,rfl⟩).le l1)
 | str z =>
  rw [ev] at ei r;cases ei;obtain⟨tk,rfl,hz⟩:=r.iM;obtain rfl:=r1.sV ev;cases ha:(⟨z.toArray⟩:Str).cps.all (·<128)
  ·exact wpAny_pyIter_wide ha ((I1.HJ (p7 _ (.inr rfl)) ⟨_,Tt _ rfl,rfl,rfl⟩).le l1)
  ·exact wpAny_pyIter_ascii ha ((I1.HJ (p7 _ (.inl rfl)) ⟨_,Tt _ rfl,rfl,rfl⟩).le l1)
 | _=>rw [ev] at ei;cases ei
theorem qa {X:Cx} {pins:aX} {φ:Fr} {g:G} {L:aa} {s:Tv} {E:Ts->Tv->Prop} {lo hi:Int} {t u v:Tok} {tk:Nat} (I:Inv X pins φ g L s) (h1:rR lo) (h2:rR hi) :
  TR (model X.prog X.w) X.A (pyIter (.ref s.heap.objs.size)) (Hk X pins φ g tg (upTo lo (hi - lo).toNat) (fun _=>True) L) E { s with heap:=s.heap.push { cls:=.type "range",data:=.fields #[.int lo t,.int hi u,.int 1 v] },toks:=tk }:=by
 refine wpAny_pyIter_range (IsRange.new ..) (small_one h1.1 h1.2 h2.1 h2.2) ?_;have I1:Inv X pins φ g L { s with heap:=s.heap.push { cls:=.type "range",data:=.fields #[.int lo t,.int hi u,.int 1 v] },toks:=tk }:=I.kept fun b o e=>Tj _ e
 refine I1.HJ r9 ?_;have e2:(((hi - lo).toNat:Nat):Int) - ((0:Nat):Int)=Builtin.Range.rangeSize lo hi 1:=by rw [rangeSize_one];split <;> omega
 show IsRangeIter _ _ (lo+((0:Nat):Int) * 1) ((((hi - lo).toNat:Nat):Int) - ((0:Nat):Int)) 1;rw [show lo+((0:Nat):Int) * 1=lo by simp,e2];exact Tt _ rfl
theorem xj {φ:Fr} {L L':aa} {xs:List T} {k:aa->Prop} (h:rS ma mb φ L=.ok (xs,k) L'):∃i j L1,ma φ L=.ok (.int i) L1/\mb φ L1=.ok (.int j) L'/\rR i/\rR j/\xs=upTo i (j - i).toNat/\k=fun _=>True:=by
 obtain⟨x,L1,e1,h⟩:=R.of h;obtain⟨y,L2,e2,h⟩:=R.of h;cases x with
 | int i =>
  cases y with
  | int j =>
   obtain⟨q,h⟩:=aA h;cases h;exact⟨_,_,L1,e1,e2,q.1,q.2,rfl,rfl⟩
  | _=>cases h
 | _=>cases h
theorem AL (hg:Gl X "range") (hm:X.mg "range"=none) (ha:PE X a ma) (hs:aY a=true):PI X tg (.Call (.Name "range" p) [a] [] pos) (rS (c (.int 0)) ma):=fun I h=>by
 obtain⟨i,j,L1,e1,e2,z1,z2,rfl,rfl⟩:=xj h;cases e1;refine Call_ (fu I hg hm boot_range (Wg (thn (i9 ha oq hs pos I (HI e2)) fun us s1 ⟨g1,l1,I1,r1⟩=>?_) (ay hs) rfl) (by decide) (by decide));cases r1 with
 | cons r rr =>
  cases rr;obtain⟨_,rfl⟩:=r.iI;exact call_range_1 (wpAny_mono (qa I1 z1 z2) (fun _ _ z=>z.le l1) fun _ _ z=>z)
theorem AM (hg:Gl X "range") (hm:X.mg "range"=none) (ha:PE X a ma) (hb:PE X b mb) (hs:aY a=true) (rL:aY b=true):PI X tg (.Call (.Name "range" p) [a,b] [] pos) (rS ma mb):=fun I h=>by
 obtain⟨i,j,L1,e1,e2,z1,z2,rfl,rfl⟩:=xj h;refine Call_ (fu I hg hm boot_range (Wg (thn (i9 ha (i9 hb oq rL) hs pos I (LK e1 e2)) fun us s1 ⟨g1,l1,I1,r1⟩=>?_) (ay hs) (by rw [ay rL];rfl)) (by decide) (by decide));cases r1 with
 | cons r rr =>
  cases rr with
  | cons r' rr =>
   cases rr;obtain⟨_,rfl⟩:=r.iI;obtain⟨_,rfl⟩:=r'.iI;exact call_range_2 (wpAny_mono (qa I1 z1 z2) (fun _ _ z=>z.le l1) fun _ _ z=>z)
theorem Eg {elts:List Expr} {x1:Nat} {LL:Pos} (hg:Gl X "enumerate") (hm:X.mg "enumerate"=none) (ha:PE X a ma) (hs:aY a=true):PI X (.Tuple elts x1 LL) (.Call (.Name "enumerate" p) [a] [] pos) (KY ma):=fun I h=>by
 obtain⟨t,L1,e3,h⟩:=R.of h;refine wpAny_Call_Name_kw (fu I hg hm boot_enumerate ?_ (by decide) (by decide));refine Wg (thn (i9 ha oq hs pos I (HI e3)) fun us s1 ⟨g1,l1,I1,r1⟩=>?_) (ay hs) rfl;cases r1 with
 | cons r rr =>
  cases rr;obtain⟨p,rv⟩:=I1.view r;cases ev:vw L1 t with
  | lst ys =>
   rw [ev] at h rv;cases h;obtain⟨a,its,n,rfl,e2,rr,_⟩:=I1.lst rv;refine call_enumerate_list (af e2) fun h' he hit hz' hk=>wpAny_pyIter_enum he ?_
   refine⟨s1.heap.objs.size+1,[s1.heap.objs.size+1,s1.heap.objs.size],_,g1,rfl,l1,I1.kept (t':=s1.toks) hk,vJ (Nat.succ_ne_self _) r ev,⟨⟨_,he⟩,hit⟩,fun b hb=>?_⟩;have hb':s1.heap.objs.size<=b:=by
    rcases(by simpa using hb:b=s1.heap.objs.size+1\/b=s1.heap.objs.size) with z|z <;> rw [z]
    ·exact VJ _
    ·exact TK _
   exact I1.rZ hb' (I1.hok.fresh hb')
  | _=>rw [ev] at h;cases h
theorem iN {fp:List Ug} {h:Heap} {b:Ug} {o:Obj} (hb:b∈fp) (e:h.get? b=some o):(b,o)∈fp.filterMap fun b=>(h.get? b).map fun o=>(b,o):=XR.mpr ⟨b,hb,by rw [e];rfl⟩
theorem Inv.pinned {X:Cx} {pins:aX} {φ:Fr} {g:G} {L:aa} {s:Tv} {fp:List Ug} (I:Inv X pins φ g L s) (hf:∀b∈fp,fG X pins g.H b) (ho:∀b∈fp,∃o,s.heap.get? b=some o/\∀v,o.data≠.cell v) :
  Inv X (pins++fp.filterMap fun b=>(s.heap.get? b).map fun o=>(b,o)) φ g L s :=
 I.ic fun p hp=>(TL.mp hp).elim (I.pin p) fun z=>by
  obtain⟨b,hb,e⟩:=XR.mp z;obtain⟨o,e',d⟩:=ho b hb;rw [e'] at e;cases e;exact⟨e',(hf b hb).1,(hf b hb).2.1,d⟩
theorem Inv.lE {X:Cx} {pins pl:aX} {φ:Fr} {g:G} {L:aa} {s:Tv} (I:Inv X (pins++pl) φ g L s):Inv X pins φ g L s:=I.ic fun p hp=>I.pin p (TF _ hp)
noncomputable def iO:Expr->Bool
 | .Set ..=>false
 | _=>true
theorem uc {env:Env} (h:iO e=true):∀x,foldedSetIterable e env x=pure x:=fun x=>by
 cases e <;> first|rfl|cases h
theorem Eh {sb:List Stmt} {mi:SI} {t:Tg} {mb:SS} (hi:PI X tg e mi) (hg:PG X tg t) (hb:w5 X sb mb) (hs:iO e=true):PS X (.For tg e sb [] pos) (bS mi t mb):=fun {pins φ g L s} I h=>by
 obtain⟨⟨xs,k⟩,L1,e1,e2,h⟩:=gM h;rw [show bS mi t mb φ L=_ from e2];clear e2;refine wpAny_For (thn (hi I e1) fun v s1 h1=>thn h1 fun LJ s2 ⟨it,fp,tn,g2,e,l2,I2,T,b8,f2⟩=>?_) (uc hs);subst e;have se:∀{H':Hp},(∀b∈fp,H' b=none)->∀b∈fp,fG X pins H' b:=fun hn b hb=>⟨hn b hb,(f2 b hb).2⟩
 generalize ho:forL k t mb xs φ L1=o at h;refine codeAny_forLoop_any (fun n s'=>∃i φ' g' L',n=xs.length - i/\i<=xs.length/\Le g2 g'/\Inv X pins φ' g' L' s'/\tn i s'.heap/\(∀b∈fp,g'.H b=none)/\forL k t mb (xs.drop i) φ' L'=o) ?_ xs.length
  ⟨0,φ,g2,L1,rfl,Uj _,.refl g2,I2,b8,fun b hb=>(f2 b hb).1,ho⟩
 rintro n s3 ⟨i,φ3,g3,L3,rfl,hi,l3,I3,HK,OE,eq⟩;by_cases bD:i<xs.length
 ·rw [Vf bD] at eq
  unfold forL at eq;by_cases hk:k L3
  ·rw [if_pos hk] at eq
   refine wpAny_passesOwn VY (wpAny_mono (T.item rfl rfl l3 I3 (se OE) HK hk (Ge9 bD)) (fun r s4 ⟨u,hr,h4⟩=>?_) fun _ _ z=>z);subst hr;refine wpAny_passesOwn VY (wpAny_mono h4 (fun _ s5 ⟨g5,l5,I5,r5,Ei,LM⟩=>?_) fun _ _ z=>z);have Qh:=I5.pinned (se LM) (T.obj _ _ Ei)
   cases ef:t.set xs[i] φ3 with
   | none=>rw [ef] at eq;exact absurd eq.symm h
   | some φ6 =>
    simp only [ef] at eq;refine wpAny_passesOwn VY (thn (hg Qh r5 ef) fun _ s6 I6=>?_);have hb':mb φ6 L3≠.bad:=fun z=>by rw [z] at eq;exact absurd eq.symm h
    refine wpAny_passesOwn VY (thn (hb I6 hb') fun f s7 ⟨g7,l7,q7⟩=>?_);have LN:=(l3.trans l5).trans l7
    have again:∀{φ7:Fr} {L7:aa},Inv X (pins++fp.filterMap fun b=>(s5.heap.get? b).map fun o=>(b,o)) φ7 g7 L7 s7->forL k t mb (xs.drop (i+1)) φ7 L7=o->∃m,m<xs.length - i/\∃j φ' g' L',m=xs.length - j/\j<=xs.length/\Le g2 g'/\Inv X pins φ' g' L' s7/\tn j s7.heap/\(∀b∈fp,g'.H b=none)/\forL k t mb (xs.drop j) φ' L'=o:=fun {φ7 L7} I7 h7=>by
     refine⟨xs.length - (i+1),by omega,i+1,φ7,g7,L7,rfl,bD,LN,I7.lE,T.keep _ _ _ Ei fun b hb o e=>(I7.pin (b,o) (TQ _ (iN hb e))).1,fun b hb=>?_,h7⟩;obtain⟨o,e,d⟩:=T.obj _ _ Ei b hb;exact(I7.pin (b,o) (TQ _ (iN hb e))).2.1
    cases eb:mb φ6 L3 with
    | bad=>exact absurd eb hb'
    | nx φ7 L7 =>
     rw [eb] at q7 eq;cases f <;> first|exact q7.elim|exact again q7 eq
    | ct φ7 L7 =>
     rw [eb] at q7 eq;cases f <;> first|exact q7.elim|exact again q7 eq
    | bk φ7 L7 =>
     rw [eb] at q7 eq;subst eq;cases f <;> first|exact q7.elim|exact⟨g7,l2.trans LN,q7.lE⟩
    | rt t7 L7 =>
     rw [eb] at q7 eq;subst eq;cases f <;> first|exact q7.elim|exact⟨g7,l2.trans LN,⟨_,q7.1.choose_spec.lE⟩,q7.2⟩
  ·rw [if_neg hk] at eq;exact absurd eq.symm h
 ·have ei:i=xs.length:=by omega
  rw [YK (by omega)] at eq;unfold forL at eq;by_cases hk:k L3
  ·rw [if_pos hk] at eq
   subst eq;refine wpAny_passesOwn VY (wpAny_mono (T.done rfl rfl l3 I3 (se OE) HK hk ei) (fun r s4 ⟨hr,I4⟩=>?_) fun _ _ z=>z);subst hr;exact wpAny_execs_nil ⟨g3,l2.trans l3,I4⟩
  ·rw [if_neg hk] at eq;exact absurd eq.symm h
end
noncomputable def aU (env:Env):List (Str × NameKind)->List (Str × Ug)->List (Str × Ug)
 | [],cs=>cs
 | (n,k)::r,cs=>if (k == Vi)=true then aU env r ((n,(env.cells.lookup n).getD 0)::cs) else aU env r cs
theorem fv {env:Env}:∀(names:List (Str × NameKind)) (cs:List (Str × Ug)),(∀y∈names,y.2=.free->(env.cells.lookup y.1).isSome=true) ->
  (forIn names cs (fun x (cs:List (Str × Ug))=>(match x with|(name,kind)=>if (kind == Vi)=true then (do let a <- cellOf env name;pure (Wh ((name,a)::cs))) else pure (Wh cs):Sem (ForInStep (List (Str × Ug))))):Sem (List (Str × Ug)))=pure (aU env names cs)
 | [],cs,_=>rfl
 | (n,k)::r,cs,h=>by
  have hr:∀y∈r,y.2=.free->(env.cells.lookup y.1).isSome=true:=fun y hy=>h y (Tp _ hy)
  rw [Wi];by_cases hk:(k == Vi)=true
  ·have e:k=.free:=by simpa using hk
   have hs:=h (n,k) To e;obtain⟨a,ha⟩:=UJ.mp hs;simp only [hk,if_true,aU,cellOf,ha,VM,pure_bind];exact fv r _ hr
  ·simp only [hk,aU,pure_bind,TH,if_false]
   exact fv r _ hr
theorem sf {env:Env} {scope:Scope} (h:∀y∈scope.names,y.2=.free->(env.cells.lookup y.1).isSome=true):closureFor scope env=pure (aU env scope.names []):=by
 have e:=fv (env:=env) scope.names [] h;unfold closureFor;simp only [bind_pure_comp,map_pure] at e ⊢;rw [<- e];simp
theorem jb {env:Env}:∀{names:List (Str × NameKind)} {cs:List (Str × Ug)} {y:Str} {c:Ug},(∀z∈names,z.2=.free->(env.cells.lookup z.1).isSome=true)->(∀y c,cs.lookup y=some c->env.cells.lookup y=some c) ->
  (aU env names cs).lookup y=some c->env.cells.lookup y=some c
 | [],_,_,_,_,hc,h=>hc _ _ h
 | (n,k)::r,cs,y,c,hn,hc,h=>by
  have hr:∀z∈r,z.2=.free->(env.cells.lookup z.1).isSome=true:=fun z hz=>hn z (Tp _ hz)
  unfold aU at h;by_cases hk:(k == Vi)=true
  ·rw [if_pos hk] at h
   have e:k=.free:=by simpa using hk
   obtain⟨a,ha⟩:=UJ.mp (hn (n,k) To e);refine jb hr (fun z d q=>?_) h;rw [T6] at q;cases hz:z == n with
   | true =>
    have ez:z=n:=by simpa using hz
    rw [hz] at q;simp only [ha,VM] at q;have ha':env.cells.lookup n=some a:=ha
    rw [ez,ha'];exact q
   | false =>
    rw [hz] at q;exact hc z d q
  ·rw [if_neg hk] at h
   exact jb hr hc h
theorem jc {env:Env}:∀{names:List (Str × NameKind)} {cs:List (Str × Ug)} {y:Str},((y,Vi)∈names\/(cs.lookup y).isSome=true)->((aU env names cs).lookup y).isSome=true
 | [],_,_,h=>by
  rcases h with h|h
  ·cases h
  ·exact h
 | (n,k)::r,cs,y,h=>by
  unfold aU;have key:∀a:Ug,(cs.lookup y).isSome=true->(Ys y ((n,a)::cs)).isSome=true:=fun a q=>by
   rw [T6];cases y == n with
   | true=>rfl
   | false=>exact q
  by_cases hk:(k == Vi)=true
  ·rw [if_pos hk]
   refine jc ?_;rcases h with h|h
   ·rcases TJ.mp h with e|h
    ·cases e
     refine .inr ?_;rw [T6];simp
    ·exact .inl h
   ·exact .inr (key _ h)
  ·rw [if_neg hk]
   refine jc ?_;rcases h with h|h
   ·rcases TJ.mp h with e|h
    ·cases e
     exact absurd (by simp) hk
    ·exact .inl h
   ·exact .inr h
theorem jd {scope:Scope} {env:Env} {y:Str} {k':NameKind} (h:(relabel scope env).names.lookup y=some k'):∃k,scope.names.lookup y=some k/\(k'=k\/(k=.free/\k'=.cell)):=by
 have go:∀(names:List (Str × NameKind)),(names.map fun(n,k)=>if (k == Vi && env.scope.kind == .function && env.kindOf n == some .cell) then (n,Yt) else (n,k)).lookup y=some k' ->
   ∃k,names.lookup y=some k/\(k'=k\/(k=.free/\k'=.cell)):=by
  intro names;induction names with
  | nil=>intro h;simp at h
  | cons a r ih =>
   obtain⟨n,k⟩:=a;intro h;rw [TC] at h;by_cases hc:(k == Vi && env.scope.kind == .function && env.kindOf n == some .cell)=true
   ·simp only [hc,if_true,T6] at h
    rw [T6];cases hy:y == n with
    | true =>
     rw [hy] at h;have hk:k=.free:=by
      simp only [Tw,beq_iff_eq] at hc;exact hc.1.1
     exact⟨k,rfl,.inr ⟨hk,(Vn h).symm⟩⟩
    | false =>
     rw [hy] at h;exact ih h
   ·simp only [hc,TH,if_false,T6] at h
    rw [T6];cases hy:y == n with
    | true =>
     rw [hy] at h;exact⟨k,rfl,.inl (Vn h).symm⟩
    | false =>
     rw [hy] at h;exact ih h
 exact go scope.names h
theorem je {scope:Scope} {env:Env} {y:Str} (h:scope.names.lookup y=some .free):(relabel scope env).names.lookup y=some .cell\/(relabel scope env).names.lookup y=some .free:=by
 have go:∀(names:List (Str × NameKind)),names.lookup y=some .free->(names.map fun(n,k)=>if (k == Vi && env.scope.kind == .function && env.kindOf n == some .cell) then (n,Yt) else (n,k)).lookup y=some .cell \/
   (names.map fun(n,k)=>if (k == Vi && env.scope.kind == .function && env.kindOf n == some .cell) then (n,Yt) else (n,k)).lookup y=some .free:=by
  intro names;induction names with
  | nil=>intro h;simp at h
  | cons a r ih =>
   obtain⟨n,k⟩:=a;intro h;rw [TC];rw [T6] at h;by_cases hc:(k == Vi && env.scope.kind == .function && env.kindOf n == some .cell)=true
   ·simp only [hc,if_true,T6]
    cases hy:y == n with
    | true=>exact .inl rfl
    | false =>
     rw [hy] at h;exact ih h
   ·simp only [hc,TH,if_false,T6]
    cases hy:y == n with
    | true =>
     rw [hy] at h;have h':k=.free:=Vn h
     exact .inr (by rw [h'])
    | false =>
     rw [hy] at h;exact ih h
 exact go scope.names h
theorem ox {prog:UU} {w:VL} {A:Ux} {R:Result->Tv->Prop} {s:Tv} {elt target iter:Expr} {ifs:List Expr} {scope:Scope} {pos:Pos} {it acc:Ts} {env:Env} (I:Nat->Tv->Prop)
  (turn:∀n s,I n s->TR (model prog w) A (pyNext it) (fun r s₁=>match r with
   | none=>R (.ok .next) s₁
   | some v=>TR (model prog w) A (letOwnedTupleGo target it v) (fun _ OG=>TR (model prog w) A (assign target env v) (fun _ s₂ =>
     TR (model prog w) A (forIn ifs true fun c r=>if r=true then do let ok <- isTrue c env (eval c env);pure (Wh ok) else pure (Wh r)) (fun ok s₃ =>
      if ok=true then TR (model prog w) A (eval elt env) (fun x s₄ =>
       TR (model prog w) A (call (.builtin "list.append") [acc,x]) (fun _ s₅=>∃m,m<n/\I m s₅) (fun _ _=>False) s₄) (fun _ _=>False) s₃
      else ∃m,m<n/\I m s₃) (fun _ _=>False) s₂) (fun _ _=>False) OG) (fun _ _=>False) s₁) (fun _ _=>False) s)
  (n:Nat) (h:I n s):codeAny (model prog w) A (.compLoop (.ListComp elt [⟨target,iter,ifs,0⟩] scope pos) 0 it acc env) R s:=by
 refine codeAny_loop rfl I (fun n s hI=>?_) n h;show TR _ A ((compTurn (.ListComp elt [⟨target,iter,ifs,0⟩] scope pos) 0 it acc env).onRaise (fun x=>do noteFrame x env;theTreesLotGoes x)) _ _ s
 refine wpAny_noted ?_;rw [compTurn_list];refine Ti (wpAny_standAt (Ti (wpAny_mono (turn n s hI) (fun r s₁ h₁=>?_) fun _ _ h'=>h'.elim)));cases r with
 | none=>exact Tn h₁
 | some v =>
  refine Ti (wpAny_mono h₁ (fun _ OG Qi=>?_) fun _ _ h'=>h'.elim);refine Ti (wpAny_mono Qi (fun _ s₂ h₂=>Ti (wpAny_mono h₂ (fun ok s₃ h₃=>?_) fun _ _ h'=>h'.elim)) fun _ _ h'=>h'.elim);cases ok with
  | false=>exact Tn ⟨rfl,h₃⟩
  | true =>
   exact Ti (Ti (wpAny_mono h₃ (fun x s₄ h₄=>Ti (wpAny_mono h₄ (fun _ s₅ h₅=>Tn (Tn ⟨rfl,h₅⟩)) fun _ _ h'=>h'.elim)) fun _ _ h'=>h'.elim))
noncomputable def cV (X:Cx) (scope:Scope) (cl:List (Str × Ug)) (N:List Str) (C:Ug) (s₀:Tv) (H₀:Hp) (ex:List Ug):Cx:={ X with N:=N,s₀:=s₀,H₀:=H₀,env:=compEnvC scope cl C X.env,ex:=ex,fn:=fun _=>false }
structure lF (X:Cx) (scope:Scope) (N:List Str) (aV:List (Option Nat)):Prop where
 kind:scope.kind=.function
 lG:∀y∈scope.names,y.2≠.cell
 locs:∀y∈scope.names,y.2=.local->scope.names.lookup y.1=some .local
 frees:∀y∈scope.names,y.2=.free->(X.env.scope.names.lookup y.1=some .cell\/X.env.scope.names.lookup y.1=some .free)
 Qj:∀(i:Nat) y j,N[i]?=some y->aV[i]?=some (some j)->X.N[j]?=some y/\scope.names.lookup y=some .free
 nd:N.Nodup
 len:N.length=aV.length
section
variable {X:Cx} {pins:aX} {φ:Fr} {g:G} {L:aa} {s:Tv}
theorem Inv.weak {φ':Fr} (I:Inv X pins φ g L s) (hl:φ'.length=φ.length) (w:∀(i:Nat) t,φ'[i]?=some (some t)->φ[i]?=some (some t)):Inv X pins φ' g L s :=
 { I with loc:=let ⟨m,hn,hl'⟩:=I.loc;⟨m,hn,fun i x v e1 e2 e3=>hl' i x v e1 (w i v e2) e3⟩,len:=hl.trans I.len }
theorem Inv.HL {a:Ug} {o:Obj} (I:Inv X pins φ g L s) (f:fG X pins g.H a) (h:s.heap.get? a=some o):Inv X pins φ (g.lay a o) L s:=by
 refine I.step (g1:=s.gens) (t':=s.toks) (d':=s.drawn) (h':=s.heap) (ch:=[a]) (Le.lay f.1) (fun b hb=>?_) (fun b u _ _ e _=>e) (fun b u hb e n=>(az (fun z=>hb (by simp [z]))).trans n) (fun _ m=>m) (fun b c u e=>?_) I.bare (I.rel.le (Le.lay f.1) rfl fun b u e=>az (fun z=>by rw [z,f.1] at e;cases e))
 ·have z:b=a:=by simpa using hb
  subst z;exact⟨f.2.2.1,f.2.1,f.2.2.2⟩
 ·by_cases hb:b=a
  ·subst hb
   have e':some (true,o)=some (c,u):=(aq (H:=g.H)).symm.trans e;cases e';exact h
  ·exact I.hok b c u ((az hb).symm.trans e)
theorem Inv.Ej {a:Ug} {o:Obj} {c:T} (I:Inv X pins φ g L s) (f:fG X pins g.H a) (h:s.heap.get? a=some o) (hc:RT (g.new a o) (some (a,a)) c (.ref a)):Inv X pins φ (g.new a o) (c::L) s:=by
 refine I.step (g1:=s.gens) (t':=s.toks) (d':=s.drawn) (h':=s.heap) (ch:=[a]) (Le.new f.1) (fun b hb=>?_) (fun b u _ _ e _=>e) (fun b u hb e n=>(az (fun z=>hb (by simp [z]))).trans n) (fun _ m=>m) (fun b c u e=>?_) I.bare (I.rel.new f.1 hc)
 ·have z:b=a:=by simpa using hb
  subst z;exact⟨f.2.2.1,f.2.1,f.2.2.2⟩
 ·by_cases hb:b=a
  ·subst hb
   have e':some (false,o)=some (c,u):=(aq (H:=g.H)).symm.trans e;cases e';exact h
  ·exact I.hok b c u ((az hb).symm.trans e)
theorem si {scope:Scope} {N:List Str} {aV:List (Option Nat)} {s3:Tv} {h1:Heap} {ex:List Ug} {m:Str->Option Ts} {tk:Nat} (ok:lF X scope N aV) (I:Inv X pins φ g L s3)
  (hf:∀b∈ex,fG X pins g.H b) (bD:∀b∈ex,b<s3.heap.objs.size) (hn:h1.Ns s3.heap.objs.size m) (keep:∀b o,s3.heap.get? b=some o->h1.get? b=some o) :
  Inv (cV X scope (aU X.env scope.names []) N s3.heap.objs.size s3 g.H ex) [] (inner aV φ) g L { s3 with heap:=h1,toks:=tk }:=by
 have ud:∀z∈scope.names,z.2=.free->(X.env.cells.lookup z.1).isSome=true:=fun z hz xk=>by
  obtain⟨c,e⟩:=I.ok.has z.1 (ok.frees z hz xk);rw [e];rfl
 have sub:∀y c,(aU X.env scope.names []).lookup y=some c->X.env.cells.lookup y=some c:=fun y c h=>jb ud (fun _ _ q=>by simp at q) h
 refine⟨⟨I.ok.mod,ok.kind,I.ok.glob,I.ok.blt,TK _,fun y z c e1 e2=>I.ok.inj y z c (sub _ _ e1) (sub _ _ e2),fun y hy=>?_,fun y c LH _=>absurd LH (by simp [cV]),I.ok.hd,fun b hb=>⟨Ub (bD b hb),fun y c e=>(hf b hb).2.2.2.1 y c (sub _ _ e)⟩,
   I.bs,TU I.ok.Hg I.sz,fun b o e hb=>?_⟩,
  rfl,I.bare,Un.kept keep,⟨m,hn,fun i y v e1 e2 e3=>?_⟩,fun y c e=>?_,I.fresh,fun y c e=>I.p5 y c (sub _ _ e),fun p hp=>(by simp at hp),fun a b o e=>keep a o (I.hok a b o e),by show(inner aV φ).length=N.length;rw [ok.len];simp [inner],I.rel,I.gB,I.gm,I.gw⟩
 ·have hy':(relabel scope X.env).names.lookup y=some .cell\/(relabel scope X.env).names.lookup y=some .free:=hy
  have fr:scope.names.lookup y=some .free:=by
   rcases hy' with q|q
   ·obtain⟨k,e,z⟩:=jd q
    rcases z with z|⟨z,_⟩
    ·exact absurd z.symm (ok.lG _ (Up e))
    ·rw [e,z]
   ·obtain⟨k,e,z⟩:=jd q
    rcases z with z|⟨_,z⟩
    ·rw [e,z]
    ·cases z
  exact UJ.mp (jc (.inl (Up fr)))
 ·rcases(hf b hb).2.2.1 with z|z
  ·exact I.ok.DL b o e z
  ·exact absurd (Uc (T3 e) (TU I.ok.Hg z)) (Vg _)
 ·have e2':(aV.map fun o=>o.bind fun i=>(φ[i]?).join)[i]?=some (some v):=e2
  rw [TX] at e2';cases hj:aV[i]? with
  | none=>rw [hj] at e2';cases e2'
  | some oj =>
   rw [hj] at e2';cases oj with
   | none=>cases e2'
   | some j =>
    obtain⟨eN,hy⟩:=ok.Qj i y j e1 hj;have hσ:φ[j]?=some (some v):=by
     cases q:φ[j]? with
     | none=>simp [q] at e2'
     | some o=>simp [q] at e2';rw [e2']
    have hk:=ok.frees (y,.free) (Up hy) rfl;obtain⟨m',_,hl⟩:=I.loc;obtain⟨u,r,q⟩:=hl j y v eN hσ (.inr hk);refine⟨u,r,.inr ⟨je hy,?_⟩⟩;rcases q with⟨k,_⟩|⟨_,c,e,z⟩
    ·have k':X.env.scope.names.lookup y=some .local:=k
     rw [k'] at hk;rcases hk with hk|hk <;> cases hk
    ·obtain⟨c',e'⟩:=UJ.mp (jc (env:=X.env) (cs:=[]) (.inl (Up hy)))
     have ec:=sub _ _ e';rw [e] at ec;cases ec;obtain⟨o,ho,hd⟩:=z;exact⟨c,e',o,keep c o ho,hd⟩
 ·obtain⟨v,o,ho,hd⟩:=I.cell y c (sub _ _ e)
  exact⟨v,o,keep c o ho,hd⟩
noncomputable def Ek (X:Cx) (ifs:List Expr) (m:ST):Prop:=∀{pins:aX} {φ:Fr} {g:G} {L:aa} {s:Tv} {w:Bool} {L':aa},Inv X pins φ g L s->m φ L=.ok w L' ->
 TR (model X.prog X.w) X.A (forIn ifs true fun c r=>if r=true then do let ok <- isTrue c X.env (eval c X.env);pure (Wh ok) else pure (Wh r)) (TP X pins φ g w L') F0 s
theorem AO:Ek X [] yes:=fun I h=>by cases h;exact wpAny_tests_nil ⟨_,.refl _,I,rfl⟩
theorem AQ {k:Expr} {m:ST} (h:PT X k m):Ek X [k] m:=fun I q=>wpAny_tests_one (h _ (.inl rfl) I q)
noncomputable def Tg.slots:Tg->List Nat
 | .one i=>[i]
 | .many is=>is
theorem jL {ψ:Fr}:∀{is:List Nat} {ts:List T} {ψ':Fr},(∀i∈is,ψ[i]?=some none)->(ψ'.length=ψ.length/\∀(i:Nat) t,ψ[i]?=some (some t)->ψ'[i]?=some (some t))->(M.sets is ts ψ').length=ψ.length/\∀(i:Nat) t,ψ[i]?=some (some t)->(sets is ts ψ')[i]?=some (some t)
 | [],_,_,_,h=>by unfold sets;exact h
 | _::_,[],_,_,h=>by unfold sets;exact h
 | j::is,t0::ts,ψ',hi,h=>by
  unfold sets;refine jL (fun i m=>hi i (Tp _ m)) ⟨by simpa using h.1,fun i t e=>?_⟩;rw [Xp]
  ·exact h.2 i t e
  ·rintro rfl
   rw [hi j To] at e;cases e
theorem AR {ψ ψ1:Fr} {tg:Tg} {t:T} (hi:∀i∈tg.slots,ψ[i]?=some none) (h:tg.set t ψ=some ψ1):ψ.length=ψ1.length/\∀(i:Nat) t,ψ[i]?=some (some t)->ψ1[i]?=some (some t):=by
 cases tg with
 | one j =>
  cases h;have z:=jL (is:=[j]) (ts:=[t]) hi ⟨rfl,fun _ _ e=>e⟩
  exact⟨z.1.symm,z.2⟩
 | many is =>
  cases t with
  | tup ts =>
   have h':(if ts.length=is.length then some (sets is ts ψ) else none)=some ψ1:=h;split at h'
   ·cases h'
    have z:=jL (ts:=ts) hi ⟨rfl,fun _ _ e=>e⟩;exact⟨z.1.symm,z.2⟩
   ·cases h'
  | _=>cases h
theorem nv {tg iter elt:Expr} {ifs:List Expr} {scope:Scope} {N:List Str} {aV:List (Option Nat)} {mi:SI} {t:Tg} {mt:ST} {me:SE} {pos p:Pos} {use:Option (Ts->Sem Unit)} {QQ:Ts->Tv->Prop} {xs:List T} {k:aa->Prop} {L1 L2:aa} {ys:List T}
  (ok:lF X scope N aV) (CL:∀i∈t.slots,aV[i]?=some none) (hi:PI X tg iter mi) (hg:∀cl C s₀ H₀ ex,PG (cV X scope cl N C s₀ H₀ ex) tg t)
  (ht:∀cl C s₀ H₀ ex,Ek (cV X scope cl N C s₀ H₀ ex) ifs mt) (he:∀cl C s₀ H₀ ex,PE (cV X scope cl N C s₀ H₀ ex) elt me) (hs:iO iter=true)
  (I:Inv X pins φ g L s) (h1:mi φ L=.ok (xs,k) L1) (h2:compLoop k t mt me (inner aV φ) xs [] L1=.ok ys L2)
  (fin:∀(D C:Ug) (g':G) (s':Tv) (m:Str->Option Ts) (us:List Ts) (n:Nat),Le g g'->Inv X pins φ g' L2 s'->cu g' ys us->ys.length<=T7->s'.heap.get? D=some { cls:=.type "list",data:=.seq us.toArray n }->fG X pins g'.H D->D≠C->s'.heap.Ns C m->fG X pins g'.H C->compPost (model X.prog X.w) X.A F0 use QQ (.ref D) C (.ok .next) s') :
  TR (model X.prog X.w) X.A (comprehension (.ListComp elt [⟨tg,iter,ifs,0⟩] scope pos) scope X.env p (newList []) false (eval iter X.env) use) QQ F0 s:=by
 have ud:∀z∈scope.names,z.2=.free->(X.env.cells.lookup z.1).isSome=true:=fun z hz xk=>by
  obtain⟨c,e⟩:=I.ok.has z.1 (ok.frees z hz xk);rw [e];rfl
 refine wpAny_comprehension_free (cl:=aU X.env scope.names []) (use:=use) rfl (uc hs) (sf ud) ok.kind ok.locs (thn (hi I h1) fun v s1 h1=>thn h1 fun LJ s2 ⟨it,fp,tn,g2,e,l2,I2,T,b8,f2⟩=>?_);subst e;refine wpAny_newObj_type (wpAny_newFunctionEnv ok.lG (by intro y hy;simp at hy) (fun h₁ El Em=>?_) ok.kind);dsimp only at El Em ⊢;have En:∀b∈fp,b<s2.heap.objs.size:=fun b hb=>by
  obtain⟨o,e,_⟩:=T.obj 0 _ b8 b hb;exact T3 e
 generalize hD:s2.heap.objs.size=D at En ⊢;have fD:fG X pins g2.H D:=I2.rZ (Wj hD) (I2.hok.fresh (Wj hD))
 have hsz:(s2.heap.push { cls:=.type "list",dict:=none,data:=.seq ([]:List Ts).toArray }).objs.size=D+1:=by rw [<- hD];exact UM ..
 have I3:Inv X pins φ g2 L1 { s2 with heap:=s2.heap.push { cls:=.type "list",dict:=none,data:=.seq ([]:List Ts).toArray } }:=I2.kept (t':=s2.toks) fun b u e=>Tj _ e
 have HK:tn 0 (s2.heap.push { cls:=.type "list",dict:=none,data:=.seq ([]:List Ts).toArray }):=T.keep _ _ _ b8 fun b _ o e=>Tj _ e
 have OH:(s2.heap.push { cls:=.type "list",dict:=none,data:=.seq ([]:List Ts).toArray }).get? D=some { cls:=.type "list",data:=.seq ([]:List Ts).toArray }:=by rw [<- hD];exact Tt _ rfl
 generalize SN:s2.heap.push { cls:=.type "list",dict:=none,data:=.seq ([]:List Ts).toArray }=h3 at El Em hsz I3 HK OH ⊢;have fx:∀b∈D::fp,fG X pins g2.H b:=fun b hb=>(TJ.mp hb).elim (fun z=>by rw [z];exact fD) (f2 b)
 have HM:∀b∈D::fp,b<h3.objs.size:=fun b hb=>by
  rw [hsz];rcases TJ.mp hb with z|z
  ·rw [z];exact Vh _
  ·exact UK (En b z)
 have keep:∀b o,h3.get? b=some o->h₁.get? b=some o:=fun b o e=>Em.extBut b o (Ub (T3 e)) (Tj _ e)
 have I4:=si (s3:={ s2 with heap:=h3 }) (ex:=D::fp) (tk:=s2.toks+([]:List (Str × Ts)).length) ok I3 fx HM El keep;have OI:tn 0 h₁:=T.keep _ _ _ HK fun b _ o e=>keep b o e
 generalize Aw:cV X scope (aU X.env scope.names []) N ({ s2 with heap:=h3 }:Tv).heap.objs.size { s2 with heap:=h3 } g2.H (D::fp)=X' at I4;have eA:X'.A=X.A:=by rw [<- Aw] <;> rfl
 have eP:X'.prog=X.prog:=by rw [<- Aw] <;> rfl
 have ew:X'.w=X.w:=by rw [<- Aw] <;> rfl
 have ee:X'.env=compEnvC scope (aU X.env scope.names []) h3.objs.size X.env:=by rw [<- Aw] <;> rfl
 have hG':PG X' tg t:=by rw [<- Aw];exact hg _ _ _ _ _
 have hT':Ek X' ifs mt:=by rw [<- Aw];exact ht _ _ _ _ _
 have hE':PE X' elt me:=by rw [<- Aw];exact he _ _ _ _ _
 have se:∀{H':Hp} {b:Ug},b∈D::fp->H' b=none->fG X' [] H' b:=fun {H' b} hb hn=>by
  refine⟨hn,?_,.inl ?_,fun y c e=>?_,fun p hp=>by simp at hp⟩
  ·rw [ee];exact Ub (HM b hb)
  ·rw [<- Aw];exact hb
  ·have e':(aU X.env scope.names []).lookup y=some c:=by rw [ee] at e;exact e
   exact(fx b hb).2.2.2.1 y c (jb ud (fun _ _ q=>by simp at q) e')
 have HN:D∉fp:=fun z=>Vg _ (En D z)
 have leave:∀{ψ:Fr} {g':G} {s':Tv} {us:List Ts} {n:Nat},Le g2 g'->Inv X' [] ψ g' L2 s'->cu g' ys us->ys.length<=T7->s'.heap.get? D=some { cls:=.type "list",data:=.seq us.toArray n }->g'.H D=none->compPost (model X.prog X.w) X.A F0 use QQ (.ref D) h3.objs.size (.ok .next) s':=fun {ψ g' s' us n} l J r hz hd hn=>by
  have un:Un (D::fp) g2.H g'.H h3 s'.heap:=by have z:=J.base;rw [<- Aw] at z;exact z
  have AS:s'.os=s2.os:=by have z:=J.os;rw [<- Aw] at z;exact z
  have Jx:=Inv.call (s:={ s2 with heap:=h3 }) (s':=s') (ch:=D::fp) I3 l AS un J.hok J.bare J.rel fun b hb=>⟨(fx b hb).2.2.1,(fx b hb).2.1,(fx b hb).2.2.2⟩
  obtain⟨m,vL,_⟩:=J.loc;have hn':s'.heap.Ns h3.objs.size m:=by rw [ee] at vL;exact vL
  have xk:g'.H h3.objs.size=none:=by have z:=J.free;rw [ee] at z;exact z
  exact fin D _ g' s' m us n (l2.trans l) Jx r hz hd ⟨hn,fD.2⟩ (Ub (by rw [hsz];exact Vh _)) hn' (I3.rZ (TK _) xk)
 have loop:∀s₃:Tv,s₃={ s2 with heap:=h₁,toks:=s2.toks+([]:List (Str × Ts)).length } ->
   codeAny (model X.prog X.w) X.A (.compLoop (.ListComp elt [⟨tg,iter,ifs,0⟩] scope pos) 0 (.ref it) (.ref D) (compEnvC scope (aU X.env scope.names []) h3.objs.size X.env)) (compPost (model X.prog X.w) X.A F0 use QQ (.ref D) h3.objs.size) s₃:=by
  rintro s₃ rfl;have HO:∀{ψ:Fr} {g':G} {L':aa} {s':Tv} {o:Obj},Inv X' [] ψ g' L' s'->s'.heap.get? D=some o->g'.H D=none->(∀v,o.data≠.cell v)->Inv X' [(D,o)] ψ g' L' s':=fun {ψ g' L' s' o} J e n d=>J.ic fun p hp=>by
   have z:p=(D,o):=by simpa using hp
   subst z;exact⟨e,n,(se To n).2.1,d⟩
  refine ox (fun n s'=>∃i acc us nn g' L',n=xs.length - i/\i<=xs.length/\Le g2 g'/\Inv X' [(D,{ cls:=.type "list",data:=.seq (us:List Ts).toArray nn })] (inner aV φ) g' L' s'/\tn i s'.heap/\(∀b∈fp,g'.H b=none)/\cu g' acc us/\acc.length<=T7 /\
   compLoop k t mt me (inner aV φ) (xs.drop i) acc L'=.ok ys L2) ?_ xs.length ⟨0,[],[],0,g2,L1,rfl,Uj _,.refl g2,HO I4 (keep D _ OH) fD.1 (fun v z=>nomatch z),OI,fun b hb=>(f2 b hb).1,.nil,Uj _,h2⟩
  intro n s' hj;refine rK fun G n9=>?_
  obtain⟨i,acc,us,nn,g3,L3,en,hi,l3,J,fX,OJ,ra,hz,eq⟩:=hj;refine n9 ?_;clear n9 G;subst en;have LO:∀{H':Hp} {o:Obj},(∀b∈fp,H' b=none)->∀b∈fp,fG X' [(D,o)] H' b:=fun {H' o} hn b hb=>by
   have z:=se (Tp _ hb) (hn b hb);refine⟨z.1,z.2.1,z.2.2.1,z.2.2.2.1,fun p hp e=>?_⟩;have zp:p=(D,o):=by simpa using hp
   subst zp;exact HN (by rw [show D=b from e];exact hb)
  by_cases bD:i<xs.length
  ·rw [Vf bD] at eq
   unfold compLoop at eq;split at eq
   ·rename_i hk
    obtain⟨hk,Qk⟩:=hk;have z:=T.item eP ew (E:=F0) l3 J (LO OJ) fX hk (Ge9 bD)
    rw [eA] at z;refine wpAny_mono z (fun r s4 ⟨u,hr,h4⟩=>?_) fun _ _ z=>z
    subst hr;refine wpAny_mono h4 (fun _ s5 ⟨g5,l5,J5,r5,Ei,LM⟩=>?_) fun _ _ z=>z
    have Ql:=J5.pinned (LO LM) (T.obj _ _ Ei);cases ef:t.set xs[i] (inner aV φ) with
    | none=>rw [ef] at eq;cases eq
    | some ψ1 =>
     simp only [ef] at eq;have wk:=AR (fun i hi=>by show(aV.map _)[i]?=_;rw [TX,CL i hi];rfl) ef
     have zg:=hG' Ql r5 ef;rw [eP,ew,eA,ee] at zg;refine thn zg fun _ s6 J6=>?_
     obtain⟨b,L7,e7,eq⟩:=R.of eq;have zt:=hT' J6 e7
     rw [eP,ew,eA,ee] at zt;refine thn zt fun b' s7 ⟨g7,l7,J7,e⟩=>?_
     subst e;have again:∀{g8:G} {L8:aa} {s8:Tv} {dZ:List M.T} {us':List Ts} {n':Nat},Le g7 g8->Inv X' [] ψ1 g8 L8 s8->(∀b∈fp,∀o,s5.heap.get? b=some o->s8.heap.get? b=some o/\g8.H b=none)->s8.heap.get? D=some { cls:=.type "list",data:=.seq us'.toArray n' }->g8.H D=none->cu g8 dZ us'->dZ.length<=T7 ->
       compLoop k t mt me (inner aV φ) (xs.drop (i+1)) dZ L8=.ok ys L2->∃m,m<xs.length - i/\∃j acc us nn g' L',m=xs.length - j/\j<=xs.length/\Le g2 g'/\Inv X' [(D,{ cls:=.type "list",data:=.seq (us:List Ts).toArray nn })] (inner aV φ) g' L' s8/\tn j s8.heap/\(∀b∈fp,g'.H b=none)/\cu g' acc us/\acc.length<=T7/\compLoop k t mt me (inner aV φ) (xs.drop j) acc L'=.ok ys L2:=fun {g8 L8 s8 dZ us' n'} l8 J8 kf hd hn Qm hz' Qn =>
      ⟨xs.length - (i+1),by omega,i+1,dZ,us',n',g8,L8,rfl,bD,((l3.trans l5).trans l7).trans l8,HO (J8.weak wk.1 wk.2) hd hn (fun v z=>nomatch z),T.keep _ _ _ Ei fun b hb o e=>(kf b hb o e).1,fun b hb=>(let ⟨o,e,_⟩:=T.obj _ _ Ei b hb;(kf b hb o e).2),Qm,hz',Qn⟩
     have pk:∀{g8:G} {L8:aa} {s8:Tv},Inv X' ([(D,{ cls:=.type "list",data:=.seq us.toArray nn })]++fp.filterMap fun b=>(s5.heap.get? b).map fun o=>(b,o)) ψ1 g8 L8 s8->∀b∈fp,∀o,s5.heap.get? b=some o->s8.heap.get? b=some o/\g8.H b=none:=fun J8 b hb o e =>
      let z:=J8.pin (b,o) (TQ _ (iN hb e));⟨z.1,z.2.1⟩
     cases b' with
     | false =>
      obtain⟨d1,d2,_⟩:=J7.pin (D,_) (TF _ To);exact again (.refl g7) (J7.ic fun p hp=>by simp at hp) (pk J7) d1 d2 (ra.le ((l5).trans l7)) hz eq
     | true =>
      obtain⟨y,L8,e8,eq⟩:=R.of eq;have ze:=hE' J7 e8
      rw [eP,ew,eA,ee] at ze;refine thn ze fun yv s8 ⟨g8,l8,J8,r8⟩=>?_
      obtain⟨d1,d2,_⟩:=J8.pin (D,_) (TF _ To);have lu:=TV ra
      refine call_meets Xq ⟨_,d1,rfl⟩ F.entry_list_append (F.args_list_append_2 _ _) (PySem.list_append D us.toArray nn yv (by rw [U8,<- lu];exact hz)) ⟨d1,?_⟩;have q:=Zv d1 (fun x=>x.push yv)
      have ot:∀b,b≠D->(s8.heap.update D (U9 fun x=>x.push yv)).get? b=s8.heap.get? b:=fun b hb=>Uk s8.heap _ (U7 hb)
      have J9:Inv X' [] ψ1 g8 L8 { s8 with heap:=s8.heap.update D (U9 fun x=>x.push yv) }:=(J8.ic (pins':=[]) fun p hp=>by simp at hp).turned (t':=s8.toks) (ch:=[D]) (fun b o hb e=>(ot b (by simpa using hb)).trans e) fun b hb=>by
       have z:b=D:=by simpa using hb
       subst z;exact se To d2
      refine again (us':=us++[yv]) l8 J9 (fun b hb o e=>?_) (by simpa using q) d2 (Paired.snoc (ra.le ((l5.trans l7).trans l8)) r8) (by simp;show acc.length<lim;exact Qk) eq;have z:=pk J8 b hb o e
      exact⟨(ot b fun e=>HN (e ▸ hb)).trans z.1,z.2⟩
   ·cases eq
  ·have ei:i=xs.length:=by omega
   rw [YK (by omega)] at eq;unfold compLoop at eq;split at eq
   ·rename_i hk
    cases eq;have z:=T.done eP ew (E:=F0) l3 J (LO OJ) fX hk ei
    rw [eA] at z;refine wpAny_mono z (fun r s4 ⟨hr,J4⟩=>?_) fun _ _ z=>z
    subst hr;obtain⟨d1,d2,_⟩:=J4.pin (D,_) To;exact leave l3 (J4.ic fun p hp=>by simp at hp) ra hz d1 d2
   ·cases eq
 exact codeAny_compStart_list (loop _ rfl) (T.self _ 0 _ _ _ OI (loop _ rfl))
theorem qb {fz:Bool} {D:Ug} {ys:List T} {us:List Ts} {n:Nat} {w:T} {L':aa} (I:Inv X pins φ g L s) (r:cu g ys us) (hz:ys.length<=T7) (hd:s.heap.get? D=some { cls:=.type "list",data:=.seq us.toArray n }) (f:fG X pins g.H D) (h:mk fz (.lst ys) L=.ok w L'):∃g',Le g g'/\Inv X pins φ g' L' s/\RT g' none w (.ref D)/\∀b,b≠D->g'.H b=g.H b:=by
 unfold mk at h;split at h
 ·cases h
  exact⟨_,Le.lay f.1,I.HL f hd,r.lst (o:=default) (Le.lay f.1) (.inl rfl) (.inl aq) hz,fun b hb=>az hb⟩
 ·cases h
  refine⟨_,Le.new f.1,I.Ej f hd (r.lst (o:=default) (Le.new f.1) (.inr rfl) (.inl aq) hz),?_,fun b hb=>az hb⟩;have:=I.rel.len
  exact .ref (p:=(D,D)) (by show at_ ((_,_)::g.α) _=_;rw [<- this];exact eS)
theorem ue {fz:Bool} {tg iter elt:Expr} {ifs:List Expr} {scope:Scope} {N:List Str} {aV:List (Option Nat)} {mi:SI} {t:Tg} {mt:ST} {me:SE} {pos:Pos}
  (ok:lF X scope N aV) (CL:∀i∈t.slots,aV[i]?=some none) (hi:PI X tg iter mi) (hg:∀cl C s₀ H₀ ex,PG (cV X scope cl N C s₀ H₀ ex) tg t)
  (ht:∀cl C s₀ H₀ ex,Ek (cV X scope cl N C s₀ H₀ ex) ifs mt) (he:∀cl C s₀ H₀ ex,PE (cV X scope cl N C s₀ H₀ ex) elt me) (hs:iO iter=true):PE X (.ListComp elt [⟨tg,iter,ifs,0⟩] scope pos) (comp fz mi aV t mt me):=fun I h=>by
 obtain⟨⟨xs,k⟩,L1,e1,h⟩:=R.of h;obtain⟨ys,L2,e2,h⟩:=R.of h;rw [eval_ListComp];refine nv (use:=none) ok CL hi hg ht he hs I e1 e2 fun D C g' s' m us n l J r hz hd fD hne hn fC=>⟨m,hn,fun h' sb=>?_⟩
 have J':=J.turned (t':=s'.toks) (h':=h') (ch:=[C]) (fun b o hb e=>(sb.2 b (by simpa using hb)).trans e) fun b hb=>by
  have z:b=C:=by simpa using hb
  subst z;exact fC
 obtain⟨g2,l2,J2,r2,_⟩:=qb J' r hz ((sb.2 D hne).trans hd) fD h;exact⟨g2,l.trans l2,J2,r2⟩
theorem AU {i:Nat} {y:Str} {py Eo:Pos} {fz:Bool} {tg iter elt:Expr} {ifs:List Expr} {scope:Scope} {N:List Str} {aV:List (Option Nat)} {mi:SI} {t:Tg} {mt:ST} {me:SE} {pos:Pos} (S:r6 X i y)
  (ok:lF X scope N aV) (CL:∀i∈t.slots,aV[i]?=some none) (hi:PI X tg iter mi) (hg:∀cl C s₀ H₀ ex,PG (cV X scope cl N C s₀ H₀ ex) tg t)
  (ht:∀cl C s₀ H₀ ex,Ek (cV X scope cl N C s₀ H₀ ex) ifs mt) (he:∀cl C s₀ H₀ ex,PE (cV X scope cl N C s₀ H₀ ex) elt me) (hs:iO iter=true) :
  PS X (.Assign [.Name y py] (.ListComp elt [⟨tg,iter,ifs,0⟩] scope pos) Eo) (asg (.one i) (comp fz mi aV t mt me)):=fun {pins φ g L s} I h=>by
 cases hb:(X.env.blockKind == .function && X.env.kindOf y == some .local && py.line == pos.line && !(scope.names.any fun(n,k)=>n == y && (k == .local || k == .cell))) with
 | false =>
  have hsw:swapsWith (.ListComp elt [⟨tg,iter,ifs,0⟩] scope pos) (some (.Name y py)) Eo.line X.env=pure false:=by
   show(pure _:Sem Bool)=pure false;rw [<- hb];rfl
  exact r7 (ue ok CL hi hg ht he hs) (kI S) hsw rfl rfl I h
 | true =>
  have hsw:swapsWith (.ListComp elt [⟨tg,iter,ifs,0⟩] scope pos) (some (.Name y py)) Eo.line X.env=pure true:=by
   show(pure _:Sem Bool)=pure true;rw [<- hb];rfl
  obtain⟨v,L3,e0,e2,h⟩:=gM h;rw [show asg (.one i) (comp fz mi aV t mt me) φ L=.nx (φ.set i (some v)) L3 from e2];obtain⟨⟨xs,k⟩,L1,e1,e0⟩:=R.of e0;obtain⟨ys,L2,e3,e0⟩:=R.of e0;rw [exec_Assign_Name_used _ _ _ _ hsw];refine Ti (wpAny_standAt (Ti ?_));show TR _ X.A (do let _ <- comprehension (.ListComp elt [⟨tg,iter,ifs,0⟩] scope pos) scope X.env _ (newList []) false (eval iter X.env) (some (assign (.Name y py) X.env))) _ _ s
  refine Ti (wpAny_mono (nv (QQ:=fun _ s'=>SP X pins g (.nx (φ.set i (some v)) L3) .next s') (use:=some (assign (.Name y py) X.env)) ok CL hi hg ht he hs I e1 e3 fun D C g' s' m us n l J r hz hd fD hne hn fC=>?_) (fun _ s' hq=>Tn (Tn hq)) fun _ _ e=>e);obtain⟨g2,l2,J2,r2,kp⟩:=qb J r hz hd fD e0;have Qo:fG X pins g2.H C:=⟨(kp C (U7 hne)).trans fC.1,fC.2⟩
  refine wpAny_assign_Name (lD J2 S r2 fun s2 I2 CM=>?_);obtain⟨a,sb,ha⟩:=CM;have LP:C≠a:=by
   rcases ha with rfl|e
   ·exact fC.2.1
   ·exact fun z=>fC.2.2.2.1 y a e z.symm
  exact⟨m,hn.sameBut sb LP,fun SO Qp=>⟨g2,l.trans l2,I2.turned (t':=s2.toks) (ch:=[C]) (fun b o hb e=>(Qp.2 b (by simpa using hb)).trans e) fun b hb=>by
   have z:b=C:=by simpa using hb
   subst z;exact Qo⟩⟩
end
theorem fY {n:Nat}:∀{xs:List T},cT n xs=true↔∀(i:Nat) x,xs[i]?=some x->lt n x=true
 | []=>by simp [cT]
 | x::xs=>by
  rw [cT,Tw,fY];constructor
  ·rintro⟨h1,h2⟩ i y e
   cases i with
   | zero=>simp at e;subst e;exact h1
   | succ i=>exact h2 i y (by simpa using e)
  ·exact fun h=>⟨h 0 x rfl,fun i y e=>h (i+1) y (by simpa using e)⟩
theorem kL {n:Nat}:∀{xs:List (T × T)},Aq n xs=true↔∀(i:Nat) x,xs[i]?=some x->lt n x.1=true/\lt n x.2=true
 | []=>by simp [Aq]
 | (a,b)::xs=>by
  rw [Aq,Tw,Tw,kL];constructor
  ·rintro⟨h1,h2⟩ i y e
   cases i with
   | zero=>simp at e;subst e;exact h1
   | succ i=>exact h2 i y (by simpa using e)
  ·exact fun h=>⟨h 0 _ rfl,fun i y e=>h (i+1) y (by simpa using e)⟩
theorem xl {n:Nat}:∀{xs:List (Str × T)},mX n xs=true->∀f x,xs.lookup f=some x->lt n x=true
 | [],_,f,x,e=>by simp at e
 | (a,b)::xs,h,f,x,e=>by
  rw [mX,Tw] at h;rw [T6] at e;split at e
  ·cases e;exact h.1
  ·exact xl h.2 f x e
theorem RT.re {g' cS:G} {n0:Nat} (hr:∀n p,n<n0->at_ g'.α n=some p->at_ cS.α n=some p) (mY:∀a o,g'.kn true a o->cS.kn true a o) (hm:cS.cls=g'.cls) (hw:cS.w=g'.w) {p:Option (Ug × Ug)} {t:T} {v:Ts} (h:RT g' p t v) :
  ∀{q:Option (Ug × Ug)},lt n0 t=true->(p=none->q=none)->(∀a d b o,rW p a d->(b=a\/b=d)->g'.kn p.isNone b o->rW q a d/\cS.kn q.isNone b o)->RT cS q t v:=by
 have k0:∀a d b o,rW none a d->(b=a\/b=d)->g'.kn (none:Option (Ug × Ug)).isNone b o->rW none a d/\cS.kn (none:Option (Ug × Ug)).isNone b o:=fun a d b o _ _ k=>⟨.inl rfl,mY b o k⟩
 induction h with
 | cb=>intro q _ hp _;rw [hp rfl];exact .cb
 | bl b=>intro q _ hp _;rw [hp rfl];exact .bl b
 | int i t=>intro q _ hp _;rw [hp rfl];exact .int i t
 | str s t h=>intro q _ hp _;rw [hp rfl];exact .str s t h
 | ty n=>intro q _ hp _;rw [hp rfl];exact .ty n
 | own h=>intro q _ hp _;rw [hp rfl];exact .own (by rw [hm];exact h)
 | ref h=>intro q hl hp _;rw [hp rfl];exact .ref (hr _ _ (by rw [lt] at hl;exact of_decide_eq_true hl) h)
 | tup hk hc hd hz hl hi ih =>
  intro q bD hp hk';rw [hp rfl];rw [lt] at bD;exact .tup (mY _ _ hk) hc hd hz hl fun i x v e1 e2=>ih i x v e1 e2 (fY.mp bD i x e1) (fun _=>rfl) k0
 | lst ht hk hz hl hi ih =>
  intro q bD hp hk';have z:=hk' _ _ _ _ ht (.inl rfl) hk
  rw [lt] at bD;exact .lst z.1 z.2 hz hl fun i x v e1 e2=>ih i x v e1 e2 (fY.mp bD i x e1) (fun _=>rfl) k0
 | aP ht hk hx hd hz hl hn hs hh h1 h2 i1 i2 =>
  intro q bD hp hk';have z:=hk' _ _ _ _ ht (.inl rfl) hk
  rw [lt] at bD;exact .aP z.1 z.2 hx hd hz hl hn hs (by rw [hw];exact hh) (fun i x v e1 e2=>i1 i x v e1 e2 (kL.mp bD i x e1).1 (fun _=>rfl) k0) fun i x v e1 e2=>i2 i x v e1 e2 (kL.mp bD i x e1).2 (fun _=>rfl) k0
 | obj ht hne hc hk pV hd hs hu hz hn hl hi ih =>
  intro q bD hp hk';have z:=hk' _ _ _ _ ht (.inl rfl) hk
  have z2:=hk' _ _ _ _ ht (.inr rfl) pV;rw [lt] at bD;exact .obj z.1 hne (by rw [hm];exact hc) z.2 z2.2 hd hs hu hz hn hl fun f x v e1 e2=>ih f x v e1 e2 (xl bD f x e1) (fun _=>rfl) k0
theorem uf {n:Nat}:∀{xs:List (Str × T)},(∀p∈xs,lt n p.2=true)->mX n xs=true
 | [],_=>rfl
 | (a,b)::xs,h=>by
  rw [mX,h _ To,uf fun p hp=>h p (Tp _ hp)];rfl
theorem ie {α β:Type} {f:α->Option β}:∀{xs:List α} {ys:List β},xs.mapM f=some ys->xs.length=ys.length/\∀(i:Nat) y,ys[i]?=some y->∃x,xs[i]?=some x/\f x=some y
 | [],ys,h=>by simp at h;subst h;exact⟨rfl,fun i y e=>by simp at e⟩
 | x::xs,ys,h=>by
  rw [VF] at h;cases e1:f x with
  | none=>rw [e1] at h;cases h
  | some y =>
   cases e2:xs.mapM f with
   | none=>rw [e1,e2] at h;cases h
   | some zs =>
    rw [e1,e2] at h;cases h;obtain⟨l,a⟩:=ie e2;refine⟨by simp [l],fun i z e=>?_⟩;cases i with
    | zero=>simp at e;subst e;exact⟨x,rfl,e1⟩
    | succ i=>exact a i z (by simpa using e)
theorem fZ {g' cS:G} {n0:Nat} {L':aa} (hr:∀n p,n<n0->at_ g'.α n=some p->at_ cS.α n=some p) (mY:∀a o,g'.kn true a o->cS.kn true a o) (hc:∀n c,n0<=n->at_ L' n=some c->(∀k,bU n0 L' k c=none)\/∃p,at_ g'.α n=some p/\RT g' (some p) c (.ref p.1)/\∀b o,(b=p.1\/b=p.2)->g'.kn false b o->cS.kn true b o) (hm:cS.cls=g'.cls) (hw:cS.w=g'.w) :
  ∀(k:Nat) {p:Option (Ug × Ug)} {t t':T} {v:Ts},RT g' p t v->(∀q,p=some q->∀b o,(b=q.1\/b=q.2)->g'.kn false b o->cS.kn true b o)->bU n0 L' k t=some t'->RT cS none t' v
 | 0,_,_,_,_,_,_,e=>by cases e
 | k+1,p,t,t',v,h,hp,e=>by
  have kn:∀a d b o,rW p a d->(b=a\/b=d)->g'.kn p.isNone b o->rW none a d/\cS.kn (none:Option (Ug × Ug)).isNone b o:=fun a d b o ht hb hk=>by
   refine⟨.inl rfl,?_⟩;rcases ht with rfl|rfl
   ·exact mY b o hk
   ·exact hp _ rfl b o hb hk
  unfold bU at e;split at e
  ·rename_i hl
   cases e;exact h.re hr mY hm hw hl (fun _=>rfl) kn
  ·rename_i bD
   have K1:∀q:Ug × Ug,(none:Option (Ug × Ug))=some q->∀b o,(b=q.1\/b=q.2)->g'.kn false b o->cS.kn true b o:=fun q z=>by cases z
   cases h with
   | cb=>cases e
   | bl b=>cases e
   | int i t=>cases e
   | str s t h=>cases e
   | ty n=>cases e
   | own h=>cases e
   | ref h =>
    rename_i n p;have hn:n0<=n:=Nat.le_of_not_lt fun z=>bD (by rw [lt];exact decide_eq_true z)
    cases ec:at_ L' n with
    | none=>simp only [ec] at e;cases e
    | some c =>
     simp only [ec] at e;rcases hc n c hn ec with z|⟨q,h1,h2,h3⟩
     ·rw [z] at e;cases e
     ·rw [h] at h1;cases h1
      exact fZ hr mY hc hm hw k h2 (fun q z=>by cases z;exact h3) e
   | tup hk Hj hd hz hl hi =>
    obtain⟨ys,e1,rfl⟩:=TG.mp e;obtain⟨len,at'⟩:=ie e1;exact .tup (mY _ _ hk) Hj hd (by rw [<- len];exact hz) (by rw [<- len];exact hl) fun i y v q1 q2=>let ⟨x,x1,x2⟩:=at' i y q1;fZ hr mY hc hm hw k (hi i x v x1 q2) K1 x2
   | lst ht hk hz hl hi =>
    obtain⟨ys,e1,rfl⟩:=TG.mp e;obtain⟨len,at'⟩:=ie e1;have z:=kn _ _ _ _ ht (.inl rfl) hk
    exact .lst z.1 z.2 (by rw [<- len];exact hz) (by rw [<- len];exact hl) fun i y v q1 q2=>let ⟨x,x1,x2⟩:=at' i y q1;fZ hr mY hc hm hw k (hi i x v x1 q2) K1 x2
   | aP ht hk hx hd hz hl hn hs hh h1 h2 =>
    rename_i a o es nn ks;obtain⟨ys,e1,rfl⟩:=TG.mp e;obtain⟨len,at'⟩:=ie e1;have z:=kn _ _ _ _ ht (.inl rfl) hk
    have at2:∀(i:Nat) y,ys[i]?=some y->∃x,ks[i]?=some x/\lt n0 x.1=true/\x.1=y.1/\bU n0 L' k x.2=some y.2:=fun i y q=>by
     obtain⟨x,x1,x2⟩:=at' i y q;split at x2
     ·rename_i Qq
      obtain⟨z,z1,rfl⟩:=TG.mp x2;exact⟨x,x1,Qq,rfl,z1⟩
     ·cases x2
    refine .aP z.1 z.2 hx hd (by rw [<- len];exact hz) (by rw [<- len];exact hl) ?_ hs (fun i y v q1 q2=>?_) (fun i y v q1 q2=>?_) fun i y v q1 q2=>?_
    ·have:ys.map (·.1)=ks.map (·.1):=X7 fun i=>by
      rw [TX,TX];cases q:ys[i]? with
      | none=>rw [Vv (by rw [len];exact X0.mp q)]
      | some y=>obtain⟨x,x1,_,x3,_⟩:=at2 i y q;rw [x1];show some y.1=some x.1;rw [x3]
     rw [this];exact hn
    ·obtain⟨x,x1,_,x3,_⟩:=at2 i y q1;rw [hw,<- x3];exact hh i x v x1 q2
    ·obtain⟨x,x1,x2,x3,_⟩:=at2 i y q1
     rw [<- x3];exact(h1 i x v x1 q2).re hr mY hm hw x2 (fun _=>rfl) fun a d b o _ _ k=>⟨.inl rfl,mY b o k⟩
    ·obtain⟨x,x1,_,_,x4⟩:=at2 i y q1;exact fZ hr mY hc hm hw k (h2 i x v x1 q2) K1 x4
   | obj ht hne Hj hk pV hd hs hu hz hn hl hi =>
    rename_i a d C od es nn cn fs;obtain⟨ys,e1,rfl⟩:=TG.mp e;obtain⟨len,at'⟩:=ie e1;have z:=kn _ _ _ _ ht (.inl rfl) hk
    have z2:=kn _ _ _ _ ht (.inr rfl) pV;have lk:∀(fs ys:List (Str × T)),fs.length=ys.length->(∀(i:Nat) y,ys[i]?=some y->∃x,fs[i]?=some x/\x.1=y.1/\bU n0 L' k x.2=some y.2)->∀f,(∀y,ys.lookup f=some y->∃x,fs.lookup f=some x/\bU n0 L' k x=some y)/\(ys.lookup f).isSome=(fs.lookup f).isSome:=fun fs=>by
     induction fs with
     | nil=>intro ys hl _ f;cases ys with
      | nil=>exact⟨fun y e=>by simp at e,rfl⟩
      | cons _ _=>simp at hl
     | cons x fs ih =>
      intro ys hl h f;cases ys with
      | nil=>simp at hl
      | cons y ys =>
       obtain⟨x',q1,q2,q3⟩:=h 0 y rfl;simp at q1;subst q1;have r:=ih ys (by simpa using hl) (fun i y e=>by simpa using h (i+1) y (by simpa using e)) f
       obtain⟨xa,xb⟩:=x;obtain⟨ya,yb⟩:=y;have q2:xa=ya:=q2
       subst q2;rw [T6,T6];cases f == xa with
       | true=>exact⟨fun y e=>⟨xb,rfl,by cases e;exact q3⟩,rfl⟩
       | false=>exact r
    have at2:=lk _ ys len fun i y q=>by
     obtain⟨x,x1,x2⟩:=at' i y q;obtain⟨z,z1,rfl⟩:=TG.mp x2;exact⟨x,x1,rfl,z1⟩
    have names:ys.map (·.1)=fs.map (·.1):=X7 fun i=>by
     rw [TX,TX];cases q:ys[i]? with
     | none=>rw [Vv (by rw [len];exact X0.mp q)]
     | some y =>
      obtain⟨x,x1,x2⟩:=at' i y q;obtain⟨z,z1,rfl⟩:=TG.mp x2;rw [x1];rfl
    exact .obj z.1 hne (by rw [hm];exact Hj) z.2 z2.2 hd hs hu (by rw [<- len];exact hz) (by rw [names];exact hn) (fun f=>by rw [(at2 f).2];exact hl f) fun f y v q1 q2=>let ⟨x,x1,x2⟩:=(at2 f).1 y q1;fZ hr mY hc hm hw k (hi f x v x1 q2) K1 x2
theorem Ep {g' cS:G} {n0:Nat} {L':aa} (hr:∀n p,n<n0->at_ g'.α n=some p->at_ cS.α n=some p) (mY:∀a o,g'.kn true a o->cS.kn true a o) (sd:∀n p b o,n0<=n->at_ g'.α n=some p->(b=p.1\/b=p.2)->g'.kn false b o->cS.kn true b o) (hm:cS.cls=g'.cls) (hw:cS.w=g'.w) (r:Rel g' L') (k:Nat) {t t':T} {v:Ts} (h:RT g' none t v) (e:bU n0 L' k t=some t'):RT cS none t' v :=
 fZ hr mY (fun n c hn q=>let ⟨p,h1,h2⟩:=r.cells n c q;.inr ⟨p,h1,h2,fun b o hb=>sd n p b o hn h1 hb⟩) hm hw k h (fun q z=>by cases z) e
theorem jf {α:Type} {n0 n:Nat}:∀{L:List α},n<n0->n0<=L.length->at_ (L.drop (L.length - n0)) n=at_ L n
 | [],h1,h2=>by simp at h2;omega
 | c::L,h1,h2=>by
  by_cases e:n0=(c::L).length
  ·rw [<- e,Zs,Y8]
  ·have h3:n0<=L.length:=by simp at h2 e;omega
   have e2:(c::L).length - n0=(L.length - n0)+1:=by simp;omega
   rw [e2,List.drop_succ_cons,jf h1 h3];have z:¬ n=L.length:=by omega
   conv=>rhs;unfold at_;rw [if_neg z]
theorem xm {α:Type}:∀{fs:List (Str × α)} {p:Str × α},(fs.map (·.1)).Nodup->p∈fs->fs.lookup p.1=some p.2
 | (a,b)::fs,p,hn,hp=>by
  rw [T6];rw [TC,Uu] at hn;rcases TJ.mp hp with rfl|hp
  ·simp
  ·have:(p.1 == a)=false:=by
    cases e:p.1 == a with
    | false=>rfl
    | true=>exact absurd (Tz.mpr ⟨p,hp,by simpa using e⟩) hn.1
   rw [this];exact xm hn.2 hp
theorem RT.lt {g:G} {p:Option (Ug × Ug)} {t:T} {v:Ts} (h:RT g p t v):M.lt g.α.length t=true:=by
 induction h with
 | ref h=>rw [M.lt];exact decide_eq_true (fb h)
 | tup hk hc hd hz hl hi ih =>
  rw [M.lt,fY];intro i x e;have:=(TM.mp e).1
  exact ih i x _ e (by rw [Tx (by omega)])
 | lst ht hk hz hl hi ih =>
  rw [M.lt,fY];intro i x e;have:=(TM.mp e).1
  exact ih i x _ e (by rw [Tx (by omega)])
 | aP ht hk hx hd hz hl hn hs hh h1 h2 i1 i2 =>
  rw [M.lt,kL];intro i x e;have:=(TM.mp e).1
  exact⟨i1 i x _ e (by rw [Tx (by omega)]),i2 i x _ e (by rw [Tx (by omega)])⟩
 | obj ht hne hc hk pV hd hs hu hz hn hl hi ih =>
  rw [M.lt];refine uf fun q hq=>?_
  have e:=xm hn hq;obtain⟨v,ev⟩:=UJ.mp ((hl q.1).symm.trans (by rw [e];rfl));exact ih q.1 q.2 v e ev
 | _=>rfl
theorem Er {g g':G} {L L' Lo:aa} {t t':T} {u:Ts} (l:Le g g') (r0:Rel g L) (r:Rel g' L') (h:RT g' none t u) (e:fin L t L'=.ok t' Lo) :
  ∃cS,Le g cS/\Rel cS Lo/\RT cS none t' u/\(∀a b o,cS.H a=some (b,o)->∃b',g'.H a=some (b',o))/\(∀a,g'.H a=none->cS.H a=none)/\∀a o,g'.H a=some (true,o)->cS.H a=some (true,o):=by
 classical
 unfold fin at e;split at e
 ·rename_i ho
  have n0:L.length<=L'.length:=by
   cases hn:L.length with
   | zero=>exact Uj _
   | succ m =>
    obtain⟨p,hp⟩:=ow (L:=g.α) (n:=m) (by rw [r0.len];omega);have:=fb (l.α _ _ hp)
    rw [r.len] at this;omega
  cases ef:bU L.length L' 9 t with
  | none=>rw [ef] at e;cases e
  | some t1 =>
   rw [ef] at e;cases e
   let nw:Ug->Prop:=fun a=>∃n p,L.length<=n/\at_ g'.α n=some p/\(a=p.1\/a=p.2)
   let cS:G:={ g' with H:=fun a=>if nw a then (g'.H a).map fun q=>(true,q.2) else g'.H a,α:=g'.α.drop (g'.α.length - L.length) }
   have hH:∀a,cS.H a=if nw a then (g'.H a).map fun q=>(true,q.2) else g'.H a:=fun _=>rfl
   have hα:∀n,n<L.length->at_ cS.α n=at_ g'.α n:=fun n hn=>jf hn (by rw [r.len];exact n0)
   have bU:∀a o,g'.H a=some (true,o)->cS.H a=some (true,o):=fun a o q=>by
    rw [hH];split
    ·rw [q];rfl
    ·exact q
   have mY:∀a o,g'.kn true a o->cS.kn true a o:=fun a o q=>q.elim (fun q=>.inl (bU a o q)) .inr
   have sd:∀n p b o,L.length<=n->at_ g'.α n=some p->(b=p.1\/b=p.2)->g'.kn false b o->cS.kn true b o:=fun n p b o hn hp hb q=>by
    rcases q with q|⟨z,_⟩
    ·refine .inl ?_
     rw [hH,if_pos ⟨n,p,hn,hp,hb⟩,q];rfl
    ·cases z
   have hr:∀n p,n<L.length->at_ g'.α n=some p->at_ cS.α n=some p:=fun n p hn hp=>(hα n hn).trans hp
   have xn:∀n p,n<L.length->at_ g'.α n=some p->¬ nw p.1/\¬ nw p.2:=fun n p hn hp=>by
    refine⟨?_,?_⟩ <;>
    ·rintro⟨m,q,hm,hq,hb⟩
     have ap:=r.apart n m p q hp hq (by omega);rcases hb with hb|hb
     ·first|exact ap.1 hb|exact ap.2.2.1 hb
     ·first|exact ap.2.1 hb|exact ap.2.2.2 hb
   refine⟨cS,⟨fun a o q=>bU a o (l.f a o q),fun n p q=>hr n p (by rw [<- r0.len];exact fb q) (l.α n p q),l.B,l.m,l.w⟩,⟨?_,fun n c q=>?_,fun n m p q h1 h2=>?_,fun n p q=>?_⟩,Ep hr mY sd rfl rfl r 9 h ef,fun a b o q=>?_,fun a q=>?_,bU⟩
   ·show(g'.α.drop _).length=_
    rw [Uo,Uo,r.len]
   ·have hn:n<L.length:=by have:=fb q;rw [Uo] at this;omega
    have q':at_ L' n=some c:=(jf hn n0).symm.trans q
    obtain⟨p,h1,h2⟩:=r.cells n c q';have bD:M.lt L.length c=true:=by
     rcases ho n c q with z|z
     ·obtain⟨p0,_,z2⟩:=r0.cells n c z
      rw [<- r0.len];exact z2.lt
     ·exact z
    refine⟨p,hr n p hn h1,h2.re hr mY rfl rfl bD (fun z=>by cases z) fun a d b o ht hb hk=>⟨ht,?_⟩⟩;have no:=xn n p hn h1
    rcases ht with z|z
    ·cases z
    ·cases z
     rcases hk with hk|⟨z,_⟩
     ·refine .inl ?_
      rw [hH,if_neg (by rcases hb with hb|hb <;> rw [hb];exact no.1;exact no.2)];exact hk
     ·cases z
   ·have hn:n<L.length:=by have:=fb h1;rw [Uo,r.len] at this;omega
    have hm:m<L.length:=by have:=fb h2;rw [Uo,r.len] at this;omega
    exact r.apart n m p q ((hα n hn).symm.trans h1) ((hα m hm).symm.trans h2)
   ·have hn:n<L.length:=by have:=fb q;rw [Uo,r.len] at this;omega
    have q':=(hα n hn).symm.trans q;obtain⟨⟨o1,h1⟩,o2,h2⟩:=r.live n p q';have no:=xn n p hn q'
    exact⟨⟨o1,by rw [hH,if_neg no.1];exact h1⟩,o2,by rw [hH,if_neg no.2];exact h2⟩
   ·rw [hH] at q
    split at q
    ·obtain⟨z,z1,z2⟩:=TG.mp q
     cases z2;exact⟨z.1,z1⟩
    ·exact⟨b,q⟩
   ·rw [hH,q];split <;> rfl
 ·cases e
structure eX (k:Nat) (A:Ux):Prop where
 hd:A.handled=none
 dp:A.depth+3 * k+5<recursionLimit
 un:A.units+16 * k+200<cLine
theorem eX.mono {j k:Nat} {A:Ux} (r:eX k A) (h:j<=k):eX j A:=⟨r.hd,by have:=r.dp;omega,by have:=r.un;omega⟩
theorem eX.deeper {k:Nat} {A:Ux} (r:eX (k+1) A) (env:Env):eX k (A.deeper env) :=
 ⟨r.hd,by have:=r.dp;show A.depth+1+3 * k+5<_;omega,by have:=r.un;show A.units+3+16 * k+200<_;omega⟩
theorem sj {A:Ux} {C:Ug} {us:List Ts} {kw:List (Str × Ts)}:(A.under (.builtin "type.__call__" ⟨.ref C::us,kw⟩)).depth=A.depth+1:=by
 first|rfl|simp [Around.under,Code.weight,Code.isCreation,Code.isGuard,Code.isCaller,Code.frames,Code.isFrame,guardIds]
theorem sk {A:Ux} {C:Ug} {us:List Ts} {kw:List (Str × Ts)}:(A.under (.builtin "type.__call__" ⟨.ref C::us,kw⟩)).units=A.units+1:=by
 first|rfl|simp [Around.under,Code.cUnits,Code.frames,Code.isFrame]
theorem eX.make {k:Nat} {A:Ux} (r:eX (k+1) A) (C:Ug) (us:List Ts) (kw:List (Str × Ts)):eX k (A.under (.builtin "type.__call__" ⟨.ref C::us,kw⟩)) :=
 ⟨r.hd,by have:=r.dp;rw [sj];omega,by have:=r.un;rw [sk];omega⟩
theorem eX.depth {k:Nat} {A:Ux} (r:eX k A):A.depth<recursionLimit:=by have:=r.dp;omega
theorem eX.units {k:Nat} {A:Ux} (r:eX k A):A.units+64<cLine:=by have:=r.un;omega
structure so (h:Heap) (x dx C:Ug) (mA:Str->Option Ts):Prop where
 obj:h.get? x=some (UI C dx)
 ns:h.Ns1 dx mA
 ne:dx≠x
theorem vM {h:Heap} {dx:Ug} {mA:Str->Option Ts} (n:h.Ns1 dx mA):∃od,h.get? dx=some od/\∀name,X1 name od=some (mA name):=by
 obtain⟨o,es,ep,ho,hd,hk,_,hm⟩:=n;refine⟨o,ho,fun name=>?_⟩;have e:=hm name
 unfold nsFind findBy at e;rw [<- Array.find?_toList] at e;unfold X1;rw [hd];dsimp only;split
 ·rename_i y q
  rw [q] at e;exact congrArg some e
 ·rename_i q
  rw [q] at e;have a:es.toList.any (·.refKey)=false:=by
   rw [X8];intro y hy;obtain⟨z,t,hkey⟩:=hk y (WC.mp hy);simp [DictEntry.refKey,hkey]
  have a':¬ es.toList.any (·.refKey)=true:=by rw [a];exact VR
  rw [if_neg a'];exact congrArg some e
theorem so.look {h:Heap} {x dx C:Ug} {mA:Str->Option Ts} (I:so h x dx C mA):∃od,PySem.W.InstAt h x (UI C dx) C (some od)/\∀name,X1 name od=some (mA name) :=
 let ⟨od,ho,hl⟩:=vM I.ns
 ⟨od,⟨I.obj,rfl,rfl,ho⟩,hl⟩
section
variable {prog:UU} {w:VL} {A:Ux} {E:Ts->Tv->Prop} {s:Tv} {K:Ua} {x dx C f:Ug} {mA:Str->Option Ts} {name:Str} {v:Ts}
theorem get_map {expr:Bool} {Q:Ts->Tv->Prop} (X:K.In s.heap) (I:so s.heap x dx C mA) (hg:WM K C name=true) (hh:Xa K C=true)
  (ha:UN K (.ref C) name=some none) (hv:mA name=some v) (hv':Zw v=true) (h:Q v { s with toks:=s.toks+1 }) :
  TR (model prog w) A (getAttr (.ref x) name expr) Q E s:=by
 obtain⟨od,J,hl⟩:=I.look;exact PySem.W.get_value X J (Xy hg).1 (PySem.W.findObj_own hh ha rfl (by rw [hl,hv])) hv' h
theorem xo {pl:Sem Bool} {Q:Ts × List Ts->Tv->Prop} (X:K.In s.heap) (I:so s.heap x dx C mA) (hg:WM K C name=true)
  (hf:UN K (.ref C) name=some (some (.ref f))) (ht:WS K (.ref f)=true) (hv:mA name=none) (h:Q (.ref f,[.ref x]) s) :
  TR (model prog w) A (getMethod (.ref x) name pl) Q E s:=by
 obtain⟨od,J,hl⟩:=I.look;exact PySem.W.method_fn X J (Xy hg).1 (Xy hg).2 hf (beq_iff_eq.mp ht) (by show(X1 name od).map (·.isSome)=some false;rw [hl,hv];rfl) h
theorem AV {ns:List Str} {Q:Unit->Tv->Prop} (X:K.In s.heap) (I:so s.heap x dx C mA)
  (hs:UN K (.ref C) "__setattr__"=some (some (.builtin "object.__setattr__"))) (hp:X9 K C=true) (ht:YX K C name=some none) (hh:Xa K C=true)
  (hw:PySem.Within mA ns) (hsz:ns.length<=T7)
  (h:∀h',so h' x dx C (fun y=>if y=name then some v else mA y)->Vl dx s.heap h'->Q () { s with heap:=h',toks:=s.toks+2 }) :
  TR (model prog w) A (setAttr (.ref x) name v) Q E s:=by
 obtain⟨od,J,hl⟩:=I.look;refine PySem.W.set_plain X J hs (PySem.W.osa_open (s:={ s with toks:=s.toks+1 }) (r:=none) X J hp ht fun b=>?_);obtain⟨cd,hc,hd'⟩:=PySem.W.any_some hh;have hx:s.heap.get? x=some ⟨.ref C,some dx,.plain,#[]⟩:=I.obj
 refine Ti (Tn (Ti (Ti (wpAny_loadPart hx (Ti (PySem.W.Looks.here (s:={ s with toks:=s.toks+1 }) (PySem.W.looks_clsIn X hc) ?_))))));rw [hd'];refine Tn (a:=some dx) (Ti (Tn (Ti ?_)));refine wpAny_nsSet1 (s:={ s with toks:=s.toks+1 }) I.ns fun h' vL rL=>?_
 obtain⟨oD,SQ,SR,Qr,Qs,Qt⟩:=vL.count (PySem.Within.cons name v hw);refine Ti (wpAny_lookBehind Qr (by rw [Qs];exact pastItsLine_dict (TU Qt (by rw [Tu];omega))) ?_);exact Tn (h _ ⟨(rL.2 _ (U7 I.ne)).trans I.obj,vL,I.ne⟩ rL)
theorem xp {R:Result->Tv->Prop} {vs:List Ts} {kw:List (Str × Ts)} (X:K.In s.heap) (hm:Xz K C=true)
  (hi:UN K (.ref C) "__init__"=some (some (.ref f))) (hf:PySem.W.typeIn K (.ref f)=some (.type "function"))
  (h:codeAny (model prog w) (A.under (.builtin "type.__call__" ⟨.ref C::vs,kw⟩)) (.call (.ref f) ⟨.ref (s.heap.objs.size+1)::vs,kw⟩) (PySem.W.InitBack (s.heap.objs.size+1) R)
   { s with heap:=(s.heap.push UL).push (UI C s.heap.objs.size) }) :
  codeAny (model prog w) A (.call (.ref C) ⟨vs,kw⟩) R s:=by
 obtain⟨hh,g,d,t,os⟩:=s;exact PySem.W.make_core (PySem.W.makes_of X hm) (PySem.W.looks_findIn X hi) (fun self=>PySem.W.bind_fn X self hf) (.inl rfl) h
end
structure AW (K:Ua) (C:Ug):Prop where
 pg:WM K C Str.empty=true
 hd:Xa K C=true
 po:X9 K C=true
 sa:UN K (.ref C) "__setattr__"=some (some (.builtin "object.__setattr__"))
theorem AW.get {K:Ua} {C:Ug} (c:AW K C) (f:Str):WM K C f=true:=c.pg
noncomputable def iP (K:Ua) (C:Ug) (f:Str):Prop:=UN K (.ref C) f=some none
theorem iP.HP {K:Ua} {C:Ug} {f:Str} (n:iP K C f):YX K C f=some none:=by
 unfold YX;rw [show UN K (.ref C) f=some none from n];rfl
structure Meth (K:Ua) (C:Ug) (m:Str) (f:Ug):Prop where
 at_:UN K (.ref C) m=some (some (.ref f))
 fn:WS K (.ref f)=true
 kp:UW K (.ref f)=true
section
variable {A:Ux} {E:Ts->Tv->Prop}
theorem attr_of {prog:UU} {w:VL} {env:Env} {e:Expr} {f:Str} {pos:Pos} {s:Tv} {Q:Ts->Tv->Prop} (hb:attributeBase e f env (eval e env)=eval e env)
  (h:TR (model prog w) A (eval e env) (fun o s₁=>TR (model prog w) A (getAttr o f true) Q E s₁) E s):TR (model prog w) A (eval (.Attribute e f pos) env) Q E s :=
 Attribute_any_ h (by rw [arm_eval_Attribute,hb])
end
theorem ny {kindOf:Str->Option NameKind} {x:Str}:∀{binds:List (Str × Ts)} {m:Str->Option Ts},(∀v,(x,v)∉binds)->bindL kindOf binds m x=m x
 | [],_,_=>rfl
 | (n,v)::r,m,h=>by
  unfold bindL;rw [ny fun w hw=>h w (Tp _ hw)];split
  ·have:x≠n:=by rintro rfl;exact h v To
   simp [this]
  ·rfl
theorem nz {kindOf:Str->Option NameKind} {x:Str}:∀{binds:List (Str × Ts)} {m:Str->Option Ts},(∀v,(x,v)∉binds)->bindC kindOf binds m x=m x
 | [],_,_=>rfl
 | (n,v)::r,m,h=>by
  unfold bindC;rw [nz fun w hw=>h w (Tp _ hw)];split
  ·rfl
  ·have:x≠n:=by rintro rfl;exact h v To
   simp [this]
theorem nA {kindOf:Str->Option NameKind} {x:Str} {v:Ts}:∀{P:List Str} {vs:List Ts} {i:Nat} {m:Str->Option Ts},P.Nodup->P[i]?=some x->vs[i]?=some v->kindOf x=some .local ->
  bindL kindOf (P.zip vs) m x=some v
 | [],_,_,_,_,h,_,_=>by simp at h
 | _::_,[],_,_,_,_,h,_=>by simp at h
 | p::P,w::vs,0,m,nd,h1,h2,hk=>by
  simp at h1 h2;subst h1;subst h2;show bindL kindOf ((p,w)::P.zip vs) m p=_
  unfold bindL;rw [ny fun v hv=>(Uu.mp nd).1 (WW hv).1,if_pos hk];simp
 | p::P,w::vs,i+1,m,nd,h1,h2,hk=>by
  show bindL kindOf ((p,w)::P.zip vs) m x=_;unfold bindL;exact nA (i:=i) (Uu.mp nd).2 (by simpa using h1) (by simpa using h2) hk
theorem nB {kindOf:Str->Option NameKind} {x:Str} {v:Ts}:∀{P:List Str} {vs:List Ts} {i:Nat} {m:Str->Option Ts},P.Nodup->P[i]?=some x->vs[i]?=some v->kindOf x≠some .local ->
  bindC kindOf (P.zip vs) m x=some v
 | [],_,_,_,_,h,_,_=>by simp at h
 | _::_,[],_,_,_,_,h,_=>by simp at h
 | p::P,w::vs,0,m,nd,h1,h2,hk=>by
  simp at h1 h2;subst h1;subst h2;show bindC kindOf ((p,w)::P.zip vs) m p=_
  unfold bindC;rw [nz fun v hv=>(Uu.mp nd).1 (WW hv).1,if_neg hk];simp
 | p::P,w::vs,i+1,m,nd,h1,h2,hk=>by
  show bindC kindOf ((p,w)::P.zip vs) m x=_;unfold bindC;exact nB (i:=i) (Uu.mp nd).2 (by simpa using h1) (by simpa using h2) hk
theorem qc {sc:Scope} {n:Nat} {x:Str} (h:sc.names.lookup x=some .cell):∃c,(cellsFrom n sc.names []).lookup x=some c:=by
 have q:=W7 sc.names n [] (.inl h);exact UJ.mp q
section
variable {X:Cx} {pins:aX} {φ:Fr} {g g1:G} {L L':aa} {s s':Tv} {w t:T} {u:Ts} {e o:Expr} {es:List Expr} {m ma mb:SE} {pos apos:Pos} {x f:Str} {A:Ux} {E:Ts->Tv->Prop}
theorem RT.handed {t:T} {u:Ts} (r:RT g none t u):Zw u=true:=by cases r <;> rfl
structure ClsOk (K:Ua) (fl:List Str) (C:Ug):Prop where
 c:AW K C
 n:∀f∈fl,iP K C f
theorem Inv.obj {p:Option (Ug × Ug)} {cn:Str} {fs:List (Str × T)} (I:Inv X pins φ g L s) (r:RT g p (.obj cn fs) u):∃a d C es,u=.ref a/\X.cls cn=some C/\so s.heap a d C (nsFind es)/\(∀f,(fs.lookup f).isSome=(nsFind es f).isSome)/\(∀f x v,fs.lookup f=some x->nsFind es f=some v->RT g none x v)/\fs.length<=1000/\(fs.map (·.1)).Nodup/\rW p a d/\d≠a /\
  g.kn p.isNone a (UI C d)/\∃od,g.kn p.isNone d od:=by
 cases r with
 | obj ht hne hc hk pV hd hs hu hz hn hl hi=>exact⟨_,_,_,_,rfl,by rw [<- I.gm];exact hc,⟨I.kn hk,⟨_,_,_,I.kn pV,hd,hs,hu,fun _=>rfl⟩,hne⟩,hl,hi,hz,hn,ht,hne,hk,_,pV⟩
noncomputable def okBase:Expr->Bool
 | .Call (.Name _ _) [] [] _=>false
 | _=>true
theorem base_ok {env:Env} {w:Sem Ts} (h:okBase o=true):attributeBase o x env w=w:=by
 unfold attributeBase;split
 ·cases h
 ·rfl
theorem pe_fld {fl:List Str} (hC:∀c C,X.cls c=some C->ClsOk X.K fl C) (hf:f∈fl) (he:PE X o m) (hb:okBase o=true):PE X (.Attribute o f pos) (b1 m (fld f)):=fun I h=>by
 obtain⟨t,L1,e1,h⟩:=R.of h;refine attr_of (base_ok hb) (thn (he I e1) fun u s1 ⟨g1,l1,I1,r1⟩=>?_);obtain⟨p,r⟩:=I1.view r1;unfold fld at h;cases ev:vw L1 t with
 | obj c fs =>
  rw [ev] at h r;obtain⟨a,d,C,es,rfl,hc,O,hl,hi,_⟩:=I1.obj r;have h:lift (fs.lookup f) L1=.ok _ _:=h
  cases el:fs.lookup f with
  | none=>rw [el] at h;cases h
  | some x =>
   rw [el] at h;cases h;obtain⟨v,ev⟩:=UJ.mp ((hl f).symm.trans (by rw [el];rfl));have K:=hC c C hc
   have rv:=hi f _ v el ev;exact get_map I1.DM O (K.c.get f) K.c.hd (K.n f hf) ev rv.handed ⟨g1,l1,I1.tok _,rv⟩
 | _=>rw [ev] at h;cases h
theorem oy:∀{fs:List (Str × T)} {f y:Str} {t:T},(i0 fs f t).lookup y=if y=f then some t else fs.lookup y
 | [],f,y,t=>by
  unfold i0;rw [T6];by_cases h:y=f
  ·subst h;simp
  ·have:(y == f)=false:=by simpa using h
   simp [this,h]
 | (a,b)::fs,f,y,t=>by
  unfold i0;split
  ·rename_i e
   subst e;rw [T6,T6];by_cases h:y=a
   ·subst h;simp
   ·have:(y == a)=false:=by simpa using h
    simp [this,h]
  ·rename_i e
   rw [T6,T6,oy];cases q:y == a with
   | true =>
    have:y=a:=by simpa using q
    subst this;simp only [if_neg e]
   | false=>rfl
theorem lH:∀{fs:List (Str × T)} {f:Str} {t:T},(fs.map (·.1)).Nodup->((i0 fs f t).map (·.1)).Nodup/\(i0 fs f t).length<=fs.length+1/\∀y,y∈(i0 fs f t).map (·.1)->y=f\/y∈fs.map (·.1)
 | [],f,t,_=>⟨by simp [i0],by simp [i0],fun y h=>Or.inl (by simpa [i0] using h)⟩
 | (a,b)::fs,f,t,h=>by
  rw [TC,Uu] at h;unfold i0;split
  ·rename_i e
   subst e;exact⟨by rw [TC,Uu];exact h,by simp,fun y hy=>Or.inr (by rw [TC] at hy ⊢;exact hy)⟩
  ·rename_i e
   obtain⟨h1,h2,h3⟩:=lH (f:=f) (t:=t) h.2;refine⟨?_,by simp;omega,fun y hy=>?_⟩
   ·rw [TC,Uu]
    exact⟨fun z=>(h3 a z).elim e h.1,h1⟩
   ·rw [TC,TJ] at hy
    rcases hy with hy|hy
    ·exact Or.inr (by rw [TC];exact TJ.mpr (Or.inl hy))
    ·exact(h3 y hy).imp id fun z=>by rw [TC];exact Tp _ z
theorem AX {fl:List Str} (hC:∀c C,X.cls c=some C->ClsOk X.K fl C) (hf:f∈fl) (ho:PE X o mb) (he:PE X e m) (hs:iB e=true):PS X (.Assign [.Attribute o f apos] e pos) (iJ mb f m):=fun {pins φ g L s} I h=>by
 obtain⟨t,L1,e1,e2,h⟩:=gM h;rw [show iJ mb f m φ L=_ from e2];obtain⟨x,L2,e3,e4,h⟩:=gM h;rw [e4];cases ep:rU f x t L2 with
 | none=>simp only [ep] at h;exact absurd rfl h
 | some L3 =>
  simp only [ep];refine plainObj_wpAny_Assign_Attribute (thn (he I e1) fun u s1 ⟨g1,l1,I1,r1⟩=>thn (ho I1 e3) fun ov s2 ⟨g2,l2,I2,r2⟩=>?_) (ja hs);have Qu:=r1.le l2
  unfold rU at ep;cases x with
  | ref n =>
   cases r2 with
   | ref hp =>
    rename_i p;cases ea:at_ L2 n with
    | none=>simp only [ea] at ep;cases ep
    | some c =>
     cases c with
     | obj cn fs =>
      simp only [ea] at ep;split at ep
      ·rename_i HQ
       cases ep;obtain⟨q,h1,h2⟩:=I2.rel.cells n _ ea;rw [hp] at h1;cases h1;obtain⟨a,d,C,es,eu,hc,O,hl,hi,hz,hn,ht,hne,hk,od,pV⟩:=I2.obj h2;rcases ht with z|z
       ·cases z
       cases z;have K:=hC cn C hc
       have hd2:g2.H d=some (false,od):=pV.elim id fun z=>by cases z.1
       have hk':g2.H a=some (false,UI C d):=hk.elim id fun z=>by cases z.1
       have hw:PySem.Within (nsFind es) (fs.map (·.1)):=fun y hy=>by
        have z:(nsFind es y).isSome=true:=by cases q:nsFind es y with|none=>exact absurd q hy|some _=>rfl
        rw [<- hl y] at z;obtain⟨v,hv⟩:=UJ.mp z;exact Tz.mpr ⟨(y,v),Up hv,rfl⟩
       refine AV I2.DM O K.c.sa K.c.po (K.n f hf).HP K.c.hd hw (by rw [Lm9,Vb];omega) fun h' O' sb=>?_
       obtain⟨OK,fq,Hi,ho',hd',hs',gP,hm'⟩:=O'.ns;have qd:=Le.set (o:=OK) hd2
       refine⟨g2.set d OK,(l1.trans l2).trans qd,I2.set (p:=(a,d)) hp (.inr rfl) hd2 (fun b v hb q=>(sb.2 b hb).trans q) ho' ?_⟩;have nm:=lH (f:=f) (t:=t) hn
       refine .obj (.inr rfl) hne (by show g2.cls cn=_;rw [I2.gm];exact hc) (.inl ((az (U7 hne)).trans hk')) (.inl aq) hd' hs' gP (by omega) nm.1 (fun y=>?_) fun y z v q1 q2=>?_
       ·rw [oy,hm' y]
        by_cases hy:y=f
        ·simp [hy]
        ·simp only [hy,if_false];exact hl y
       ·rw [oy] at q1
        rw [hm' y] at q2;by_cases hy:y=f
        ·simp only [hy,if_true] at q1 q2
         cases q1;cases q2;exact Qu.le qd
        ·simp only [hy,if_false] at q1 q2
         exact(hi y z v q1 q2).le qd
      ·cases ep
     | _=>simp only [ea] at ep;cases ep
  | _=>cases ep
end
structure vN (P:UU) (w:VL) (K:Ua) (mg:Str->Option Ts) (cls:Str->Option Ug) (base:Heap) (s:Tv) (g:G) (L:aa):Prop where
 mod:Mod K mg base
 bs:∀b o,base.get? b=some o->s.heap.get? b=some o/\g.H b=none
 Hg:base.objs.size<=s.heap.objs.size
 hok:As g.H s.heap
 bare:AllBare s.gens
 rel:Rel g L
 gB:g.B=base
 gm:g.cls=cls
 gw:g.w=w
noncomputable def CE (g:G) (s:Tv) (t:T) (L':aa) (u:Ts) (s':Tv):Prop:=∃g',s'.os=s.os/\AllBare s'.gens/\Un [] g.H g'.H s.heap s'.heap/\As g'.H s'.heap/\Le g g'/\Rel g' L'/\RT g' none t u
noncomputable def CR (g:G) (s:Tv) (t:T) (L':aa) (r:Result) (s':Tv):Prop:=match r with
 | .ok (.ret u)=>CE g s t L' u s'
 | _=>False
noncomputable def eY (P:UU) (w:VL) (K:Ua) (mg:Str->Option Ts) (cls:Str->Option Ug) (base:Heap) (k:Nat) (f:Ug) (m:Fn):Prop :=
 ∀{A:Ux} {s:Tv} {g:G} {L L':aa} {us:List Ts} {xs:List T} {t:T},eX k A->vN P w K mg cls base s g L->cu g xs us->m xs L=.ok t L'->codeAny (model P w) A (.call (.ref f) ⟨us,[]⟩) (CR g s t L') s
section
variable {X:Cx} {pins:aX} {φ:Fr} {g g1:G} {L L':aa} {s s':Tv} {w t:T} {u:Ts} {e o:Expr} {es:List Expr} {m ma mb:SE} {pos p apos:Pos} {x f:Str} {k:Nat} {fa C:Ug} {F:Fn} {ms:List SE}
theorem Inv.LQ (I:Inv X pins φ g L s):vN X.prog X.w X.K X.mg X.cls X.base s g L:=⟨I.ok.mod,I.bs,TU I.ok.Hg I.sz,I.hok,I.bare,I.rel,I.gB,I.gm,I.gw⟩
theorem Inv.after (I:Inv X pins φ g L s) (h:CE g s t L' u s'):EP X pins φ g t L' u s':=by
 obtain⟨g',os,bare,un,hok,l,rel,r⟩:=h;exact⟨g',l,I.call (ch:=[]) l os un hok bare rel (fun b z=>absurd z (by simp)),r⟩
theorem sq (hF:eY X.prog X.w X.K X.mg X.cls X.base k fa F) (hr:eX k X.A):cU X (.ref fa) F:=fun I r h=>by
 refine wpAny_call (codeAny_mono (hF hr I.LQ r h) fun r s' hq=>?_);cases r with
 | error e=>exact Ya hq
 | ok fl=>cases fl <;> first|exact I.after hq|exact Ya hq
theorem bM {env:Env}:∀{es:List Expr},es.all aY=true->(backTo pos (starEach es env)).any (·.1)=false
 | [],_=>rfl
 | e::es,h=>by
  rw [UG,Tw] at h;rw [ay h.1];show(false || (backTo pos (starEach es env)).any (·.1))=false
  rw [bM h.2];rfl
theorem AY (hF:cU X (.ref fa) F) (hg:Gl X x) (hm:X.mg x=some (.ref fa)) (hk:UW X.K (.ref fa)=true) (HR:(x == ("__debug__":Str))=false):PE X (.Call (.Name x p) [] [] pos) (ae F []):=fun I h =>
 wpAny_Call_Name_kw (om I hg hm (Za I.DM hk (hF (us:=[]) I .nil h)) HR)
theorem Es (hF:cU X (.ref fa) F) (hg:Gl X x) (hm:X.mg x=some (.ref fa)) (hk:UW X.K (.ref fa)=true) (ha:PA X (e::es) (ib ms)) (hs:(e::es).all aY=true) (HR:(x == ("__debug__":Str))=false):PE X (.Call (.Name x p) (e::es) [] pos) (ae F ms):=fun I h=>by
 obtain⟨ts,L1,e1,h⟩:=R.of h;rw [UG,Tw] at hs;exact wpAny_Call_Name_kw (om I hg hm (Zl (h₀:=X.base) I.ok.mod.Hf hk (thn (ha pos I e1) fun us s1 ⟨g1,l1,I1,r1⟩=>⟨I1.DM,thn (hF I1 r1 h) fun _ _ z=>z.le l1⟩) (ay hs.1) (bM hs.2)) HR)
theorem qe {env:Env}:∀{es:List Expr},es.all aY=true->(backTo pos (starEach es env)).all (fun x=>!x.1)=true
 | [],_=>rfl
 | e::es,h=>by
  rw [UG,Tw] at h;rw [ay h.1];show(true && (backTo pos (starEach es env)).all (fun x=>!x.1))=true
  rw [qe h.2];rfl
theorem sr {env:Env} (h:es.all aY=true) (hl:es.length<30):((backTo pos (starEach es env)).all (fun x=>!x.1) && (backToKw pos (keywordEach [] env)).all (fun x=>x.1.isSome)
   && decide (es.length+([]:List Keyword).length+(if ([]:List Keyword).isEmpty then 0 else 1)<30))=true:=by
 rw [qe h];show(true && true && decide (es.length+0+0<30))=true
 rw [decide_eq_true (show es.length+0+0<30 by omega)];rfl
theorem AZ {o:Expr} {m:Str} {apos pos:Pos} {es:List Expr} {env:Env} (hb:okBase o=true) (h:es.all aY=true) (hl:es.length<30) (lJ:(apos.endLine == pos.line)=true) :
  eval (.Call (.Attribute o m apos) es [] pos) env=(do
   let ov <- eval o env
   standAt apos.atName
   let (f,first) <- holding [ov] (getMethod ov m (do return (<- importBound o env).getD true))
   callWith pos f first (backTo pos (starEach es env)) (backToKw pos (keywordEach [] env))):=by
 rw [arm_eval_Call,base_ok hb];have hf:methodCallForm (es.length+([]:List Keyword).length) (backTo pos (starEach es env)) (backToKw pos (keywordEach [] env))=true:=sr h hl
 congr 1;funext ov;congr 1;funext _;unfold methodCall;rw [hf];have hp:methodCallPos true o env apos pos=pure pos:=by
  unfold methodCallPos;rw [lJ];rfl
 rw [hp];have hc:calleeOf true o env ov m=getMethod ov m (do return (<- importBound o env).getD true):=rfl
 rw [hc];rfl
theorem A0 {mf:Str->Option Fn} (hM:∀c C Fn,X.cls c=some C->mf c=some Fn->∃fa,AW X.K C/\Meth X.K C x fa/\cU X (.ref fa) Fn) (ho:PE X o m) (ha:PA X es (ib ms)) (h0:es=[]->ms=[]) (hs:es.all aY=true) (hl:es.length<30) (hb:okBase o=true) (lJ:(apos.endLine == pos.line)=true) :
  PE X (.Call (.Attribute o x apos) es [] pos) (oh x mf m ms):=fun I h=>by
 obtain⟨t,L1,e1,h⟩:=R.of h;refine PySem.W.methodCall_KW (thn (ho I e1) fun u s1 ⟨g1,l1,I1,r1⟩=>?_) (AZ hb hs hl lJ);obtain⟨p,r⟩:=I1.view r1;cases ev:vw L1 t with
 | obj c fs =>
  simp only [ev] at h;rw [ev] at r;obtain⟨a,d,C,fq,rfl,hc,O,hl',hi,_⟩:=I1.obj r;cases em:mf c with
  | none=>simp only [em] at h;cases h
  | some F =>
   simp only [em] at h;split at h
   ·rename_i hn
    obtain⟨ts,L2,e2,h⟩:=R.of h;obtain⟨fa,c,hm,hF⟩:=hM c C F hc em;have Qv:nsFind fq x=none:=by
     have z:=hl' x;cases q:nsFind fq x with
     | none=>rfl
     | some v=>rw [q] at z;cases q2:fs.lookup x with
      | none=>rw [q2] at z;cases z
      | some _=>rw [q2] at hn;cases hn
    refine xo I1.DM O (c.get x) hm.at_ hm.fn Qv ?_
    cases es with
    | nil =>
     cases h0 rfl;cases e2;exact Za (first:=[.ref a]) I1.DM hm.kp (thn (hF (us:=[.ref a]) I1 (.cons r1 .nil) h) fun _ _ z=>z.le l1)
    | cons e es =>
     rw [UG,Tw] at hs;exact Zl (first:=[.ref a]) (h₀:=X.base) I.ok.mod.Hf hm.kp (thn (ha pos I1 e2) fun us s2 ⟨g2,l2,I2,r2⟩=>⟨I2.DM,thn (hF (us:=.ref a::us) I2 (.cons (r1.le l2) r2) h) fun _ _ z=>z.le (l1.trans l2)⟩) (ay hs.1) (bM hs.2)
   ·cases h
 | _=>simp only [ev] at h;cases h
end
theorem vO {a b:Nat} (h:a<b\/b<a):a≠b:=fun e=>by omega
structure kO (N ps:List Str) (sc:Scope):Prop where
 kind:sc.kind=.function
 co:sc.isCoroutine=false
 gen:sc.isGenerator=false
 nd:N.Nodup
 pre:N.take ps.length=ps
 par:∀x∈ps,sc.names.lookup x=some .local\/sc.names.lookup x=some .cell
 su:∀y∈sc.names,y.2≠.free
noncomputable def xq (P:UU) (w:VL) (K:Ua) (mg:Str->Option Ts) (cls:Str->Option Ug) (base:Heap) (N:List Str) (qual:Str) (scope:Scope) (f:Ug) (cd:Ts) (A:Ux) (s:Tv) (H:Hp):Cx where
 prog:=P
 w:=w
 K:=K
 mg:=mg
 cls:=cls
 base:=base
 A:=A.deeper (envOfC qual scope s.heap.objs.size f cd)
 N:=N
 s₀:=s
 H₀:=H
 env:=envOfC qual scope s.heap.objs.size f cd
 ex:=[]
 fn:=fun _=>true
section
variable {P:UU} {w:VL} {K:Ua} {mg:Str->Option Ts} {cls:Str->Option Ug} {base:Heap} {N ps:List Str} {qual:Str} {scope:Scope} {f:Ug} {cd:Ts} {A:Ux} {s s1:Tv} {g:G} {L:aa}
theorem nC {us:List Ts} {xs:List T} (S:kO N ps scope) (hd:A.handled=none) (e0:vN P w K mg cls base s g L) (hl:xs.length=ps.length) (r:cu g xs us)
  (x:InCallC s s.heap.objs.size (bindL (envOfC qual scope s.heap.objs.size f cd).kindOf (ps.zip us) fun _=>none) (cellsFrom (s.heap.objs.size+1) scope.names []) (bindC (envOfC qual scope s.heap.objs.size f cd).kindOf (ps.zip us) fun _=>none) s1) :
  Inv (xq P w K mg cls base N qual scope f cd A s g.H) [] (xs.map some++Ui (N.length - ps.length) none) g L s1:=by
 have hpl:ps.length<=N.length:=by have:=congrArg VV S.pre;rw [Ur] at this;omega
 obtain⟨h1,tk,rfl,hk⟩:=x.done;refine⟨⟨e0.mod,S.kind,rfl,rfl,TK _,fun y z c h1 h2=>?_,fun y hy=>?_,fun y c _ h=>?_,hd,fun b z=>absurd z (by simp [xq]),e0.bs,e0.Hg,fun b _ _=>by simp [xq]⟩,
  rfl,e0.bare,Un.kept hk,⟨_,x.toInCall.ns,fun i y v h1 h2 h3=>?_⟩,fun y c h=>⟨_,x.cell y c h⟩,e0.hok.fresh (TK _),fun y c h=>?_,fun p hp=>(by simp at hp),fun a b o e=>hk a o (e0.hok a b o e),?_,e0.rel,e0.gB,e0.gm,e0.gw⟩
 ·exact name_of_addr x.apart (Up h1) (Up h2)
 ·have hy:scope.names.lookup y=some .cell\/scope.names.lookup y=some .free:=hy
  rcases hy with hy|hy
  ·exact qc hy
  ·exact absurd rfl (S.su _ (Up hy))
 ·exact WR (x.above y c (Up h))
 ·have hi:i<xs.length:=by
   by_cases hi:i<xs.length
   ·exact hi
   ·rw [List.getElem?_append_right (by simpa using hi),List.getElem?_replicate] at h2
    split at h2 <;> cases h2
  have ha:xs[i]?=some v:=by
   rw [List.getElem?_append_left (by simpa using hi),TX] at h2;cases e:xs[i]? with
   | none=>rw [e] at h2;cases h2
   | some a=>rw [e] at h2;cases h2;rfl
  obtain⟨u,hu,rv⟩:=rY r ha;have hp:ps[i]?=some y:=by
   rw [<- S.pre,List.getElem?_take_of_lt (by omega)];exact h1
  have OL:ps.Nodup:=by rw [<- S.pre];exact S.nd.sublist (List.take_sublist _ _)
  refine⟨u,rv,?_⟩;rcases S.par y (Ul hp) with k|k
  ·exact .inl ⟨k,nA OL hp hu k⟩
  ·obtain⟨c,e⟩:=qc (n:=s.heap.objs.size+1) k
   refine .inr ⟨.inl k,c,e,?_⟩;have q:=x.cell y c e
   rw [nB OL hp hu (by show scope.names.lookup y≠_;rw [k];decide)] at q;exact q
 ·exact e0.hok.fresh (WR (x.above y c (Up h)))
 ·show _=N.length
  rw [Tq,Lm9,List.length_replicate];omega
theorem xr {g1:G} {L1 Lo:aa} {s':Tv} {t t':T} {u:Ts} (e0:vN P w K mg cls base s g L) (os:s'.os=s.os) (bare:AllBare s'.gens) (un:Un [] g.H g1.H s.heap s'.heap) (hok:As g1.H s'.heap) (l:Le g g1) (rel:Rel g1 L1) (r:RT g1 none t u) (e:fin L t L1=.ok t' Lo):CE g s t' Lo u s':=by
 obtain⟨g2,l2,r2,h2,a,b,c⟩:=Er l e0.rel rel r e;exact⟨g2,os,bare,⟨un.keep,fun x o q n z=>b x (un.free x o q n z),fun x o q=>c x o (un.bU x o q)⟩,fun x y o q=>let ⟨_,z⟩:=a x y o q;hok x _ o z,l2,r2,h2⟩
theorem HS {k:Nat} {name:Str} {params:Arguments} {body:List Stmt} {dV kV doc pm f7 ct oc:Ts} {an od:Option Ug} {rM:Array (Option Ts)} {mb:SS} (lk:K.lookup f=some ⟨oc,od,.func (Vw name qual params body scope dV kV doc pm an f7 ct),rM⟩) (hcd:V9 K f7 qual=true) (S:kO N ps scope)
  (xt:∀us:List Ts,us.length=ps.length->bindArgs (Vw name qual params body scope dV kV doc pm an f7 ct) ⟨us,[]⟩=pure (ps.zip us))
  (jg:∀(A:Ux) (s:Tv) (H:Hp),eX k (A.deeper (envOfC qual scope s.heap.objs.size f f7))->w5 (xq P w K mg cls base N qual scope f f7 A s H) body mb) :
  eY P w K mg cls base (k+1) f (run ps.length N.length mb):=fun {A s g L L' us xs t} hr e0 r mZ=>by
 unfold run at mZ;split at mZ
 ·rename_i hl
  have LR:us.length=ps.length:=by rw [<- TV r];exact hl
  have KX:K.In s.heap:=e0.mod.Hf.keeps fun b o e=>(e0.bs b o e).1
  have lim:s.heap.NoLimit:=e0.mod.nolimit.keeps fun b o e=>(e0.bs b o e).1
  have hkind:∀y∈ps.zip us,scope.names.lookup y.1=some .local\/(scope.names.lookup y.1=some .cell/\((cellsFrom (s.heap.objs.size+1) scope.names []).lookup y.1).isSome=true):=fun⟨n,v⟩ hy=>by
   rcases S.par n (WW hy).1 with q|q
   ·exact .inl q
   ·exact .inr ⟨q,W7 _ _ _ (.inl q)⟩
  refine codeAny_call_function hr.depth (KX _ _ lk) rfl S.co S.gen rfl (Zm KX hcd) (BindsTo.of_eq (xt us LR) _ _ _ _ ?_);refine wpAny_newFunctionEnv_cells S.kind hkind fun env he s1 x=>?_
  subst he;refine⟨lim.keeps x.toInCall.keep,codeAny_func ?_⟩;have I:=nC (A:=A) (cd:=f7) S hr.hd e0 hl r x
  have nb:mb (xs.map some++Ui (N.length - ps.length) none) L≠.bad:=fun z=>by rw [z] at mZ;cases mZ
  refine wpAny_mono (jg A s g.H (hr.deeper _) I nb) (fun fl s' ⟨g',l,hs⟩=>?_) fun e s' hs=>hs.elim
  cases eb:mb (xs.map some++Ui (N.length - ps.length) none) L with
  | nx φ' L1 =>
   rw [eb] at hs mZ;cases fl <;> first|exact hs.elim|exact xr e0 hs.os hs.bare hs.base hs.hok l hs.rel .cb mZ
  | rt t0 L1 =>
   rw [eb] at hs mZ;cases fl <;> first|exact hs.elim|skip
   obtain⟨⟨φ',J⟩,rt⟩:=hs;exact xr e0 J.os J.bare J.base J.hok l J.rel rt mZ
  | _=>rw [eb] at mZ;cases mZ
 ·cases mZ
structure Mk (K:Ua) (C f:Ug):Prop where
 makes:Xz K C=true
 init:UN K (.ref C) "__init__"=some (some (.ref f))
 fn:WS K (.ref f)=true
 kp:UW K (.ref C)=true
theorem HT {k:Nat} {C:Ug} {cn:Str} {init:Fn} (M:Mk K C f) (hF:eY P w K mg cls base k f init) (hc:cls cn=some C):eY P w K mg cls base (k+1) C (make cn init):=fun {A s g L L' us xs t} hr e0 r h=>by
 have KX:K.In s.heap:=e0.mod.Hf.keeps fun b o e=>(e0.bs b o e).1
 refine xp KX M.makes M.init (beq_iff_eq.mp M.fn) ?_;generalize hn:s.heap.objs.size=n;have fr:∀a,n<=a->g.H a=none:=fun a ha=>e0.hok.fresh (by rw [hn];exact ha)
 have e1:(s.heap.push UL).get? n=some UL:=by rw [<- hn];exact Tt s.heap rfl
 have e2:((s.heap.push UL).push (UI C n)).get? (n+1)=some (UI C n):=by
  have:=Tt (s.heap.push UL) (o:=UI C n) rfl;rwa [UM,hn] at this
 have e1':((s.heap.push UL).push (UI C n)).get? n=some UL:=Tj _ e1;have kp:∀b o,s.heap.get? b=some o->((s.heap.push UL).push (UI C n)).get? b=some o:=fun b o q=>Tj _ (Tj _ q)
 have cT:∀b o,s.heap.get? b=some o->b<n:=fun b o q=>by rw [<- hn];exact T3 q
 let g1:G:={ g with H:=upd (upd g.H n (false,UL)) (n+1) (false,UI C n),α:=(n+1,n)::g.α }
 have old:∀b,b<n->g1.H b=g.H b:=fun b hb=>(az (vO (by omega))).trans (az (vO (by omega)))
 have tr:∀b x,g.H b=some x->b<n:=fun b x q=>cT b x.2 (e0.hok b x.1 x.2 q)
 have h1:g1.H n=some (false,UL):=(az (vO (by omega))).trans aq;have h2:g1.H (n+1)=some (false,UI C n):=aq
 have l1:Le g g1:=⟨fun b o q=>(old b (tr b _ q)).trans q,fun _ _ q=>kH q,rfl,rfl,rfl⟩;have alt:∀m q,at_ g.α m=some q->q.1<n/\q.2<n:=fun m q e=>by
  obtain⟨⟨o1,z1⟩,o2,z2⟩:=e0.rel.live m q e;exact⟨tr _ _ z1,tr _ _ z2⟩
 have ob:RT g1 (some (n+1,n)) (.obj cn []) (.ref (n+1)):=.obj (od:=UL) (es:=#[]) (n:=0) (.inr rfl) (vO (by omega)) (by show g.cls cn=_;rw [e0.gm];exact hc) (.inl h2) (.inl h1) rfl (fun e he=>absurd he (by simp)) (by simp [UniqKeys]) (by simp) (by simp) (fun f=>rfl) fun f x v q=>by simp at q
 have LS:Rel g1 (.obj cn []::L):=by
  refine⟨by show((n+1,n)::g.α).length=_;simp [e0.rel.len],fun m c q=>?_,fun m m' p q q1 q2 hne=>?_,fun m p q=>?_⟩
  ·unfold at_ at q
   split at q
   ·rename_i em
    cases q;exact⟨(n+1,n),by rw [em,<- e0.rel.len];exact eS,ob⟩
   ·obtain⟨p,z1,z2⟩:=e0.rel.cells m c q
    refine⟨p,kH z1,z2.up l1 fun q z=>?_⟩;cases z;exact⟨old _ (alt m p z1).1,old _ (alt m p z1).2⟩
  ·have q1:at_ ((n+1,n)::g.α) m=some p:=q1
   have q2:at_ ((n+1,n)::g.α) m'=some q:=q2
   unfold at_ at q1 q2
   split at q1
   ·cases q1
    split at q2
    ·omega
    ·have z:=alt m' q q2;exact⟨vO (.inr (UK z.1)),vO (.inr (UK z.2)),vO (.inr z.1),vO (.inr z.2)⟩
   ·split at q2
    ·cases q2
     have z:=alt m p q1;exact⟨vO (.inl (UK z.1)),vO (.inl z.1),vO (.inl (UK z.2)),vO (.inl z.2)⟩
    ·exact e0.rel.apart m m' p q q1 q2 hne
  ·have q:at_ ((n+1,n)::g.α) m=some p:=q
   unfold at_ at q
   split at q
   ·cases q;exact⟨⟨_,h2⟩,_,h1⟩
   ·obtain⟨⟨o1,z1⟩,o2,z2⟩:=e0.rel.live m p q
    have z:=alt m p q;exact⟨⟨o1,(old _ z.1).trans z1⟩,o2,(old _ z.2).trans z2⟩
 have Qw:vN P w K mg cls base { s with heap:=(s.heap.push UL).push (UI C n) } g1 (.obj cn []::L):=by
  refine⟨e0.mod,fun b o q=>⟨kp b o (e0.bs b o q).1,(old b (cT b o (e0.bs b o q).1)).trans (e0.bs b o q).2⟩,?_,fun a b o q=>?_,e0.bare,LS,e0.gB,e0.gm,e0.gw⟩
  ·show _<=((s.heap.push _).push _).objs.size
   rw [UM,UM];have:=e0.Hg;omega
  ·by_cases z1:a=n+1
   ·subst z1;rw [h2] at q;cases q;exact e2
   ·by_cases z2:a=n
    ·subst z2;rw [h1] at q;cases q;exact e1'
    ·have q:g.H a=some (b,o):=by rw [<- q];exact((az z1).trans (az z2)).symm
     exact kp a o (e0.hok a b o q)
 unfold make at h;cases ei:init (.ref L.length::xs) (.obj cn []::L) with
 | bad=>rw [ei] at h;cases h
 | ok t0 L1 =>
  rw [ei] at h;cases t0 with
  | cb =>
   have r1:cu g1 (.ref L.length::xs) (.ref (n+1)::us):=.cons (.ref (p:=(n+1,n)) (by show at_ ((n+1,n)::g.α) _=_;rw [<- e0.rel.len];exact eS)) (r.le l1);refine codeAny_mono (hF (hr.make C us []) Qw r1 ei) fun r s' hq=>?_
   cases r with
   | error e=>exact Ya hq
   | ok fl =>
    cases fl with
    | ret u =>
     obtain⟨g2,os,bare,un,hok,l2,LU,r2⟩:=hq;cases r2;refine⟨rfl,?_⟩;have Qx:Un [] g.H g2.H s.heap s'.heap:=⟨fun b o q z x=>un.keep b o (kp b o q) ((old b (cT b o q)).trans z) x,fun b o q z x=>un.free b o (kp b o q) ((old b (cT b o q)).trans z) x,fun b o q=>un.bU b o (l1.f b o q)⟩
     have ra:RT g2 none (.ref L.length) (.ref (n+1)):=.ref (p:=(n+1,n)) (l2.α _ _ (by show at_ ((n+1,n)::g.α) _=_;rw [<- e0.rel.len];exact eS));exact xr e0 os bare Qx hok (l1.trans l2) LU ra h
    | _=>exact Ya hq
  | _=>cases h
end
section
variable {X:Cx} {pins:aX} {φ:Fr} {g:G} {L:aa} {s:Tv}
theorem str_beq {a b:Cs}:((⟨a.toArray⟩:Str) == ⟨b.toArray⟩)=(a == b):=by
 rw [Vo,beq_iff_eq,beq_iff_eq];constructor
 ·intro h
  have:=congrArg (fun x:Str=>x.cps.toList) h;simpa using this
 ·rintro rfl;rfl
theorem ig {f:T->T->Bool}:∀(a b:List T),((UE (min a.length b.length)).all (fun i=>f (a.getD i .cb) (b.getD i .cb)) && a.length == b.length)=mP f a b
 | [],[]=>rfl
 | [],b::q=>by simp [mP]
 | a::r,[]=>by simp [mP]
 | a::r,b::q=>by
  rw [mP,<- ig r q];have e:min (a::r).length (b::q).length=min r.length q.length+1:=by simp only [Tu];omega
  rw [e,YL,UG,YY];have e2:((a::r).length == (b::q).length)=(r.length == q.length):=by simp
  rw [e2,Bool.and_assoc];rfl
theorem xu {n:Nat} {xs:List T} (h:xs.all (dat n)=true) {i:Nat} (hi:i<xs.length):dat n (xs.getD i .cb)=true:=by
 rw [Gd9,Ge9 hi];exact Tr.mp h _ (TN hi)
theorem getD_at {xs:List T} {i:Nat} (hi:i<xs.length):xs[i]?=some (xs.getD i .cb):=by
 rw [Gd9,Ge9 hi];rfl
theorem jh {f:T->T->Bool}:∀{xs:List T},(∀x∈xs,f x x=true)->mP f xs xs=true
 | [],_=>rfl
 | x::xs,h=>by rw [mP,h x To,jh fun y hy=>h y (Tp _ hy)];rfl
theorem Et {a:T} (h:dat 0 a=true):False:=by cases a <;> cases h
theorem ji:∀(n:Nat) {a:T},dat n a=true->vB n a a=true
 | 0,a,h=>(Et h).elim
 | n+1,a,h=>by
  cases a with
  | cb=>rfl
  | bl k=>exact beq_self_eq_true k
  | int i=>exact beq_self_eq_true i
  | str z=>exact beq_self_eq_true z
  | tup xs=>exact jh fun x hx=>ji n (Tr.mp h x hx)
  | lst xs=>exact jh fun x hx=>ji n (Tr.mp h x hx)
  | _=>cases h
noncomputable def It (g:G) (n:Nat) (xs:List T) (its:Array Ts):Prop:=xs.all (dat n)=true/\xs.length=its.size/\∀(i:Nat) x v,xs[i]?=some x->its[i]?=some v->RT g none x v
theorem Inv.dv (I:Inv X pins φ g L s) {n:Nat} {p:Option (Ug × Ug)} {P:T->Ts->Prop} (c1:P .cb .none) (c2:∀b,P (.bl b) (.bool b)) (c3:∀i t,P (.int i) (.int i t)) (c4:∀z t,P (.str z) (.str ⟨z.toArray⟩ t))
  (c5:∀xs a its,s.heap.IsTuple a its->It g n xs its->P (.tup xs) (.ref a)) (c6:∀xs a its,s.heap.IsList a its->It g n xs its->P (.lst xs) (.ref a)) {a:T} {u:Ts} (h:dat (n+1) a=true) (r:RT g p a u):P a u:=by
 cases r with
 | cb=>exact c1
 | bl b=>exact c2 b
 | int i t=>exact c3 i t
 | str z t _=>exact c4 z t
 | tup hk hc hd _ hl hi=>exact c5 _ _ _ ⟨_,I.kn hk,hc.1,_,hd⟩ ⟨h,hl,hi⟩
 | lst _ hk _ hl hi=>exact c6 _ _ _ (af (I.kn hk)) ⟨h,hl,hi⟩
 | _=>cases h
noncomputable def tO:Ts->Option T
 | .none=>some .cb
 | .bool b=>some (.bl b)
 | .int i _=>some (.int i)
 | .str z _=>some (.str z.cps.toList)
 | _=>none
noncomputable def Sq (s:Tv) (k:Bool) (a:Ug) (its:Array Ts):Prop:=∃o,s.heap.get? a=some o/\o.cls=.type (if k=true then "tuple" else "list")/\∃n,o.data=.seq its n
theorem Sq.eq {k j:Bool} {a:Ug} {x y:Array Ts} (h:Sq s k a x) (h':Sq s j a y):k=j/\x=y:=by
 obtain⟨o,e,c,m,d⟩:=h;obtain⟨_,e',c',m',d'⟩:=h';cases Vn (e.symm.trans e');refine⟨?_,(Data.seq.inj (d.symm.trans d')).1⟩;have z:=c.symm.trans c'
 clear c c'
 revert k j
 decide
theorem Inv.uniq (I:Inv X pins φ g L s):∀(n:Nat) {p q:Option (Ug × Ug)} {a b:T} {u:Ts},dat n a=true->dat n b=true->RT g p a u->RT g q b u->a=b
 | 0,_,_,a,_,_,h,_,_,_=>(Et h).elim
 | n+1,_,_,_,_,_,ha,hb,ra,rb=>by
  have key:∀{p a u},dat (n+1) a=true->RT g p a u->tO u=some a\/∃k d its xs,u=.ref d/\Sq s k d its/\It g n xs its/\a=if k=true then .tup xs else .lst xs:=fun h r =>
   I.dv (P:=fun a u=>tO u=some a\/∃k d its xs,u=.ref d/\Sq s k d its/\It g n xs its/\a=if k=true then .tup xs else .lst xs) (.inl rfl) (fun _=>.inl rfl) (fun _ _=>.inl rfl) (fun _ _=>.inl rfl)
    (fun xs a its h j=>.inr ⟨true,a,its,xs,rfl,h,j,rfl⟩) (fun xs a its h j=>.inr ⟨false,a,its,xs,rfl,h,j,rfl⟩) h r
  rcases key ha ra with h|⟨k,d,its,xs,rfl,hk,i,rfl⟩
  ·rcases key hb rb with h'|⟨_,_,_,_,rfl,_⟩
   ·exact Vn (h.symm.trans h')
   ·cases h
  ·rcases key hb rb with h'|⟨j,_,Qy,ys,z,hj,i',rfl⟩
   ·cases h'
   ·cases Value.ref.inj z
    obtain⟨rfl,rfl⟩:=hk.eq hj;rw [show xs=ys from Vj (i.2.1.trans i'.2.1.symm) fun m hi hj=>I.uniq n (Tr.mp i.1 _ (TN hi)) (Tr.mp i'.1 _ (TN hj)) (i.2.2 m _ _ (Ge9 hi) (Tx (i.2.1 ▸ hi))) (i'.2.2 m _ _ (Ge9 hj) (Tx (i.2.1 ▸ hi)))]
theorem Inv.same (I:Inv X pins φ g L s) (n:Nat) {p q:Option (Ug × Ug)} {a b:T} {u:Ts} (ha:dat n a=true) (hb:dat n b=true) (ra:RT g p a u) (rb:RT g q b u):vB n a b=true:=by
 rw [I.uniq n ha hb ra rb];exact ji n hb
theorem both {A:Ux} {a b:Ug} {k:Bool} (h:SeqAt.RcAt A s (.ref a) (.ref b) k) (he:a=b->k=true):SeqAt.RcAt A s (.ref a) (.ref b) k/\VN A s (.ref a) (.ref b) k:=⟨h,by
 by_cases e:a=b
 ·subst e;rw [he rfl];exact SeqAt.EqAt.same _
 ·exact SeqAt.EqAt.of_refs e h⟩
theorem It.eq (I:Inv X pins φ g L s) {n:Nat} {xs ys:List T} {its:Array Ts} (i:It g n xs its) (j:It g n ys its):mP (vB n) xs ys=true:=by
 rw [show ys=xs from Vj (j.2.1.trans i.2.1.symm) fun m hj hi=>I.uniq n (Tr.mp j.1 _ (TN hj)) (Tr.mp i.1 _ (TN hi)) (j.2.2 m _ _ (Ge9 hj) (Tx (i.2.1 ▸ hi))) (i.2.2 m _ _ (Ge9 hi) (Tx (i.2.1 ▸ hi)))];exact jh fun x hx=>ji n (Tr.mp i.1 x hx)
abbrev Rq (A:Ux) (s:Tv) (n:Nat) (a:T) (u:Ts) (b:T) (v:Ts):Prop:=SeqAt.RcAt A s u v (vB n a b)/\VN A s u v (vB n a b)
open SeqAt in
theorem Inv.rc (I:Inv X pins φ g L s):∀(n:Nat) {A:Ux} {p q:Option (Ug × Ug)} {a b:T} {u v:Ts},dat n a=true->dat n b=true->A.units+n<cLine->RT g p a u->RT g q b v->Rq A s n a u b v
 | 0,_,_,_,a,_,_,_,h,_,_,_,_=>(Et h).elim
 | n+1,A,_,_,a,b,u,v,ha,hb,hn,ra,rb=>by
  have hu:A.units<cLine:=by omega
  have it:∀{xs ys:List T} {x y:Array Ts},It g n xs x->It g n ys y->∀j (h1:j<x.size) (h2:j<y.size),EqAt A.in1 s x[j] y[j] (vB n (xs.getD j .cb) (ys.getD j .cb)):=fun i k j h1 h2 =>
   (I.rc n (xu i.1 (i.2.1 ▸ h1)) (xu k.1 (k.2.1 ▸ h2)) (by show A.units+1+n<cLine;omega) (i.2.2 j _ _ (getD_at (i.2.1 ▸ h1)) (Tx h1)) (k.2.2 j _ _ (getD_at (k.2.1 ▸ h2)) (Tx h2))).2
  refine I.dv (P:=fun a u=>Rq A s (n+1) a u b v) ?_ ?_ ?_ ?_ ?_ ?_ ha ra
  ·exact I.dv (P:=Rq A s (n+1) .cb .none) ⟨.none_none,.same _⟩ (fun _=>⟨.none_bool _,.none_bool _⟩) (fun _ _=>⟨.none_int _ _,.none_int _ _⟩) (fun _ _=>⟨.none_str _ _,.none_str _ _⟩) (fun _ _ _ h _=>⟨.none_tuple h hu,.none_tuple h hu⟩) (fun _ _ _ h _=>⟨.none_list h hu,.none_list h hu⟩) hb rb
  ·exact fun _=>I.dv (P:=Rq A s (n+1) (.bl _) (.bool _)) ⟨.bool_none _,.bool_none _⟩ (fun _=>⟨.bool_bool _ _,.bool_bool _ _⟩) (fun _ _=>⟨.bool_int _ _ _,.bool_int _ _ _⟩) (fun _ _=>⟨.bool_str _ _ _,.bool_str _ _ _⟩) (fun _ _ _ h _=>⟨.bool_tuple _ h hu,.bool_tuple _ h hu⟩) (fun _ _ _ h _=>⟨.bool_list _ h hu,.bool_list _ h hu⟩) hb rb
  ·exact fun _ _=>I.dv (P:=Rq A s (n+1) (.int _) (.int _ _)) ⟨.int_none _ _,.int_none _ _⟩ (fun _=>⟨.int_bool _ _ _,.int_bool _ _ _⟩) (fun _ _=>⟨.int_int _ _ _ _,.int_int _ _ _ _⟩) (fun _ _=>⟨.int_str _ _ _ _,.int_str _ _ _ _⟩) (fun _ _ _ h _=>⟨.int_tuple _ _ h hu,.int_tuple _ _ h hu⟩) (fun _ _ _ h _=>⟨.int_list _ _ h hu,.int_list _ _ h hu⟩) hb rb
  ·exact fun z _=>I.dv (P:=Rq A s (n+1) (.str z) (.str ⟨z.toArray⟩ _)) ⟨.str_none _ _,.str_none _ _⟩ (fun _=>⟨.str_bool _ _ _,.str_bool _ _ _⟩) (fun _ _=>⟨.str_int _ _ _ _,.str_int _ _ _ _⟩) (fun z2 _=>by
    show RcAt A s _ _ (z == z2)/\EqAt A s _ _ (z == z2);rw [<- str_beq];exact⟨.str_str _ _ _ _,.str_str _ _ _ _⟩) (fun _ _ _ h _=>⟨.str_tuple _ _ h hu,.str_tuple _ _ h hu⟩) (fun _ _ _ h _=>⟨.str_list _ _ h hu,.str_list _ _ h hu⟩) hb rb
  ·exact fun xs d x T1 i=>I.dv (P:=Rq A s (n+1) (.tup xs) (.ref d)) ⟨.tuple_none T1 hu,.tuple_none T1 hu⟩ (fun _=>⟨.tuple_bool _ T1 hu,.tuple_bool _ T1 hu⟩) (fun _ _=>⟨.tuple_int _ _ T1 hu,.tuple_int _ _ T1 hu⟩) (fun _ _=>⟨.tuple_str _ _ T1 hu,.tuple_str _ _ T1 hu⟩) (fun ys b y T2 k=>by
    have:=RcAt.tuples T1 T2 hu (it i k);rw [<- i.2.1,<- k.2.1,ig] at this;refine both this fun e=>?_
    subst e;cases (Sq.eq (k:=true) (j:=true) T1 T2).2;exact i.eq I k) (fun _ _ _ h _=>⟨.tuple_list T1 h hu,.tuple_list T1 h hu⟩) hb rb
  ·exact fun xs d x T1 i=>I.dv (P:=Rq A s (n+1) (.lst xs) (.ref d)) ⟨.list_none T1 hu,.list_none T1 hu⟩ (fun _=>⟨.list_bool _ T1 hu,.list_bool _ T1 hu⟩) (fun _ _=>⟨.list_int _ _ T1 hu,.list_int _ _ T1 hu⟩) (fun _ _=>⟨.list_str _ _ T1 hu,.list_str _ _ T1 hu⟩) (fun _ _ _ h _=>⟨.list_tuple T1 h hu,.list_tuple T1 h hu⟩) (fun ys b y T2 k=>by
    refine both ?_ fun e=>?_
    ·show RcAt A s _ _ (mP (vB n) xs ys)
     rw [<- ig,i.2.1,k.2.1];by_cases hs:x.size=y.size
     ·have:=RcAt.lists T1 T2 hs hu (it i k)
      rw [<- hs];simpa using this
     ·rw [show(x.size == y.size)=false by simpa using hs,Xe];exact RcAt.lists_lengths T1 T2 (by simpa using hs) hu
    ·subst e
     cases (Sq.eq (k:=false) (j:=false) T1 T2).2;exact i.eq I k) hb rb
end
section
variable {X:Cx} {pins:aX} {φ:Fr} {g:G} {L:aa} {s:Tv} {xs ys:List T} {us vs:List Ts}
theorem cu.app (h:cu g xs us) (h2:cu g ys vs):cu g (xs++ys) (us++vs):=by
 induction h with
 | nil=>exact h2
 | cons a _ ih=>exact .cons a ih
theorem xw {w:T} {t':Nat} {h':Heap} {n:Nat} (I:Inv X pins φ g L s) (r:cu g xs us) (hz:xs.length<=T7) (k:∀b u,s.heap.get? b=some u->h'.get? b=some u) {a:Ug} (ha:s.heap.objs.size<=a) (new:h'.get? a=some { cls:=.type "tuple",data:=.seq us.toArray n }) :
  EP X pins φ g (.tup xs) L (.ref a) { s with heap:=h',toks:=t' } :=
 have f:=I.hok.fresh ha
 ⟨_,Le.lay f,I.laid k ha new,r.tup (Le.lay f) (.inl aq) ⟨rfl,rfl⟩ rfl hz⟩
theorem nE (c:Nat):∀(k:Nat) (a:Array Nat),(Ui k (#[c]:Array Nat)).foldl (fun x1 x2=>x1++x2) a=a++(Ui k c).toArray
 | 0,a=>by simp
 | k+1,a=>by
  rw [Zb,XA,nE c k,Zb];apply Array.ext';simp
theorem Eu {fz:Bool} {op:Operator} {x y w:T} {L':aa} (h:aQ fz op x y L=.ok w L'):(∃i j,vw L x=.int i/\vw L y=.int j/\oI op i j L=.ok w L')\/(∃a b,vw L x=.str a/\vw L y=.str b/\op=.Add/\a.length+b.length<=lim/\w=.str (a++b)/\L'=L)\/(∃ch j,vw L x=.str [ch]/\vw L y=.int j/\op=.Mult/\rQ j/\w=.str (Ui j.toNat ch)/\L'=L)\/∃a b,vw L x=.lst a/\vw L y=.lst b/\op=.Add/\eO fz (a++b) L=.ok w L':=by
 unfold aQ at h;generalize vw L x=p at h ⊢;generalize vw L y=q at h ⊢;split at h
 ·split at h
  ·exact .inl ⟨_,_,rfl,rfl,h⟩
  ·cases h
 ·unfold oS at h
  split at h
  ·split at h
   ·obtain⟨c,h⟩:=aA h;cases h;exact .inr (.inl ⟨_,_,rfl,rfl,rfl,c,rfl,rfl⟩)
   ·cases h
  ·split at h
   ·split at h
    ·obtain⟨c,h⟩:=aA h;cases h;exact .inr (.inr (.inl ⟨_,_,rfl,rfl,rfl,c,rfl,rfl⟩))
    ·cases h
   ·cases h
  ·cases h
 ·split at h
  ·split at h
   ·exact .inr (.inr (.inr ⟨_,_,rfl,rfl,rfl,h⟩))
   ·cases h
  ·cases h
 ·cases h
theorem Ew {op:Operator} {i j:Int} {t t':Nat} {w:T} {L':aa} (I:Inv X pins φ g L s) (h:oI op i j L=.ok w L'):TR (model X.prog X.w) X.A (binaryOp op (.int i t) (.int j t')) (EP X pins φ g w L') F0 s:=by
 cases op with
 | Add =>
  cases h;exact add_int ((I.tok _).ep (.int _ _))
 | Sub =>
  cases h;exact sub_int ((I.tok _).ep (.int _ _))
 | Mult =>
  obtain⟨hc,h⟩:=aA h;cases h;refine mul_int ((I.tok _).ep (.int _ _)) ?_;rcases hc with⟨h1,h2⟩|⟨h1,h2⟩
  ·exact .of_left (intBits_le_64 h1 h2)
  ·exact .of_right (intBits_le_64 h1 h2)
 | FloorDiv =>
  obtain⟨hc,h⟩:=aA h;cases h;unfold wQ at hc;exact floordiv_int (by omega) (by rw [Int.fdiv_eq_ediv_of_nonneg i (by omega)];exact(I.tok _).ep (.int _ _)) (.inl (PyProof.noPylong_small (by omega)))
 | Mod =>
  obtain⟨hc,h⟩:=aA h;cases h;exact mod_int' (by omega) (by rw [Int.fmod_eq_emod_of_nonneg i (by omega)];exact(I.tok _).ep (.int _ _))
 | Pow =>
  obtain⟨hc,h⟩:=aA h;cases h;exact pow_int_small hc.1 hc.2.1 hc.2.2 ((I.tok _).ep (.int _ _))
 | _ =>
  cases h
theorem Ex {c:Nat} {n:Int} {t t':Nat} (I:Inv X pins φ g L s) (hc:rQ n):TR (model X.prog X.w) X.A (binaryOp .Mult (.str ⟨[c].toArray⟩ t) (.int n t')) (EP X pins φ g (.str (Ui n.toNat c)) L) F0 s:=by
 unfold rQ at hc;have hl:(⟨[c].toArray⟩:Str).length=1:=rfl
 refine PySem.P.mul_str ?_ (fun a b=>?_) (fun a b=>?_) ?_
 ·have z1:¬ n < -(2 ^ 63:Int):=by omega
  have z2:¬ n≥2 ^ 63:=by omega
  rw [decide_eq_false z1,decide_eq_false z2];rfl
 ·rw [hl]
  have:(1:Int)<=(2 ^ 63 - 1) / n:=by
   rw [Int.le_ediv_iff_mul_le (by omega)];omega
  omega
 ·rw [hl]
  have e:(2:Nat) ^ 24=16777216:=by decide
  unfold Builtin.Str.tooLong T7;exact decide_eq_false (by omega)
 ·by_cases a:n<1
  ·rw [if_pos a]
   refine⟨by decide,(I.tok _).ep ?_⟩;have e:n.toNat=0:=by omega
   rw [e];exact .str [] _ (by decide)
  ·rw [if_neg a]
   by_cases b:(n == 1 || (⟨[c].toArray⟩:Str).length == 0)=true
   ·rw [if_pos b]
    have e1:n=1:=by rw [hl] at b;simpa using b
    subst e1;exact I.ep (.str [c] _ (by show 1<=T7;decide))
   ·rw [if_neg b]
    have e:(⟨(Ui n.toNat (⟨[c].toArray⟩:Str).cps).foldl (· ++ ·) #[]⟩:Str)=⟨(Ui n.toNat c).toArray⟩:=by
     show(⟨(Ui n.toNat (#[c]:Array Nat)).foldl (fun x1 x2=>x1++x2) #[]⟩:Str)=_;rw [nE];simp
    rw [e];have z:(Ui n.toNat c).length<=T7:=by rw [Vb];simp;omega
    exact⟨by show(Ui n.toNat c).toArray.size<=_;simpa using z,(I.tok _).ep (.str _ _ z)⟩
theorem Ey {fz:Bool} {op:Operator}:w6 X (binaryOp op) (aQ fz op):=fun {pins φ g L s x y w L' u v} I rx ry h=>by
 obtain⟨p,vx⟩:=I.view rx;obtain⟨q,vy⟩:=I.view ry;rcases Eu h with⟨i,j,e,e',h⟩|⟨a,b,e,e',rfl,hc,rfl,rfl⟩|⟨c,n,e,e',rfl,hc,rfl,rfl⟩|⟨_,_,e,e',rfl,hm⟩ <;> rw [e] at vx <;> rw [e'] at vy
 ·obtain⟨_,rfl⟩:=vx.iI;obtain⟨_,rfl⟩:=vy.iI;exact Ew I h
 ·obtain⟨_,rfl⟩:=vx.sI;obtain⟨_,rfl⟩:=vy.sI
  have e:(⟨a.toArray⟩:Str)++(⟨b.toArray⟩:Str)=⟨(a++b).toArray⟩:=by
   show(⟨a.toArray++b.toArray⟩:Str)=_;simp
  refine add_str (fun t' tk=>(I.tok _).ep ?_) (by show a.toArray.size+b.toArray.size<=_;simpa using (show a.length+b.length<=T7 from hc));rw [e];exact .str _ _ (by simpa using (show a.length+b.length<=T7 from hc))
 ·obtain⟨_,rfl⟩:=vx.sI;obtain⟨_,rfl⟩:=vy.iI;exact Ex I hc
 ·obtain⟨a,i1,n1,rfl,e1,r1,z1⟩:=I.lst vx
  obtain⟨b,i2,n2,rfl,e2,r2,z2⟩:=I.lst vy;have hz:=ou hm
  have l1:=TV r1;have l2:=TV r2
  refine PySem.P.add_list e1 e2 ?_ (by simp at hz l1 l2;omega);have ea:i1++i2=(i1.toList++i2.toList).toArray:=by simp
  rw [ea];exact jJ (t':=s.toks) I (r1.app r2) hm (fun b u e=>Tj _ e) (Tt _ rfl)
theorem xx {op:Operator}:w6 X (inplaceOp op) (ag op):=fun I rx ry h=>by
 unfold ag at h;split at h
 ·obtain⟨_,rfl⟩:=rx.iI;obtain⟨_,rfl⟩:=ry.iI;cases h;exact iadd_int ((I.tok _).ep (.int _ _))
 ·obtain⟨_,rfl⟩:=rx.iI;obtain⟨_,rfl⟩:=ry.iI;cases h;exact isub_int ((I.tok _).ep (.int _ _))
 ·cases h
theorem Ez {x y:T} {k:Bool} {L':aa} (h:KP x y L=.ok k L'):dat 8 (vw L x)=true/\dat 8 (vw L y)=true/\k=eqT (vw L x) (vw L y)/\L'=L:=by
 obtain⟨⟨a,b⟩,h⟩:=aA h;cases h;exact⟨a,b,rfl,rfl⟩
theorem oz {A:Ux} {x:T} {v:Ts} (I:Inv X pins φ g L s) (hu:A.units+8<cLine) (hx:dat 8 x=true) (rx:RT g none x v) (hy:ys.all (dat 8)=true) (r:cu g ys us):∃e:Ts->Bool,(∀w∈us,VN A s w v (e w))/\(us.any e=ys.any fun y=>eqT y x)/\∀(i:Nat) y w,ys[i]?=some y->us[i]?=some w->e w=eqT y x:=by
 classical
 have uq:∀(i j:Nat) y z w,ys[i]?=some y->us[i]?=some w->ys[j]?=some z->us[j]?=some w->y=z:=fun i j y z w h1 h2 h3 h4 =>
  I.uniq 8 (Tr.mp hy y (Ul h1)) (Tr.mp hy z (Ul h3)) (vH r i y w h1 h2) (vH r j z w h3 h4)
 have hl:=TV r
 let e:Ts->Bool:=fun w=>decide (∃(i:Nat) (y:T),ys[i]?=some y/\us[i]?=some w/\eqT y x=true)
 have ev:∀(i:Nat) y w,ys[i]?=some y->us[i]?=some w->e w=eqT y x:=fun i y w h1 h2=>by
  cases q:eqT y x with
  | true=>exact decide_eq_true ⟨i,y,h1,h2,q⟩
  | false =>
   refine decide_eq_false ?_;rintro⟨j,z,h3,h4,h5⟩;rw [<- uq i j y z w h1 h2 h3 h4,q] at h5;cases h5
 refine⟨e,fun w hw=>?_,?_,ev⟩
 ·obtain⟨i,hi,rfl⟩:=Vr hw
  have e1:=Ge9 (l:=ys) (i:=i) (by omega);have e2:=Ge9 (l:=us) (i:=i) hi
  rw [ev i _ _ e1 e2];exact(I.rc 8 (Tr.mp hy _ (TN (by omega))) hx hu (vH r i _ _ e1 e2) rx).2
 ·rw [Vo,Vk,Vk]
  constructor
  ·rintro⟨w,hw,h⟩
   obtain⟨i,hi,rfl⟩:=Vr hw;exact⟨ys[i]'(by omega),TN _,by rw [<- ev i _ _ (Ge9 (by omega)) (Ge9 hi)];exact h⟩
  ·rintro⟨y,hy,h⟩
   obtain⟨i,hi,rfl⟩:=Vr hy;exact⟨us[i]'(by omega),TN _,by rw [ev i _ _ (Ge9 hi) (Ge9 (by omega))];exact h⟩
theorem ug {ch:Nat} {b:Cs}:(!(Builtin.Str.occurrences ⟨b.toArray⟩ ⟨[ch].toArray⟩ 0 (⟨b.toArray⟩:Str).length 1).isEmpty)=decide (ch∈b):=by
 have:=StrLaws.found_one ⟨b.toArray⟩ ch;simpa using this
theorem xy {x:T} {v:Ts} (r:RT g none x v):(v == U2)=KU x:=by cases r <;> rfl
end
section
variable {prog:UU} {w:VL} {A:Ux} {E:Ts->Tv->Prop} {s:Tv}
theorem A3 (n d:Nat) (hd:d<=n) (o:Option Int):clip n d o<=n:=by
 cases o with
 | none=>exact hd
 | some v =>
  show(if v<0 then (v+(n:Int)).toNat else min v.toNat n)<=n;by_cases hv:v<0
  ·rw [if_pos hv];omega
  ·rw [if_neg hv];exact Xm _ _
theorem uh (v:Int) (n d:Nat):(if v<0 then max (v+(n:Int)) 0 else min v (n:Int))=((clip n d (some v):Nat):Int):=by
 show(if v<0 then max (v+(n:Int)) 0 else min v (n:Int))=(((if v<0 then (v+(n:Int)).toNat else min v.toNat n):Nat):Int);by_cases hv:v<0
 ·simp only [if_pos hv];omega
 ·simp only [if_neg hv];omega
theorem sx (lo hi:Option Int) (n:Nat):WI lo hi 1 (n:Int)=(((clip n 0 lo:Nat):Int),((clip n n hi:Nat):Int)):=by
 have h1:¬ ((1:Int)<0):=by omega
 unfold WI;simp only [h1,if_false];refine Prod.ext ?_ ?_
 ·cases lo with
  | none=>rfl
  | some v=>exact uh v n 0
 ·cases hi with
  | none=>rfl
  | some v=>exact uh v n n
theorem sy (i j:Nat):VW (i:Int) (j:Int) 1=j - i:=by
 unfold VW;have h1:(1:Int) > 0:=by omega
 simp only [h1,if_true,Int.ediv_one];split <;> omega
theorem lK {v:Ts} {o:Option Int} {Q:Option Int->Tv->Prop} (p:IsPart v o) (h:Q o s):TR (model prog w) A (Builtin.Slice.slicePartIndex v) Q E s:=by
 cases p with
 | none=>exact slicePart_none h
 | int i t=>exact slicePart_int h
theorem fJ {sl:Ug} {vl vu:Ts} {lo hi:Option Int} {n:Nat} {Q:Int × Int × Nat->Tv->Prop} (hs:s.heap.IsSliceOf sl vl vu .none) (pl:IsPart vl lo) (pu:IsPart vu hi)
  (h:Q (((clip n 0 lo:Nat):Int),1,clip n n hi - clip n 0 lo) s):TR (model prog w) A (XI (.ref sl) (pure (n:Int))) Q E s:=by
 obtain⟨os,AS,K2,HU⟩:=id hs;unfold XI Builtin.Slice.sliceFields;refine Ti (Ti (wpAny_field AS HU (x:=vl) rfl (Ti (wpAny_field AS HU (x:=vu) rfl (Ti (wpAny_field AS HU (x:=.none) rfl (Tn ?_)))))));refine Ti (slicePart_none ?_);show TR _ _ (if ((1:Int) == 0)=true then _ else _) _ _ s
 rw [if_neg (by decide)];refine Ti (lK pl (Ti (lK pu (Ti (Tn ?_)))));show TR _ _ (match WI lo hi 1 (n:Int) with|(lo,hi)=>pure (lo,(1:Int),VW lo hi 1)) _ _ s
 rw [sx lo hi n];show TR _ _ (pure (((clip n 0 lo:Nat):Int),(1:Int),VW ((clip n 0 lo:Nat):Int) ((clip n n hi:Nat):Int) 1)) _ _ s
 rw [sy];exact Tn h
theorem xA (xs:Array Ts) (i k:Nat):((UE k).filterMap fun(m:Nat)=>xs[((i:Int)+(m:Int) * 1).toNat]?).toArray=((xs.toList.drop i).take k).toArray:=by
 have e:(fun(m:Nat)=>xs[((i:Int)+(m:Int) * 1).toNat]?)=fun m=>xs[i+m]?:=by
  funext m;have:((i:Int)+(m:Int) * 1).toNat=i+m:=by omega
  rw [this]
 rw [e];have:=pick_run xs i k
 rw [List.filterMap_map] at this;have e2:((fun x=>xs[x]?) ∘ fun x=>i+x)=fun m=>xs[i+m]?:=rfl
 rw [e2] at this;rw [this]
theorem jj {t sl:Ug} {items:Array Ts} {vl vu:Ts} {lo hi:Option Int} {Q:Ts->Tv->Prop} (ht:IsTup s.heap t items) (hs:s.heap.IsSliceOf sl vl vu .none) (pl:IsPart vl lo) (pu:IsPart vu hi)
  (hw:¬ (clip items.size 0 lo=0/\clip items.size items.size hi=items.size))
  (h:Q (.ref s.heap.objs.size) { s with heap:=s.heap.push { cls:=.type "tuple",data:=.seq ((items.toList.drop (clip items.size 0 lo)).take (clip items.size items.size hi - clip items.size 0 lo)).toArray } })
  (hsz:items.size<=T7):TR (model prog w) A (getItem (.ref t) (.ref sl)) Q E s:=by
 have ui:sizeOk (.seq ((items.toList.drop (clip items.size 0 lo)).take (clip items.size items.size hi - clip items.size 0 lo)).toArray):=by
  show((items.toList.drop (clip items.size 0 lo)).take (clip items.size items.size hi - clip items.size 0 lo)).toArray.size<=T7;rw [U8,Ur,Uo,U3];omega
 have hj:clip items.size items.size hi<=items.size:=A3 _ _ (TK _) hi;obtain⟨os,AS,K2,HU⟩:=id hs;have Ar:s.TypeIs (.ref sl) "slice":=⟨os,AS,K2⟩
 unfold getItem
 try with_reducible refine wpAny_holding ?_
 first|refine Ti (Tn ?_)|skip
 refine Ti (wpAny_sequenceKey ht.typeIs (by decide) ?_);refine Ti (wpAny_callSpecial?_slot (name:=Vd "__getitem__") ht.typeIs Va
  (wpAny_call_entry Va ht.typeIs entry_tuple_getitem ?_ (args_tuple_getitem _ _)))
 show TR _ _ (Wz (.ref t) >>= _) _ _ s;refine Ti (tupleItemsOf_ ht ?_);refine Ti (wpAny_typeOf Ar ?_);rw [if_pos (by decide)];refine Ti (fJ hs pl pu ?_);have j4:¬ ((((clip items.size 0 lo:Nat):Int) == 0 && (1:Int) == 1 && (clip items.size items.size hi - clip items.size 0 lo) == items.size)=true):=by
  intro q;rw [Tw,Tw] at q;have q1:((clip items.size 0 lo:Nat):Int)=0:=eq_of_beq q.1.1
  have q2:clip items.size items.size hi - clip items.size 0 lo=items.size:=eq_of_beq q.2;exact hw ⟨by omega,by omega⟩
 show TR _ _ (if (((clip items.size 0 lo:Nat):Int) == 0 && (1:Int) == 1 && (clip items.size items.size hi - clip items.size 0 lo) == items.size)=true then _ else _) _ _ s;rw [if_neg j4,xA]
 first
  | exact Ti (m:=VZ _) (wpAny_newObj_type (Tn ⟨_,rfl,Tn h⟩) ui)
  | exact Ti (m:=VZ _) (wpAny_newObj_type (Ti (Tn (Tn ⟨_,rfl,Tn h⟩))) ui)
  | exact Ti (Ti (m:=VZ _) (wpAny_newObj_type (Tn (Tn ⟨_,rfl,Tn h⟩)) ui))
  | exact Ti (Ti (m:=VZ _) (wpAny_newObj_type (Tn ⟨_,rfl,Tn h⟩) ui))
theorem jk {t sl:Ug} {items:Array Ts} {vl vu:Ts} {lo hi:Option Int} {Q:Ts->Tv->Prop} (ht:IsTup s.heap t items) (hs:s.heap.IsSliceOf sl vl vu .none) (pl:IsPart vl lo) (pu:IsPart vu hi)
  (hw:clip items.size 0 lo=0/\clip items.size items.size hi=items.size) (h:Q (.ref t) s):TR (model prog w) A (getItem (.ref t) (.ref sl)) Q E s:=by
 obtain⟨os,AS,K2,HU⟩:=id hs;have Ar:s.TypeIs (.ref sl) "slice":=⟨os,AS,K2⟩
 unfold getItem
 try with_reducible refine wpAny_holding ?_
 first|refine Ti (Tn ?_)|skip
 refine Ti (wpAny_sequenceKey ht.typeIs (by decide) ?_);refine Ti (wpAny_callSpecial?_slot (name:=Vd "__getitem__") ht.typeIs Va
  (wpAny_call_entry Va ht.typeIs entry_tuple_getitem ?_ (args_tuple_getitem _ _)))
 show TR _ _ (Wz (.ref t) >>= _) _ _ s;refine Ti (tupleItemsOf_ ht ?_);refine Ti (wpAny_typeOf Ar ?_);rw [if_pos (by decide)];refine Ti (fJ hs pl pu ?_);have LV:(((clip items.size 0 lo:Nat):Int) == 0 && (1:Int) == 1 && (clip items.size items.size hi - clip items.size 0 lo) == items.size)=true:=by
  rw [hw.1,hw.2];simp
 show TR _ _ (if (((clip items.size 0 lo:Nat):Int) == 0 && (1:Int) == 1 && (clip items.size items.size hi - clip items.size 0 lo) == items.size)=true then _ else _) _ _ s;rw [if_pos LV];unfold Builtin.Tuple.tupleIsExact;refine Ti (Ti (wpAny_typeOf ht.typeIs (Tn ?_)));rw [if_pos (by decide)];refine Ti (wpAny_rule ?_)
 first
  | exact Tn ⟨_,rfl,Tn h⟩
  | exact Ti (Tn (Tn ⟨_,rfl,Tn h⟩))
end
theorem oA (lo hi:Option Int) (n:Nat):(sliceBounds lo hi none n).1=((clip n 0 lo:Nat):Int)/\(sliceBounds lo hi none n).2.1=((clip n n hi:Nat):Int)/\(sliceBounds lo hi none n).2.2=1:=by
 refine⟨?_,?_,rfl⟩
 ·cases lo with
  | none=>simp [sliceBounds,clip]
  | some i =>
   simp only [sliceBounds,clip,YE,show(1:Int) > 0 by decide,if_true];by_cases h:i<0
   ·simp only [h,if_true] <;> omega
   ·simp only [h,if_false] <;> omega
 ·cases hi with
  | none=>simp [sliceBounds,clip]
  | some i =>
   simp only [sliceBounds,clip,YE,show(1:Int) > 0 by decide,if_true];by_cases h:i<0
   ·simp only [h,if_true] <;> omega
   ·simp only [h,if_false] <;> omega
theorem m4 (its:List Ts) (lo hi:Option Int):slicePick its.toArray lo hi none=((its.drop (clip its.length 0 lo)).take (clip its.length its.length hi - clip its.length 0 lo)).toArray:=by
 obtain⟨h1,h2,h3⟩:=oA lo hi its.toArray.size;unfold slicePick;rw [h1,h2,h3];simp only [sliceRange_one,pick_run,U8] <;> rfl
section
variable {X:Cx} {pins:aX} {φ:Fr} {g:G} {L:aa} {s:Tv} {xs ys:List T} {us vs:List Ts} {e a b:Expr} {m ma mb:SE} {pos p2:Pos}
theorem lL {n:Nat} {i:Int} {j:Nat} (h:place n i=some j):seqIndex? i n=some j/\j<n/\-(n:Int)<=i/\i<n/\((0<=i/\i.toNat=j)\/(i<0/\(i+n).toNat=j)):=by
 unfold place at h;by_cases h0:0<=i
 ·rw [if_pos h0] at h
  by_cases h1:i<n
  ·rw [if_pos h1] at h
   cases h;exact⟨PySem.StrLaws.seqIndex_nonneg h0 h1,by omega,by omega,h1,.inl ⟨h0,rfl⟩⟩
  ·rw [if_neg h1] at h;cases h
 ·rw [if_neg h0] at h
  by_cases h1:-(n:Int)<=i
  ·rw [if_pos h1] at h
   cases h;exact⟨seqIndex_neg (by omega) h1,by omega,h1,by omega,.inr ⟨by omega,rfl⟩⟩
  ·rw [if_neg h1] at h;cases h
noncomputable def vP:Expr->Bool
 | .Slice ..=>false
 | _=>true
theorem xB (h:vP b=true):∀o i,subscripted b false o i=operate [o,i] (getItem o i):=fun o i=>by
 cases b <;> first|rfl|cases h
theorem sA:(T7:Nat)<2 ^ 63:=by rw [Vb];decide
theorem ij {o:Option T} {w:T} {L':aa} (h:lift o L=.ok w L'):o=some w/\L'=L:=by
 cases o with
 | none=>cases h
 | some t=>cases h;exact⟨rfl,rfl⟩
noncomputable def PO (X:Cx) (e:Option Expr) (m:Option SE):Prop:=∀{pins:aX} {φ:Fr} {g:G} {L:aa} {s:Tv} {o:Option Int} {L':aa},Inv X pins φ g L s->DK m φ L=.ok o L'->TR (model X.prog X.w) X.A (evalPart e X.env) (fun u s'=>∃g',Le g g'/\Inv X pins φ g' L' s'/\IsPart u o) F0 s
theorem A6:PO X none none:=fun I h=>by cases h;rw [evalPart_none];exact Tn ⟨_,.refl _,I,.none⟩
theorem A7 (h:PE X e m):PO X (some e) (some m):=fun I q=>by
 obtain⟨t,L1,e1,q⟩:=R.of q;cases t <;> first|cases q|skip
 rw [evalPart_some];exact thn (h I e1) fun u s1 ⟨g1,l1,I1,r1⟩=>by obtain⟨_,rfl⟩:=r1.iI;exact⟨g1,l1,I1,.int _ _⟩
theorem cu.drop (h:cu g xs us):∀n,cu g (xs.drop n) (us.drop n):=by
 induction h with
 | nil=>intro n;simp;exact .nil
 | cons a b ih=>intro n;cases n with
  | zero=>exact .cons a b
  | succ n=>simpa using ih n
theorem cu.take (h:cu g xs us):∀n,cu g (xs.take n) (us.take n):=by
 induction h with
 | nil=>intro n;simp;exact .nil
 | cons a b ih=>intro n;cases n with
  | zero=>exact .nil
  | succ n=>simp;exact .cons a (ih n)
theorem A8 {α:Type} (xs:List α) (lo hi:Option Int):(cut xs lo hi).length<=xs.length:=by
 unfold cut;rw [Ur,Uo];omega
theorem part_of {v:Ts} {o:Option Int} (p:IsPart v o):∃q:Option (Int × Tok),v=partValue q/\q.map (·.1)=o:=by
 cases p with
 | none=>exact⟨none,rfl,rfl⟩
 | int i t=>exact⟨some (i,t),rfl,rfl⟩
theorem EA {fz:Bool} {x w:T} {u vl vu:Ts} {lo hi:Option Int} {sl:Ug} {L':aa} (I:Inv X pins φ g L s) (rx:RT g none x u) (hs:s.heap.IsSliceOf sl vl vu .none) (pl:IsPart vl lo) (pu:IsPart vu hi) (h:iH fz x lo hi L=.ok w L') :
  ∃T id,typeLookup (.type T) "__getitem__"=pure (some (.builtin id))/\s.TypeIs u T/\TR (model X.prog X.w) X.A (getItem u (.ref sl)) (EP X pins φ g w L') F0 s:=by
 obtain⟨p,vx⟩:=I.view rx;unfold iH at h;generalize vw L x=x' at h vx;cases x' with
 | str z =>
  match lo,hi,pl,pu,h with
  | some i,some j,pl,pu,h =>
   obtain⟨⟨h0,h1,h2⟩,h⟩:=aA h;cases h;cases vx with
   | str _ t hz =>
    obtain⟨ql,rfl,el⟩:=part_of pl;obtain⟨qu,rfl,eu⟩:=part_of pu;refine⟨"str",_,F.slot_str_getitem.lookup,typeIs_str _ _ _,wpAny_getItem_str_slice (l:=ql) (u:=qu) (st:=none) hs rfl ?_⟩;have e:sliceMade ⟨z.toArray⟩ t ql qu none=if ((1:Int) == 1 && (XC (some i) (some j) 1 (⟨z.toArray⟩:Str).length).length == (⟨z.toArray⟩:Str).length)=true then .val (.str ⟨z.toArray⟩ t) else .str ⟨((XC (some i) (some j) 1 (⟨z.toArray⟩:Str).length).filterMap ((⟨z.toArray⟩:Str).cps[·]?)).toArray⟩:=by
     unfold sliceMade slicePicked;rw [el,eu];rfl
    rw [e];have hlen:(⟨z.toArray⟩:Str).length=z.length:=by show z.toArray.size=_;simp
    have es:Zz ⟨z.toArray⟩ (some i) (some j)=⟨((z.drop i.toNat).take (j - i).toNat).toArray⟩:=by
     have e:=eq_of_beq (slice_closesL (x:=⟨z.toArray⟩) h0 h1 (by rw [hlen];exact h2));have e2:(Zz ⟨z.toArray⟩ (some i) (some j)).cps.toList=(z.drop i.toNat).take (j - i).toNat:=by rw [e]
     have e3:∀z:Str,z=⟨z.cps.toList.toArray⟩:=fun z=>by cases z;simp
     rw [e3 (Zz ⟨z.toArray⟩ (some i) (some j)),e2]
    have K3:((z.drop i.toNat).take (j - i).toNat).length<=T7:=by rw [Ur,Uo];omega
    exact post_val_or_str ⟨TU (Txt.slice_le _ _ _) (by rw [hlen];exact hz),fun t' k=>(I.tok _).ep (by show RT g none _ (Xh (Zz ⟨z.toArray⟩ (some i) (some j)) t');rw [es];exact .str _ _ K3)⟩
 | tup xs =>
  cases h;obtain⟨a,its,rfl,ht,r,hz⟩:=I.tupP vx;have hlen:its.size=xs.length:=by have:=TV r;simp at this;omega
  refine⟨"tuple",_,Va.lookup,ht.typeIs,?_⟩;by_cases hw:clip its.size 0 lo=0/\clip its.size its.size hi=its.size
  ·refine jk ht hs pl pu hw (I.ep ?_)
   have e:cut xs lo hi=xs:=by
    unfold cut;rw [hlen] at hw;rw [hw.1,hw.2];simp
   rw [e];exact vx.tI.1
  ·refine jj ht hs pl pu hw ?_ (by rw [hlen];exact hz)
   rw [hlen];exact xw (w:=.cb) (t':=s.toks) I ((r.drop _).take _) (TU (A8 xs lo hi) hz) (fun b u e=>Tj _ e) (TK _) (Tt _ rfl)
 | lst xs =>
  obtain⟨a,its,n,rfl,e,r,hz⟩:=I.lst vx;have hlen:its.size=xs.length:=by have:=TV r;simp at this;omega
  refine⟨"list",_,slot_list_getitem.lookup,(af e).typeIs,?_⟩;refine wpAny_getItem_list_slice (af e) hs pl pu .none (by simp) ?_ (by omega);rw [show its=its.toList.toArray by simp,m4,U3,hlen];exact jJ (t':=s.toks) I ((r.drop _).take _) h (fun b u e=>Tj _ e) (Tt _ rfl)
 | _=>cases h
theorem EB {fz:Bool} {lo hi:Option Expr} {ml mh:Option SE} (he:PE X e m) (hl:PO X lo ml) (hh:PO X hi mh):PE X (.Subscript e (.Slice lo hi none p2) pos) (sl fz m ml mh):=fun I h=>by
 obtain⟨x,L1,e1,h⟩:=R.of h;obtain⟨l,L2,e2,h⟩:=R.of h;obtain⟨r,L3,e3,h⟩:=R.of h;refine Subscript_ (thn (he I e1) fun v s1 ⟨g1,l1,I1,r1⟩=>wpAny_Slice (thn (hl I1 e2) fun vl s2 ⟨g2,l2,I2,pl⟩=>thn (hh I2 e3) fun vu s3 ⟨g3,l3,I3,pu⟩=>?_));rw [evalPart_none];refine Tn ?_;have I4:=I3.kept (h':=s3.heap.push { cls:=.type "slice",data:=.fields #[vl,vu,.none] }) (t':=s3.toks) fun b ob q=>Tj _ q
 obtain⟨T,id,hT,ht,hg⟩:=EA I4 (r1.le (l2.trans l3)) (Heap.IsSliceOf.new ..) pl pu h;exact tail_any (ops:=[.ref s3.heap.objs.size,v]) ht hT (thn hg fun _ _ z=>z.le ((l1.trans l2).trans l3)) (by with_unfolding_all rfl)
end
section
variable {X:Cx} {pins:aX} {φ:Fr} {g:G} {L L':aa} {s:Tv} {xs ys:List T} {us vs:List Ts} {e o:Expr} {es:List Expr} {m:SE} {ms:List SE} {pos p apos:Pos} {x:Str} {F:Fn} {t w:T} {u v:Ts}
theorem EC (hc:∃f,bootBuiltins x=some f/\cU X f F/\((∃id,f=.builtin id)\/∃T,f=.type T)) (hg:Gl X x) (hm:X.mg x=none) (hn:x≠"__name__") (HR:(x == ("__debug__":Str))=false) (ha:PA X (e::es) (ib ms)) (hs:(e::es).all aY=true):PE X (.Call (.Name x p) (e::es) [] pos) (ae F ms):=fun I h=>by
 obtain⟨ts,L1,e1,h⟩:=R.of h;obtain⟨f,hv,hF,hk⟩:=hc;rw [UG,Tw] at hs;refine wpAny_Call_Name_kw (fu I hg hm hv ?_ hn HR);have A:=thn (E:=F0) (Q':=fun us s1=>TR (model X.prog X.w) X.A (call f us) (EP X _ _ _ _ _) F0 s1) (ha pos I e1) fun us s1 ⟨g1,l1,I1,r1⟩=>thn (hF I1 r1 h) fun _ _ z=>z.le l1
 rcases hk with⟨id,rfl⟩|⟨T,rfl⟩
 ·exact callWith_builtin1 A (ay hs.1) (bM hs.2)
 ·exact callWith_type1 A (ay hs.1) (bM hs.2)
theorem bF (r:cu g [t] us):∃u,us=[u]/\RT g none t u:=by
 cases r with|cons a b=>cases b;exact⟨_,rfl,a⟩
theorem iQ {t1 t2:T} (r:cu g [t1,t2] us):∃u1 u2,us=[u1,u2]/\RT g none t1 u1/\RT g none t2 u2:=by
 cases r with|cons a b=>obtain⟨u,rfl,c⟩:=bF b;exact⟨_,_,rfl,a,c⟩
theorem str_len {z:Cs}:(⟨z.toArray⟩:Str).length=z.length:=by show z.toArray.size=_;simp
theorem xC:cU X (.builtin "len") bL:=fun {_ _ _ _ _ xs _ _ _} I r h=>by
 have hn:=sA;unfold bL at h;split at h
 ·obtain⟨u,rfl,ru⟩:=bF r
  obtain⟨p,v⟩:=I.view ru;split at h
  ·rename_i ev
   cases h;rw [ev] at v;obtain⟨t,rfl,hz⟩:=v.iM;refine len_str (by rw [str_len];omega) ?_;rw [str_len];exact(I.tok _).ep (.int _ _)
  ·rename_i ev
   cases h;rw [ev] at v;obtain⟨a,its,rfl,e,rr,hz⟩:=I.tupP v;have hl:=TV rr
   exact len_tuple e (by simp at hl;omega) (by rw [show its.size=_ from by simpa using hl.symm];exact(I.tok _).ep (.int _ _))
  ·rename_i ev
   cases h;rw [ev] at v;obtain⟨a,its,n,rfl,e,rr,hz⟩:=I.lst v;have hl:=TV rr
   exact Calls.call_len_list (af e) (by simp at hl;omega) (by rw [show its.size=_ from by simpa using hl.symm];exact(I.tok _).ep (.int _ _))
  ·cases h
 ·cases h
theorem Inv.seq {q:Option (Ug × Ug)} (I:Inv X pins φ g L s) (r:RT g q t u) (h:t=.lst xs\/t=.tup xs):∃a its o n T,u=.ref a/\s.heap.get? a=some o/\o.cls=.type T/\o.data=.seq its n/\(T="list"\/T="tuple")/\cu g xs its.toList/\its.size=xs.length/\xs.length<=T7:=by
 rcases h with rfl|rfl
 ·obtain⟨a,its,n,rfl,e,rr,hz⟩:=I.lst r
  exact⟨a,its,_,n,_,rfl,e,rfl,rfl,.inl rfl,rr,by simpa using (TV rr).symm,hz⟩
 ·obtain⟨a,its,rfl,⟨o,ho,hc,n,hd⟩,rr,hz⟩:=I.tupP r
  exact⟨a,its,o,n,_,rfl,ho,hc,hd,.inr rfl,rr,by simpa using (TV rr).symm,hz⟩
theorem uj {fz:Bool} (I:Inv X pins φ g L s) (ru:RT g none t u) (ht:vw L t=.lst xs\/vw L t=.tup xs) (h:eO fz xs L=.ok w L'):TR (model X.prog X.w) X.A (call (.type "list") [u]) (EP X pins φ g w L') F0 s:=by
 obtain⟨p,v⟩:=I.view ru;obtain⟨a,its,o,n,T,rfl,ho,hc,hd,hT,rr,hl,hz⟩:=I.seq v ht;exact call_list_seq a hT ho hc hd (fun h' c' kp e=>jJ (t':=s.toks) (n:=c') I rr h kp (by simpa using e)) (by omega)
theorem xD:cU X (.type "tuple") iK:=fun {_ _ _ _ s _ _ _ _} I r h=>by
 unfold iK at h;split at h
 ·obtain⟨u,rfl,ru⟩:=bF r
  obtain⟨p,v⟩:=I.view ru;split at h
  ·rename_i ev
   rw [ev] at v;cases h;obtain⟨a,its,rfl,e,rr,hz⟩:=I.tupP v;exact call_tuple_same e (I.ep v.tI.1)
  ·rename_i ev
   rw [ev] at v;cases h;obtain⟨a,its,n,rfl,e,rr,hz⟩:=I.lst v;have hl:=TV rr
   refine call_tuple_list (af e) (fun h' kp=>?_) (by simp at hl;omega);have J:=I.kept (t':=s.toks) kp
   exact xw (w:=.cb) (t':=s.toks) (n:=0) J rr hz (fun b o e=>Tj _ e) (TK _) (by simpa using Tt h' (o:={ cls:=.type "tuple",data:=.seq its }) rfl)
  ·cases h
 ·cases h
theorem um {α:Type} {f:T->Option α}:∀{ys:List T} {bs:List α},ys.mapM f=some bs->ys.length=bs.length/\∀(i:Nat) y,ys[i]?=some y->∃b,bs[i]?=some b/\f y=some b
 | [],bs,h=>by simp at h;subst h;exact⟨rfl,fun i y e=>by simp at e⟩
 | y::ys,bs,h=>by
  rw [VF] at h;cases e1:f y with
  | none=>rw [e1] at h;cases h
  | some b =>
   rw [e1] at h;cases e2:ys.mapM f with
   | none=>rw [e2] at h;cases h
   | some r =>
    rw [e2] at h;have h:some (b::r)=some bs:=h
    cases h;obtain⟨h1,h2⟩:=um e2;refine⟨by simp [h1],fun i z e=>?_⟩;cases i with
    | zero=>cases e;exact⟨b,rfl,e1⟩
    | succ i=>exact h2 i z (by simpa using e)
theorem sC {α:Type} {f:T->Option α} {k:List α->T} (I:Inv X pins φ g L s) (r:cu g xs us) (h:AD f k xs L=.ok w L'):∃a its n bs,us=[.ref a]/\L'=L/\w=k bs/\s.heap.get? a=some { cls:=.type "list",data:=.seq its n }/\its.size=bs.length/\a<s.heap.objs.size /\
  ∀(i:Nat) v,its[i]?=some v->∃b y,bs[i]?=some b/\f y=some b/\RT g none y v:=by
 unfold AD at h;split at h
 ·obtain⟨u,rfl,ru⟩:=bF r
  obtain⟨p,v⟩:=I.view ru;split at h
  ·rename_i ev
   rw [ev] at v;obtain⟨q,rfl⟩:=ij h;obtain⟨bs,q2,rfl⟩:=TG.mp q;obtain⟨h1,h2⟩:=um q2;obtain⟨a,its,n,rfl,e,rr,hz⟩:=I.lst v;have hl:=TV rr
   refine⟨a,its,n,bs,rfl,rfl,rfl,e,by simp at hl;omega,T3 e,fun i v hv=>?_⟩;have hi:=(WA.mp hv).1
   have e1:=Ge9 (l:=_) (i:=i) (show i<_ from by rw [hl];simpa using hi);obtain⟨b,b1,b2⟩:=h2 i _ e1;exact⟨b,_,b1,b2,vH rr i _ v e1 (by simpa using hv)⟩
  ·cases h
 ·cases h
theorem all_range (bs:List Bool):((UE bs.length).all fun i=>(bs[i]?).getD true)=bs.all id:=by
 rw [Vo,Tr,Tr];constructor
 ·intro h b hb
  obtain⟨i,hi,rfl⟩:=Vr hb;have z:=h i (UC.mpr hi)
  simpa [hi] using z
 ·intro h i hi
  have hi':=UC.mp hi;have z:=h _ (TN hi')
  simpa [hi'] using z
theorem any_range (bs:List Bool):((UE bs.length).any fun i=>(bs[i]?).getD true)=bs.any id:=by
 rw [Vo,Vk,Vk];constructor
 ·rintro⟨i,hi,h⟩
  have hi':=UC.mp hi;exact⟨bs[i],TN hi',by simpa [hi'] using h⟩
 ·rintro⟨b,hb,h⟩
  obtain⟨i,hi,rfl⟩:=Vr hb;exact⟨i,UC.mpr hi,by simpa [hi] using h⟩
theorem Inv.over {h':Heap} {tk:Nat} {o:Obj} (I:Inv X pins φ g L s) (hk:∀b ob,b∉[s.heap.objs.size]->(s.heap.push o).get? b=some ob->h'.get? b=some ob):Inv X pins φ g L { s with heap:=h',toks:=tk } :=
 I.kept fun b ob e=>hk b ob (fun hm=>by rw [TY.mp hm] at e;exact Vg _ (T3 e)) (Tj _ e)
theorem xE {y:T} {b:Bool} {v:Ts} (h:Hc y=some b) (r:RT g none y v):v=.bool b:=by
 cases r <;> cases h;rfl
theorem ED {y:T} {b:Int} {v:Ts} (h:LC y=some b) (r:RT g none y v):∃t,v=.int b t:=by
 cases r <;> cases h;exact⟨_,rfl⟩
theorem EE {y:T} {b:Cs} {v:Ts} (h:Hd y=some b) (r:RT g none y v):∃t,v=.str ⟨b.toArray⟩ t/\b.length<=T7:=by
 cases y <;> cases h;exact r.iM
theorem xF:cU X (.builtin "all") p4:=fun {_ _ _ _ s _ _ _ _} I r h=>by
 obtain⟨a,its,n,bs,rfl,rfl,rfl,e,hl,bD,hi⟩:=sC I r h;refine call_all_walk (wpAny_pyIter_list (af e) ?_);refine⟨s.heap.objs.size,[s.heap.objs.size,a],[s.heap.objs.size],its.size,_,_,fun i=>(bs[i]?).getD true,rfl,Walks.list (A:=X.A.in1) I.ok.hd _ a (Ub bD) its,
  ⟨⟨_,Tt _ rfl,rfl,rfl⟩,(af e).push _⟩,fun i v s' Q' E' hP hQ=>?_,fun h' tk hk=>?_⟩
 ·obtain⟨b,y,b1,b2,b3⟩:=hi i v hP
  rw [xE b2 b3];simp only [b1,VM] at hQ;exact wpAny_truthy_bool hQ
 ·rw [hl,all_range]
  exact(I.over hk).ep (.bl _)
theorem xG:cU X (.builtin "any") vF:=fun {_ _ _ _ s _ _ _ _} I r h=>by
 obtain⟨a,its,n,bs,rfl,rfl,rfl,e,hl,bD,hi⟩:=sC I r h;refine call_any_walk (wpAny_pyIter_list (af e) ?_);refine⟨s.heap.objs.size,[s.heap.objs.size,a],[s.heap.objs.size],its.size,_,_,fun i=>(bs[i]?).getD true,rfl,Walks.list (A:=X.A.in1) I.ok.hd _ a (Ub bD) its,
  ⟨⟨_,Tt _ rfl,rfl,rfl⟩,(af e).push _⟩,fun i v s' Q' E' hP hQ=>?_,fun h' tk hk=>?_⟩
 ·obtain⟨b,y,b1,b2,b3⟩:=hi i v hP
  rw [xE b2 b3];simp only [b1,VM] at hQ;exact wpAny_truthy_bool hQ
 ·rw [hl,any_range]
  exact(I.over hk).ep (.bl _)
theorem uo (l:List Int):∀j,preSum (fun i=>l.getD i 0) j=(l.take j).sum
 | 0=>by simp [preSum]
 | j+1=>by
  rw [preSum,uo l j];by_cases h:j<l.length
  ·rw [Y9,List.sum_append,Gd9,Ge9 h];simp
  ·rw [UA (by omega),UA (by omega),Gd9,Vv (by omega)];simp
theorem xH:cU X (.builtin "sum") wW:=fun {_ _ _ _ s _ _ _ _} I r h=>by
 obtain⟨a,its,n,bs,rfl,rfl,rfl,e,hl,bD,hi⟩:=sC I r h;refine call_sum_walkG (wpAny_pyIter_list (af e) ?_);refine⟨s.heap.objs.size,[s.heap.objs.size,a],[s.heap.objs.size],its.size,_,_,fun i=>bs.getD i 0,rfl,Walks.list (A:=X.A.in1) I.ok.hd _ a (Ub bD) its,
  ⟨⟨_,Tt _ rfl,rfl,rfl⟩,(af e).push _⟩,fun b hb=>?_,fun i v hP=>?_,fun h' tk t' hk=>?_⟩
 ·show b<(s.heap.push _).objs.size
  rw [UM];rcases(by simpa using hb:b=s.heap.objs.size\/b=a) with e|e <;> rw [e]
  ·exact Vh _
  ·exact UK bD
 ·obtain⟨b,y,b1,b2,b3⟩:=hi i v hP
  simp only [Gd9,b1];exact ED b2 b3
 ·rw [hl,uo,List.take_length]
  exact(I.over hk).ep (.int _ _)
theorem xI:cU X (.type "str") rV:=fun I r h=>by
 unfold rV at h;split at h
 ·obtain⟨⟨h1,h2⟩,h⟩:=aA h
  cases h;obtain⟨u,rfl,ru⟩:=bF r;obtain⟨_,rfl⟩:=ru.iI;exact PySem.P.str_of_int h1 ((I.tok _).ep (.str _ _ h2))
 ·cases h
theorem xJ:cU X (.type "int") vG:=fun I r h=>by
 unfold vG at h;split at h
 ·obtain⟨u,rfl,ru⟩:=bF r
  obtain⟨t,rfl,hz⟩:=ru.iM;split at h
  ·obtain⟨h1,h⟩:=aA h
   cases h;exact PySem.W.KIN.call_text (by assumption) (by rw [str_len];exact h1) ((I.tok _).ep (.int _ _))
  ·cases h
 ·cases h
theorem HV {xs:List T} {w:T} {L':aa} (h:He xs L=.ok w L'):∃x n,xs=[x,.cl (.type n)]/\KZ L n x=.ok w L':=by
 match xs,h with
 | [x,y],h =>
  have h:(match LD y with|some n=>KZ L n x|none=>.bad)=.ok w L':=h;cases e:LD y with
  | none=>rw [e] at h;cases h
  | some n =>
   rw [e] at h;refine⟨x,n,?_,h⟩;cases y with
   | cl c=>cases c with
    | type m=>cases e;rfl
    | _=>cases e
   | _=>cases e
theorem EF {n:String} {x w:T} {L':aa} (h:KZ L n x=.ok w L'):L'=L/\((n="bool"/\∃b,x=.bl b/\w=.bl true)\/(n="bool"/\∃i,x=.int i/\w=.bl false)\/(n="int"/\∃b,x=.bl b/\w=.bl true)\/(n="int"/\∃i,x=.int i/\w=.bl true)):=by
 have key:∀{b k:Bool},(if n="bool" then R.ok (T.bl b) L else if n="int" then .ok (.bl k) L else .bad)=.ok w L'->L'=L/\((n="bool"/\w=.bl b)\/(n="int"/\w=.bl k)):=fun h=>by
  split at h
  ·cases h;exact⟨rfl,.inl ⟨‹_›,rfl⟩⟩
  ·split at h
   ·cases h;exact⟨rfl,.inr ⟨‹_›,rfl⟩⟩
   ·cases h
 cases x with
 | bl b =>
  obtain⟨e,⟨a,c⟩|⟨a,c⟩⟩:=key h
  ·exact⟨e,.inl ⟨a,b,rfl,c⟩⟩
  ·exact⟨e,.inr (.inr (.inl ⟨a,b,rfl,c⟩))⟩
 | int i =>
  obtain⟨e,⟨a,c⟩|⟨a,c⟩⟩:=key h
  ·exact⟨e,.inr (.inl ⟨a,i,rfl,c⟩)⟩
  ·exact⟨e,.inr (.inr (.inr ⟨a,i,rfl,c⟩))⟩
 | _=>cases h
theorem A9:cU X (.builtin "isinstance") He:=fun I r h=>by
 obtain⟨x,n,rfl,h⟩:=HV h;obtain⟨u,v,rfl,r1,r2⟩:=iQ r;obtain rfl:=r2.cI;rcases EF h with⟨rfl,⟨rfl,b,rfl,rfl⟩|⟨rfl,i,rfl,rfl⟩|⟨rfl,b,rfl,rfl⟩|⟨rfl,i,rfl,rfl⟩⟩
 ·obtain rfl:=r1.bI;exact PySem.IsiPair.bool_bool (I.ep (.bl _))
 ·obtain⟨_,rfl⟩:=r1.iI;exact PySem.IsiPair.int_bool ((I.tok _).ep (.bl _))
 ·obtain rfl:=r1.bI;exact PySem.IsiPair.bool_int (I.ep (.bl _))
 ·obtain⟨_,rfl⟩:=r1.iI;exact PySem.IsiPair.int_int (I.ep (.bl _))
noncomputable def xK (X:Cx) (id:String) (m:T->Fn):Prop:=∀{pins:aX} {φ:Fr} {g:G} {L:aa} {s:Tv} {x:T} {xs:List T} {w:T} {L':aa} {v:Ts} {us:List Ts},Inv X pins φ g L s->RT g none x v->cu g xs us->m x xs L=.ok w L'->TR (model X.prog X.w) X.A (call (.builtin id) (v::us)) (EP X pins φ g w L') F0 s
noncomputable def Ty.nm:Ty->String
 | .s=>"str"|.l=>"list"|.t=>"tuple"|.d=>"dict"
theorem EG {n:Ty} (I:Inv X pins φ g L s) (r:RT g none t u) (h:CJ L t=some n):s.TypeIs u n.nm/\(∀a,u=.ref a->∃o,s.heap.get? a=some o/\o.dict=none):=by
 obtain⟨p,v⟩:=I.view r;unfold CJ at h;split at h <;> first|cases h|skip
 all_goals (rename_i ev;rw [ev] at v)
 ·obtain⟨t,rfl,_⟩:=v.iM
  exact⟨typeIs_str _ _ _,fun a e=>by cases e⟩
 ·obtain⟨a,its,n,rfl,e,_⟩:=I.lst v
  exact⟨⟨_,e,rfl⟩,fun b q=>by cases q;exact⟨_,e,rfl⟩⟩
 ·obtain⟨_,_,_,_,_,rfl,hk,hc,_⟩:=v.tI
  exact⟨⟨_,I.kn hk,hc.1⟩,fun b q=>by cases q;exact⟨_,I.kn hk,hc.2⟩⟩
 ·cases v with
  | aP _ hk hx=>exact⟨⟨_,I.kn hk,hx.1⟩,fun b q=>by cases q;exact⟨_,I.kn hk,hx.2.1⟩⟩
noncomputable def EH (X:Cx) (x:Str) (y:Ty) (F:T->Fn):Prop:=∃id,PlainAttrs y.nm/\Slot y.nm x id/\typeOf (.builtin id)=pure (.type "method_descriptor")/\xK X id F
theorem Ba {f:Ty->Option (T->Fn)} (hM:∀T F,f T=some F->EH X x T F) (ho:PE X o m) (ha:PA X es (ib ms)) (h0:es=[]->ms=[]) (hs:es.all aY=true) (hl:es.length<30) (hb:okBase o=true) (lJ:(apos.endLine == pos.line)=true) :
  PE X (.Call (.Attribute o x apos) es [] pos) (aS f m ms):=fun I h=>by
 obtain⟨t,L1,e1,h⟩:=R.of h;cases ef:(CJ L1 t).bind f with
 | none=>simp only [ef] at h;cases h
 | some F =>
  simp only [ef] at h;obtain⟨T,hT,hF⟩:=VB.mp ef;obtain⟨ts,L2,e2,h⟩:=R.of h;obtain⟨id,pa,slot,Hl,hm⟩:=hM T F hF;refine wpAny_Call_method_late (base_ok hb) (sr hs hl) lJ rfl (thn (ho I e1) fun v s1 ⟨g1,l1,I1,r1⟩=>?_);obtain⟨h1,h2⟩:=EG I1 r1 hT;refine⟨T.nm,id,pa,slot,Hl,h1,h2,?_⟩;refine YM (bM hs) ?_;cases es with
  | nil =>
   rw [h0 rfl] at e2;cases e2;exact Zc (thn (hm I1 r1 .nil h) fun _ _ z=>z.le l1)
  | cons e es =>
   rw [UG,Tw] at hs;have A:=ha pos I1 e2
   rw [ay hs.1] at A ⊢;exact Calls.evalArgs_plain (thn A fun us s2 ⟨g2,l2,I2,r2⟩=>thn (hm I2 (r1.le l2) r2 h) fun _ _ z=>z.le (l1.trans l2))
theorem Inv.qd {n:Nat} {its:Array Ts} {cnt:Nat} {a:Ug} {f:Array Ts->Array Ts} {t':Nat} (I:Inv X pins φ g L s) (hc:at_ L n=some (.lst xs)) (ru:RT g none (.ref n) (.ref a)) (e:s.heap.get? a=some { cls:=.type "list",data:=.seq its cnt }) (r:cu g ys (f its).toList) (hz:ys.length<=T7) :
  EP X pins φ g .cb (put L n (.lst ys)) .none { s with heap:=s.heap.update a (U9 f),toks:=t' }:=by
 obtain⟨p,hp,rc⟩:=I.rel.cells n _ hc;cases ru with
 | ref hq =>
  rw [hp] at hq;cases hq;generalize rN:(some p:Option (Ug × Ug))=pp at rc;generalize LW:Vz p.1=pa at rc;cases rc with
  | lst ht hk SU hl hi =>
   cases LW;subst rN;have q:=Zv e f
   obtain⟨n',hn'⟩:∃n',(s.heap.update p.1 (U9 f)).get? p.1=some { cls:=.type "list",data:=.seq (f its) n' }:=⟨_,q⟩;have hH:∃o,g.H p.1=some (false,o):=by
    rcases hk with hk|⟨z,_⟩
    ·exact⟨_,hk⟩
    ·cases z
   obtain⟨o,hH⟩:=hH;have l:=Le.set (o:={ cls:=.type "list",data:=.seq (f its) n' }) hH
   refine⟨_,l,I.set (t':=t') hp (.inl rfl) hH (fun b v hb hv=>(Uk s.heap (U9 f) (U7 hb)).trans hv) hn' ?_,.cb⟩;have:=r.lst (o:=default) (g1:=g.set p.1 { cls:=.type "list",data:=.seq (f its) n' }) (n:=n') l ht (.inl (by rw [show(f its).toList.toArray=f its by simp];exact aq)) hz
   exact this
theorem Inv.ur {n:Nat} (I:Inv X pins φ g L s) (rx:RT g none (.ref n) v) (ea:at_ L n=some (.lst ys)):∃a its cnt,v=.ref a/\s.heap.get? a=some { cls:=.type "list",data:=.seq its cnt }/\cu g ys its.toList/\its.size=ys.length/\ys.length<=T7:=by
 obtain⟨p,v⟩:=I.view rx;rw [show vw L (.ref n)=.lst ys by show(at_ L n).getD T.cb=_;rw [ea];rfl] at v;obtain⟨a,its,cnt,rfl,e,rr,hz⟩:=I.lst v;exact⟨a,its,cnt,rfl,e,rr,by simpa using (TV rr).symm,hz⟩
theorem EI:xK X "list.append" AE:=fun I rx rv h=>by
 unfold AE at h;split at h
 ·split at h
  ·rename_i n t _ ys ea
   obtain⟨hz,h⟩:=aA h;cases h;obtain⟨u,rfl,ru⟩:=bF rv;obtain⟨a,its,cnt,rfl,e,rr,hl,_⟩:=I.ur rx ea;have bD:ys.length<T7:=hz
   refine call_meets Xq ⟨_,e,rfl⟩ F.entry_list_append (F.args_list_append_2 _ _) (PySem.list_append a its cnt u (by omega)) ⟨e,?_⟩;exact I.qd ea rx e (by simpa using rr.app (.cons ru .nil)) (by simp;omega)
  ·cases h
 ·cases h
theorem lM (l:Ug) (xs:Array Ts) (n:Nat) (b:Ug) (ys:Array Ts) (k:Nat) (dd:Option Ug) (sl:Array (Option Ts)) (uu:¬(!xs.isEmpty && V0 (xs.size+ys.size))=true) (h1:xs.size<=T7) (h2:xs.size+ys.size<=T7+1) :
  Meets (Builtin.«list.extend» ⟨[.ref l,.ref b],[]⟩)
   (fun _ R st=>st.heap.get? l=some { cls:=.type "list",dict:=none,data:=.seq xs n,slots:=#[] }/\st.heap.get? b=some { cls:=.type "tuple",dict:=dd,data:=.seq ys k,slots:=sl } /\
    R (.ok (.ret U2)) { st with heap:=st.heap.update l (U9 fun x=>x++ys),toks:=st.toks }) :=
 .of_wp fun prog w A R st h=>by
  obtain⟨hp,gs,dr,tk,os⟩:=st;obtain⟨gl,gb,hR⟩:=h;have i1:=AutoSeq1.idx_int
  have i2:=Yb;have i3:=AutoSeq1.sub_list_list
  have i4:=AutoSeq1.sub_tuple_list;have i5:=AutoSeq1.sub_list_tuple
  have both:(xs++ys).size<=T7+1:=by rw [Array.size_append];exact h2
  wp_walk using (wpAny_updateSeq gl rfl (hz:=h1) (_hz':=both)),Yc gl,Yc gb
  exact⟨_,rfl,hR⟩
theorem EJ:xK X "list.extend" wY:=fun I rx rv h=>by
 have long:∀{n:Nat} (b:Bool),n<=T7->¬ (b && V0 n)=true:=fun b h=>by
  rw [show V0 _=false by unfold V0;exact decide_eq_false (by omega),Xe];exact VR
 unfold wY at h;split at h
 ·split at h
  ·rename_i n t _ _ ys zs ea ev
   obtain⟨hz,h⟩:=aA h;have hz:ys.length+zs.length<=T7:=hz
   cases h;obtain⟨u,rfl,ru⟩:=bF rv;obtain⟨p,v⟩:=I.view ru;rw [ev] at v;obtain⟨a,its,cnt,rfl,e,rr,hl,_⟩:=I.ur rx ea;obtain⟨b,oB,LX,rfl,e2,Bb,K3⟩:=I.lst v;have jH:oB.size=zs.length:=by simpa using (TV Bb).symm
   refine call_meets Xr ⟨_,e,rfl⟩ F.entry_list_extend (F.args_list_extend_2 _ _) (AutoSeq1.list_extend_list_list_0 a its cnt b oB LX (long _ (by omega)) (by omega) (by omega)) ⟨e,e2,?_⟩;exact I.qd ea rx e (by simpa using rr.app Bb) (by simp;omega)
  ·rename_i n t _ _ ys zs ea ev
   obtain⟨hz,h⟩:=aA h;have hz:ys.length+zs.length<=T7:=hz
   cases h;obtain⟨u,rfl,ru⟩:=bF rv;obtain⟨p,v⟩:=I.view ru;rw [ev] at v;obtain⟨a,its,cnt,rfl,e,rr,hl,_⟩:=I.ur rx ea;obtain⟨b,oB,rfl,⟨⟨oc,od,dt,sl⟩,e2,hc,n2,hd⟩,Bb,K3⟩:=I.tupP v;simp only at hc hd;subst hc hd;have jH:oB.size=zs.length:=by simpa using (TV Bb).symm
   refine call_meets Xr ⟨_,e,rfl⟩ F.entry_list_extend (F.args_list_extend_2 _ _) (lM a its cnt b oB n2 od sl (long _ (by omega)) (by omega) (by omega)) ⟨e,e2,?_⟩;exact I.qd ea rx e (by simpa using rr.app Bb) (by simp;omega)
  ·cases h
 ·cases h
theorem count_eq {α β:Type} {l:List α} {k:List β} {f:α->Bool} {g:β->Bool} (hl:l.length=k.length) (h:∀(i:Nat) a b,l[i]?=some a->k[i]?=some b->f a=g b):l.countP f=k.countP g:=by
 induction l generalizing k with
 | nil=>cases k with
  | nil=>rfl
  | cons _ _=>cases hl
 | cons a l ih=>cases k with
  | nil=>cases hl
  | cons b k =>
   rw [List.countP_cons,List.countP_cons,ih (by simpa using hl) (fun i x y e1 e2=>h (i+1) x y (by simpa using e1) (by simpa using e2)),h 0 a b rfl rfl]
theorem jM {M:Model} {A:Ux} {E:Ts->Tv->Prop} {s:Tv} {β:Type} {n:Nat} (f:Nat->β->Sem (ForInStep β)) (I:Nat->β->Tv->Prop) (Q:β->Tv->Prop) {b:β}
  (turn:∀i b s',i<n->I i b s'->TR M A (f i b) (fun r Bc=>match r with|.done b'=>Q b' Bc|.yield b'=>I (i+1) b' Bc) E s')
  (fin:∀b s',I n b s'->Q b s') (h:I 0 b s):TR M A (forIn [0:n] b f) Q E s:=by
 rw [Std.Legacy.Range.forIn_eq_forIn_range'];have hsz:([0:n]:Zx).size=n:=by simp [Std.Legacy.Range.size]
 show TR M A (forIn (List.range' 0 ([0:n]:Zx).size 1) b f) Q E s;rw [hsz];refine wpAny_forIn_list f (fun rest b s'=>∃i,i<=n/\rest=List.range' i (n - i) 1/\I i b s') Q ?_ ?_ _ _ ⟨0,Uj _,by simp,h⟩
 ·rintro x rest b s' ⟨i,hi,er,hI⟩
  have bD:i<n:=by
   cases e:n - i with
   | zero=>rw [e] at er;cases er
   | succ m=>omega
  have e2:n - i=(n - (i+1))+1:=by omega
  rw [e2,List.range'_succ] at er;injection er with e3 e4;subst e3;refine wpAny_mono (turn x b s' bD hI) (fun r Bc q=>?_) fun _ _ q=>q
  cases r with
  | done b'=>exact q
  | yield b'=>exact⟨x+1,bD,e4,q⟩
 ·rintro b s' ⟨i,hi,er,hI⟩
  have:i=n:=by
   cases e:n - i with
   | zero=>omega
   | succ m=>rw [e,List.range'_succ] at er;cases er
  subst this;exact fin b s' hI
open SeqAt in
theorem m5 (l:Ug) (items:Array Ts) (n:Nat) (dd:Option Ug) (sl:Array (Option Ts)) (x:Ts) (e:Ts->Bool) (j:Nat) (hj:j<items.size) (hit:e items[j]=true) (j4:∀m (hm:m<items.size),m<j->e items[m]=false) :
  Meets (Builtin.«tuple.index» ⟨[.ref l,x],[]⟩)
   (fun A R s=>s.heap.get? l=some { cls:=.type "tuple",dict:=dd,data:=.seq items n,slots:=sl }/\(∀y,y∈items->EqAt A.in1 s y x (e y))/\R (.ok (.ret (.int (j:Nat) s.toks))) { s with toks:=s.toks+1 }) :=
 .of_wp fun prog w A R s h=>by
  obtain⟨hp,g,d,tk,os⟩:=s;obtain⟨hl,he,h⟩:=h
  wp_walk using wpAny_loadPart' hl,jM _ (fun i b s'=>b.1=none/\s'=⟨hp,g,d,tk,os⟩/\i<=j) _
  case turn =>
   rintro i b s' hi ⟨hb,rfl,sD⟩;have hi':i<items.size:=by omega
   rw [Tx hi'];refine Ti (he items[i] (Yd hi') prog w _ _ ?_);by_cases hy:i=j
   ·subst hy
    rw [hit]
    wp_walk
    exact⟨_,rfl,h⟩
   ·rw [j4 i hi' (by omega)]
    wp_walk
    exact⟨rfl,rfl,by omega⟩
  case fin =>
   rintro⟨b1,b2⟩ s' ⟨hb,rfl,sD⟩;omega
  case h =>
   exact⟨rfl,rfl,Uj _⟩
theorem xM {A:Ux} {its:Array Ts} (hu:A.units+8<cLine) (I:Inv X pins φ g L s) (h1:dat 8 t=true) (h2:xs.all (dat 8)=true) (ru:RT g none t u) (rr:cu g xs its.toList):∃e:Ts->Bool,(∀w∈its,VN A s w u (e w))/\its.toList.countP e=xs.countP fun y=>eqT y t:=by
 obtain⟨e,he,_,hi⟩:=oz I hu h1 ru h2 rr;exact⟨e,fun w hw=>he w (by simpa using hw),(count_eq (TV rr) fun i a b e1 e2=>(hi i a b e1 e2).symm).symm⟩
theorem Be (hu:X.A.units+20<cLine):xK X "list.count" t4:=fun I rx rv h=>by
 have gP:X.A.in1.units+8<cLine:=by show X.A.units+1+8<cLine;omega
 obtain⟨p,v⟩:=I.view rx;unfold t4 at h;split at h
 ·rename_i ev
  obtain⟨⟨h1,h2⟩,h⟩:=aA h;cases h;obtain⟨u,rfl,ru⟩:=bF rv;rw [ev] at v;obtain⟨a,its,n,rfl,e,rr,_⟩:=I.lst v;obtain⟨f,f1,f2⟩:=xM gP I h1 h2 ru rr;exact call_meets Yu (af e).typeIs PySem.F.entry_list_count (PySem.F.args_list_count_2 _ _) (SeqAt.list_countAt a its n none #[] u f) ⟨e,f1,by rw [f2];exact(I.tok _).ep (.int _ _)⟩
 ·cases h
theorem Bf (hu:X.A.units+20<cLine):xK X "tuple.count" t5:=fun I rx rv h=>by
 have gP:X.A.in1.units+8<cLine:=by show X.A.units+1+8<cLine;omega
 obtain⟨p,v⟩:=I.view rx;unfold t5 at h;split at h
 ·rename_i ev
  obtain⟨⟨h1,h2⟩,h⟩:=aA h;cases h;obtain⟨u,rfl,ru⟩:=bF rv;rw [ev] at v;obtain⟨a,its,rfl,⟨⟨oc,od,dt,sl⟩,e2,hc,n2,hd⟩,rr,_⟩:=I.tupP v;simp only at hc hd;subst hc hd;obtain⟨f,f1,f2⟩:=xM gP I h1 h2 ru rr;exact call_meets Ye ⟨_,e2,rfl⟩ PySem.F.entry_tuple_count (PySem.F.args_tuple_count_2 _ _) (SeqAt.tuple_countAt a its n2 od sl u f) ⟨e2,f1,by rw [f2];exact(I.tok _).ep (.int _ _)⟩
 ·cases h
theorem EK (hu:X.A.units+20<cLine):xK X "tuple.index" AF:=fun I rx rv h=>by
 have gP:X.A.in1.units+8<cLine:=by show X.A.units+1+8<cLine;omega
 obtain⟨p,v⟩:=I.view rx;unfold AF at h;split at h
 ·rename_i xs t
  obtain⟨⟨h1,h2⟩,h⟩:=aA h;obtain⟨u,rfl,ru⟩:=bF rv;split at h
  ·rename_i j hj
   cases h;obtain⟨a,its,rfl,⟨⟨oc,od,dt,sl⟩,e2,hc,n2,hd⟩,rr,_⟩:=I.tupP v;simp only at hc hd;subst hc hd;obtain⟨f,f1,_,f3⟩:=oz I gP h1 ru h2 rr;have hl:its.size=xs.length:=by simpa using (TV rr).symm
   obtain⟨j1,j2,j3⟩:=U0.mp hj;have at_:∀m (hm:m<its.size),f its[m]=eqT (xs[m]'(by omega)) t:=fun m hm=>f3 m _ _ (Ge9 (by omega)) (by simp [hm])
   refine call_meets Yf ⟨_,e2,rfl⟩ PySem.F.entry_tuple_index (PySem.F.args_tuple_index_2 _ _) (m5 a its n2 od sl u f j (by omega) (by rw [at_];exact j2) (fun m hm Qz=>?_)) ⟨e2,fun w hw=>f1 w (by simpa using hw),(I.tok _).ep (.int _ _)⟩;rw [at_];simpa using j3 m Qz
  ·cases h
 ·cases h
theorem xN {prog:UU} {w:VL} {A:Ux} {P:Nat->Ts->Prop} (f:Nat->Cs) (hf:∀i v,P i v->∃t,v=.str ⟨(f i).toArray⟩ t):CmpOf prog w A .Lt P (fun i j=>decide (f i<f j)):=fun i j vi vj s Q E hi hj h=>by
 obtain⟨t,rfl⟩:=hf i vi hi;obtain⟨u,rfl⟩:=hf j vj hj;have h:Q (.bool (decide ((⟨(f i).toArray⟩:Str).cps.toList<(⟨(f j).toArray⟩:Str).cps.toList))) s:=h
 exact(Zd h:TR (model prog w) A (compareOp .Lt _ _) Q E s)
theorem xO:cU X (.builtin "min") wX:=fun {_ _ g _ s _ _ _ _} I r h=>by
 unfold wX at h;split at h
 ·cases h
  rename_i i j;obtain⟨u,v,rfl,r1,r2⟩:=iQ r;cases r1;cases r2;refine min_two_ints I.ok.hd fun h' tk k=>(I.kept k).ep ?_
  by_cases hj:j<i
  ·rw [if_pos hj,if_pos hj];exact .int _ _
  ·rw [if_neg hj,if_neg hj];exact .int _ _
 ·cases h
  rename_i a b;obtain⟨u,v,rfl,r1,r2⟩:=iQ r;obtain⟨t,rfl,ha⟩:=r1.iM;obtain⟨t',rfl,hb⟩:=r2.iM;have hT:(s.heap.push { cls:=.type "tuple",data:=.seq #[.str ⟨a.toArray⟩ t,.str ⟨b.toArray⟩ t'] }).IsTuple s.heap.objs.size #[.str ⟨a.toArray⟩ t,.str ⟨b.toArray⟩ t']:=⟨_,Tt _ rfl,rfl,0,rfl⟩
  refine call_min_two (wpAny_pyIter_tuple hT ?_);have hsz:(s.heap.push { cls:=.type "tuple",data:=.seq #[.str ⟨a.toArray⟩ t,.str ⟨b.toArray⟩ t'] }).objs.size=s.heap.objs.size+1:=UM ..
  refine⟨_,[_,s.heap.objs.size],[_],_,_,_,fun i j=>decide ([a,b].getD i [] < [a,b].getD j []),rfl,Walks.tuple (A:=X.A.in1) I.ok.hd _ s.heap.objs.size (by rw [hsz];exact Ub (Vh _)) #[.str ⟨a.toArray⟩ t,.str ⟨b.toArray⟩ t'],
   ⟨⟨_,Tt _ rfl,rfl,rfl⟩,hT.push _⟩,fun b hb=>?_,(by show 0<2;decide),xN (fun i=>[a,b].getD i []) (fun i v hP=>?_),fun v h' tk hP hk=>?_⟩
  ·show _<((s.heap.push _).push _).objs.size
   rw [UM,hsz];rcases TJ.mp hb with rfl|hb
   ·rw [hsz];exact Vh _
   ·rcases TJ.mp hb with rfl|hb
    ·exact UK (Vh _)
    ·cases hb
  ·have hP:#[Xh ⟨a.toArray⟩ t,Xh ⟨b.toArray⟩ t'][i]?=some v:=hP
   match i,hP with
   | 0,hP=>exact⟨t,by simpa using hP.symm⟩
   | 1,hP=>exact⟨t',by simpa using hP.symm⟩
   | i+2,hP=>simp at hP
  ·have hold:∀c o,s.heap.get? c=some o->h'.get? c=some o:=fun c o e=>by
    refine hk c o (fun hm=>?_) (Tj _ (Tj _ e));rcases TJ.mp hm with e1|hm
    ·have:=T3 e;rw [e1,hsz] at this;exact Vg _ (Nat.lt_of_succ_lt this)
    ·cases hm
   have hP:#[Xh ⟨a.toArray⟩ t,Xh ⟨b.toArray⟩ t'][argBest (fun i j=>decide ([a,b].getD i [] < [a,b].getD j [])) 1]?=some v:=hP;refine(I.kept (t':=tk) hold).ep ?_;by_cases hb':b<a
   ·rw [if_pos hb']
    have e:argBest (fun i j=>decide ([a,b].getD i [] < [a,b].getD j [])) 1=1:=by
     show(if decide (b<a)=true then 1 else 0)=1;rw [decide_eq_true hb'];rfl
    rw [e] at hP;have:Xh ⟨b.toArray⟩ t'=v:=by simpa using hP
    rw [<- this];exact .str _ _ hb
   ·rw [if_neg hb']
    have e:argBest (fun i j=>decide ([a,b].getD i [] < [a,b].getD j [])) 1=0:=by
     show(if decide (b<a)=true then 1 else 0)=0;rw [decide_eq_false hb'];rfl
    rw [e] at hP;have:Xh ⟨a.toArray⟩ t=v:=by simpa using hP
    rw [<- this];exact .str _ _ ha
 ·cases h
theorem RT.HW {z:Str} {t:Tok} (h:z.cps.toList.length<=lim):RT g none (.str z.cps.toList) (.str z t):=by
 have:=RT.str (g:=g) z.cps.toList t h;simpa using this
theorem xP:xK X "str.strip" lB:=fun I rx rv h=>by
 unfold lB at h;split at h
 ·obtain⟨hz,h⟩:=aA h
  cases h;obtain⟨u,rfl,ru⟩:=bF rv;obtain⟨t,rfl,h1⟩:=rx.iM;obtain⟨t',rfl,h2⟩:=ru.iM;exact SC.stripChars (fun t2 k=>(I.tok _).ep (.HW hz)) (by rw [str_len];exact h1)
 ·cases h
open Builtin Builtin.Str in
theorem xQ {prog:UU} {w:VL} {A:Ux} {E:Ts->Tv->Prop} {s:Tv} {x y:Str} {t u:Tok} {Q:Ts->Tv->Prop} (hy:(y.length == 0)=false) (hsz:x.length<=T7) (hsz2:(WG x y).length<=T7)
  (h:∀l k,l.map (·.1)=WG x y->Q (.ref s.heap.objs.size) { s with heap:=s.heap.push { cls:=.type "list",data:=.seq (strValues l).toArray },toks:=k }) :
  TR (model prog w) A (call (.builtin "str.split") [.str x t,.str y u]) Q E s:=by
 unfold WG at hsz2 h;cases h1:(decide (x.length<y.length) || decide (strKind x<strKind y))
 ·rw [if_neg (ne_true_of_eq_false h1)] at hsz2 h
  cases hf:(occurrences x y 0 x.length (x.length+1)).isEmpty
  ·rw [if_neg (ne_true_of_eq_false hf)] at hsz2 h
   refine call_meets Wc (typeIs_str _ _ _) WX (WT _ _) (meets_str_split_sep x y t u h1 hy hf hsz hsz2) ?_;show wants Q E _ { s with toks:=_,heap:=s.heap.push { cls:=.type "list",data:=.seq (strsFrom s.toks (partsBetween x (occurrences x y 0 x.length (x.length+1)) y.length)).toArray } }
   rw [strsFrom_eq];exact h (numbered s.toks _) _ (numbered_texts _ _)
  ·rw [if_pos hf] at h
   exact call_meets Wc (typeIs_str _ _ _) WX (WT _ _) (meets_str_split_not_found x y t u h1 hy hf) (h [(x,t)] s.toks rfl)
 ·rw [if_pos h1] at h
  exact call_meets Wc (typeIs_str _ _ _) WX (WT _ _) (meets_str_split_cannot_occur x y t u h1) (h [(x,t)] s.toks rfl)
theorem qf:∀{l:List (Str × Tok)} {zs:List Str},l.map (·.1)=zs->(zs.all fun s=>decide (s.cps.toList.length<=lim))=true->cu g (zs.map fun s=>.str s.cps.toList) (strValues l)
 | [],_,e,_=>by subst e;exact .nil
 | (z,t)::r,_,e,h=>by
  subst e;rw [TC,UG,Tw] at h;exact .cons (.HW (of_decide_eq_true h.1)) (qf rfl h.2)
theorem xR {fz:Bool}:xK X "str.split" (lA fz):=fun {_ _ _ _ s _ _ _ _ _ _} I rx rv h=>by
 unfold lA at h;split at h
 ·rename_i z y
  obtain⟨⟨h1,h2⟩,h⟩:=aA h;obtain⟨u,rfl,ru⟩:=bF rv;obtain⟨t,rfl,h3⟩:=rx.iM;obtain⟨t',rfl,_⟩:=ru.iM;have hz:=ou h
  refine xQ (by rw [str_len];cases y with|nil=>exact absurd rfl h1|cons a b=>rfl) (by rw [str_len];exact h3) (by rw [Lm9] at hz;exact hz) fun l k e=>?_
  exact jJ (t':=k) I (qf e h2) h (fun b u e=>Tj _ e) (Tt _ rfl)
 ·cases h
theorem HX (sep:Cs) (zs:List Cs):Txt.join (toS sep) (zs.map toS)=toS (jn sep zs)/\(jn sep zs).length<=(zs.map (·.length)).sum+zs.length * sep.length:=by
 have e:Txt.join (toS sep) (zs.map toS)=Str.join (toS sep) (zs.map toS):=eq_of_beq (PyProof.Rows.join_plain_closes _ _);rw [e];clear e;induction zs with
 | nil=>exact⟨rfl,by simp [jn]⟩
 | cons x r ih =>
  cases r with
  | nil=>exact⟨rfl,by simp [jn]⟩
  | cons y r =>
   obtain⟨h1,h2⟩:=ih;constructor
   ·show toS x++toS sep++Str.join (toS sep) ((y::r).map toS)=_
    rw [h1];show(⟨x.toArray++sep.toArray++(jn sep (y::r)).toArray⟩:Str)=⟨(x++sep++jn sep (y::r)).toArray⟩
    simp
   ·show(x++sep++jn sep (y::r)).length<=_
    rw [Tq,Tq,TC,List.sum_cons,Tu,Nat.add_mul];omega
theorem oC:∀{ys:List T} {zs:List Cs} {us:List Ts},ys.mapM Hd=some zs->cu g ys us->StrsAre us (zs.map toS)
 | [],zs,us,h,r=>by simp at h;subst h;cases r;exact .nil
 | y::ys,zs,us,h,r=>by
  rw [VF] at h;cases e1:Hd y with
  | none=>rw [e1] at h;cases h
  | some b =>
   rw [e1] at h;cases e2:ys.mapM Hd with
   | none=>rw [e2] at h;cases h
   | some q =>
    rw [e2] at h;have h:some (b::q)=some zs:=h
    cases h;cases r with
    | cons a1 a2 =>
     obtain⟨t,rfl,_⟩:=EE e1 a1;exact .cons _ t (oC e2 a2)
theorem Bg:xK X "str.join" j0:=fun {_ _ g L s _ _ w1 L1 _ _} I rx rv h=>by
 unfold j0 at h;split at h
 ·rename_i sep t
  obtain⟨u,rfl,ru⟩:=bF rv;obtain⟨tk,rfl,_⟩:=rx.iM;obtain⟨p,v⟩:=I.view ru;split at h
  ·rename_i zs ez
   obtain⟨ys,y1,y2⟩:=VB.mp ez;unfold items at y1;have fin:bT ((zs.map (·.length)).sum+zs.length * sep.length<=16777216) (R.ok (T.str (jn sep zs)) L)=.ok w1 L1->(vw L t=.lst ys\/vw L t=.tup ys)->TR (model X.prog X.w) X.A (call (.builtin "str.join") [.str ⟨sep.toArray⟩ tk,u]) (EP X _ _ g w1 L1) F0 s:=fun h hv=>by
    obtain⟨hz,h⟩:=aA h;cases h;obtain⟨e1,e2⟩:=HX sep zs;have hz':((zs.map toS).map (·.length)).sum+(zs.map toS).length * (toS sep).length<=16777216:=by
     have:(fun z:Cs=>(toS z).length)=fun z=>z.length:=funext fun z=>str_len
     simp only [Ud,Lm9,Vm,this];rw [show(toS sep).length=sep.length from str_len];exact hz
    have rj:∀t',RT g none (.str (jn sep zs)) (.str (Txt.join (toS sep) (zs.map toS)) t'):=fun t'=>by
     rw [e1];exact .str _ _ (TU e2 hz)
    rcases hv with hv|hv
    ·rw [hv] at v
     obtain⟨a,its,n,rfl,e,rr,_⟩:=I.lst v;exact join_list (items:=its) (af e) (oC y2 rr) hz' fun t' k=>(I.tok _).ep (rj t')
    ·rw [hv] at v
     obtain⟨a,its,rfl,e,rr,_⟩:=I.tupP v;exact join_tuple (items:=its) e (oC y2 rr) hz' fun t' k=>(I.tok _).ep (rj t')
   cases ev:vw L t with
   | str z=>simp only [ev] at h;cases h
   | lst QA=>simp only [ev] at h y1;cases y1;exact fin h (.inl ev)
   | tup QA=>simp only [ev] at h y1;cases y1;exact fin h (.inr ev)
   | _=>simp only [ev] at y1;cases y1
  ·cases h
 ·cases h
end
noncomputable instance QB:DecidableEq T:=fun a b=>UR _
mutual
noncomputable def dr:T->Nat
 | .tup xs=>wF xs+1
 | _=>1
noncomputable def wF:List T->Nat
 | []=>0
 | x::xs=>dr x+wF xs
end
inductive cG (h:Heap):T->Ts->Prop
 | int (i t):cG h (.int i) (.int i t)
 | str (s t):cG h (.str s) (.str ⟨s.toArray⟩ t)
 | tup {a o its n xs} (ho:h.get? a=some o) (hc:o.cls=.type "tuple") (hd:o.data=.seq its n) (hl:xs.length=its.size) (hi:∀(i:Nat) x v,xs[i]?=some x->its[i]?=some v->cG h x v):cG h (.tup xs) (.ref a)
section
variable {X:Cx} {pins:aX} {φ:Fr} {g:G} {L L':aa} {s:Tv} {h h':Heap} {xs ys:List T} {t t2:T} {u v:Ts} {n:Nat} {a d:Ug} {P:UU} {w:VL} {A:Ux} {E:Ts->Tv->Prop}
theorem EL {t:T} (h:kd 0 t=true):False:=by cases t <;> cases h
theorem gC (hk:xs.all (kd n)=true) {i:Nat} {x:T} (e:xs[i]?=some x):kd n x=true:=Tr.mp hk x (Ul e)
theorem Inv.EM (I:Inv X pins φ g L s):∀(n:Nat) {t:T} {u:Ts},kd n t=true->RT g none t u->cG s.heap t u
 | 0,t,_,h,_=>(EL h).elim
 | n+1,t,u,h,r=>by
  cases r with
  | int i t=>exact .int i t
  | str z t hz=>exact .str z t
  | tup hk hc hd hz hl hi=>exact .tup (I.kn hk) hc.1 hd hl fun i x v e1 e2=>I.EM n (gC h e1) (hi i x v e1 e2)
  | _=>cases h
theorem cG.same (k1:cG h t u):∀{t2:T},cG h t2 u->t=t2:=by
 induction k1 with
 | int i t=>intro t2 k;cases k;rfl
 | str z t =>
  intro t2 k;generalize hv:Xh ⟨z.toArray⟩ t=v at k;cases k <;> cases hv;rfl
 | tup ho hc hd hl hi ih =>
  rename_i a o its nn xs;intro t2 k;cases k with
  | tup ho' hc' hd' hl' hi' =>
   rw [ho] at ho';cases ho';rw [hd] at hd';cases hd';congr 1;refine Vj (by omega) fun i h1 h2=>?_
   have e:=Tx (xs:=its) (i:=i) (by omega);exact ih i _ _ (Ge9 h1) e (hi' i _ _ (Ge9 h2) e)
theorem cG.keeps {o:Obj} {es:Array DictEntry} {ep:Nat} (k:cG h t u) (ho:h.get? d=some o) (hd:o.data=.dict es ep) (hs:Vl d h h'):cG h' t u:=by
 induction k with
 | int i t=>exact .int i t
 | str z t=>exact .str z t
 | tup ho' hc hd' hl hi ih =>
  refine .tup ((hs.2 _ fun e=>?_).trans ho') hc hd' hl ih;rw [e,ho] at ho';cases ho';rw [hd] at hd';cases hd'
theorem uw:∀xs:List T,Ar w xs=xs.map (hT w)
 | []=>by rw [Ar];rfl
 | x::xs=>by rw [Ar,uw xs];rfl
theorem qg:∀(xs:List T) (i:Nat) (x:T),xs[i]?=some x->wF (xs.take (i+1))=wF (xs.take i)+dr x
 | x::xs,0,y,h=>by cases h;simp [wF]
 | x::xs,i+1,y,h=>by
  rw [Ze,Ze,wF,wF,qg xs i y (by simpa using h)];omega
theorem cG.hash:∀(n:Nat) {A:Ux} {s:Tv} {t:T} {u:Ts} {Q:Int->Tv->Prop},kd n t=true->A.units+n<cLine->cG s.heap t u->Q (hT w t) { s with toks:=s.toks+dr t }->TR (model P w) A (pyHash u) Q E s
 | 0,_,_,t,_,_,hk,_,_,_=>(EL hk).elim
 | n+1,A,s,t,u,Q,hk,hu,k,h=>by
  cases k with
  | int i t=>rw [hT,dr] at h;exact wpAny_pyHash_int h;all_goals (intro _ z;cases z)
  | str z t=>rw [hT,dr] at h;exact wpAny_pyHash_str h;all_goals (intro _ z;cases z)
  | tup ho hc hd hl hi =>
   rename_i a o its nn xs;have hT':s.TypeIs (.ref a) "tuple":=⟨o,ho,hc⟩
   unfold pyHash
   first|unfold pyHashByItsType|skip
   first|refine Ti (wpAny_cRoomFor_or (.inr (by omega)) ?_)|skip
   refine Ti (wpAny_specialOf hT' Wd.lookup ?_);show TR _ _ (if (some (Xu "tuple.__hash__") == some U2)=true then _ else _) Q E s
   rw [if_neg (by rw [beq_builtin_none];exact VR)];refine Ti (wpAny_specialOf hT' Wd.lookup ?_);show TR _ _ (callSpecialIfBoundUnlessNone? (.ref a) "__hash__" _ >>= _) Q E s
   refine Ti (wpAny_callSpecialIfBoundUnlessNone?_slot hT' Wd (wpAny_call_entry Wd hT' F.entry_tuple_hash ?_ (F.args_tuple_hash_1 _)));show TR _ _ (Wz (.ref a) >>= _) _ _ s
   refine Ti (wpAny_tupleItemsOf ho hd ?_);refine Ti ?_;rw [<- WY];refine wpAny_forIn_list _ (fun rest (b:Array Int) s'=>∃i,i<=xs.length/\rest=its.toList.drop i/\b.toList=(xs.take i).map (hT w)/\s'={ s with toks:=s.toks+wF (xs.take i) }) _ ?_ ?_ _ _ ⟨0,Uj _,rfl,by simp,by simp [wF]⟩
   ·rintro v rest b s' ⟨i,wG,hr,hb,rfl⟩
    have bD:i<its.size:=by
     rcases YZ i its.size with z|z
     ·exact z
     ·rw [We (by simpa using z)] at hr;cases hr
    rw [Vf (by simpa using bD)] at hr;injection hr with e1 e2;have ex:=Ge9 (l:=xs) (i:=i) (by omega)
    have kv:cG s.heap xs[i] v:=hi i _ v ex (by rw [e1];simp [bD]);refine Ti (cG.hash n (s:={ s with toks:=s.toks+wF (xs.take i) }) (gC hk ex) (by show A.units+1+n<cLine;omega) kv ?_);have fin:∃j,j<=xs.length/\rest=its.toList.drop j/\(b.push (hT w xs[i])).toList=(xs.take j).map (hT w)/\({ s with toks:=s.toks+wF (xs.take i)+dr xs[i] }:Tv)={ s with toks:=s.toks+wF (xs.take j) } :=
     ⟨i+1,by omega,e2,by rw [Y9,ex,TS,Yg,hb];rfl,by rw [qg xs i _ ex,Wu]⟩
    first
     | exact Tn fin
     | exact Ti (Tn (Tn fin))
   ·rintro b s' ⟨i,wG,hr,hb,rfl⟩
    have rO:its.size<=i:=by
     have:=congrArg VV hr;rw [Uo,U3] at this;simp at this;omega
    rw [UA (by omega)] at hb;show TR _ _ (retInt (WH b.toList)) _ _ _
    rw [hb,UA (show xs.length<=i by omega)];refine wpAny_ret_mkInt ?_;rw [hT,uw,dr] at h;generalize WH (xs.map (hT w))=g at h;show TR _ _ (if (decide (-(2:Int) ^ 63<=g) && decide (g<2 ^ 63))=true then _ else _) Q E _
    unfold reduceHash at h;by_cases hr:(decide (-(2:Int) ^ 63<=g) && decide (g<2 ^ 63))=true
    ·rw [if_pos hr]
     rw [if_pos hr] at h;exact Tn (by simpa [Wu] using h)
    ·rw [if_neg hr]
     rw [if_neg hr] at h;exact Ti (wpAny_rule (Tn (by simpa [Wu] using h)))
theorem cG.quiet:∀(n m:Nat) {s:Tv} {t:T} {u:Ts},kd n t=true->n<=m->cG s.heap t u->TR (model P w) A (eqIsQuiet m u) (fun b s'=>b=true/\s'=s) E s
 | 0,_,_,t,_,hk,_,_=>(EL hk).elim
 | n+1,m,s,t,u,hk,hm,k=>by
  cases k with
  | int i t=>cases m with
   | zero=>omega
   | succ m=>exact Tn ⟨rfl,rfl⟩
  | str z t=>cases m with
   | zero=>omega
   | succ m=>exact Tn ⟨rfl,rfl⟩
  | tup ho hc hd hl hi =>
   rename_i a o its nn xs;have hT':s.TypeIs (.ref a) "tuple":=⟨o,ho,hc⟩
   obtain⟨m,rfl⟩:∃k,m=k+1:=⟨m - 1,by omega⟩;unfold eqIsQuiet;refine Ti (wpAny_specialOf hT' F.slot_tuple_eq.lookup ?_);show TR _ _ (isInstance (.ref a) (.type "tuple") >>= _) _ _ s
   refine Ti (wpAny_isInstance hT' isSubtype_tuple_tuple ?_);simp only [VC,TH,if_false];refine Ti (wpAny_seqItems ho hd ?_);refine Ti ?_;show TR _ _ (forIn its _ _) _ _ s
   rw [<- WY];refine wpAny_forIn_list _ (fun rest r s'=>r.1=none/\s'=s/\∀v∈rest,v∈its) _ ?_ ?_ _ _ ⟨rfl,rfl,fun v hv=>by simpa using hv⟩
   ·rintro v rest r s' ⟨hr,rfl,hall⟩
    obtain⟨i,wG,rfl⟩:=VA (hall v To);have ex:=Ge9 (l:=xs) (i:=i) (by omega)
    refine Ti (wpAny_mono (cG.quiet n m (gC hk ex) (by omega) (hi i _ _ ex (Tx wG))) (fun b Bc hb=>?_) fun _ _ e=>e);obtain⟨rfl,rfl⟩:=hb;simp only [VC,TH,if_false];exact Tn ⟨rfl,rfl,fun u gP=>hall u (Tp _ gP)⟩
   ·rintro⟨r1,r2⟩ s' ⟨hr,rfl,_⟩
    simp only at hr;subst hr;exact Tn ⟨rfl,rfl⟩
theorem ux:∀xs ys:List T,mP (fun a b=>decide (a=b)) xs ys=decide (xs=ys)
 | [],[]=>by simp [mP]
 | [],_::_=>by simp [mP]
 | _::_,[]=>by simp [mP]
 | x::xs,y::ys=>by rw [mP,ux xs ys];simp [Bool.decide_and]
open SeqAt in
theorem cG.eq:∀(n:Nat) {A:Ux} {a b:T} {u v:Ts},kd n a=true->kd n b=true->A.units+n<cLine->cG s.heap a u->cG s.heap b v->EqAt A s u v (decide (a=b))
 | 0,_,a,_,_,_,h,_,_,_,_=>(EL h).elim
 | n+1,A,a,b,u,v,ha,hb,hu,ka,kb=>by
  have gP:A.units<cLine:=by omega
  have sm:u=v->decide (a=b)=true:=fun e=>decide_eq_true (ka.same (by rw [e];exact kb))
  cases ka with
  | int i t =>
   cases kb with
   | int j t2=>rw [show decide (T.int i=T.int j)=(i == j) by rw [Vo];simp];exact .int_int _ _ _ _
   | str=>rw [decide_eq_false (by intro e;cases e)];exact .int_str _ _ _ _
   | tup ho hc hd hl hi=>rw [decide_eq_false (by intro e;cases e)];exact .int_tuple _ _ ⟨_,ho,hc,_,hd⟩ gP
  | str z t =>
   cases kb with
   | int=>rw [decide_eq_false (by intro e;cases e)];exact .str_int _ _ _ _
   | str z2 t2=>rw [show decide (T.str z=T.str z2)=(z == z2) by rw [Vo];simp,<- str_beq];exact .str_str _ _ _ _
   | tup ho hc hd hl hi=>rw [decide_eq_false (by intro e;cases e)];exact .str_tuple _ _ ⟨_,ho,hc,_,hd⟩ gP
  | tup ho hc hd hl hi =>
   have T1:s.heap.IsTuple _ _:=⟨_,ho,hc,_,hd⟩;cases kb with
   | int=>rw [decide_eq_false (by intro e;cases e)];exact .tuple_int _ _ T1 gP
   | str=>rw [decide_eq_false (by intro e;cases e)];exact .tuple_str _ _ T1 gP
   | tup ho' hc' hd' hl' hi' =>
    rename_i a1 o1 i1 n1 x1 a2 o2 i2 n2 x2;have:=RcAt.tuples (e:=fun j=>decide (x1.getD j .cb=x2.getD j .cb)) T1 ⟨_,ho',hc',_,hd'⟩ gP fun j j1 j2 =>
     cG.eq n (gC ha (getD_at (by omega))) (gC hb (getD_at (by omega))) (by show A.units+1+n<cLine;omega) (hi j _ _ (getD_at (by omega)) (Tx j1)) (hi' j _ _ (getD_at (by omega)) (Tx j2))
    rw [<- hl,<- hl',ig (f:=fun a b=>decide (a=b)),ux] at this;rw [show decide (T.tup x1=T.tup x2)=decide (x1=x2) by rw [Vo];simp];exact(both this fun e=>by have:=sm (by rw [e]);simpa using this).2
noncomputable def CN (P:UU) (w:VL):HeapKind P w T where
 is:=fun h k a=>cG h k (.ref a)/\kd 7 k=true
 hash:=hT w
 draws:=dr
 room:=fun A=>A.units+8<cLine
 inj:=fun a b=>a.1.same b.1
 keeps:=fun k ho hd hs=>⟨k.1.keeps ho hd hs,k.2⟩
 pyHash:=fun hu k h=>cG.hash 7 k.2 (by omega) k.1 h
 eqBool:=fun hu a b h=>cG.eq 7 a.2 b.2 (by omega) a.1 b.1 _ _ _ _ h
 quiet:=fun k h=>wpAny_mono (cG.quiet 7 8 k.2 (by omega) k.1) (fun b s' hb=>by obtain⟨rfl,rfl⟩:=hb;exact h) fun _ _ e=>e
end
end M
namespace M
open PySem PySem.Spec PyProof.Rows
noncomputable def xS:T->Ts->Bool
 | .int i,.int j _=>i == j
 | .str z,.str x _=>x == ⟨z.toArray⟩
 | _,_=>false
theorem fw {k:T} {v:Ts} (h:xS k v=true):(∃i t,k=.int i/\v=.int i t)\/∃z t,k=.str z/\v=.str ⟨z.toArray⟩ t:=by
 unfold xS at h;split at h
 ·exact .inl ⟨_,_,rfl,by rw [eq_of_beq h]⟩
 ·exact .inr ⟨_,_,rfl,by rw [eq_of_beq h]⟩
 ·cases h
theorem toA {z z':Cs} (e:(⟨z.toArray⟩:Str)=⟨z'.toArray⟩):z=z':=by simpa using congrArg (fun x:Str=>x.cps.toList) e
noncomputable def gE (P:UU) (w:VL):KeyKind P w T where
 is:=xS
 hash:=hT w
 inj:=fun v a b ha hb=>by
  rcases fw ha with⟨i,t,rfl,rfl⟩|⟨z,t,rfl,rfl⟩
  ·rcases fw hb with⟨j,t',rfl,e⟩|⟨z',t',rfl,e⟩
   ·injection e with e1 _;rw [e1]
   ·cases e
  ·rcases fw hb with⟨j,t',rfl,e⟩|⟨z',t',rfl,e⟩
   ·cases e
   ·injection e with e1 _;rw [toA e1]
 byValue:=fun k v h=>by rcases fw h with⟨i,t,rfl,rfl⟩|⟨z,t,rfl,rfl⟩ <;> rfl
 pyHash:=fun h q=>by
  rcases fw h with⟨i,t,rfl,rfl⟩|⟨z,t,rfl,rfl⟩
  ·rw [hT] at q;exact wpAny_pyHash_int q
  ·rw [hT] at q;exact wpAny_pyHash_str q
 eqBool:=fun {A E s a b u v Q} ha hb q=>by
  rcases fw ha with⟨i,t,rfl,rfl⟩|⟨z,t,rfl,rfl⟩
  ·rcases fw hb with⟨j,t',rfl,rfl⟩|⟨z',t',rfl,rfl⟩
   ·rw [show decide (T.int i=T.int j)=(i == j) by rw [Vo];simp] at q;exact wpAny_eqBool_int q
   ·rw [decide_eq_false (by intro e;cases e)] at q;exact SeqAt.EqAt.int_str _ _ _ _ _ _ _ _ q
  ·rcases fw hb with⟨j,t',rfl,rfl⟩|⟨z',t',rfl,rfl⟩
   ·rw [decide_eq_false (by intro e;cases e)] at q;exact SeqAt.EqAt.str_int _ _ _ _ _ _ _ _ q
   ·rw [show decide (T.str z=T.str z')=(z == z') by rw [Vo];simp,<- str_beq] at q;exact SeqAt.EqAt.str_str _ _ _ _ _ _ _ _ q
 «strs»:=fun k x t v h=>by
  rcases fw h with⟨i,t',rfl,e⟩|⟨z,t',rfl,e⟩
  ·cases e
  ·injection e with e1 _
   subst e1;cases v <;> rfl
noncomputable def pl (ks:List (T × T)) (y:T):Option Nat:=ks.findIdx? fun p=>decide (p.1=y)
section
variable {X:Cx} {pins:aX} {φ:Fr} {g:G} {L L':aa} {s:Tv} {ks:List (T × T)} {t y x:T} {u v:Ts} {n:Nat} {a d:Ug} {A:Ux} {q:Option (Ug × Ug)} {E:Ts->Tv->Prop}
theorem kU (h:jI t=true) (r:RT g none t u):xS t u=true:=by
 cases r <;> first|cases h|skip
 ·exact beq_self_eq_true _
 ·exact beq_self_eq_true _
theorem uy (I:Inv X pins φ g L s) (h:DI t=true) (r:RT g none t u):∃a,u=.ref a/\cG s.heap t u/\kd 7 t=true:=by
 cases t <;> first|cases h|skip
 have k:kd 7 (.tup _)=true:=h;have z:=I.EM 7 k r
 cases z with
 | tup ho hc hd hl hi=>exact⟨_,rfl,.tup ho hc hd hl hi,k⟩
structure bE (X:Cx) (g:G) (s:Tv) (ks:List (T × T)) (a:Ug) (o:Obj) (es:Array DictEntry) (ep:Nat):Prop where
 ho:s.heap.get? a=some o
 hx:o.ExactDict
 hd:o.data=.dict es ep
 hz:ks.length<=T7
 hl:ks.length=es.size
 hn:(ks.map (·.1)).Nodup
 hm:fW (ks.map (·.1))=true
 hs:(a == sysModules)=false
 hh:∀(i:Nat) x e,ks[i]?=some x->es[i]?=some e->e.hash=hT X.w x.1
 h1:∀(i:Nat) x e,ks[i]?=some x->es[i]?=some e->RT g none x.1 e.key
 h2:∀(i:Nat) x e,ks[i]?=some x->es[i]?=some e->RT g none x.2 e.val
theorem Inv.aP (I:Inv X pins φ g L s) (r:RT g q (.aP ks) u):∃a o es ep,u=.ref a/\rW q a a/\g.kn q.isNone a o/\bE X g s ks a o es ep:=by
 cases r with
 | aP ht hk hx hd hz hl hn hs hh h1 h2=>exact⟨_,_,_,_,rfl,ht,hk,I.kn hk,hx,hd,hz,hl,hn.1,hn.2,hs,by rw [<- I.gw];exact hh,h1,h2⟩
theorem bE.at (D:bE X g s ks a o es ep) {i:Nat} {p:T × T} (h:ks[i]?=some p):∃e,es[i]?=some e:=by
 have:=(TM.mp h).1;exact⟨_,Tx (by rw [<- D.hl];exact this)⟩
theorem bE.find (D:bE X g s ks a o es ep) (I:Inv X pins φ g L s) (hu:A.units+8<cLine) (hf:dq ks y) (ry:RT g none y v) :
  ∃n,(∀(Q:Int->Tv->Prop) (E:Ts->Tv->Prop),Q (hT X.w y) { s with toks:=s.toks+n }->TR (model X.prog X.w) A (pyHash v) Q E s) /\
   ∀(tk:Nat) (Q:Option Nat->Tv->Prop) (E:Ts->Tv->Prop),Q (pl ks y) { s with toks:=tk }->TR (model X.prog X.w) A (dictFind a v (hT X.w y)) Q E { s with toks:=tk }:=by
 unfold dq fW at hf;rw [Wk] at hf;rcases hf with hf|hf
 ·rw [UG,Tw] at hf
  have hv:=kU hf.1 ry;have sc:∀(i:Nat) p e,ks[i]?=some p->es[i]?=some e->xS p.1 e.key=true:=fun i p e e1 e2 =>
   kU (Tr.mp hf.2 _ (TZ (Ul e1))) (D.h1 i p e e1 e2)
  refine⟨1,fun Q E hq=>(gE X.prog X.w).pyHash hv hq,fun tk Q E hq=>?_⟩;refine wpAny_dictFind_of (knd:=gE X.prog X.w) (s:={ s with toks:=tk }) hv D.ho D.hd (fun e he=>?_) ?_
  ·obtain⟨i,hi,rfl⟩:=VA he
   have e1:=Ge9 (l:=ks) (i:=i) (by rw [D.hl];exact hi);exact⟨_,sc i _ _ e1 (Tx hi),D.hh i _ _ e1 (Tx hi)⟩
  ·have e:(es.findIdx? fun e=>(gE X.prog X.w).is y e.key)=pl ks y:=by
    obtain⟨es⟩:=es;rw [List.findIdx?_toArray];unfold pl;have go:∀(l:List DictEntry) (ks:List (T × T)),ks.length=l.length->(∀(i:Nat) p e,ks[i]?=some p->l[i]?=some e->xS p.1 e.key=true)->(l.findIdx? fun e=>(gE X.prog X.w).is y e.key)=ks.findIdx? fun p=>decide (p.1=y):=fun l=>by
     induction l with
     | nil=>intro ks hl _;cases ks with
      | nil=>rfl
      | cons _ _=>cases hl
     | cons e l ih=>intro ks hl h;cases ks with
      | nil=>cases hl
      | cons p ks =>
       rw [XS,XS,ih ks (by simpa using hl) (fun i p e e1 e2=>h (i+1) p e (by simpa using e1) (by simpa using e2)),KeyKind.is_eq_decide (knd:=gE X.prog X.w) (h 0 p e rfl rfl) y];rw [show decide (y=p.1)=decide (p.1=y) by rw [Vo];simp [eq_comm]]
    exact go es ks (by simpa using D.hl) fun i p e e1 e2=>sc i p e e1 (by simpa using e2)
   rw [e];exact hq
 ·rw [UG,Tw] at hf
  obtain⟨b,rfl,kb,db⟩:=uy I hf.1 ry;refine⟨dr y,fun Q E hq=>(CN X.prog X.w).pyHash hu ⟨kb,db⟩ hq,fun tk Q E hq=>?_⟩;have ex:∃xs:List (T × Ug × Ts),xs.length=ks.length/\∀(i:Nat) p e,ks[i]?=some p->es[i]?=some e->∃c,xs[i]?=some (p.1,c,e.val)/\e.key=.ref c/\cG s.heap p.1 (.ref c)/\kd 7 p.1=true:=by
   refine⟨(ks.zip es.toList).map fun z=>(z.1.1,(match z.2.key with|.ref c=>c|_=>0),z.2.val),by simp [D.hl],fun i p e e1 e2=>?_⟩;obtain⟨c,ec,kc,dc⟩:=uy I (Tr.mp hf.2 _ (TZ (Ul e1))) (D.h1 i p e e1 e2);refine⟨c,?_,ec,by rw [<- ec];exact kc,dc⟩;have ez:(ks.zip es.toList)[i]?=some (p,e):=List.getElem?_zip_eq_some.mpr ⟨e1,by simpa using e2⟩
   rw [TX,ez];show some (p.1,(match e.key with|.ref c=>c|_=>0),e.val)=_
   rw [ec]
  obtain⟨xs,OM,ON⟩:=ex;have K4:∀(i:Nat) z,xs[i]?=some z->∃p e,ks[i]?=some p/\es[i]?=some e/\z=(p.1,z.2.1,e.val)/\e.key=.ref z.2.1/\cG s.heap p.1 (.ref z.2.1)/\kd 7 p.1=true:=fun i z hz=>by
   have hi:=(TM.mp hz).1;have e1:=Ge9 (l:=ks) (i:=i) (by omega)
   obtain⟨e,e2⟩:=D.at e1;obtain⟨c,c1,c2,c3,c4⟩:=ON i _ e e1 e2;rw [hz] at c1;cases c1;exact⟨_,e,e1,e2,rfl,c2,c3,c4⟩
  have keys:xs.map (·.1)=ks.map (·.1):=Vj (by simp [OM]) fun i h1 h2=>by
   rw [VO,VO];have hi:i<xs.length:=by simpa using h1
   obtain⟨p,e,e1,_,e3,_⟩:=K4 i _ (Ge9 hi);have:=(TM.mp e1).2
   rw [e3,<- this]
  have QC:∀(j:Nat) (p:Ug × Ts),xs[j]?=some (y,p)->pl ks y=some j:=fun j p hj=>by
   obtain⟨p',e,e1,_,e3,_⟩:=K4 j _ hj;have ey:p'.1=y:=by injection e3 with e4;exact e4.symm
   obtain⟨QD,QE⟩:=TM.mp e1;refine U0.mpr ⟨QD,by rw [QE];exact decide_eq_true ey,fun i hi=>?_⟩;have ne:¬ ks[i].1=y:=fun z=>by
    have h1:(ks.map (·.1))[i]?=some y:=by rw [TX,Ge9 (by omega)];exact congrArg some z
    have h2:(ks.map (·.1))[j]?=some y:=by rw [TX,e1];exact congrArg some ey
    have:=(List.getElem?_inj (by simp;omega) D.hn).mp (h1.trans h2.symm);omega
   simpa using ne
  refine wpAny_dictFind_heap (knd:=CN X.prog X.w) (xs:=xs) (s:={ s with toks:=tk }) hu ⟨kb,db⟩ D.ho D.hd ?_ (fun z hz=>?_) (by rw [keys];exact D.hn) (fun j4=>?_) fun j p hj=>?_
  ·refine Vj (by simp [OM,D.hl]) fun i h1 h2=>?_
   have hi:i<xs.length:=by simpa using h2
   obtain⟨p,e,e1,e2,e3,e4,_⟩:=K4 i _ (Ge9 hi);rw [VO];have HY:es.toList[i]=e:=by
    have:=(WA.mp e2).2;simpa using this
   rw [HY];have HZ:=D.hh i p e e1 e2
   rw [e3];show e=⟨hT X.w p.1,.ref xs[i].2.1,e.val⟩
   rw [<- e4,<- HZ]
  ·obtain⟨i,hi,rfl⟩:=Vr hz
   obtain⟨p,e,_,_,e3,_,e5,e6⟩:=K4 i _ (Ge9 hi);rw [e3];exact⟨e5,e6⟩
  ·have:pl ks y=none:=by
    refine X2.mpr fun p hp=>?_
    obtain⟨i,hi,rfl⟩:=Vr hp;obtain⟨e,e2⟩:=D.at (Ge9 hi);obtain⟨c,c1,_⟩:=ON i _ e (Ge9 hi) e2;refine decide_eq_false fun z=>j4 i (c,e.val) ?_
    rw [c1,z]
   rw [this] at hq;exact hq
  ·rw [QC j p hj] at hq;exact hq
end
section
variable {X:Cx} {pins:aX} {φ:Fr} {g:G} {L L':aa} {s:Tv} {ks:List (T × T)} {t y x w:T} {u v:Ts} {n:Nat} {a d:Ug} {A:Ux} {q:Option (Ug × Ug)} {E:Ts->Tv->Prop} {o:Obj} {es:Array DictEntry} {ep:Nat}
theorem oE {i:Nat} (h:pl ks y=some i):∃p,ks[i]?=some p/\p.1=y/\dm ks y=some p.2:=by
 obtain⟨h1,h2,h3⟩:=U0.mp h;refine⟨ks[i],Ge9 h1,of_decide_eq_true h2,?_⟩;have:(ks.find? fun p=>decide (p.1=y))=some ks[i]:=by
  rw [List.find?_eq_some_iff_getElem];exact⟨h2,i,h1,rfl,fun j hj=>by simpa using h3 j hj⟩
 unfold dm;rw [show(ks.find? fun p=>@decide (p.1=y) (UR _))=some ks[i] from this];rfl
theorem oF (h:pl ks y=none):dm ks y=none/\∀p∈ks,p.1≠y:=by
 have h':=X2.mp h;have h2:∀p∈ks,p.1≠y:=fun p hp=>of_decide_eq_false (h' p hp)
 refine⟨?_,h2⟩;have:(ks.find? fun p=>decide (p.1=y))=none:=Ve.mpr fun p hp=>by simpa using h2 p hp
 unfold dm;rw [show(ks.find? fun p=>@decide (p.1=y) (UR _))=none from this];rfl
noncomputable def H0 (g:G) (o:Option Ts) (x:Option T):Prop:=(o=none/\x=none)\/∃u t,o=some u/\x=some t/\RT g none t u
theorem bE.val (D:bE X g s ks a o es ep):H0 g ((pl ks y).bind fun i=>es[i]?.map (·.val)) (dm ks y):=by
 cases e:pl ks y with
 | none=>exact .inl ⟨rfl,(oF e).1⟩
 | some i =>
  obtain⟨p,p1,p2,p3⟩:=oE e;obtain⟨d,d1⟩:=D.at p1;exact .inr ⟨d.val,p.2,by rw [VP,d1];rfl,p3,D.h2 i p d p1 d1⟩
theorem bE.get (D:bE X g s ks a o es ep) (I:Inv X pins φ g L s) (hu:A.units+8<cLine) (hf:dq ks y) (ry:RT g none y v) {Q:Option Ts->Tv->Prop} (h:∀tk u,H0 g u (dm ks y)->Q u { s with toks:=tk }):TR (model X.prog X.w) A (dictGet a v) Q E s:=by
 obtain⟨n,h1,h2⟩:=D.find I hu hf ry;unfold dictGet
 try with_reducible refine wpAny_holding ?_
 refine Ti (h1 _ _ (Ti (h2 _ _ _ ?_)));have z:=D.val (y:=y)
 cases e:pl ks y with
 | none=>rw [e] at z;exact Tn (h _ _ z)
 | some i=>rw [e] at z;exact Ti (wpAny_dictEntries (s:={ s with toks:=s.toks+n }) D.ho D.hd (Tn (h _ _ z)))
theorem bE.typeIs (D:bE X g s ks a o es ep):s.TypeIs (.ref a) "dict":=⟨o,D.ho,D.hx.1⟩
theorem bE.in (D:bE X g s ks a o es ep) (I:Inv X pins φ g L s) (hu:X.A.units+20<cLine) (hf:dq ks y) (ry:RT g none y v):(∀Q:Ts->Tv->Prop,(∀tk,Q (.bool (dm ks y).isSome) { s with toks:=tk })->TR (model X.prog X.w) X.A (compareOp .In v (.ref a)) Q F0 s) /\
  ∀Q:Ts->Tv->Prop,(∀tk,Q (.bool (!(dm ks y).isSome)) { s with toks:=tk })->TR (model X.prog X.w) X.A (compareOp .NotIn v (.ref a)) Q F0 s:=by
 have gP:X.A.in1.units+8<cLine:=by show X.A.units+1+8<cLine;omega
 have go:∀Q:Bool->Tv->Prop,(∀tk,Q (dm ks y).isSome { s with toks:=tk })->TR (model X.prog X.w) X.A (contains (.ref a) v) Q F0 s:=fun Q h=>by
  unfold contains
  try with_reducible refine wpAny_holding ?_
  refine Ti (wpAny_specialOf D.typeIs slot_dict_contains.lookup ?_);show TR _ _ (if (some (Xu "dict.__contains__") == some U2)=true then _ else _) _ _ s
  rw [if_neg (by rw [beq_builtin_none];exact VR)];refine Ti (wpAny_callSpecialUnlessNone?_slot (name:=Vd "__contains__") D.typeIs slot_dict_contains
   (wpAny_call_entry slot_dict_contains D.typeIs entry_dict_contains ?_ (args_dict_contains _ _)))
  show TR _ _ (dictGet a v >>= _) _ _ s;refine Ti (D.get I gP hf ry fun tk u hu=>?_);rcases hu with⟨rfl,e⟩|⟨u,t,rfl,e,_⟩
  ·show TR _ _ (Builtin.Dict.pendingKey? a v >>= _) _ _ _
   refine Ti (wpAny_pendingKey_other D.hs (Tn ⟨_,rfl,wpAny_truthy_bool ?_⟩));have:=h tk;rw [e] at this;exact this
  ·show TR _ _ (PySem.ret (.bool true)) _ _ _
   refine Tn ⟨_,rfl,wpAny_truthy_bool ?_⟩;have:=h tk;rw [e] at this;exact this
 exact⟨fun Q h=>Ti (go _ fun tk=>Tn (h tk)),fun Q h=>Ti (go _ fun tk=>Tn (h tk))⟩
theorem bE.item (D:bE X g s ks a o es ep) (I:Inv X pins φ g L s) (hu:X.A.units+20<cLine) (hf:dq ks y) (ry:RT g none y v) (hx:dm ks y=some x) {Q:Ts->Tv->Prop} (h:∀tk u,RT g none x u->Q u { s with toks:=tk }):TR (model X.prog X.w) X.A (getItem (.ref a) v) Q F0 s:=by
 have gP:X.A.in1.units+8<cLine:=by show X.A.units+1+8<cLine;omega
 unfold getItem
 try with_reducible refine wpAny_holding ?_
 refine Ti (wpAny_sequenceKey D.typeIs (by decide) ?_);refine Ti (wpAny_callSpecial?_slot (name:=Vd "__getitem__") D.typeIs slot_dict_getitem
  (wpAny_call_entry slot_dict_getitem D.typeIs entry_dict_getitem ?_ (args_dict_getitem _ _)))
 show TR _ _ (dictGet a v >>= _) _ _ s;refine Ti (D.get I gP hf ry fun tk u hu=>?_);rcases hu with⟨rfl,e⟩|⟨u,t,rfl,e,r⟩
 ·rw [hx] at e;cases e
 ·rw [hx] at e;cases e
  exact Tn ⟨u,rfl,Tn (h tk u r)⟩
theorem xU {ks:List T} (h:fW (y::ks)=true):fW ks=true/\fW (ks++[y])=true:=by
 unfold fW at h ⊢;simp only [UG,Wk,Tw,List.all_append,Y0,and_true] at h ⊢;rcases h with h|h
 ·exact⟨.inl h.2,.inl ⟨h.2,h.1⟩⟩
 ·exact⟨.inr h.2,.inr ⟨h.2,h.1⟩⟩
theorem eT (h:∀p∈ks,p.1≠y):dput ks y t=ks++[(y,t)]:=by
 unfold dput;rw [if_neg];intro z;obtain⟨p,hp,e⟩:=Vk.mp z;exact h p hp (of_decide_eq_true e)
theorem xV {i:Nat} (hn:(ks.map (·.1)).Nodup) (h:pl ks y=some i):dput ks y t=ks.set i (y,t):=by
 obtain⟨h1,h2,h3⟩:=U0.mp h;unfold dput;rw [if_pos (Vk.mpr ⟨_,TN h1,by rw [decide_eq_true (of_decide_eq_true h2)]⟩)];refine Vj (by simp) fun j j1 j2=>?_
 rw [VO,List.getElem_set];have hj:j<ks.length:=by simpa using j1
 by_cases e:i=j
 ·subst e
  rw [if_pos rfl,if_pos (of_decide_eq_true h2),of_decide_eq_true h2]
 ·rw [if_neg e,if_neg]
  intro z;have hi':(ks.map (·.1))[i]?=some y:=by rw [TX,Ge9 h1];exact congrArg some (of_decide_eq_true h2)
  have hj':(ks.map (·.1))[j]?=some y:=by rw [TX,Ge9 hj];exact congrArg some z
  exact e ((List.getElem?_inj (by simpa using h1) hn).mp (hi'.trans hj'.symm))
theorem Inv.H3 {p:Ug × Ug} {o':Obj} {fq:Array DictEntry} {Hi:Nat} {sE:List (T × T)} {h':Heap} {tk:Nat} (I:Inv X pins φ g L s) (hp:at_ g.α n=some p) (hk:g.H p.1=some (false,o)) (rN:p.2=p.1) (D:bE X g s ks p.1 o es ep) (keep:∀b v,b≠p.1->s.heap.get? b=some v->h'.get? b=some v) (new:h'.get? p.1=some o') (hx:o'.ExactDict) (hd:o'.data=.dict fq Hi)
  (hz:sE.length<=T7) (hl:sE.length=fq.size) (hn:(sE.map (·.1)).Nodup) (hm:fW (sE.map (·.1))=true) (hh:∀(i:Nat) x e,sE[i]?=some x->fq[i]?=some e->e.hash=hT X.w x.1/\RT g none x.1 e.key/\RT g none x.2 e.val) :
  ∃g',Le g g'/\Inv X pins φ g' (put L n (.aP sE)) { s with heap:=h',toks:=tk }/\∀b,b≠p.1->g'.H b=g.H b:=by
 have l:=Le.set (o:=o') hk;refine⟨_,l,I.set (t':=tk) hp (.inl rfl) hk keep new ?_,fun b hb=>az hb⟩;have ht:rW (some p) p.1 p.1:=.inr (congrArg some (Prod.ext rfl rN))
 exact .aP ht (.inl aq) hx hd hz hl ⟨hn,hm⟩ D.hs (fun i x e e1 e2=>by show e.hash=hT g.w x.1;rw [I.gw];exact(hh i x e e1 e2).1) (fun i x e e1 e2=>(hh i x e e1 e2).2.1.le l) fun i x e e1 e2=>(hh i x e e1 e2).2.2.le l
theorem Inv.uz (I:Inv X pins φ g L s) (ru:RT g none (.ref n) u) (hc:at_ L n=some (.aP ks)):∃p o es ep,u=.ref p.1/\at_ g.α n=some p/\p.2=p.1/\g.H p.1=some (false,o)/\bE X g s ks p.1 o es ep:=by
 obtain⟨p,hp,rc⟩:=I.rel.cells n _ hc;cases ru with
 | ref hq =>
  rw [hp] at hq;cases hq;obtain⟨a,o,es,ep,e,ht,hk,D⟩:=I.aP rc;have ea:p.1=a:=by injection e
  subst ea;refine⟨p,o,es,ep,rfl,hp,?_,?_,D⟩
  ·rcases ht with z|z
   ·cases z
   ·exact congrArg Prod.snd (Vn z)
  ·rcases hk with hk|⟨z,_⟩
   ·exact hk
   ·cases z
theorem bE.new {p:Ug × Ug} {tk:Nat} (D:bE X g s ks p.1 o es ep) (I:Inv X pins φ g L s) (hp:at_ g.α n=some p) (rN:p.2=p.1) (hk:g.H p.1=some (false,o)) (hf:dq ks y) (hz:ks.length<T7) (j4:pl ks y=none) (ry:RT g none y v) (rt:RT g none t u) :
  ∃g',Le g g'/\Inv X pins φ g' (put L n (.aP (dput ks y t))) { s with heap:=s.heap.update p.1 (Obj.mapDictKeys (·.push ⟨hT X.w y,v,u⟩)),toks:=tk }/\∀b,b≠p.1->g'.H b=g.H b:=by
 have hne:=(oF j4).2;rw [eT hne];refine I.H3 hp hk rN D (fun b v hb hv=>(Uk s.heap _ (U7 hb)).trans hv) (U4 _ D.ho (Obj.isFreed_of_dict (Y4 D.hd _))) (D.hx.mapDictKeys _) (Y4 D.hd _) (by simp;omega) (by simp [D.hl]) ?_ ?_ fun i x e e1 e2=>?_
 ·rw [TS,UX]
  refine⟨D.hn,by simp,fun x hx y' hy=>?_⟩;obtain⟨q,hq,rfl⟩:=Tz.mp hx;have:y'=y:=by simpa using hy
  rw [this];exact hne q hq
 ·rw [TS];exact(xU hf).2
 ·rw [List.getElem?_append] at e1
  rw [WQ] at e2;split at e1
  ·rename_i hi
   rw [if_neg (by rw [<- D.hl];exact Ub hi)] at e2;exact⟨D.hh i x e e1 e2,D.h1 i x e e1 e2,D.h2 i x e e1 e2⟩
  ·rename_i hi
   have CO:i=es.size:=by
    have:=(TM.mp e1).1;simp at this;have:=D.hl
    omega
   rw [if_pos CO] at e2;cases e2;have e1':i - ks.length=0:=by have:=D.hl;omega
   rw [e1'] at e1;cases e1;exact⟨rfl,ry,rt⟩
theorem bE.old {p:Ug × Ug} {tk i:Nat} (D:bE X g s ks p.1 o es ep) (I:Inv X pins φ g L s) (hp:at_ g.α n=some p) (rN:p.2=p.1) (hk:g.H p.1=some (false,o)) (hi:pl ks y=some i) (rt:RT g none t u) :
  ∃g',Le g g'/\Inv X pins φ g' (put L n (.aP (dput ks y t))) { s with heap:=s.heap.update p.1 (Obj.mapDict (·.modify i fun e=>{ e with val:=u })),toks:=tk }/\∀b,b≠p.1->g'.H b=g.H b:=by
 rw [xV D.hn hi];obtain⟨q,q1,q2,_⟩:=oE hi;have keys:(ks.set i (y,t)).map (·.1)=ks.map (·.1):=by
  refine Vj (by simp) fun j h1 h2=>?_
  rw [VO,VO,List.getElem_set];by_cases e:i=j
  ·subst e
   rw [if_pos rfl,(TM.mp q1).2,q2]
  ·rw [if_neg e]
 refine I.H3 hp hk rN D (fun b v hb hv=>(Uk s.heap _ (U7 hb)).trans hv) (U4 _ D.ho (Obj.isFreed_of_dict (Obj.data_mapDict D.hd _))) (D.hx.mapDict _) (Obj.data_mapDict D.hd _) (by simpa using D.hz) (by simp [D.hl]) (by rw [keys];exact D.hn) (by rw [keys];exact D.hm) fun j x e e1 e2=>?_
 rw [Array.getElem?_modify] at e2;rw [List.getElem?_set] at e1;by_cases ej:i=j
 ·subst ej
  rw [if_pos rfl] at e1 e2;obtain⟨e0,f1,f2⟩:=TG.mp e2;have bD:=(TM.mp q1).1
  rw [if_pos bD] at e1;cases e1;subst f2;exact⟨by rw [<- q2];exact D.hh i q e0 q1 f1,by rw [<- q2];exact D.h1 i q e0 q1 f1,rt⟩
 ·rw [if_neg ej] at e1 e2
  exact⟨D.hh j x e e1 e2,D.h1 j x e e1 e2,D.h2 j x e e1 e2⟩
theorem uA {A:Ux} (I:Inv X pins φ g L s) (hu:A.units+8<cLine) (hc:at_ L n=some (.aP ks)) (rd:RT g none (.ref n) (.ref a)) (ry:RT g none y v) {tv:Ts} (rt:RT g none t tv) (hz:ks.length<T7) (hf:dq ks y) :
  TR (model X.prog X.w) A (dictSet a v tv) (fun _ s'=>(∃g',Le g g'/\Inv X pins φ g' (put L n (.aP (dput ks y t))) s'/\∀b,b≠a->g'.H b=g.H b)/\∀b,b≠a->s'.heap.get? b=s.heap.get? b) E s:=by
 obtain⟨p,o,es,ep,ea,hp,rN,hk,D⟩:=I.uz rd hc;cases ea;obtain⟨m,h1,h2⟩:=D.find I hu hf ry;unfold dictSet
 try with_reducible refine wpAny_holding ?_
 refine Ti (h1 _ _ ?_);unfold dictSetHashed
 try with_reducible refine wpAny_holding ?_
 refine Ti (h2 _ _ _ ?_);cases e:pl ks y with
 | none =>
  exact Ti (wpAny_rule (wpAny_updateDictKeys (hz:=by have:=D.hl;omega) (s:={ s with toks:=s.toks+m }) D.ho D.hd ⟨D.new I hp rN hk hf hz e ry rt,fun b hb=>Uk s.heap _ (U7 hb)⟩))
 | some i =>
  exact Ti (wpAny_rule (Ti (wpAny_updateDict (s:={ s with toks:=s.toks+m }) D.ho D.hd (wpAny_point ⟨D.old I hp rN hk e rt,fun b hb=>Uk s.heap _ (U7 hb)⟩))))
theorem Bh (I:Inv X pins φ g L s) (hu:X.A.units+20<cLine) (hc:at_ L n=some (.aP ks)) (rd:RT g none (.ref n) u) (ry:RT g none y v) {tv:Ts} (rt:RT g none t tv) (hz:ks.length<T7) (hf:dq ks y) :
  TR (model X.prog X.w) X.A (setItem u v tv) (fun _ s'=>∃g',Le g g'/\Inv X pins φ g' (put L n (.aP (dput ks y t))) s') F0 s:=by
 have gP:X.A.in1.units+8<cLine:=by show X.A.units+1+8<cLine;omega
 obtain⟨p,o,es,ep,rfl,hp,rN,hk,D⟩:=I.uz rd hc;unfold setItem
 try with_reducible refine wpAny_holding ?_
 refine Ti (wpAny_sequenceKey D.typeIs (by decide) ?_);refine Ti (wpAny_callSpecial?_slot (name:=Vd "__setitem__") D.typeIs slot_dict_setitem
  (wpAny_call_entry slot_dict_setitem D.typeIs entry_dict_setitem ?_ (args_dict_setitem _ _ _)))
 show TR _ _ (Builtin.Dict.notOrdered "__setitem__" ⟨[.ref p.1,v,tv],[]⟩ >>= _) _ _ s;refine Ti (wpAny_notOrdered_dict D.typeIs ?_);show TR _ _ (dictSet p.1 v tv >>= _) _ _ s
 refine Ti (wpAny_mono (uA I gP hc rd ry rt hz hf) (fun _ s' ⟨⟨g',l,J,_⟩,_⟩=>Tn ⟨.none,rfl,Tn ⟨g',l,J⟩⟩) fun _ _ e=>e)
end
section
variable {X:Cx} {pins:aX} {φ:Fr} {g:G} {L:aa} {s:Tv} {xs ys:List T} {us vs:List Ts} {e a b:Expr} {m ma mb:SE} {pos p2:Pos}
theorem EN {α:Type} {y:T} {f:Int->R α} {w:α} {L':aa} (h:(match y with|.int i=>f i|_=>.bad)=.ok w L'):∃i,y=.int i/\f i=.ok w L':=by
 cases y with
 | int i=>exact⟨i,rfl,h⟩
 | _=>cases h
theorem H4 {α:Type} {y:T} {f:R α} {w:α} {L':aa} (h:(match y with|.cb=>f|_=>.bad)=.ok w L'):y=.cb/\f=.ok w L':=by
 cases y with
 | cb=>exact⟨rfl,h⟩
 | _=>cases h
theorem QF {α:Type} {y:T} {f:Nat->R α} {w:α} {L':aa} (h:(match y with|.str [ch]=>f ch|_=>.bad)=.ok w L'):∃ch,y=.str [ch]/\f ch=.ok w L':=by
 split at h
 ·exact⟨_,rfl,h⟩
 ·cases h
theorem CP (hu:X.A.units+20<cLine) {x y:T} {u v:Ts} {k:Bool} {L':aa} (I:Inv X pins φ g L s) (rx:RT g none x u) (ry:RT g none y v) (h:mW x y L=.ok k L') :
  L'=L/\(∀Q:Ts->Tv->Prop,(∀tk,Q (.bool k) { s with toks:=tk })->TR (model X.prog X.w) X.A (compareOp .In u v) Q F0 s)/\∀Q:Ts->Tv->Prop,(∀tk,Q (.bool (!k)) { s with toks:=tk })->TR (model X.prog X.w) X.A (compareOp .NotIn u v) Q F0 s:=by
 obtain⟨p,vy⟩:=I.view ry;unfold mW at h;generalize vw L y=y' at h vy;have gP:X.A.in1.units+8<cLine:=by show X.A.units+1+8<cLine;omega
 cases y' with
 | str b =>
  obtain⟨ch,rfl,h⟩:=QF h;cases h;obtain⟨_,rfl⟩:=rx.sI;obtain⟨_,rfl⟩:=vy.sI;exact⟨rfl,fun Q q=>in_str (by rw [ug];exact q s.toks),fun Q q=>notIn_str (by rw [ug];exact q s.toks)⟩
 | lst ys =>
  obtain⟨⟨h1,h2⟩,h⟩:=aA h;cases h;obtain⟨a,its,n,rfl,e,r,_⟩:=I.lst vy;obtain⟨f,f1,f2,_⟩:=oz I gP h1 rx h2 r;rw [<- f2,<- show its.any f=its.toList.any f by simp];exact⟨rfl,fun Q q=>SeqAt.in_listAt f (af e) (fun w hw=>f1 w (by simpa using hw)) (q s.toks),fun Q q=>SeqAt.notIn_listAt f (af e) (fun w hw=>f1 w (by simpa using hw)) (q s.toks)⟩
 | tup ys =>
  obtain⟨⟨h1,h2⟩,h⟩:=aA h;cases h;obtain⟨a,its,rfl,e,r,_⟩:=I.tupP vy;obtain⟨f,f1,f2,_⟩:=oz I gP h1 rx h2 r;rw [<- f2,<- show its.any f=its.toList.any f by simp];exact⟨rfl,fun Q q=>SeqAt.in_tupleAt f e (fun w hw=>f1 w (by simpa using hw)) (q s.toks),fun Q q=>SeqAt.notIn_tupleAt f e (fun w hw=>f1 w (by simpa using hw)) (q s.toks)⟩
 | aP ks =>
  obtain⟨h1,h⟩:=aA h;cases h;obtain⟨a,o,es,ep,rfl,_,_,D⟩:=I.aP vy;obtain⟨d1,d2⟩:=D.in I hu h1 rx;exact⟨rfl,fun Q q=>d1 Q q,fun Q q=>d2 Q q⟩
 | _=>cases h
theorem oG {op:CmpOp} (hu:X.A.units+20<cLine):w6 X (compareOp op) (cmp op):=fun {pins φ g L s x y w L' u v} I rx ry h=>by
 obtain⟨k,h',rfl⟩:=oo h;clear h;have fin:∀k,EP X pins φ g (.bl k) L (.bool k) s:=fun k=>I.ep (.bl k)
 cases op with
 | Eq =>
  obtain⟨h1,h2,rfl,rfl⟩:=Ez h';obtain⟨p,vx⟩:=I.view rx;obtain⟨q,vy⟩:=I.view ry;exact(I.rc 8 h1 h2 (by omega) vx vy).1 _ _ _ _ (fin _)
 | NotEq =>
  have h:KQ x y L=.ok k L':=h';unfold KQ at h;split at h
  ·obtain⟨_,rfl⟩:=rx.iI;obtain⟨_,rfl⟩:=ry.iI;cases h;exact ne_int (fin _)
  ·obtain⟨_,rfl⟩:=rx.sI;obtain⟨_,rfl⟩:=ry.sI;cases h;refine ne_str ?_;simp only [bne,str_beq];exact fin _
  ·cases h
 | Lt =>
  have h:KR x y L=.ok k L':=h';unfold KR at h;split at h
  ·obtain⟨_,rfl⟩:=rx.iI;obtain⟨_,rfl⟩:=ry.iI;cases h;exact lt_int (fin _)
  ·obtain⟨_,rfl⟩:=rx.sI;obtain⟨_,rfl⟩:=ry.sI;cases h;exact lt_str (fin _)
  ·cases h
 | Gt =>
  have h:KS x y L=.ok k L':=h';unfold KS at h;split at h
  ·obtain⟨_,rfl⟩:=rx.iI;obtain⟨_,rfl⟩:=ry.iI;cases h;exact gt_int (fin _)
  ·cases h
 | LtE =>
  have h:DJ x y L=.ok k L':=h';unfold DJ at h;split at h
  ·obtain⟨_,rfl⟩:=rx.iI;obtain⟨_,rfl⟩:=ry.iI;cases h;exact le_int (fin _)
  ·cases h
 | GtE =>
  have h:DJ y x L=.ok k L':=h';unfold DJ at h;split at h
  ·obtain⟨_,rfl⟩:=rx.iI;obtain⟨_,rfl⟩:=ry.iI;cases h;exact ge_int (fin _)
  ·cases h
 | Is =>
  obtain⟨rfl,h'⟩:=H4 h';obtain rfl:=ry.nI;cases h';exact is_none_gen (by rw [xy rx];exact fin _)
 | IsNot =>
  obtain⟨rfl,h'⟩:=H4 h';obtain rfl:=ry.nI;cases h';exact isnot_none_gen (by rw [xy rx];exact fin _)
 | In =>
  obtain⟨rfl,a,_⟩:=CP hu I rx ry h';exact a _ fun tk=>(I.tok tk).ep (.bl _)
 | NotIn =>
  obtain⟨k,h2,rfl⟩:=oo h';obtain⟨rfl,_,a⟩:=CP hu I rx ry h2;exact a _ fun tk=>(I.tok tk).ep (.bl _)
theorem H5 (hu:X.A.units+20<cLine) (hb:vP b=true):w6 X (fun o i=>subscriptTail a b o i) ix:=fun {pins φ g L s x y w L' u v} I rx ry h=>by
 obtain⟨p,vx⟩:=I.view rx;have hn:=sA
 unfold ix at h;generalize vw L x=x' at h vx;have hs:=fun o i=>xB hb o i
 cases x' with
 | str z =>
  obtain⟨i,rfl,h⟩:=EN h;obtain⟨q1,rfl⟩:=ij h;obtain⟨ch,q2,rfl⟩:=TG.mp q1;obtain⟨j,hj,hc⟩:=VB.mp q2;obtain⟨h1,h2,h3,h4,_⟩:=lL hj;obtain⟨_,rfl⟩:=ry.iI;obtain⟨t,rfl,hz⟩:=vx.iM
  ·have hl:(⟨z.toArray⟩:Str).length=z.length:=by show z.toArray.size=_;simp
   exact tail_any (typeIs_str s _ t) slot_str_getitem.lookup (getItem_str (c:=ch) (by
    have e1:decide (i < -(2 ^ 63:Int))=false:=decide_eq_false (by omega);have e2:decide (i≥2 ^ 63)=false:=decide_eq_false (by omega)
    rw [e1,e2,Bool.or_false]) (by rw [hl,h1];simpa using hc) ((I.tok _).ep (.str [ch] _ (by show 1<=T7;decide)))) (hs _ _)
 | tup xs =>
  obtain⟨i,rfl,h⟩:=EN h;obtain⟨q1,rfl⟩:=ij h;obtain⟨j,hj,hc⟩:=VB.mp q1;obtain⟨h1,h2,h3,h4,_⟩:=lL hj;obtain⟨_,rfl⟩:=ry.iI;obtain⟨a,its,rfl,e,r,hz⟩:=I.tupP vx;obtain⟨u,hu,ru⟩:=rY r hc;have hl:xs.length=its.size:=by have:=TV r;simp at this;omega
  exact subscriptTail_builtinR (x:=u) e.typeIs slot_tuple_getitem.lookup
   (getItem_tuple (j:=j) (Q:=fun r s'=>r=u/\EP X pins φ g w L' r s') e (by omega) (by omega) (by rw [<- hl];exact h1) (by simpa using hu) ⟨rfl,I.ep ru⟩) (hs _ _)
 | lst xs =>
  obtain⟨i,rfl,h⟩:=EN h;obtain⟨q1,rfl⟩:=ij h;obtain⟨j,hj,hc⟩:=VB.mp q1;obtain⟨h1,h2,h3,h4,h5⟩:=lL hj;obtain⟨_,rfl⟩:=ry.iI;obtain⟨a,its,n,rfl,e,r,hz⟩:=I.lst vx;obtain⟨u,hu,ru⟩:=rY r hc;have hl:xs.length=its.size:=by have:=TV r;simp at this;omega
  rcases h5 with⟨h0,hj⟩|⟨h0,hj⟩
  ·exact item_listR (af e) h0 (by omega) (by rw [hj];simpa using hu) (I.ep ru) (hs _ _)
  ·exact subscriptTail_builtinR (x:=u) (af e).typeIs slot_list_getitem.lookup
    (wpAny_getItem_list_neg (Q:=fun r s'=>r=u/\EP X pins φ g w L' r s') (af e) (by omega) (by omega) (by omega) (by rw [<- hl,hj];simpa using hu) ⟨rfl,I.ep ru⟩) (hs _ _)
 | aP ks =>
  obtain⟨h1,q1⟩:=aA h;obtain⟨q2,rfl⟩:=ij q1;obtain⟨d,o,es,ep,rfl,_,_,D⟩:=I.aP vx;exact tail_any D.typeIs slot_dict_getitem.lookup (D.item I hu h1 ry q2 fun tk u r=>(I.tok tk).ep r) (hs _ _)
 | _=>cases h
theorem bE.jI {a:Ug} {o:Obj} {es:Array DictEntry} {ep:Nat} {ks:List (T × T)} (D:bE X g s ks a o es ep) (h:(ks.map (·.1)).all jI=true):∃kvs,s.heap.DictAt (gE X.prog X.w) a kvs ep/\kvs.length=ks.length/\kvs.map (·.1)=ks.map (·.1):=by
 have sc:∀(i:Nat) p e,ks[i]?=some p->es[i]?=some e->xS p.1 e.key=true:=fun i p e e1 e2 =>
  kU (Tr.mp h _ (TZ (Ul e1))) (D.h1 i p e e1 e2)
 have go:∀(l:List DictEntry) (ks:List (T × T)),ks.length=l.length->(∀(i:Nat) p e,ks[i]?=some p->l[i]?=some e->xS p.1 e.key=true)->∃kvs,Pairs (gE X.prog X.w) l kvs/\kvs.length=ks.length/\kvs.map (·.1)=ks.map (·.1):=fun l=>by
  induction l with
  | nil=>intro ks hl _;cases ks with
   | nil=>exact⟨[],.nil,rfl,rfl⟩
   | cons _ _=>cases hl
  | cons e l ih=>intro ks hl h;cases ks with
   | nil=>cases hl
   | cons p ks =>
    obtain⟨kvs,k1,k2,k3⟩:=ih ks (by simpa using hl) fun i p e e1 e2=>h (i+1) p e (by simpa using e1) (by simpa using e2)
    exact⟨(p.1,e.val)::kvs,.cons (h 0 p e rfl rfl) rfl k1,by simp [k2],by simp [k3]⟩
 obtain⟨kvs,k1,k2,k3⟩:=go es.toList ks (by simpa using D.hl) fun i p e e1 e2=>sc i p e e1 (by simpa using e2)
 refine⟨kvs,⟨o,es,D.ho,D.hx,D.hd,fun e he=>?_,k1,by rw [k3];exact D.hn⟩,k2,k3⟩;obtain⟨i,hi,rfl⟩:=VA he;have e1:=Ge9 (l:=ks) (i:=i) (by rw [D.hl];exact hi)
 exact⟨_,sc i _ _ e1 (Tx hi),D.hh i _ _ e1 (Tx hi)⟩
theorem xW {t:T} {u v:Ts} (h:xS t v=true) (r:RT g none t u):RT g none t v:=by
 rcases fw h with⟨i,k,rfl,rfl⟩|⟨z,k,rfl,rfl⟩
 ·exact .int _ _
 ·obtain⟨_,_,hz⟩:=r.iM;exact .str _ _ hz
theorem EO (hu:X.A.units+20<cLine):xK X "dict.get" iz:=fun {_ _ g _ s _ _ _ _ _ _} I rx rv h=>by
 have gP:X.A.in1.units+8<cLine:=by show X.A.units+1+8<cLine;omega
 unfold iz at h;split at h
 ·rename_i ks y t ev
  obtain⟨h1,h⟩:=aA h;cases h;obtain⟨p,v⟩:=I.view rx;rw [ev] at v;obtain⟨a,o,es,ep,rfl,_,_,D⟩:=I.aP v;obtain⟨u1,u2,rfl,r1,r2⟩:=iQ rv;have M:MeetsIn X.prog X.w (Builtin.«dict.get» ⟨[.ref a,u1,u2],[]⟩) (fun A R s'=>A=X.A/\s'=s/\∀tk u,RT g none ((dm ks y).getD t) u->R (.ok (.ret u)) { s with toks:=tk }) :=
   .of_wp fun A R s' ⟨eA,fq,h⟩=>by
    subst eA fq;show TR _ _ (dictGet a u1 >>= _) _ _ _
    refine Ti (D.get I gP h1 r1 fun tk u hu=>?_);rcases hu with⟨rfl,e⟩|⟨u,z,rfl,e,r⟩
    ·rw [e] at h
     show TR _ _ (Builtin.Dict.missed a u1 >>= _) _ _ _;exact Ti (wpAny_missed_other D.hs (Tn ⟨u2,rfl,h tk u2 r2⟩))
    ·rw [e] at h
     exact Tn ⟨u,rfl,h tk u r⟩
  exact call_meetsIn Y1 D.typeIs PySem.F.entry_dict_get (PySem.F.args_dict_get_3 _ _ _) M ⟨rfl,rfl,fun tk u r=>(I.tok tk).ep r⟩
 ·cases h
theorem ER (hu:X.A.units+20<cLine):xK X "dict.setdefault" wZ:=fun {pins φ g L s _ _ _ _ _ _} I rx rv h=>by
 have gP:X.A.in1.units+8<cLine:=by show X.A.units+1+8<cLine;omega
 unfold wZ at h;split at h
 ·split at h
  ·rename_i n y t _ ks ea
   obtain⟨⟨hz,h1⟩,h⟩:=aA h;obtain⟨p,o,es,ep,rfl,hp,rN,hk,D⟩:=I.uz rx ea;obtain⟨u1,u2,rfl,r1,r2⟩:=iQ rv;obtain⟨m,f1,f2⟩:=D.find I gP h1 r1;have hz:ks.length<T7:=hz
   have M:MeetsIn X.prog X.w (Builtin.«dict.setdefault» ⟨[.ref p.1,u1,u2],[]⟩) (fun A R s'=>A=X.A/\s'=s/\(∀tk u x,dm ks y=some x->RT g none x u->R (.ok (.ret u)) { s with toks:=tk })/\(dm ks y=none->∀s',(∃g',Le g g'/\Inv X pins φ g' (put L n (.aP (dput ks y t))) s')->R (.ok (.ret u2)) s')) :=
    .of_wp fun A R s' ⟨eA,fq,h1',h2'⟩=>by
     subst eA fq;unfold Builtin.«dict.setdefault»;refine Ti ?_;unfold Builtin.Dict.keyAndDefault;refine Ti (wpAny_notOrdered_dict D.typeIs ?_);show TR _ _ (pure (p.1,u1,some u2)) _ _ _
     refine Tn ?_;show TR _ _ (if (p.1 == sysModules)=true then _ else (dictSetDefault p.1 u1 u2 >>= _)) _ _ _
     rw [if_neg (by rw [D.hs];exact VR)];refine Ti ?_;unfold dictSetDefault
     try with_reducible refine wpAny_holding ?_
     refine Ti (f1 _ _ (Ti (f2 _ _ _ ?_)));cases e:pl ks y with
     | none =>
      exact Ti (wpAny_rule (Ti (wpAny_updateDictKeys (hz:=by have:=D.hl;omega) (s:={ s' with toks:=s'.toks+m }) D.ho D.hd (Tn (Tn ⟨u2,rfl,h2' (oF e).1 _ (let ⟨g',l,J,_⟩:=D.new I hp rN hk h1 hz e r1 r2;⟨g',l,J⟩)⟩)))))
     | some i =>
      obtain⟨q,q1,q2,q3⟩:=oE e;obtain⟨d,d1⟩:=D.at q1;refine Ti (wpAny_dictEntries (s:={ s' with toks:=s'.toks+m }) D.ho D.hd ?_);rw [d1];exact Ti (wpAny_rule (Tn (Tn ⟨d.val,rfl,h1' _ _ _ q3 (D.h2 i q d q1 d1)⟩)))
   refine call_meetsIn Xv D.typeIs PySem.F.entry_dict_setdefault (PySem.F.args_dict_setdefault_3 _ _ _) M ⟨rfl,rfl,fun tk u x e r=>?_,fun e s' ⟨g',l,J⟩=>?_⟩
   ·simp only [e] at h
    cases h;exact(I.tok tk).ep r
   ·simp only [e] at h
    cases h;exact⟨g',l,J,r2.le l⟩
  ·cases h
 ·cases h
theorem vQ {fz:Bool}:cU X (.type "list") (cL fz):=fun {_ _ g _ s _ _ _ _} I r h=>by
 unfold cL at h;split at h
 ·obtain⟨u,rfl,ru⟩:=bF r
  split at h
  ·exact uj I ru (.inr (by assumption)) h
  ·exact uj I ru (.inl (by assumption)) h
  ·rename_i ks ev
   obtain⟨h1,h⟩:=aA h;obtain⟨p,v⟩:=I.view ru;rw [ev] at v;obtain⟨a,o,es,ep,rfl,_,_,D⟩:=I.aP v;obtain⟨kvs,dk,hl,hk⟩:=D.jI h1;refine PySem.W.kdl_call (PySem.W.kdl_dict (knd:=gE X.prog X.w) (kvs:=kvs) (ep:=ep) D.hs) I.ok.hd dk (by have:=D.hz;omega) fun h' tk acc c' kp hg lN=>?_
   refine jJ (t':=tk) (n:=c') (us:=acc.toList) I (du ?_ fun i x v e1 e2=>?_) h kp (by simpa using hg)
   ·have:acc.size=kvs.length:=lN.1
    rw [Lm9,<- hl];simpa using this.symm
   ·obtain⟨k,z,f1,f2⟩:=lN.2 i v (by rw [<- Xi];exact e2)
    have ek:(kvs.map (·.1))[i]?=some k:=by rw [TX,f1];rfl
    rw [hk,e1] at ek;cases ek;rw [TX] at e1;obtain⟨q,q1,q2⟩:=TG.mp e1;obtain⟨e,e3⟩:=D.at q1;refine xW f2 (u:=e.key) ?_;rw [<- q2];exact D.h1 i q e q1 e3
  ·cases h
 ·cases h
theorem Bi {i:Expr} (h:vP i=true):∀ov iv new,augStore i ov iv new=(do holding [new,ov,iv] (setItem ov iv new);release [new,ov,iv] [];pure .next):=fun _ _ _=>by
 cases i <;> first|rfl|cases h
theorem set_list {Md:UU} {w:VL} {A:Ux} {E:Ts->Tv->Prop} {l:Ug} {items:Array Ts} {n:Nat} {k:Int} {t:Tok} {v:Ts} {Q:Unit->Tv->Prop} (ho:s.heap.get? l=some { cls:=.type "list",data:=.seq items n }) (h0:0<=k) (hfit:k<2 ^ 63) (hn:k<items.size)
  (hQ:Q () { s with heap:=s.heap.update l (U9 (·.setIfInBounds k.toNat v)) }):TR (model Md w) A (setItem (.ref l) (.int k t) v) Q E s:=by
 have hl:=af ho;unfold setItem
 try with_reducible refine wpAny_holding ?_
 first|refine Ti (Tn ?_)|skip
 refine Ti (wpAny_sequenceKey hl.typeIs (by decide) ?_);refine Ti (wpAny_callSpecial?_slot (name:=Vd "__setitem__") hl.typeIs slot_list_setitem
  (wpAny_call_entry slot_list_setitem hl.typeIs entry_list_setitem ?_ (args_list_setitem _ _ _)))
 show TR _ _ (Builtin.List.listSubscript? (.int k t) >>= _) _ _ s;refine Ti (wpAny_listSubscript_int (fitsIndex_of h0 hfit) ?_);clear hfit;obtain⟨j,rfl⟩:=Int.eq_ofNat_of_zero_le h0;have hj:j<items.size:=by omega
 have hx':items[j]?=some items[j]:=Tx hj;show TR _ _ ((seqItemAt l j >>= fun r=>pure (r.map (j,·))) >>= _) _ _ s
 refine Ti (Ti (wpAny_seqItemAt ho rfl (Tn ?_)));rw [hx'];show TR _ _ (setSeqItemAt l j v >>= _) _ _ s
 refine Ti (wpAny_setSeqItemAt ho rfl ?_)
 first
  | exact Ti (Tn (Tn ⟨.none,rfl,Tn hQ⟩))
  | exact Tn ⟨.none,rfl,Tn hQ⟩
theorem cu.set {i:Nat} {t:T} {u:Ts} (h:cu g xs us) (r:RT g none t u):∀i,cu g (xs.set i t) (us.set i u):=by
 induction h with
 | nil=>intro i;simp;exact .nil
 | cons a b ih=>intro i;cases i with
  | zero=>exact .cons r b
  | succ i=>exact .cons a (ih i)
theorem oH (hu:X.A.units+20<cLine) {x y t:T} {xv yv tv:Ts} {L':aa} (I:Inv X pins φ g L s) (rx:RT g none x xv) (ry:RT g none y yv) (rt:RT g none t tv) (h:i8 x y t L=some L'):TR (model X.prog X.w) X.A (setItem xv yv tv) (fun _ s'=>SP X pins g (.nx φ L') .next s') F0 s:=by
 unfold i8 at h;split at h
 ·split at h
  ·split at h
   ·rename_i hc
    cases h;exact thn (Bh I hu (by assumption) rx ry rt hc.1 hc.2) fun _ s' z=>z
   ·cases h
  ·rename_i ea
   split at h
   ·split at h
    ·rename_i hc
     cases h;obtain⟨_,rfl⟩:=ry.iI;obtain⟨a,its,cnt,rfl,e,rr,hl,hz⟩:=I.ur rx ea;have hn:=sA
     refine set_list e hc.1 (by omega) (by omega) ?_;obtain⟨g',l,J,_⟩:=I.qd (t':=s.toks) (f:=(·.setIfInBounds _ tv)) ea rx e (by simpa using rr.set rt (i:=0) _) (by simpa using hz);exact⟨g',l,J⟩
    ·cases h
   ·cases h
  ·cases h
 ·cases h
theorem Bj {o i:Expr} {mo mi:SE} (hu:X.A.units+20<cLine) (ho:PE X o mo) (hi:PE X i mi) (he:PE X e m) (hs:iB e=true):PS X (.Assign [.Subscript o i p2] e pos) (pZ mo mi m):=fun {pins φ g L s} I h=>by
 obtain⟨t,L1,e1,q1,h⟩:=gM h;rw [show pZ mo mi m φ L=_ from q1];obtain⟨x,L2,e2,q2,h⟩:=gM h;rw [q2];obtain⟨y,L3,e3,q3,h⟩:=gM h;rw [q3];cases ep:i8 x y t L3 with
 | none=>simp only [ep] at h;exact absurd rfl h
 | some L4 =>
  simp only [ep];exact wpAny_Assign_Subscript (thn (he I e1) fun tv s1 ⟨g1,l1,I1,r1⟩=>thn (ho I1 e2) fun xv s2 ⟨g2,l2,I2,r2⟩=>thn (hi I2 e3) fun yv s3 ⟨g3,l3,I3,r3⟩ =>
   thn (oH hu I3 (r2.le l3) r3 (r1.le (l2.trans l3)) ep) fun _ s4 z=>z.le ((l1.trans l2).trans l3)) (ja hs)
theorem Bl {o i:Expr} {mo mi:SE} {op:Operator} (hu:X.A.units+20<cLine) (ho:PE X o mo) (hi:PE X i mi) (he:PE X e m) (hx:vP i=true):PS X (.AugAssign (.Subscript o i p2) op e pos) (wU op mo mi m):=fun {pins φ g L s} I h=>by
 obtain⟨x,L1,e1,q1,h⟩:=gM h;rw [show wU op mo mi m φ L=_ from q1];obtain⟨y,L2,e2,q2,h⟩:=gM h;rw [q2];obtain⟨z,L3,e3,q3,h⟩:=gM h;rw [q3];obtain⟨t,L4,e4,q4,h⟩:=gM h;rw [q4];obtain⟨r,L5,e5,q5,h⟩:=gM h;rw [q5];cases ep:i8 x y r L5 with
 | none=>simp only [ep] at h;exact absurd rfl h
 | some L6 =>
  simp only [ep];refine wpAny_AugAssign_Subscript_any (thn (ho I e1) fun xv s1 ⟨g1,l1,I1,r1⟩=>thn (hi I1 e2) fun yv s2 ⟨g2,l2,I2,r2⟩=>?_) (Bi hx);have hg:TR (model X.prog X.w) X.A (getItem xv yv) (EP X pins φ g2 z L3) F0 s2:=by
   unfold Hz at e3;obtain⟨p,v⟩:=I2.view (r1.le l2);split at e3
   ·rename_i ev
    rw [ev] at v;obtain⟨h1,k1⟩:=aA e3;obtain⟨k2,k3⟩:=ij k1;subst k3;obtain⟨d,o,es,ep,rfl,_,_,D⟩:=I2.aP v;exact D.item I2 hu h1 r2 k2 fun tk u r=>(I2.tok tk).ep r
   ·cases e3
  exact thn hg fun zv s3 ⟨g3,l3,I3,r3⟩=>thn (he I3 e4) fun tv s4 ⟨g4,l4,I4,r4⟩=>thn (xx I4 (r3.le l4) r4 e5) fun rv s5 ⟨g5,l5,I5,r5⟩ =>
   thn (oH hu I5 ((r1.le l2).le ((l3.trans l4).trans l5)) (r2.le ((l3.trans l4).trans l5)) r5 ep) fun _ s6 w=>w.le ((((l1.trans l2).trans l3).trans l4).trans l5)
theorem ES {fz:Bool} {ks:List (T × T)} {o:Obj} {es:Array DictEntry} {ep tk:Nat} {h':Heap} {w:T} {L2:aa} (I:Inv X pins φ g L s) (h:mk fz (.aP ks) L=.ok w L2) (k:∀b u,s.heap.get? b=some u->h'.get? b=some u) (new:h'.get? s.heap.objs.size=some o) (hx:o.ExactDict) (hd:o.data=.dict es ep)
  (hz:ks.length<=T7) (hl:ks.length=es.size) (hn:(ks.map (·.1)).Nodup) (hm:fW (ks.map (·.1))=true) (hh:∀(i:Nat) x e,ks[i]?=some x->es[i]?=some e->e.hash=hT X.w x.1/\RT g none x.1 e.key/\RT g none x.2 e.val) :
  EP X pins φ g w L2 (.ref s.heap.objs.size) { s with heap:=h',toks:=tk }:=by
 have big:(s.heap.objs.size == sysModules)=false:=by
  have h1:sysModules<s.heap.objs.size:=VG (by decide) (I.mod.glob.keeps I.bk).lt;simpa using UP h1
 have rt:∀(g1:G) (q:Option (Ug × Ug)),Le g g1->rW q s.heap.objs.size s.heap.objs.size->g1.kn q.isNone s.heap.objs.size o->RT g1 q (.aP ks) (.ref s.heap.objs.size):=fun g1 q l ht hk =>
  .aP ht hk hx hd hz hl ⟨hn,hm⟩ big (fun i x e e1 e2=>by rw [l.w,I.gw];exact(hh i x e e1 e2).1) (fun i x e e1 e2=>(hh i x e e1 e2).2.1.le l) fun i x e e1 e2=>(hh i x e e1 e2).2.2.le l
 unfold mk at h;split at h
 ·cases h
  exact⟨_,Le.lay I.fresh,I.laid k (TK _) new,rt _ none (Le.lay I.fresh) (.inl rfl) (.inl aq)⟩
 ·cases h
  refine⟨_,Le.new I.fresh,I.new k (TK _) new (rt _ _ (Le.new I.fresh) (.inr rfl) (.inl aq)),?_⟩;have:=I.rel.len
  exact .ref (p:=(s.heap.objs.size,s.heap.objs.size)) (by show at_ ((_,_)::g.α) _=_;rw [<- this];exact eS)
theorem Bm {fz:Bool}:PE X (.Dict [] [] pos) (vE fz):=fun {_ _ _ _ s _ _} I h =>
 wpAny_Dict_empty (ES (tk:=s.toks) I h (fun b u e=>Tj _ e) (Tt _ rfl) ⟨rfl,rfl,rfl⟩ rfl (Uj _) rfl Wa rfl fun i x e e1 _=>by simp at e1)
end
theorem ET {prog:UU} {w:VL} {A:Ux} {E:Ts->Tv->Prop} {s:Tv} {a:Ug} {o:Obj} {xs:Array Ts} {k:Nat} {Q:Option Ts->Tv->Prop}
  (hx:s.heap.get? a=some o) (hc:o.cls=.type "list") (H6:o.data=.seq xs k) (hd:o.dict=none) (hA:A.handled=none)
  (h:∀h' tk e,Zn s.heap h' e "AttributeError"->Q none { s with heap:=h',toks:=tk }) :
  TR (model prog w) A (getAttr? (.ref a) "keys") Q E s:=by
 obtain⟨c,aP,dat,sl⟩:=o;simp only at hc H6 hd;subst hc H6 hd;obtain⟨hp,g,d,tk,os⟩:=s;have hT:∀tk',(⟨hp,g,d,tk',os⟩:Tv).TypeIs (.ref a) "list":=fun _=>⟨_,hx,rfl⟩
 have f1:=sub_AttributeError;have f3:=V5.lookup
 have f4:=V5.bind (.ref a);have f5:=am_list_getattr_none
 have hmiss:typeLookup (.type "list") "keys"=pure none:=by rw [typeLookup_type,builtinLookup_eq_fast];kernel_rfl
 unfold getAttr? getAttrBy? getAttrBy
 repeat (any_goals (first|assumption|exact hT _|((with_reducible show TR _ _ (call (Xu "list.__getattribute__") _ _) _ _ _);refine call_meets V5 (hT _) am_entry_list_getattribute (PySem.F.args_list_getattribute_2 _ _) (meets_getattribute_miss_list a xs k sl "keys" _ hmiss (by decide +kernel) (by decide)) ⟨hx,hA,fun h' tk' e hx'=>?_⟩)|wp_step))
 obtain⟨t',u',he⟩:=hx'.there;show TR _ _ (getattributeRaised _ _ _ _ _ _ _) _ _ _
 unfold getattributeRaised
 repeat (any_goals (first|assumption|wp_step))
 exact h _ _ _ hx'.of
theorem noKeysT {prog:UU} {w:VL} {A:Ux} {E:Ts->Tv->Prop} {s:Tv} {a:Ug} {xs:Array Ts} {k:Nat} {sl:Array (Option Ts)} {Q:Option Ts->Tv->Prop}
  (hx:s.heap.get? a=some ⟨.type "tuple",none,.seq xs k,sl⟩) (hA:A.handled=none)
  (h:∀h' tk e,Zn s.heap h' e "AttributeError"->Q none { s with heap:=h',toks:=tk }) :
  TR (model prog w) A (getAttr? (.ref a) "keys") Q E s:=by
 obtain⟨hp,g,d,tk,os⟩:=s;have hT:∀tk',(⟨hp,g,d,tk',os⟩:Tv).TypeIs (.ref a) "tuple":=fun _=>⟨_,hx,rfl⟩
 have f1:=sub_AttributeError;have f3:=V1.lookup
 have f4:=V1.bind (.ref a);have f5:=am_tuple_getattr_none
 have hmiss:typeLookup (.type "tuple") "keys"=pure none:=by rw [typeLookup_type,builtinLookup_eq_fast];kernel_rfl
 unfold getAttr? getAttrBy? getAttrBy
 repeat (any_goals (first|assumption|exact hT _|((with_reducible show TR _ _ (call (Xu "tuple.__getattribute__") _ _) _ _ _);refine call_meets V1 (hT _) am_entry_tuple_getattribute (PySem.F.args_tuple_getattribute_2 _ _) (meets_getattribute_miss_tuple a xs k sl "keys" _ hmiss (by decide +kernel) (by decide)) ⟨hx,hA,fun h' tk' e hx'=>?_⟩)|wp_step))
 obtain⟨t',u',he⟩:=hx'.there;show TR _ _ (getattributeRaised _ _ _ _ _ _ _) _ _ _
 unfold getattributeRaised
 repeat (any_goals (first|assumption|wp_step))
 exact h _ _ _ hx'.of
theorem entry_dul:entryFor table "dict.update.loop"=some Builtin.«dict.update.loop»:=entryFor_of_tree (by kernel_rfl)
theorem plain_dul:plainId "dict.update.loop"=true:=by decide +kernel
theorem prsOf_at:∀{ys:List T} {ps:List (T × T)},prsOf ys=some ps->ys.length=ps.length/\∀(i:Nat) p,ps[i]?=some p->ys[i]?=some (.tup [p.1,p.2])
 | [],ps,h=>by cases h;exact⟨rfl,fun i p e=>by simp at e⟩
 | y::ys,ps,h=>by
  unfold prsOf at h;split at h
  ·rename_i k x SV h2
   cases h;obtain⟨h3,h4⟩:=prsOf_at h2;refine⟨by simp [h3],fun i p e=>?_⟩;cases i with
   | zero=>cases e;rfl
   | succ i=>exact h4 i p (by simpa using e)
  ·cases h
theorem xX (ks:List (T × T)) (y t:T):(dput ks y t).length<=ks.length+1:=by
 unfold dput;split
 ·simp
 ·simp
theorem vR {ks:List (T × T)} {y t:T} {q:T->Prop} (h:∀p∈ks,q p.1) (hy:q y):∀p∈dput ks y t,q p.1:=by
 unfold dput;split
 ·intro p hp
  obtain⟨p',h1,rfl⟩:=Tz.mp hp;split
  ·exact h p' h1
  ·exact h p' h1
 ·intro p hp
  rcases TL.mp hp with h1|h1
  ·exact h p h1
  ·have:p=(y,t):=by simpa using h1
   rw [this];exact hy
theorem Bn (ps:List (T × T)):(pU ps).length<=ps.length:=by
 have key:∀(ps acc:List (T × T)),(ps.foldl (fun acc p=>dput acc p.1 p.2) acc).length<=acc.length+ps.length:=by
  intro ps;induction ps with
  | nil=>intro acc;simp
  | cons p r ih =>
   intro acc;have z:=ih (dput acc p.1 p.2)
   have z2:=xX acc p.1 p.2;rw [XA,Tu];omega
 have:=key ps [];unfold pU;simpa using this
theorem xY {ps:List (T × T)} {q:T->Prop} (h:∀p∈ps,q p.1):∀p∈pU ps,q p.1:=by
 have key:∀(ps acc:List (T × T)),(∀p∈ps,q p.1)->(∀p∈acc,q p.1)->∀p∈ps.foldl (fun acc p=>dput acc p.1 p.2) acc,q p.1:=by
  intro ps;induction ps with
  | nil=>intro acc _ h;exact h
  | cons p r ih =>
   intro acc h1 h2;exact ih _ (fun p hp=>h1 p (Tp _ hp)) (vR h2 (h1 p To))
 exact key ps [] h fun p hp=>by simp at hp
theorem xZ {ps:List (T × T)} {i:Nat} {p:T × T} (h:ps[i]?=some p):pU (ps.take (i+1))=dput (pU (ps.take i)) p.1 p.2:=by
 unfold pU;rw [Y9,h,Yh];rfl
theorem x6 {ps:List (T × T)} {i:Nat} {p:T × T} (hm:fW (ps.map (·.1))=true) (h:ps[i]?=some p):dq (pU (ps.take i)) p.1:=by
 unfold dq;unfold fW at hm ⊢;rw [Wk] at hm ⊢;have part:∀(f:T->Bool),(ps.map (·.1)).all f=true->(p.1::(pU (ps.take i)).map (·.1)).all f=true:=fun f hf=>by
  have hf:=Tr.mp hf;refine Tr.mpr fun x hx=>?_
  rcases TJ.mp hx with rfl|hx
  ·exact hf _ (TZ (Ul h))
  ·obtain⟨q,hq,rfl⟩:=Tz.mp hx
   exact xY (q:=fun x=>f x=true) (fun q hq=>hf _ (TZ (Vc hq))) q hq
 rcases hm with hm|hm
 ·exact .inl (part _ hm)
 ·exact .inr (part _ hm)
section
variable {X:Cx} {pins:aX} {φ:Fr} {g g0:G} {L L':aa} {s:Tv} {ys:List T} {us:List Ts} {ps:List (T × T)} {a it l:Ug} {ol:Obj} {A:Ux} {R:Result->Tv->Prop}
theorem sF (hu:A.in1.units+8<cLine) (ch:List Ug) (W:Nat->Heap->Prop) (hm:fW (ps.map (·.1))=true) (hlen:ps.length<=100000) (wC:∀c∈ch,c≠a)
  (frame:∀i h h',W i h->(∀c,c≠a->h'.get? c=h.get? c)->W i h')
  (next:∀{E:Ts->Tv->Prop} (i:Nat) (s':Tv) (g':G) (p:T × T) (Q:Option Ts->Tv->Prop),ps[i]?=some p->Le g0 g'->a<s'.heap.objs.size->(∀h1,(∀b o,b∉ch->s'.heap.get? b=some o->h1.get? b=some o)->Inv X pins φ g' (.aP (pU (ps.take i))::L) { s' with heap:=h1 })->W i s'.heap ->
   (∀h1 t o uk uv n,W (i+1) h1->(∀b o,b∉ch->s'.heap.get? b=some o->h1.get? b=some o)->h1.get? t=some o->o.cls=.type "tuple"->o.data=.seq #[uk,uv] n->RT g' none p.1 uk->RT g' none p.2 uv->Q (some (.ref t)) { s' with heap:=h1 })->TR (model X.prog X.w) A.in1 (pyNext (.ref it)) Q E s')
  (last:∀{E:Ts->Tv->Prop} (s':Tv) (Q:Option Ts->Tv->Prop),W ps.length s'.heap->(∀h2,(∀b o,b∉ch->s'.heap.get? b=some o->h2.get? b=some o)->Q none { s' with heap:=h2 })->TR (model X.prog X.w) A.in1 (pyNext (.ref it)) Q E s')
  (fin:∀s' g',Le g0 g'->Inv X pins φ g' (.aP (pU ps)::L) s'->RT g' none (.ref L.length) (.ref a)->R (.ok (.ret .none)) s') :
  ∀(k i:Nat) (s':Tv) (g':G),ps.length - i=k->i<=ps.length->Le g0 g'->Inv X pins φ g' (.aP (pU (ps.take i))::L) s'->RT g' none (.ref L.length) (.ref a)->(∀c∈ch,fG X pins g'.H c)->W i s'.heap ->
   TR (model X.prog X.w) A.in1 (Builtin.«dict.update.loop» ⟨[.ref a,.ref it,rawInt (i:Int),.none],[]⟩) (fun fin s'=>match fin with|.done f=>R (.ok f) s'|.again c'=>c'.quiet=true/\codeAny (model X.prog X.w) A c' R s') (fun e s'=>R (.error e) s') s':=by
 intro k;induction k with
 | zero =>
  intro i s' g' hk hi l0 J rd hf hW;obtain rfl:i=ps.length:=by omega
  unfold Builtin.«dict.update.loop»;dsimp only [rawInt];refine Ti (last s' _ hW fun h2 hx=>?_);dsimp only;show TR _ _ (Builtin.Dict.addKeywords a [] >>= _) _ _ _
  refine Ti (Tn (Tn ?_));rw [UA (TK _)] at J;exact fin _ g' l0 (J.turned (t':=s'.toks) (ch:=ch) hx hf) rd
 | succ k ih =>
  intro i s' g' hk hi l0 J rd hf hW;have QG:i<ps.length:=by omega
  have ep:=Ge9 QG;have LY:a<s'.heap.objs.size:=by
   obtain⟨p,o,es,ep,ea,hp,rN,Bo,D2⟩:=J.uz rd (by unfold at_;rw [if_pos rfl]);cases ea;exact T3 D2.ho
  unfold Builtin.«dict.update.loop»;dsimp only [rawInt];refine Ti (next i s' g' _ _ ep l0 LY (fun h1 k=>J.turned (t':=s'.toks) (ch:=ch) k hf) hW fun h1 t ot uk uv n QH sd K5 EU LZ rk rv=>?_);dsimp only;have J1:=J.turned (t':=s'.toks) (ch:=ch) sd hf
  have QI:Xw { s' with heap:=h1 } (.ref t) "tuple":=⟨ot,K5,EU⟩;refine Ti (wpAny_holding (Ti ?_));have L9:∀{E':Ts->Tv->Prop} {Q':List Ts->Tv->Prop},Q' [uk,uv] { s' with heap:=h1 }->TR (model X.prog X.w) A.in1 (YN (.ref t)) Q' E' { s' with heap:=h1 }:=fun {E' Q'} hq'=>by
   unfold YN;refine Ti (wpAny_typeOf QI ?_);rw [if_pos (by decide)];refine Ti (wpAny_seqItems K5 LZ (Tn ?_));exact hq'
  refine wpAny_tryCatch (L9 ?_);dsimp only;have hz:(pU (ps.take i)).length<T7:=by
   have z:=Bn (ps.take i);rw [Ur] at z;rw [Vb];omega
  refine wpAny_holding (wpAny_mono (uA (n:=L.length) (E:=fun e s'=>R (.error e) s') J1 hu (by unfold at_;rw [if_pos rfl]) rd rk rv hz (x6 hm ep)) (fun _ s2 h2=>?_) fun _ _ e=>e);obtain⟨⟨g2,l2,J2,hH⟩,QJ⟩:=h2;refine Tn ?_;refine⟨plainId_quiet plain_dul _,codeAny_builtin entry_dul ?_⟩;rw [UY plain_dul _];have ei:((i:Int)+1)=((i+1:Nat):Int):=by push_cast;rfl
  rw [ei];have J3:Inv X pins φ g2 (.aP (pU (ps.take (i+1)))::L) s2:=by
   rw [xZ ep];have z:put (.aP (pU (ps.take i))::L) L.length (.aP (dput (pU (ps.take i)) ps[i].1 ps[i].2))=.aP (dput (pU (ps.take i)) ps[i].1 ps[i].2)::L:=by unfold put;rw [if_pos rfl]
   rw [<- z];exact J2
  exact ih (i+1) s2 g2 (by omega) (by omega) (l0.trans l2) J3 (rd.le l2) (fun c hc=>⟨by rw [hH c (wC c hc)];exact(hf c hc).1,(hf c hc).2⟩) (frame _ _ _ QH QJ)
theorem x7 {u:Ts} {x y:T} {g':G} {s':Tv} (J:Inv X pins φ g' L s') (ru:RT g' none (.tup [x,y]) u):∃t o uk uv n,u=.ref t/\s'.heap.get? t=some o/\o.cls=.type "tuple"/\o.data=.seq #[uk,uv] n/\RT g' none x uk/\RT g' none y uv:=by
 obtain⟨t,QK,et,⟨ot,K5,EU,n,LZ⟩,rt,_⟩:=J.tup ru;obtain⟨uk,uv,e2,rk,rv⟩:=iQ rt;have e3:QK = #[uk,uv]:=by apply Array.ext';simpa using e2
 subst e3;exact⟨t,ot,uk,uv,n,et,K5,EU,LZ,rk,rv⟩
theorem x8 {i:Nat} {p:T × T} (r0:cu g0 ys us) (hp:prsOf ys=some ps) (ep:ps[i]?=some p):∃u,us[i]?=some u/\RT g0 none (.tup [p.1,p.2]) u:=by
 have ey:=(prsOf_at hp).2 i p ep;have hl:=TV r0
 have hi:=(TM.mp ey).1;have eu:=Ge9 (l:=us) (i:=i) (by omega)
 exact⟨_,eu,vH r0 i _ _ ey eu⟩
theorem yc (r0:cu g0 ys us) (hp:prsOf ys=some ps):us.length<=ps.length:=by
 have h1:=TV r0;have h2:=(prsOf_at hp).1
 omega
theorem uB {t:T} {u:Ts} {w:T} (hu:X.A.units+20<cLine) (I:Inv X pins φ g L s) (ru:RT g none t u) (ht:vw L t=.lst ys\/vw L t=.tup ys) (h:w4 ys L=.ok w L'):TR (model X.prog X.w) X.A (call (.type "dict") [u]) (EP X pins φ g w L') F0 s:=by
 have gP:X.A.in1.in1.units+8<cLine:=by show X.A.units+1+1+8<cLine;omega
 unfold w4 at h;split at h
 ·rename_i ps Bp
  obtain⟨⟨hm,hlen⟩,h⟩:=aA h;cases h;have xk:g.H s.heap.objs.size=none:=I.fresh
  have big:(s.heap.objs.size == sysModules)=false:=by
   have h1:sysModules<s.heap.objs.size:=VG (by decide) (I.mod.glob.keeps I.bk).lt;simpa using UP h1
  have J0:=I.new (c:=.aP []) (o:={ cls:=.type "dict",data:=.dict #[] }) (h':=s.heap.push { cls:=.type "dict",data:=.dict #[] }) (t':=s.toks) (fun b u e=>Tj _ e) (TK _) (Tt _ rfl)
   (.aP (.inr rfl) (.inl aq) ⟨rfl,rfl,rfl⟩ rfl (Uj _) rfl ⟨Wa,rfl⟩ big (fun i x e e1 _=>by simp at e1) (fun i x e e1 _=>by simp at e1) fun i x e e1 _=>by simp at e1)
  have l0:=Le.new (o:={ cls:=.type "dict",data:=.dict #[] }) xk;have rd:RT (g.new s.heap.objs.size { cls:=.type "dict",data:=.dict #[] }) none (.ref L.length) (.ref s.heap.objs.size):=by
   have:=I.rel.len;exact .ref (p:=(s.heap.objs.size,s.heap.objs.size)) (by show at_ ((_,_)::g.α) _=_;rw [<- this];exact eS)
  refine callType_codes (Q₁:=fun obj s₁=>obj=.ref s.heap.objs.size/\s₁={ s with heap:=s.heap.push { cls:=.type "dict",data:=.dict #[] } }) YO (XJ _) Yv (kt_code_dict_new _ ⟨rfl,rfl⟩) ?_;rintro obj s₁ ⟨rfl,rfl⟩;have sG:Xw { s with heap:=s.heap.push { cls:=.type "dict",data:=.dict #[] } } (.ref s.heap.objs.size) "dict":=⟨_,Tt _ rfl,rfl⟩
  refine⟨sG,Yi _ _,?_⟩;unfold Builtin.«dict.__init__»;refine Ti ?_;unfold Yj;refine Ti (wpAny_notOrdered_dict sG ?_);show TR _ _ (pure (s.heap.objs.size,[u])) _ _ _
  refine Tn ?_;show TR _ _ (V6 "dict.__init__" s.heap.objs.size u [] .none) _ _ _
  unfold V6;obtain⟨q,v⟩:=I.view ru;rcases ht with ht|ht
  ·rw [ht] at v
   obtain⟨l,its,n,rfl,hg,rr,hz⟩:=I.lst v;have yd:(s.heap.push { cls:=.type "dict",data:=.dict #[] }).get? l=some { cls:=.type "list",data:=.seq its n }:=Tj _ hg
   refine Ti (wpAny_typeOf (T:="list") ⟨_,yd,rfl⟩ ?_);rw [if_pos (by decide)];refine Ti (ET yd rfl rfl rfl I.ok.hd fun h1 Bq e hx=>?_);rw [if_pos (show(none:Option Ts).isNone=true from rfl)];refine Ti (wpAny_rule ?_);have Br:=hx.keeps _ _ yd
   have J1:=J0.kept (t':=Bq) (h':=h1) fun b o e=>hx.keeps b o e
   refine Ti (wpAny_pyIter_list (s:={ s with heap:=h1,toks:=Bq }) (af Br) ?_);refine Tn ⟨plainId_quiet plain_dul _,codeAny_builtin entry_dul ?_⟩;rw [UY plain_dul _];have J2:=J1.kept (t':=Bq) (h':=h1.push { cls:=.type "list_iterator",data:=.fields #[.ref l,.int 0 0] }) fun b o e=>Tj _ e
   have hsz:s.heap.objs.size<h1.objs.size:=T3 (hx.keeps _ _ (Tt s.heap (o:={ cls:=.type "dict",data:=.dict #[] }) rfl));refine sF (A:=X.A.in1) (a:=s.heap.objs.size) (it:=h1.objs.size) (L:=L) gP [h1.objs.size] (fun i h=>h.get? l=some { cls:=.type "list",data:=.seq its n }/\h.IsListIter h1.objs.size l i) hm hlen (fun c hc=>by rw [TY.mp hc];exact UP hsz)
    (fun i h h' ⟨q0,o,q1,q2⟩ e=>⟨(e l (Ub (T3 hg))).trans q0,o,(e _ (UP hsz)).trans q1,q2⟩) (fun i s' g' p Q ep lg _ J ⟨oJ,ht⟩ hQ=>?_) (fun s' Q ⟨oJ,ht⟩ hQ=>?_) (fun s' g' lg J H7=>?_)
    ps.length 0 _ _ rfl (Uj _) (Le.refl _) J2 rd (fun c hc=>by rw [TY.mp hc];exact J1.rZ (TK _) (J1.hok.fresh (TK _))) ⟨Tj _ Br,_,Tt _ rfl,rfl,rfl⟩
   ·obtain⟨u,eu,ru⟩:=x8 (rr.le l0) Bp ep
    refine wpAny_pyNext_list_item (x:=u) ht (af oJ) (by simpa using eu) fun h2 a b=>?_
    have kp:∀c o,c∉[h1.objs.size]->s'.heap.get? c=some o->h2.get? c=some o:=fun c o hc e=>(b.2 c fun z=>hc (by simp [z])).trans e
    obtain⟨t,o,uk,uv,n,rfl,e1,e2,e3,rk,rv⟩:=x7 (J h2 kp) (ru.le lg);exact hQ h2 t o uk uv n ⟨kp l _ (by simpa using Ub (VG (T3 hg) hsz)) oJ,a⟩ kp e1 e2 e3 rk rv
   ·exact wpAny_pyNext_list_end I.ok.hd ht (af oJ) (by simpa using yc (rr.le l0) Bp) fun h2 hx=>hQ h2 fun c o hc e=>hx c o (fun z=>hc (by simp [z])) e
   ·exact⟨rfl,g',l0.trans lg,J,H7⟩
  ·rw [ht] at v
   obtain⟨l,its,n,sl,rfl,hg,rr,hz⟩:∃l its n sl,u=.ref l/\s.heap.get? l=some ⟨.type "tuple",none,.seq its n,sl⟩/\cu g ys its.toList/\ys.length<=T7:=by
    have v':=v;cases v with
    | tup hk hc hd hz hl hi =>
     rename_i a o its n;obtain⟨oc,od,dt,sl⟩:=o;obtain⟨h1,h2⟩:=hc;simp only at h1 h2 hd;subst h1 h2 hd;exact⟨_,_,_,_,rfl,I.kn hk,du (by simpa using hl) fun i x v e1 e2=>hi i x v e1 (by simpa using e2),hz⟩
   have sH:∀{h:Heap},h.get? l=some ⟨.type "tuple",none,.seq its n,sl⟩->h.IsTuple l its:=fun e=>⟨_,e,rfl,n,rfl⟩
   have yd:(s.heap.push { cls:=.type "dict",data:=.dict #[] }).get? l=some ⟨.type "tuple",none,.seq its n,sl⟩:=Tj _ hg;refine Ti (wpAny_typeOf (T:="tuple") ⟨_,yd,rfl⟩ ?_);rw [if_pos (by decide)];refine Ti (noKeysT yd I.ok.hd fun h1 Bq e hx=>?_);rw [if_pos (show(none:Option Ts).isNone=true from rfl)];refine Ti (wpAny_rule ?_);have Br:=hx.keeps _ _ yd
   have J1:=J0.kept (t':=Bq) (h':=h1) fun b o e=>hx.keeps b o e
   refine Ti (wpAny_pyIter_tuple (s:={ s with heap:=h1,toks:=Bq }) (sH Br) ?_);refine Tn ⟨plainId_quiet plain_dul _,codeAny_builtin entry_dul ?_⟩;rw [UY plain_dul _];have J2:=J1.kept (t':=Bq) (h':=h1.push { cls:=.type "tuple_iterator",data:=.fields #[.ref l,.int 0 0] }) fun b o e=>Tj _ e
   have hsz:s.heap.objs.size<h1.objs.size:=T3 (hx.keeps _ _ (Tt s.heap (o:={ cls:=.type "dict",data:=.dict #[] }) rfl));refine sF (A:=X.A.in1) (a:=s.heap.objs.size) (it:=h1.objs.size) (L:=L) gP [h1.objs.size] (fun i h=>h.get? l=some ⟨.type "tuple",none,.seq its n,sl⟩/\h.IsTupleIter h1.objs.size l i) hm hlen (fun c hc=>by rw [TY.mp hc];exact UP hsz)
    (fun i h h' ⟨q0,o,q1,q2⟩ e=>⟨(e l (Ub (T3 hg))).trans q0,o,(e _ (UP hsz)).trans q1,q2⟩) (fun i s' g' p Q ep lg _ J ⟨oJ,ht⟩ hQ=>?_) (fun s' Q ⟨oJ,ht⟩ hQ=>?_) (fun s' g' lg J H7=>?_)
    ps.length 0 _ _ rfl (Uj _) (Le.refl _) J2 rd (fun c hc=>by rw [TY.mp hc];exact J1.rZ (TK _) (J1.hok.fresh (TK _))) ⟨Tj _ Br,_,Tt _ rfl,rfl,rfl⟩
   ·obtain⟨u,eu,ru⟩:=x8 (rr.le l0) Bp ep
    refine wpAny_pyNext_tuple_item (x:=u) ht (sH oJ) (by simpa using eu) fun h2 a b=>?_
    have kp:∀c o,c∉[h1.objs.size]->s'.heap.get? c=some o->h2.get? c=some o:=fun c o hc e=>(b.2 c fun z=>hc (by simp [z])).trans e
    obtain⟨t,o,uk,uv,n,rfl,e1,e2,e3,rk,rv⟩:=x7 (J h2 kp) (ru.le lg);exact hQ h2 t o uk uv n ⟨kp l _ (by simpa using Ub (VG (T3 hg) hsz)) oJ,a⟩ kp e1 e2 e3 rk rv
   ·exact wpAny_pyNext_tuple_end I.ok.hd ht (sH oJ) (by simpa using yc (rr.le l0) Bp) fun h2 hx=>hQ h2 fun c o hc e=>hx c o (fun z=>hc (by simp [z])) e
   ·exact⟨rfl,g',l0.trans lg,J,H7⟩
 ·cases h
theorem vS (hu:X.A.units+20<cLine):cU X (.type "dict") lC:=fun I r h=>by
 unfold lC at h;split at h
 ·obtain⟨u,rfl,ru⟩:=bF r
  split at h
  ·exact uB hu I ru (.inl (by assumption)) h
  ·exact uB hu I ru (.inr (by assumption)) h
  ·cases h
 ·cases h
end
end M
namespace L2
open PySem PySem.W PyProof.Rows
noncomputable def cz {α:Type} (lt:Nat->Nat->Bool) (n:Nat):KasT α->(α->Prop)->Prop
 | .ret a,Q=>Q a
 | .ask i j k,Q=>i<n/\j<n/\cz lt n (k (lt i j)) Q
theorem cz.mono {α:Type} {lt:Nat->Nat->Bool} {n:Nat} {Q Q':α->Prop} (hq:∀a,Q a->Q' a):∀{t:KasT α},cz lt n t Q->cz lt n t Q'
 | .ret _,h=>hq _ h
 | .ask _ _ _,⟨h1,h2,h3⟩=>⟨h1,h2,cz.mono hq h3⟩
theorem cz.bind {α β:Type} {lt:Nat->Nat->Bool} {n:Nat} {f:α->KasT β} {Q:β->Prop}:∀{t:KasT α},cz lt n t (fun a=>cz lt n (f a) Q)->cz lt n (t.bind f) Q
 | .ret _,h=>h
 | .ask _ _ _,⟨h1,h2,h3⟩=>⟨h1,h2,cz.bind h3⟩
theorem cz.wp {α:Type} {lt:Nat->Nat->Bool} {n:Nat} {Q:α->Prop} {cmp:Nat->Nat->(Bool->Tv->Prop)->Tv->Prop} {R:α->Tv->Prop} {s:Tv} (hc:∀i j C,i<n->j<n->C (lt i j) s->cmp i j C s) (hq:∀a,Q a->R a s) :
  ∀{t:KasT α},cz lt n t Q->t.kasWp cmp R s
 | .ret _,h=>hq _ h
 | .ask _ _ _,⟨h1,h2,h3⟩=>hc _ _ _ h1 h2 (cz.wp hc hq h3)
structure WO (lt:Nat->Nat->Bool):Prop where
 vT:∀a b,lt a b=true->lt b a=false
 tr:∀a b c,lt b a=false->lt c b=false->lt c a=false
theorem WO.CQ {lt:Nat->Nat->Bool} (W:WO lt) (a:Nat):lt a a=false:=by
 cases h:lt a a with
 | false=>rfl
 | true=>have:=W.vT a a h;rw [h] at this;exact this
theorem WO.up {lt:Nat->Nat->Bool} (W:WO lt) {a b c:Nat} (h1:lt a b=true) (h2:lt c b=false):lt a c=true:=by
 cases h:lt a c with
 | true=>rfl
 | false=>have:=W.tr b c a h2 h;rw [h1] at this;exact this.symm
noncomputable def qh (lt:Nat->Nat->Bool) (p:Array Nat) (m:Nat):Prop:=∀i j,i<j->j<m->lt (p.getD j 0) (p.getD i 0)=false
noncomputable def wH (lt:Nat->Nat->Bool) (p:Array Nat) (m:Nat):Prop:=∀i j,i<j->j<m->lt (p.getD i 0) (p.getD j 0)=false
noncomputable def Arr (n:Nat) (p:Array Nat):Prop:=p.size=n/\p.toList.Perm (UE n)
theorem Arr.lt {n:Nat} {p:Array Nat} (h:Arr n p) {k:Nat} (hk:k<n):p.getD k 0<n:=by
 have hs:k<p.size:=by rw [h.1];exact hk
 have e:p.getD k 0=p[k]:=by simp [Vs,hs]
 rw [e];have m:p[k]∈p.toList:=by simp
 exact UC.mp (h.2.mem_iff.mp m)
theorem Arr.of {n:Nat} {p q:Array Nat} (h:Arr n p) (hp:q.Perm p):Arr n q:=⟨hp.size_eq.trans h.1,(Array.perm_iff_toList_perm.mp hp).trans h.2⟩
theorem dI {p:Array Nat} {i j:Nat} (hj:j<=p.size) (k:Nat):(kas_rev p i j).getD k 0=if i<=k/\k<j then p.getD (i+j - 1 - k) 0 else p.getD k 0:=by
 rw [Ue,Ue,Ue];unfold kas_rev;rw [getElem?_mirror_all hj k];split <;> rfl
theorem qi {p:Array Nat} {src d:Nat} (hs:src<p.size) (hd:d<=src) (k:Nat):(bubble p src d).getD k 0=if k=src - d then p.getD src 0 else if src - d<k/\k<=src then p.getD (k - 1) 0 else p.getD k 0:=by
 rw [Ue,Ue,Ue,Ue];rw [getElem?_bubble hs d hd k];split
 ·rfl
 ·split <;> rfl
theorem Arr.rev {n:Nat} {p:Array Nat} (h:Arr n p) (i j:Nat):Arr n (kas_rev p i j):=h.of (mirror_perm _ _ _ _)
theorem Arr.QL {n:Nat} {p:Array Nat} (h:Arr n p) (i j:Nat):Arr n (bubble p i j):=h.of (bubble_perm _ _ _)
section
variable {lt:Nat->Nat->Bool} {n:Nat} (W:WO lt)
include W
theorem qh.more {p:Array Nat} {m:Nat} (h:qh lt p m) (h1:1<=m) (hl:lt (p.getD m 0) (p.getD (m - 1) 0)=false):qh lt p (m+1):=fun i j sD hj=>by
 by_cases e:j=m
 ·subst e
  by_cases e2:i=j - 1
  ·subst e2;exact hl
  ·exact W.tr _ _ _ (h i (j - 1) (by omega) (by omega)) hl
 ·exact h i j sD (by omega)
theorem wH.more {p:Array Nat} {m:Nat} (h:wH lt p m) (h1:1<=m) (hl:lt (p.getD (m - 1) 0) (p.getD m 0)=false):wH lt p (m+1):=fun i j sD hj=>by
 by_cases e:j=m
 ·subst e
  by_cases e2:i=j - 1
  ·subst e2;exact hl
  ·exact W.tr _ _ _ hl (h i (j - 1) (by omega) (by omega))
 ·exact h i j sD (by omega)
theorem sJ {p:Array Nat} (hp:Arr n p):∀(f m:Nat),1<=m->m+f<=n->qh lt p m ->
  cz lt n (kas_asc p f m) (fun r=>m<=r/\r<=m+f/\qh lt p r/\(r<m+f->lt (p.getD r 0) (p.getD (r - 1) 0)=true))
 | 0,m,_,_,h=>⟨TK _,TK _,h,fun z=>absurd z (by omega)⟩
 | f+1,m,h1,h2,h=>by
  refine⟨hp.lt (by omega),hp.lt (by omega),?_⟩;cases e:lt (p.getD m 0) (p.getD (m - 1) 0) with
  | true=>exact⟨TK _,by omega,h,fun _=>e⟩
  | false =>
   show cz lt n (kas_asc p f (m+1)) _;exact(sJ hp f (m+1) (by omega) (by omega) (h.more W h1 e)).mono fun r ⟨a,b,c,d⟩=>⟨by omega,by omega,c,fun z=>d (by omega)⟩
noncomputable def H8 (lt:Nat->Nat->Bool) (p:Array Nat) (a b:Nat):Prop:=∀i j,a<=i->i<b->a<=j->j<b->lt (p.getD i 0) (p.getD j 0)=false
omit W in
theorem wH.rev {p:Array Nat} {a m:Nat} (hm:m<=p.size) (h:wH lt p m) (he:H8 lt p a m):wH lt (kas_rev p a m) m:=fun i j sD hj=>by
 rw [dI hm,dI hm];by_cases h1:a<=i
 ·rw [if_pos ⟨h1,by omega⟩,if_pos ⟨by omega,hj⟩]
  exact he _ _ (by omega) (by omega) (by omega) (by omega)
 ·rw [if_neg (by omega)]
  by_cases h2:a<=j
  ·rw [if_pos ⟨h2,hj⟩]
   exact h _ _ (by omega) (by omega)
  ·rw [if_neg (by omega)]
   exact h i j sD hj
theorem kW:∀(f:Nat) (p:Array Nat) (m q:Nat),Arr n p->q+1<=m->m+f=n->wH lt p m->H8 lt p (m - (q+1)) m ->
  cz lt n (kas_desc f p m q) (fun r=>Arr n r.1/\r.2.1<=n/\r.2.2+1<=r.2.1/\wH lt r.1 r.2.1/\H8 lt r.1 (r.2.1 - (r.2.2+1)) r.2.1)
 | 0,p,m,q,hp,hq,hm,h,he=>⟨hp,by show m<=n;omega,hq,h,he⟩
 | f+1,p,m,q,hp,hq,hm,h,he=>by
  have hB:m - 1<m:=by omega
  have hA:m - (q+1)<=m - 1:=by omega
  have Bs:m<n:=by omega
  have EV:m+1+f=n:=by omega
  have l0:=hp.lt Bs;have l1:=hp.lt (VG hB Bs)
  refine⟨l0,l1,?_⟩;have hsz:m<=p.size:=by rw [hp.1];exact WR Bs
  have one:∀{p:Array Nat},H8 lt p (m+1 - (0+1)) (m+1):=fun i j a1 a2 a3 a4=>by
   obtain rfl:i=j:=by omega
   exact W.CQ _
  cases e:lt (p.getD m 0) (p.getD (m - 1) 0) with
  | true =>
   show cz lt n (if q > 0 then _ else _) _;split
   ·have hr:=h.rev hsz he
    have e1:(kas_rev p (m - (q+1)) m).getD m 0=p.getD m 0:=by rw [dI hsz,if_neg (fun z=>Vg _ z.2)]
    have hl:lt ((kas_rev p (m - (q+1)) m).getD (m - 1) 0) ((kas_rev p (m - (q+1)) m).getD m 0)=false:=by
     rw [e1,dI hsz,if_pos ⟨hA,hB⟩];have e2:m - (q+1)+m - 1 - (m - 1)=m - (q+1):=by omega
     rw [e2];exact W.tr _ _ _ (W.vT _ _ e) (he (m - (q+1)) (m - 1) (TK _) (XQ hA hB) hA hB)
    exact kW f _ (m+1) 0 (hp.rev _ _) (WZ _ _) EV (hr.more W (TU (WZ 1 q) hq) hl) one
   ·exact kW f p (m+1) 0 hp (WZ _ _) EV (h.more W (TU (WZ 1 q) hq) (W.vT _ _ e)) one
  | false =>
   show cz lt n (.ask (p.getD (m - 1) 0) (p.getD m 0) _) _;refine⟨l1,l0,?_⟩;cases e2:lt (p.getD (m - 1) 0) (p.getD m 0) with
   | true=>exact⟨hp,WR Bs,hq,h,he⟩
   | false =>
    show cz lt n (kas_desc f p (m+1) (q+1)) _;have lo:∀i,m+1 - (q+1+1)<=i->m - (q+1)<=i:=fun i a=>by omega
    have hi:∀i,i<m+1->i≠m->i<m:=fun i a b=>by omega
    refine kW f p (m+1) (q+1) hp (YF hq) EV (h.more W (TU (WZ 1 q) hq) e2) fun i j a1 a2 a3 a4=>?_
    by_cases c1:i=m
    ·by_cases c2:j=m
     ·rw [c1,c2];exact W.CQ _
     ·rw [c1];exact W.tr _ _ _ (he (m - 1) j hA hB (lo j a3) (hi j a4 c2)) e
    ·by_cases c2:j=m
     ·rw [c2];exact W.tr _ _ _ e2 (he i (m - 1) (lo i a1) (hi i a2 c1) hA hB)
     ·exact he i j (lo i a1) (hi i a2 c1) (lo j a3) (hi j a4 c2)
theorem qj {p:Array Nat} {m:Nat} (hp:Arr n p) (h1:1<=m) (hm:m<=n) (h:wH lt p m):cz lt n (kas_tail3 m n p) (fun r=>Arr n r.2/\1<=r.1/\r.1<=n/\qh lt r.2 r.1):=by
 have hsz:m<=p.size:=by rw [hp.1];exact hm
 have hr:qh lt (kas_rev p 0 m) m:=fun i j sD hj=>by
  rw [dI hsz,dI hsz,if_pos ⟨by omega,hj⟩,if_pos ⟨by omega,by omega⟩];exact h _ _ (by omega) (by omega)
 refine cz.bind ((sJ W (hp.rev 0 m) (n - m) m h1 (by omega) hr).mono fun r ⟨a,b,c,_⟩=>?_);exact⟨hp.rev 0 m,by show 1<=r;omega,by show r<=n;omega,c⟩
theorem j5 {p:Array Nat} {m:Nat} (hp:Arr n p) (hm:m+1<=n) (h:wH lt p (m+1)):cz lt n (kas_descPart m n p) (fun r=>Arr n r.2/\1<=r.1/\r.1<=n/\qh lt r.2 r.1):=by
 refine cz.bind ((kW W (n - (m+1)) p (m+1) 0 hp (by omega) (by omega) h fun i j a1 a2 a3 a4=>?_).mono fun r ⟨a,b,c,d,e⟩=>?_)
 ·obtain rfl:i=j:=by omega
  exact W.CQ _
 ·split
  ·exact qj W (a.rev _ _) (by omega) b (d.rev (by rw [a.1];exact b) e)
  ·exact qj W a (by omega) b d
theorem ye {p:Array Nat} (hp:Arr n p) (h1:1<=n):cz lt n (kas_count n p) (fun r=>Arr n r.2/\1<=r.1/\r.1<=n/\qh lt r.2 r.1):=by
 refine cz.bind ((sJ W hp (n - 1) 1 (TK _) (by omega) fun i j a b=>absurd a (by omega)).mono fun m ⟨a,b,c,d⟩=>?_);have Bs:m<=n:=by omega
 split
 ·exact⟨hp,a,Bs,c⟩
 ·rename_i hne
  have hne':m≠n:=fun z=>hne (beq_iff_eq.mpr z)
  have bD:m<n:=Nat.lt_of_le_of_ne Bs hne';have EV:m - 1<m:=Nat.sub_lt a Nat.one_pos
  have hd:=d (by omega);split
  ·refine⟨hp.lt h1,hp.lt (VG EV bD),?_⟩
   cases e:lt (p.getD 0 0) (p.getD (m - 1) 0) with
   | true=>exact⟨hp,a,Bs,c⟩
   | false =>
    show cz lt n (kas_descPart m n (kas_rev p 0 m)) _;have hsz:m<=p.size:=by rw [hp.1];exact Bs
    have all:H8 lt p 0 m:=fun i j _ hi _ hj=>by
     have z1:lt (p.getD (m - 1) 0) (p.getD j 0)=false:=by
      by_cases cj:j=m - 1
      ·subst cj;exact W.CQ _
      ·exact c j (m - 1) (by omega) EV
     have z2:lt (p.getD i 0) (p.getD 0 0)=false:=by
      by_cases ci:i=0
      ·subst ci;exact W.CQ _
      ·exact c 0 i (Nat.pos_of_ne_zero ci) hi
     exact W.tr _ _ _ (W.tr _ _ _ z1 e) z2
    have hf:wH lt (kas_rev p 0 m) m:=wH.rev hsz (fun i j sD hj=>all i j (Uj _) (VG sD hj) (Uj _) hj) all;refine j5 W (hp.rev 0 m) bD (hf.more W a ?_);rw [dI hsz,dI hsz,if_pos ⟨Uj _,EV⟩,if_neg (fun z=>Vg _ z.2)];have e2:0+m - 1 - (m - 1)=0:=by omega
    rw [e2];exact W.tr _ _ _ (W.vT _ _ hd) e
  ·obtain rfl:m=1:=by omega
   refine j5 W hp bD fun i j sD hj=>?_
   obtain rfl:i=0:=by omega
   obtain rfl:j=1:=by omega
   exact W.vT _ _ hd
theorem lO {p:Array Nat} {k:Nat} (hp:Arr n p) (hk:k<n) (h:qh lt p k):∀(f l r:Nat),l<=r->r<=k->r - l<=f->(∀i,i<l->lt (p.getD k 0) (p.getD i 0)=false)->(∀i,r<=i->i<k->lt (p.getD k 0) (p.getD i 0)=true) ->
  cz lt n (kas_place p k f l r) (fun x=>x<=k/\(∀i,i<x->lt (p.getD k 0) (p.getD i 0)=false)/\∀i,x<=i->i<k->lt (p.getD k 0) (p.getD i 0)=true)
 | 0,l,r,a,b,c,d,e=>by
  obtain rfl:l=r:=by omega
  exact⟨b,d,e⟩
 | f+1,l,r,a,b,c,d,e=>by
  show cz lt n (if l≥r then _ else _) _;split
  ·obtain rfl:l=r:=by omega
   exact⟨b,d,e⟩
  ·have m1:l<=(l+r) / 2:=by omega
   have m2:(l+r) / 2<r:=by omega
   have m3:(l+r) / 2<k:=Uc m2 b;refine⟨hp.lt hk,hp.lt (VG m3 hk),?_⟩;cases q:lt (p.getD k 0) (p.getD ((l+r) / 2) 0) with
   | true =>
    refine lO hp hk h f l ((l+r) / 2) m1 (WR m3) (by omega) d fun i h1 h2=>?_
    by_cases c1:i=(l+r) / 2
    ·subst c1;exact q
    ·exact W.up q (h _ i (by omega) h2)
   | false =>
    refine lO hp hk h f ((l+r) / 2+1) r m2 b (by omega) (fun i h1=>?_) e;by_cases c1:i=(l+r) / 2
    ·subst c1;exact q
    ·exact W.tr _ _ _ (h i ((l+r) / 2) (by omega) m3) q
theorem yf:∀(f:Nat) (p:Array Nat) (k:Nat),Arr n p->k+f=n->qh lt p k->cz lt n (kas_bin f p k) (fun q=>Arr n q/\qh lt q n)
 | 0,p,k,hp,hk,h=>by
  obtain rfl:k=n:=by omega
  exact⟨hp,h⟩
 | f+1,p,k,hp,hk,h=>by
  have hkn:k<n:=by omega
  refine cz.bind ((lO W hp hkn h k 0 k (Uj _) (TK _) (Nat.sub_le _ _) (fun i z=>absurd z (Nat.not_lt_zero _)) fun i z1 z2=>absurd z1 (Nat.not_le_of_lt z2)).mono fun l ⟨a,b,c⟩=>?_);have hs:k<p.size:=by rw [hp.1];exact hkn
  refine yf f _ (k+1) (hp.QL _ _) (by omega) fun i j sD hj=>?_
  have e:k - (k - l)=l:=Nat.sub_sub_self a;have kl:k - l<=k:=Nat.sub_le _ _
  rw [qi hs kl,qi hs kl,e];by_cases j1:j=l
  ·rw [if_pos j1,if_neg (by omega),if_neg (by omega)]
   exact b i (by omega)
  ·rw [if_neg j1]
   by_cases j2:l<j/\j<=k
   ·rw [if_pos j2]
    by_cases i1:i=l
    ·rw [if_pos i1]
     exact W.vT _ _ (c (j - 1) (by omega) (by omega))
    ·rw [if_neg i1]
     by_cases i2:l<i/\i<=k
     ·rw [if_pos i2];exact h _ _ (by omega) (by omega)
     ·rw [if_neg i2];exact h _ _ (by omega) (by omega)
   ·rw [if_neg j2,if_neg (by omega),if_neg (by omega)]
    exact h i j sD (by omega)
theorem Bt (h1:1<=n):cz lt n (kas_sort n) (fun p=>Arr n p/\qh lt p n):=by
 have h0:Arr n (Xj (UE n)):=⟨by simp,by simp⟩;refine cz.bind ((ye W h0 h1).mono fun r ⟨a,b,c,d⟩=>?_);have hm:max r.1 1=r.1:=by omega
 split
 ·rw [hm]
  exact yf W _ _ _ a (by omega) d
 ·have e:r.1=n:=by omega
  rw [e] at d;exact⟨a,d⟩
end
end L2
namespace L2
open PySem PySem.W PySem.Calls PyProof.Rows
section
variable {prog:UU} {w:VL} {A:Ux} {E:Ts->Tv->Prop} {s:Tv}
theorem m6 {a:Ug} {vs:List Ts} {n:Nat} {κ:SortKind} {lt:Nat->Nat->Bool} {P:PySem.Fin->Tv->Prop} (W:WO lt) (ho:s.heap.get? a=some (seqObj "list" vs.toArray n)) (K6:vs.length<64)
  (hk:2<=vs.length->∀h',(∀b o,b≠a->s.heap.get? b=some o->h'.get? b=some o)->∀Q:SortKind->Tv->Prop,Q κ { s with heap:=h' }->TR (model prog w) A (keyKind' vs.toArray) Q (fun _ _=>False) { s with heap:=h' })
  (hc:∀h',(∀b o,b≠a->s.heap.get? b=some o->h'.get? b=some o)->∀i j (C:Bool->Tv->Prop),i<vs.length->j<vs.length->C (lt i j) { s with heap:=h' } ->
   TR (model prog w) A (keyLt' κ (vs.getD i U2) (vs.getD j U2)) C (fun _ _=>False) { s with heap:=h' })
  (fin:∀p h' c,Arr vs.length p->qh lt p vs.length->(∀b o,b≠a->s.heap.get? b=some o->h'.get? b=some o)->h'.get? a=some (seqObj "list" (Xj (p.toList.map fun i=>vs.getD i U2)) c)->P (.done (.ret .none)) { s with heap:=h' }) :
  TR (model prog w) A (Builtin.«list.sort» ⟨[.ref a],[]⟩) P E s:=by
 have ha:a<s.heap.objs.size:=T3 ho;obtain⟨e1,K7⟩:∃e1,(s.heap.update a (U9 fun _=>(#[]:Array Ts))).get? a=some (seqObj "list" #[] e1):=⟨_,get?_update_seq ho fun _=>#[]⟩;have H9:(((s.heap.update a (U9 fun _=>(#[]:Array Ts))).push (seqObj "tuple" vs.toArray 0)).push (seqObj "list" #[] 0)).get? a=some (seqObj "list" #[] e1):=by
  rw [Wv _ _ _ (by rw [size_push',Xn];exact Ub (UK ha)),Wv _ _ _ (by rw [Xn];exact Ub ha)];exact K7
 have keep:∀b o,b≠a->s.heap.get? b=some o->(((s.heap.update a (U9 fun _=>(#[]:Array Ts))).push (seqObj "tuple" vs.toArray 0)).push (seqObj "list" #[] 0)).get? b=some o:=fun b o hb q=>by
  have bD:b<s.heap.objs.size:=T3 q;rw [Wv _ _ _ (by rw [size_push',Xn];exact Ub (UK bD)),Wv _ _ _ (by rw [Xn];exact Ub bD),XD _ _ _ _ hb];exact q
 have Ia:∀p (arr:Array Ts),Arr vs.length p->qh lt p vs.length->arr=Xj (p.toList.map fun i=>vs.getD i U2)->P (.done (.ret .none)) { s with heap:=((((s.heap.update a (U9 fun _=>(#[]:Array Ts))).push (seqObj "tuple" vs.toArray 0)).push (seqObj "list" #[] 0))).update a (U9 fun _=>arr) }:=fun p arr h1 h2 h3=>by
  subst h3;refine fin p _ _ h1 h2 (fun b o hb q=>?_) (get?_update_seq H9 fun _=>_);rw [XD _ _ _ _ hb];exact keep b o hb q
 rw [list_sort_plain];refine Ti (listItems_at ho rfl ?_);refine Ti (listUpdate_at ho rfl ?_ (by rw [U8,Vb];omega) (Uj _));refine Ti (seqEpoch_at K7 rfl ?_);refine Ti (wpAny_newTuple ?_ (by show vs.length<=_;rw [Vb];omega));refine Ti (wpAny_newList ?_ (Uj _));refine wpAny_holding ?_;show TR (model prog w) A _ P E { s with heap:=((s.heap.update a (U9 fun _=>(#[]:Array Ts))).push (seqObj "tuple" vs.toArray 0)).push (seqObj "list" #[] 0) }
 dsimp only;by_cases h2:vs.toArray.size<2
 ·rw [if_pos h2,if_pos h2]
  refine Ti (Tn ?_);rw [StateT.run_pure];refine Ti (Tn ?_);dsimp only;have hr:(UE vs.length).map (fun i=>vs.getD i U2)=vs:=by
   apply Vj (by simp);intro i a1 a2;simp [a2]
  refine Ti (seqEpoch_at H9 rfl ?_);refine Ti (listUpdate_at H9 rfl ?_ (hsz2:=by rw [UO];show(pairsOf vs).size<=_;rw [pairsOf_size,Vb];omega));simp only [bne_self_eq_false,TH,if_false];refine Tn (Ia (Xj (UE vs.length)) _ ⟨by simp,by simp⟩ (fun i j h1 h3=>?_) ?_)
  ·rw [U8] at h2;omega
  ·show Array.map (·.2) (pairsOf vs)=_
   apply Array.toList_inj.mp;rw [YG,pairsOf_toList];show _=(UE vs.length).map (fun i=>vs.getD i U2)
   rw [hr];exact List.map_snd_zip (by simp)
 ·rw [if_neg h2,if_neg h2]
  rw [U8] at h2;refine Ti (wpAny_mono (hk (by omega) _ keep _ ?_) (fun κ' s' hq=>hq) fun _ _ x=>x.elim);refine Ti (wpAny_mono (kat_run (κ:=κ) (Q:=fun fX s'=>∃p:Array Nat,arrOf fX=p.map (kas_item (vs.toArray.zip vs.toArray))/\failedOf fX=none/\Arr vs.length p/\qh lt p vs.length/\s'={ s with heap:=((s.heap.update a (U9 fun _=>(#[]:Array Ts))).push (seqObj "tuple" vs.toArray 0)).push (seqObj "list" #[] 0) })
   (G:=fun p s'=>Arr vs.length p/\qh lt p vs.length/\s'={ s with heap:=((s.heap.update a (U9 fun _=>(#[]:Array Ts))).push (seqObj "tuple" vs.toArray 0)).push (seqObj "list" #[] 0) })
   rfl (by omega) K6 (fun p' fX s' a1 a2 a3 a4=>⟨p',a2,a3,a4.1,a4.2.1,a4.2.2⟩) ((Bt W (n:=vs.length) (by omega)).wp (fun i j C h3 h4 h5=>hc _ keep i j C h3 h4 h5) fun p hp=>⟨hp.1,hp.2,rfl⟩)) ?_ fun _ _ e=>e)
  rintro⟨⟨⟩,fX⟩ s' ⟨p,QM,hf,hp,Ma,rfl⟩;dsimp only;have Mb:=kat_snds (ks:=vs) rfl QM
  have hsz:(Xj (p.toList.map fun i=>vs.getD i U2)).size=vs.length:=by rw [U8,Lm9,U3,hp.1]
  rw [Mb];refine Ti (seqEpoch_at H9 rfl ?_);refine Ti (listUpdate_at H9 rfl ?_ (Uj _) (TU (Wj hsz) (by rw [Vb];omega)));rw [hf];simp only [bne_self_eq_false,TH,if_false];exact Tn (Ia p _ hp Ma rfl)
end
noncomputable def sL (A:Ux) (s:Tv) (u v:Ts) (b:Bool):Prop :=
 ∀(prog:UU) (w:VL) (E:Ts->Tv->Prop) (Q:Ts->Tv->Prop),Q (.bool b) s->TR (model prog w) A (richCompare .Lt u v) Q E s
inductive Ax (A:Ux) (s:Tv):List Ts->List Ts->Bool->Prop
 | nn:Ax A s [] [] false
 | nc {w:Ts} {ws:List Ts}:Ax A s [] (w::ws) true
 | cn {v:Ts} {vs:List Ts}:Ax A s (v::vs) [] false
 | eq {v w:Ts} {vs ws:List Ts} {r:Bool} (e:VN A s v w true) (h:Ax A s vs ws r):Ax A s (v::vs) (w::ws) r
 | ne {v w:Ts} {vs ws:List Ts} {r:Bool} (e:VN A s v w false) (h:sL A s v w r):Ax A s (v::vs) (w::ws) r
section
open PySem.SeqAt
open PySem.AutoSeq1 (wpAny_loadPart')
open PySem.MeetsSeq PySem.MeetsSeq2 PySem.MeetsSeq3
theorem oK (l b:Ug) (items f9:Array Ts) (n n2:Nat) (dd Mc:Option Ug) (sl Me:Array (Option Ts)) (r:Bool) :
  Meets (Builtin.«tuple.__lt__» ⟨[.ref l,.ref b],[]⟩)
   (fun A R s=>s.heap.get? l=some { cls:=.type "tuple",dict:=dd,data:=.seq items n,slots:=sl }/\s.heap.get? b=some { cls:=.type "tuple",dict:=Mc,data:=.seq f9 n2,slots:=Me } /\
    Ax A.in1 s items.toList f9.toList r/\R (.ok (.ret (.bool r))) s) :=
 .of_wp fun prog w A R s h=>by
  obtain⟨hp,g,d,tk,os⟩:=s;obtain⟨hl,hb,hd,h⟩:=h;have f2:=Yb
  wp_walk using wpAny_loadPart' hl,wpAny_loadPart' hb,wpAny_forIn_list _ (fun rest b s'=>b.1=none/\s'=⟨hp,g,d,tk,os⟩/\∃(vs ws:List Ts),rest=vs.zip ws /\
   Ax A.in1 ⟨hp,g,d,tk,os⟩ vs ws r/\vs.length+f9.size=ws.length+items.size) _
  case turn =>
   rintro⟨y,x⟩ rest b s' ⟨hb',rfl,vs,ws,hz,Mf,hlen⟩;cases Mf with
   | nn=>cases hz
   | nc=>cases hz
   | cn=>rw [List.zip_nil_right] at hz;cases hz
   | @eq v w' vs' ws' _ e hr =>
    rw [U1] at hz;injection hz with Mg hrest;injection Mg with hy hx;subst hy hx;simp only [Tu] at hlen;refine Ti (e prog w _ _ ?_)
    wp_walk
    exact⟨rfl,rfl,_,_,hrest,hr,by omega⟩
   | @ne v w' vs' ws' _ e hr =>
    rw [U1] at hz;injection hz with Mg hrest;injection Mg with hy hx;subst hy hx;refine Ti (e prog w _ _ ?_);have Ma:=hr prog w
    wp_walk using Ma
    exact⟨_,rfl,by simpa using h⟩
  case fin =>
   rintro⟨b1,b2⟩ s' ⟨hb',rfl,vs,ws,hz,Mf,hlen⟩;simp only at hb';subst hb';have hv:r=decide (items.size<f9.size):=by
    cases Mf with
    | nn=>simp only [T9] at hlen;exact(decide_eq_false (by omega)).symm
    | nc=>simp only [T9,Tu] at hlen;exact(decide_eq_true (by omega)).symm
    | cn=>simp only [T9,Tu] at hlen;exact(decide_eq_false (by omega)).symm
    | eq e hr=>rw [U1] at hz;cases hz
    | ne e hr=>rw [U1] at hz;cases hz
   rw [hv] at h
   wp_walk
   exact⟨_,rfl,by simpa [Builtin.Tuple.tupleCompareSizes] using h⟩
  case h =>
   exact⟨rfl,rfl,items.toList,f9.toList,rfl,hd,by simp;omega⟩
end
theorem sM {A:Ux} {s:Tv} {l b:Ug} {items f9:Array Ts} {r:Bool} (hl:IsTup s.heap l items) (hb:IsTup s.heap b f9) (hu:A.units<cLine) (hd:Ax A.in1 s items.toList f9.toList r):sL A s (.ref l) (.ref b) r:=by
 intro prog w E Q h;obtain⟨⟨cls,dd,data,sl⟩,ho,hc,n,rP⟩:=id hl;obtain⟨⟨QN,Mc,data2,Me⟩,Hm,CS,n2,hd2⟩:=id hb;simp only at hc rP CS hd2;subst hc rP CS hd2;exact richCompare_meets_room (op:=.Lt) ⟨_,ho,rfl⟩ ⟨_,Hm,rfl⟩ PySem.F.slot_tuple_lt PySem.F.entry_tuple_lt (PySem.F.args_tuple_lt_2 _ _) (oK l b items f9 n n2 dd Mc sl Me r)
  ⟨ho,Hm,hd,show Value.bool r≠Value.notImplemented/\Q (.bool r) s from⟨(fun x=>nomatch x),h⟩⟩ hu
end L2
namespace M
open PySem PySem.Spec PyProof.Rows
noncomputable def mR (f:T->T->Bool):List T->List T->Bool
 | [],[]=>false
 | [],_::_=>true
 | _::_,[]=>false
 | a::r,b::q=>if a=b then mR f r q else f a b
noncomputable def ltN:Nat->T->T->Bool
 | _+1,.int a,.int b=>decide (a<b)
 | _+1,.int _,.str _=>true
 | _+1,.int _,.tup _=>true
 | _+1,.str a,.str b=>decide (a<b)
 | _+1,.str _,.tup _=>true
 | n+1,.tup a,.tup b=>mR (ltN n) a b
 | _,_,_=>false
noncomputable def shl (f:T->T->Bool):List T->List T->Bool
 | a::r,b::q=>f a b && shl f r q
 | _,_=>true
noncomputable def qk:Nat->T->T->Bool
 | _+1,.int _,.int _=>true
 | _+1,.str _,.str _=>true
 | n+1,.tup a,.tup b=>shl (qk n) a b
 | _,_,_=>false
theorem uC {f:T->T->Bool}:∀a:List T,mR f a a=false
 | []=>rfl
 | a::r=>by rw [mR,if_pos rfl];exact uC r
theorem kY:∀(n:Nat) (a:T),ltN n a a=false
 | 0,a=>by cases a <;> rfl
 | n+1,a=>by
  cases a <;> first|rfl|skip
  ·exact decide_eq_false (Yw _)
  ·exact decide_eq_false (List.lt_irrefl _)
  ·exact uC _
theorem uD {f:T->T->Bool} {n:Nat} (hf:∀a b,kd n a=true->kd n b=true->a≠b->f a b=true\/f b a=true):∀a b:List T,a.all (kd n)=true->b.all (kd n)=true->a≠b->mR f a b=true\/mR f b a=true
 | [],[],_,_,h=>absurd rfl h
 | [],_::_,_,_,_=>.inl rfl
 | _::_,[],_,_,_=>.inr rfl
 | a::r,b::q,ha,hb,h=>by
  rw [UG,Tw] at ha hb;rw [mR,mR];by_cases e:a=b
  ·subst e
   rw [if_pos rfl,if_pos rfl];exact uD hf r q ha.2 hb.2 fun z=>h (by rw [z])
  ·rw [if_neg e,if_neg (U7 e)]
   exact hf a b ha.1 hb.1 e
theorem Bu {a b:Cs} (h:a≠b):a<b\/b<a:=by
 by_cases h1:a<b
 ·exact .inl h1
 ·by_cases h2:b<a
  ·exact .inr h2
  ·exact absurd (List.le_antisymm (List.not_lt.mp h2) (List.not_lt.mp h1)) h
theorem jl:∀(n:Nat) (a b:T),kd n a=true->kd n b=true->a≠b->ltN n a b=true\/ltN n b a=true
 | 0,a,_,h,_,_=>(EL h).elim
 | n+1,a,b,ha,hb,h=>by
  cases a <;> first|cases ha|skip
  ·cases b <;> first|cases hb|skip
   ·rename_i i j
    show decide (i<j)=true\/decide (j<i)=true;rw [decide_eq_true_eq,decide_eq_true_eq];have:i≠j:=fun e=>h (by rw [e])
    omega
   ·exact .inl rfl
   ·exact .inl rfl
  ·cases b <;> first|cases hb|skip
   ·exact .inr rfl
   ·rename_i i j
    show decide (i<j)=true\/decide (j<i)=true;rw [decide_eq_true_eq,decide_eq_true_eq];exact Bu fun e=>h (by rw [e])
   ·exact .inl rfl
  ·cases b <;> first|cases hb|skip
   ·exact .inr rfl
   ·exact .inr rfl
   ·exact uD (fun a b=>jl n a b) _ _ ha hb fun e=>h (by rw [e])
theorem nF {f:T->T->Bool} (CQ:∀a,f a a=false) (hf:∀a b c,f a b=true->f b c=true->f a c=true):∀a b c:List T,mR f a b=true->mR f b c=true->mR f a c=true
 | [],[],_,h1,_=>by cases h1
 | [],_::_,[],_,h2=>by cases h2
 | [],_::_,_::_,_,_=>rfl
 | _::_,[],_,h1,_=>by cases h1
 | _::_,_::_,[],_,h2=>by cases h2
 | a::r,b::q,c::t,h1,h2=>by
  rw [mR] at h1 h2 ⊢;by_cases e1:a=b
  ·subst e1
   rw [if_pos rfl] at h1;by_cases e2:a=c
   ·subst e2
    rw [if_pos rfl] at h2 ⊢;exact nF CQ hf r q t h1 h2
   ·rw [if_neg e2] at h2 ⊢;exact h2
  ·rw [if_neg e1] at h1
   by_cases e2:b=c
   ·subst e2
    rw [if_neg e1];exact h1
   ·rw [if_neg e2] at h2
    have h3:=hf a b c h1 h2;have e3:a≠c:=fun z=>by subst z;rw [CQ] at h3;cases h3
    rw [if_neg e3];exact h3
theorem Mh {n:Nat} {a b:T} (h:ltN (n+1) a b=true):(∃i,a=.int i)\/(∃z,a=.str z)\/∃xs,a=.tup xs:=by
 cases a with
 | int i=>exact .inl ⟨i,rfl⟩
 | str z=>exact .inr (.inl ⟨z,rfl⟩)
 | tup xs=>exact .inr (.inr ⟨xs,rfl⟩)
 | _=>cases h
theorem Ib {n:Nat} {i:Int} {b:T} (h:ltN (n+1) (.int i) b=true):(∃j,b=.int j/\i<j)\/(∃z,b=.str z)\/∃xs,b=.tup xs:=by
 cases b with
 | int j=>exact .inl ⟨j,rfl,of_decide_eq_true h⟩
 | str z=>exact .inr (.inl ⟨z,rfl⟩)
 | tup xs=>exact .inr (.inr ⟨xs,rfl⟩)
 | _=>cases h
theorem EW {n:Nat} {z:Cs} {b:T} (h:ltN (n+1) (.str z) b=true):(∃y,b=.str y/\z<y)\/∃xs,b=.tup xs:=by
 cases b with
 | str y=>exact .inl ⟨y,rfl,of_decide_eq_true h⟩
 | tup xs=>exact .inr ⟨xs,rfl⟩
 | _=>cases h
theorem Bv {n:Nat} {xs:List T} {b:T} (h:ltN (n+1) (.tup xs) b=true):∃ys,b=.tup ys/\mR (ltN n) xs ys=true:=by
 cases b with
 | tup ys=>exact⟨ys,rfl,h⟩
 | _=>cases h
theorem dy:∀(n:Nat) (a b c:T),ltN n a b=true->ltN n b c=true->ltN n a c=true
 | 0,a,b,_,h,_=>by cases h
 | n+1,a,b,c,h1,h2=>by
  rcases Mh h1 with⟨i,rfl⟩|⟨z,rfl⟩|⟨xs,rfl⟩
  ·rcases Ib h1 with⟨j,rfl,hj⟩|⟨y,rfl⟩|⟨ys,rfl⟩
   ·rcases Ib h2 with⟨k,rfl,hk⟩|⟨_,rfl⟩|⟨_,rfl⟩
    ·exact decide_eq_true (Int.lt_trans hj hk)
    ·rfl
    ·rfl
   ·rcases EW h2 with⟨_,rfl,_⟩|⟨_,rfl⟩ <;> rfl
   ·obtain⟨_,rfl,_⟩:=Bv h2;rfl
  ·rcases EW h1 with⟨y,rfl,hy⟩|⟨ys,rfl⟩
   ·rcases EW h2 with⟨x,rfl,hx⟩|⟨_,rfl⟩
    ·exact decide_eq_true (List.lt_trans hy hx)
    ·rfl
   ·obtain⟨_,rfl,_⟩:=Bv h2;rfl
  ·obtain⟨ys,rfl,hy⟩:=Bv h1
   obtain⟨zs,rfl,hz⟩:=Bv h2;exact nF (kY n) (dy n) _ _ _ hy hz
theorem EX {n:Nat} {f:Nat->T} (hk:∀i,kd n (f i)=true):L2.WO (fun i j=>ltN n (f i) (f j)):=by
 refine⟨fun a b h=>?_,fun a b c h1 h2=>?_⟩
 ·cases e:ltN n (f b) (f a) with
  | false=>rfl
  | true=>have z:=dy n _ _ _ h e;rw [kY] at z;cases z
 ·cases e:ltN n (f c) (f a) with
  | false=>rfl
  | true =>
   by_cases e1:f a=f b
   ·rw [e1] at e;rw [e] at h2;cases h2
   ·rcases jl n _ _ (hk a) (hk b) e1 with q|q
    ·rw [dy n _ _ _ e q] at h2;cases h2
    ·rw [q] at h1;cases h1
noncomputable def iR (l:List T):Prop:=l.Pairwise fun x y=>ltN 8 y x=false
theorem yg {a b:List T} (hk:a.all (kd 8)=true) (p:a.Perm b) (ha:iR a) (hb:iR b):a=b :=
 List.Perm.eq_of_pairwise (fun x y hx hy h1 h2=>by
  by_cases e:x=y
  ·exact e
  ·have k:=Tr.mp hk
   rcases jl 8 _ _ (k x hx) (k y (p.mem_iff.mpr hy)) e with q|q
   ·rw [q] at h2;cases h2
   ·rw [q] at h1;cases h1) ha hb p
open Classical in
noncomputable def jm (l:List T):List T:=if h:∃l',l'.Perm l/\iR l' then choose h else l
theorem oL {l l':List T} (hk:l.all (kd 8)=true) (p:l'.Perm l) (h:iR l'):jm l=l':=by
 have ex:∃l',l'.Perm l/\iR l':=⟨l',p,h⟩;unfold jm;rw [dif_pos ex];have z:=Classical.choose_spec ex
 have hk':(Classical.choose ex).all (kd 8)=true:=Tr.mpr fun x hx=>Tr.mp hk x (z.1.mem_iff.mp hx)
 exact yg hk' (z.1.trans p.symm) z.2 h
noncomputable def pW:T->Bool
 | .tup (.str _::_)=>true
 | _=>false
noncomputable def Bw:T->Bool
 | .tup (.int _::_)=>true
 | _=>false
noncomputable def gQ (fz:Bool):Fn:=fun xs L=>match xs with
 | [x]=>match vw L x with
  | .lst ys=>bT (ys.length<64/\ys.all (kd 8)=true/\(ys.all pW=true\/ys.all Bw=true)/\(ys.all fun a=>ys.all fun b=>qk 8 a b)=true) (eO fz (jm ys) L)
  | _=>.bad
 | _=>.bad
end M
namespace M
open PySem PySem.W PySem.Calls PyProof.Rows L2
section
variable {A:Ux} {s:Tv}
theorem CT {n:Nat}:∀(a b:List T) (vs ws:List Ts),vs.length=a.length->ws.length=b.length->shl (qk n) a b=true ->
  (∀j (h1:j<a.length) (h2:j<b.length) (h3:j<vs.length) (h4:j<ws.length),VN A s vs[j] ws[j] (decide (a[j]=b[j]))/\(qk n a[j] b[j]=true->sL A s vs[j] ws[j] (ltN n a[j] b[j])))->Ax A s vs ws (mR (ltN n) a b)
 | [],[],[],[],_,_,_,_=>.nn
 | [],b::q,[],w::ws,_,_,_,_=>.nc
 | a::r,[],v::vs,[],_,_,_,_=>.cn
 | a::r,b::q,v::vs,w::ws,l1,l2,hs,h=>by
  rw [shl,Tw] at hs;obtain⟨h0,h0'⟩:=h 0 (by simp) (by simp) (by simp) (by simp);have h0:VN A s v w (decide (a=b)):=h0
  have h0':qk n a b=true->sL A s v w (ltN n a b):=h0';rw [mR];by_cases e:a=b
  ·rw [decide_eq_true e] at h0
   rw [if_pos e];exact .eq h0 (CT r q vs ws (by simpa using l1) (by simpa using l2) hs.2 fun j a1 a2 a3 a4=>h (j+1) (by simpa using a1) (by simpa using a2) (by simpa using a3) (by simpa using a4))
  ·rw [decide_eq_false e] at h0
   rw [if_neg e];exact .ne h0 (h0' hs.1)
 | [],[],_::_,_,l,_,_,_=>by simp at l
 | [],[],[],_::_,_,l,_,_=>by simp at l
 | [],_::_,_::_,_,l,_,_,_=>by simp at l
 | [],_::_,[],[],_,l,_,_=>by simp at l
 | _::_,_,[],_,l,_,_,_=>by simp at l
 | _::_,[],_::_,_::_,_,l,_,_=>by simp at l
 | _::_,_::_,_::_,[],_,l,_,_=>by simp at l
theorem cG.lt:∀(n:Nat) {A:Ux} {a b:T} {u v:Ts},kd n a=true->kd n b=true->qk n a b=true->A.units+n<cLine->cG s.heap a u->cG s.heap b v->sL A s u v (ltN n a b)
 | 0,_,a,_,_,_,h,_,_,_,_,_=>(EL h).elim
 | n+1,A,a,b,u,v,ha,hb,hs,hu,ka,kb=>by
  cases ka with
  | int i t =>
   cases kb with
   | int j t2=>exact fun prog w E Q h=>(PyProof.Rows.lt_int h:TR (model prog w) A (compareOp .Lt _ _) Q E s)
   | _=>cases hs
  | str z t =>
   cases kb with
   | str z2 t2=>exact fun prog w E Q h=>(Zd (show Q (.bool (decide ((⟨z.toArray⟩:Str).cps.toList<(⟨z2.toArray⟩:Str).cps.toList))) s from h):TR (model prog w) A (compareOp .Lt _ _) Q E s)
   | _=>cases hs
  | tup ho hc hd hl hi =>
   cases kb with
   | tup ho' hc' hd' hl' hi' =>
    rename_i a1 o1 i1 n1 x1 a2 o2 i2 n2 x2;refine sM ⟨_,ho,hc,_,hd⟩ ⟨_,ho',hc',_,hd'⟩ (by omega) (CT x1 x2 i1.toList i2.toList (by simp [hl]) (by simp [hl']) hs fun j c1 c2 c3 c4=>?_);have k1:=hi j _ _ (Ge9 c1) (show i1[j]?=some i1.toList[j] by simp)
    have k2:=hi' j _ _ (Ge9 c2) (show i2[j]?=some i2.toList[j] by simp);have d1:=gC ha (Ge9 c1)
    have d2:=gC hb (Ge9 c2);exact⟨cG.eq n d1 d2 (by show A.units+1+n<cLine;omega) k1 k2,fun sh=>cG.lt n d1 d2 sh (by show A.units+1+n<cLine;omega) k1 k2⟩
   | _=>cases hs
end
section
variable {prog:UU} {w:VL} {A:Ux} {E:Ts->Tv->Prop} {s:Tv} {Q:Bool->Tv->Prop} {n:Nat}
theorem kat_tail:∀(a b:List T) (vs ws:List Ts) (i:Nat),0<i->vs.length=a.length->ws.length=b.length->shl (qk n) a b=true ->
  (∀j (h1:j<a.length) (h2:j<b.length) (h3:j<vs.length) (h4:j<ws.length),VN A s vs[j] ws[j] (decide (a[j]=b[j]))/\(qk n a[j] b[j]=true->sL A s vs[j] ws[j] (ltN n a[j] b[j]))) ->
  ∀fin,fin=decide (vs.length<ws.length)->Q (mR (ltN n) a b) s->KatLex prog w A true fin Q (vs.zip ws) i s
 | [],[],[],[],i,_,_,_,_,_,fin,hf,h=>by rw [mR] at h;simp at hf;subst hf;exact kat_nil h
 | [],b::q,[],w'::ws,i,_,_,_,_,_,fin,hf,h=>by rw [mR] at h;simp at hf;subst hf;exact kat_nil h
 | a::r,[],v::vs,[],i,_,_,_,_,_,fin,hf,h=>by rw [mR] at h;simp at hf;subst hf;exact kat_nil h
 | a::r,b::q,v::vs,w'::ws,i,hi,l1,l2,hs,hx,fin,hf,h=>by
  rw [shl,Tw] at hs;obtain⟨h0,h0'⟩:=hx 0 (by simp) (by simp) (by simp) (by simp);have h0:VN A s v w' (decide (a=b)):=h0
  have h0':qk n a b=true->sL A s v w' (ltN n a b):=h0';rw [mR] at h;rw [U1];refine kat_cons (h0 prog w _ _ ?_);by_cases e:a=b
  ·rw [if_pos e] at h
   rw [decide_eq_true e];exact kat_yes (kat_tail r q vs ws (i+1) (by omega) (by simpa using l1) (by simpa using l2) hs.2 (fun j a1 a2 a3 a4=>hx (j+1) (by simpa using a1) (by simpa using a2) (by simpa using a3) (by simpa using a4)) fin (by simpa using hf) h)
  ·rw [if_neg e] at h
   rw [decide_eq_false e];refine kat_no ?_;have ei:(true && i == 0)=false:=by
    simp only [Yx,beq_eq_false_iff_ne];omega
   rw [ei];exact kat_one _ _ (h0' hs.1 prog w _ _ h)
 | [],[],_::_,_,_,_,l,_,_,_,_,_,_=>by simp at l
 | [],[],[],_::_,_,_,_,l,_,_,_,_,_=>by simp at l
 | [],_::_,_::_,_,_,_,l,_,_,_,_,_,_=>by simp at l
 | [],_::_,[],[],_,_,_,l,_,_,_,_,_=>by simp at l
 | _::_,_,[],_,_,_,l,_,_,_,_,_,_=>by simp at l
 | _::_,[],_::_,_::_,_,_,_,l,_,_,_,_,_=>by simp at l
 | _::_,_::_,_::_,[],_,_,_,l,_,_,_,_,_=>by simp at l
theorem Ic {t u:T} {vx vy:Ts} (hA:A.units+8<cLine) (hk:kd 8 t=true) (hk':kd 8 u=true) (hh:(pW t=true/\pW u=true)\/(Bw t=true/\Bw u=true)) (hs:qk 8 t u=true) (k1:cG s.heap t vx) (k2:cG s.heap u vy) (hC:Q (ltN 8 t u) s) :
  TR (model prog w) A (keyLt' (tuples' true) vx vy) Q E s:=by
 have go:∀{a b:T} {r q:List T},t=.tup (a::r)->u=.tup (b::q)->((∃x y,a=.str x/\b=.str y)\/∃x y,a=.int x/\b=.int y)->TR (model prog w) A (keyLt' (tuples' true) vx vy) Q E s:=fun {a b r q} et eu hab=>by
  subst et eu;cases k1 with
  | tup ho hc hd hl hi =>
   cases k2 with
   | tup ho' hc' hd' hl' hi' =>
    rename_i a1 o1 i1 n1 a2 o2 i2 n2;have OO:∀j (h:j<(a::r).length) (h':j<i1.toList.length),cG s.heap (a::r)[j] i1.toList[j]:=fun j h h'=>hi j _ _ (Ge9 h) (by simp)
    have at2:∀j (h:j<(b::q).length) (h':j<i2.toList.length),cG s.heap (b::q)[j] i2.toList[j]:=fun j h h'=>hi' j _ _ (Ge9 h) (by simp)
    refine kat_lt ho hd ho' hd' ?_;obtain⟨l1⟩:=i1;obtain⟨l2⟩:=i2;simp only [U8] at hl hl';cases l1 with
    | nil=>simp at hl
    | cons v vs =>
     cases l2 with
     | nil=>simp at hl'
     | cons w' ws =>
      have e0:=OO 0 (by simp) (by simp);have f0:=at2 0 (by simp) (by simp)
      have e0:cG s.heap a v:=e0;have f0:cG s.heap b w':=f0
      have hs:shl (qk 7) (a::r) (b::q)=true:=hs;rw [shl,Tw] at hs;have OP:(a::r).all (kd 7)=true:=hk
      have OQ:(b::q).all (kd 7)=true:=hk';have hC:Q (mR (ltN 7) (a::r) (b::q)) s:=hC
      rw [mR] at hC;have q0:=cG.eq 7 (s:=s) (A:=A) (gC OP (i:=0) rfl) (gC OQ (i:=0) rfl) (by omega) e0 f0
      show KatLex prog w A true _ Q ((v::vs).zip (w'::ws)) 0 s;rw [U1];refine kat_cons (q0 prog w _ _ ?_);by_cases e:a=b
      ·rw [if_pos e] at hC
       rw [decide_eq_true e];refine kat_yes (kat_tail (n:=7) r q vs ws 1 (by omega) (by simpa using hl.symm) (by simpa using hl'.symm) hs.2 (fun j c1 c2 c3 c4=>?_) _ (by simp) hC);have z1:cG s.heap r[j] vs[j]:=OO (j+1) (by simpa using c1) (by simpa using c3)
       have z2:cG s.heap q[j] ws[j]:=at2 (j+1) (by simpa using c2) (by simpa using c4);have d1:kd 7 r[j]=true:=gC OP (i:=j+1) (by simp [c1])
       have d2:kd 7 q[j]=true:=gC OQ (i:=j+1) (by simp [c2]);exact⟨cG.eq 7 d1 d2 (by omega) z1 z2,fun sh=>cG.lt 7 d1 d2 sh (by omega) z1 z2⟩
      ·rw [if_neg e] at hC
       rw [decide_eq_false e];refine kat_no ?_;show TR (model prog w) A (oneLt' true v w') Q _ s
       rcases hab with⟨x,y,rfl,rfl⟩|⟨x,y,rfl,rfl⟩
       ·cases e0;cases f0
        exact oneLt_str hC
       ·cases e0;cases f0
        exact oneLt_int hC
 rcases hh with⟨h1,h2⟩|⟨h1,h2⟩
 ·unfold pW at h1 h2
  split at h1
  ·split at h2
   ·exact go rfl rfl (.inl ⟨_,_,rfl,rfl⟩)
   ·cases h2
  ·cases h1
 ·unfold Bw at h1 h2
  split at h1
  ·split at h2
   ·exact go rfl rfl (.inr ⟨_,_,rfl,rfl⟩)
   ·cases h2
  ·cases h1
end
section
variable {X:Cx}
theorem nG {h:Heap}:∀{vs fs:List Ts},vs.length=fs.length->(∀i (h1:i<vs.length) (h2:i<fs.length),∃a o xs n,vs[i]=.ref a/\h.get? a=some o/\o.cls=.type "tuple"/\o.data=.seq xs n/\xs[0]?=some fs[i])->KatTups h vs fs
 | [],[],_,_=>.nil
 | [],_::_,l,_=>by simp at l
 | _::_,[],l,_=>by simp at l
 | v::vs,f::fs,l,hh=>by
  obtain⟨a,o,xs,n,e,e1,e2,e3,e4⟩:=hh 0 (by simp) (by simp);have e:v=.ref a:=e
  have e4:xs[0]?=some f:=e4;subst e;exact .cons e1 e2 e3 e4 (nG (by simpa using l) fun i h1 h2=>hh (i+1) (by simpa using h1) (by simpa using h2))
theorem uE {g:G} {ys:List T} {us:List Ts} (r:cu g ys us):∀(p:List Nat),(∀i∈p,i<ys.length)->cu g (p.map fun i=>ys.getD i (.int 0)) (p.map fun i=>us.getD i U2)
 | [],_=>.nil
 | i::p,h=>by
  refine .cons ?_ (uE r p fun j hj=>h j (Tp _ hj));have hi:=h i To
  obtain⟨u,e,q⟩:=rY r (Ge9 hi);simp only [Gd9,e,Ge9 hi,VM];exact q
theorem Bx {pins:aX} {φ:Fr} {g:G} {L L2:aa} {s:Tv} {fz:Bool} {xs:List T} {us:List Ts} {w:T} {t' n:Nat} {h':Heap} {a:Ug} (I:Inv X pins φ g L s) (r:cu g xs us) (h:eO fz xs L=.ok w L2) (k:∀b u,s.heap.get? b=some u->h'.get? b=some u) (ha:s.heap.objs.size<=a) (new:h'.get? a=some { cls:=.type "list",data:=.seq us.toArray n }) :
  EP X pins φ g w L2 (.ref a) { s with heap:=h',toks:=t' }:=by
 have f:=I.hok.fresh ha;unfold eO bT at h;split at h
 ·rename_i hz
  unfold mk at h;split at h
  ·cases h
   exact⟨_,Le.lay f,I.laid k ha new,r.lst (n:=n) (o:=default) (Le.lay f) (.inl rfl) (.inl aq) hz⟩
  ·cases h
   refine⟨_,Le.new f,I.new k ha new (r.lst (n:=n) (o:=default) (Le.new f) (.inr rfl) (.inl aq) hz),?_⟩;have:=I.rel.len
   exact .ref (p:=(a,a)) (by show at_ ((_,_)::g.α) _=_;rw [<- this];exact eS)
 ·cases h
end
end M
namespace M
open PySem PySem.Spec PyProof.Rows
open Classical in
noncomputable def qm:List T->List T
 | []=>[]
 | x::r=>if x∈r then qm r else x::qm r
noncomputable def cw (ys:List T):Prop:=ys.length<64/\ys.all (kd 8)=true/\(ys.all pW=true\/ys.all Bw=true)/\(ys.all fun a=>ys.all fun b=>qk 8 a b)=true
noncomputable instance (ys:List T):Decidable (cw ys):=by unfold cw;exact inferInstance
noncomputable def lP (fz:Bool):Fn:=fun xs L=>match xs with
 | [x]=>match vw L x with
  | .lst ys=>bT (cw ys/\ys.all (kd 6)=true/\ys.all pW=true) (eO fz (jm (qm ys)) L)
  | _=>.bad
 | _=>.bad
noncomputable def jN (fz:Bool):Fn:=fun xs L=>match xs with
 | [x]=>match vw L x with
  | .aP ks=>bT (cw (dE ks)) (eO fz (jm (dE ks)) L)
  | _=>.bad
 | _=>.bad
noncomputable def fK:Fn:=fun xs L=>match xs with
 | [x,y]=>match vw L x,vw L y with
  | .lst a,.lst b=>bT (a.length<=b.length) (w4 (zp a b) L)
  | .lst a,.tup b=>bT (a.length<=b.length) (w4 (zp a b) L)
  | _,_=>.bad
 | _=>.bad
noncomputable def QO:T->Fn:=fun x ts L=>match x,ts with
 | .ref n,[t]=>match at_ L n with
  | some (.lst xs)=>bT (dat 8 t=true/\xs.all (dat 8)=true) (match xs.findIdx? fun y=>eqT y t with
   | some j=>.ok .cb (put L n (.lst (xs.eraseIdx j)))
   | none=>.bad)
  | _=>.bad
 | _,_=>.bad
noncomputable def By (L:aa) (t:T) (L':aa):R T:=match t with
 | .ref n=>match at_ L' n with
  | some (.lst xs)=>bT (L.length<=n) (fin L (.lst xs) (put L' n (.ref n)) |>.bind fun t L1=>.ok (.ref L.length) (t::L1))
  | _=>.bad
 | _=>.bad
noncomputable def vU (np nn:Nat) (b:SS):Fn:=fun xs L=>if xs.length=np then match b (xs.map some++Ui (nn - np) none) L with
  | .rt t L'=>By L t L'
  | _=>.bad
 else .bad
end M
namespace M
open PySem
structure Ct where
 fn:List (Str × Fn)
 co:List (Str × T)
 me:List (Str × List (Str × Fn))
 fl:List Str
 us:List Str
 lv:List (Nat × Nat)
structure Sg where
 N:List Str
 sc:Scope
structure Bd where
 E:Expr->SE
 T:Expr->ST
 S:Stmt->SS
noncomputable def Ct.fz (Γ:Ct) (p:Pos):Bool:=!(Γ.lv.any fun q=>q.1 == p.line && q.2 == p.col)
noncomputable def Hn (N:List Str) (x:Str):Option Nat:=N.findIdx? (· == x)
noncomputable def Sg.at (S:Sg) (x:Str):Option Nat:=match S.sc.names.lookup x with
 | some .local=>Hn S.N x
 | some .cell=>Hn S.N x
 | some .free=>Hn S.N x
 | _=>none
noncomputable def Sg.own (S:Sg) (x:Str):Option Nat:=match S.sc.names.lookup x with
 | some .local=>Hn S.N x
 | some .cell=>Hn S.N x
 | _=>none
noncomputable def Sg.gl (S:Sg) (x:Str):Bool:=match S.sc.names.lookup x with
 | some .globalImplicit=>true
 | _=>false
noncomputable def vi (n:Nat) (k:Int):SE:=b2 (v n) (c (.int k)) ix
noncomputable def blt (x:Str) (fz:Bool):Option Fn:=[(("len":Str),bL),("list",cL fz),("tuple",iK),("all",p4),("any",vF),("sum",wW),("min",wX),("str",rV),("int",vG),("isinstance",He),("dict",lC),("sorted",gQ fz)].lookup x
noncomputable def S (s:String):Cs:=(Vd s).cps.toList
noncomputable def aG:Ty->Option (T->Fn):=fun y=>match y with|.l=>some AE|_=>none
noncomputable def gR:Ty->Option (T->Fn):=fun y=>match y with|.l=>some wY|_=>none
noncomputable def kZ:Ty->Option (T->Fn):=fun y=>match y with|.l=>some t4|.t=>some t5|_=>none
noncomputable def oM:Ty->Option (T->Fn):=fun y=>match y with|.t=>some AF|_=>none
noncomputable def jO:Ty->Option (T->Fn):=fun y=>match y with|.s=>some j0|_=>none
noncomputable def lb (fz:Bool):Ty->Option (T->Fn):=fun y=>match y with|.s=>some (lA fz)|_=>none
noncomputable def lh:Ty->Option (T->Fn):=fun y=>match y with|.s=>some lB|_=>none
noncomputable def cM:Ty->Option (T->Fn):=fun y=>match y with|.d=>some iz|_=>none
noncomputable def gc:Ty->Option (T->Fn):=fun y=>match y with|.d=>some wZ|_=>none
noncomputable def OR (x:Str) (fz:Bool):Option (Ty->Option (T->Fn)):=[(("append":Str),aG),("extend",gR),("count",kZ),("index",oM),("join",jO),("split",lb fz),("strip",lh),("get",cM),("setdefault",gc)].lookup x
noncomputable def m7:List SE->SE
 | []=>no
 | a::r=>match r with
  | []=>a
  | _::_=>AB a (m7 r)
noncomputable def CU:List SE->SE
 | []=>no
 | a::r=>match r with
  | []=>a
  | _::_=>KW a (CU r)
noncomputable def kj:List ST->ST
 | []=>no
 | a::r=>match r with
  | []=>a
  | _::_=>AA a (kj r)
noncomputable def vV:List ST->ST
 | []=>no
 | a::r=>match r with
  | []=>a
  | _::_=>KV a (vV r)
noncomputable def eName (Γ:Ct) (S:Sg) (x:Str):SE:=match S.at x with
 | some i=>v i
 | none=>match S.gl x with
  | true=>match Γ.co.lookup x with
   | some t=>c t
   | none=>match Γ.us.contains x,([(("bool":Str),"bool"),("int","int"),("str","str"),("list","list"),("tuple","tuple")]:List (Str × String)).lookup x with
    | true,some n=>c (.cl (.type n))
    | _,_=>no
  | false=>no
noncomputable def EY:Const->SE
 | .int i=>c (.int i)
 | .bool b=>c (.bl b)
 | .none=>c .cb
 | .str x=>match decide (x.cps.toList.length<=lim) with
  | true=>c (.str x.cps.toList)
  | false=>no
 | _=>no
noncomputable def yh (B:Bd) (a:Expr) (ops:List CmpOp) (es:List Expr):SE:=match ops with
 | []=>no
 | op::r=>match r with
  | []=>match es with
   | [b]=>match behindInMarks op b with
    | false=>b2 (B.E a) (B.E b) (cmp op)
    | true=>no
   | _=>no
  | nt::r'=>match r' with
   | []=>match es with
    | [b,d]=>match lastMarks [op,nt] [b,d] with
     | false=>vC op nt (B.E a) (B.E b) (B.E d)
     | true=>no
    | _=>no
   | _::_=>no
noncomputable def K8 (B:Bd) (a b:Expr):SE:=match vP b with
 | true=>b2 (B.E a) (B.E b) ix
 | false=>no
noncomputable def Ie (Γ:Ct) (B:Bd) (a b:Expr) (p:Pos):SE:=match b with
 | .Slice lo hi st _=>match st with
  | none=>sl (Γ.fz p) (B.E a) (lo.map B.E) (hi.map B.E)
  | some _=>K8 B a b
 | _=>K8 B a b
noncomputable def EZ (a:Option Nat) (b:Option (List Nat)):Option (List Nat):=match a with
 | some i=>match b with
  | some is=>some (i::is)
  | none=>none
 | none=>none
noncomputable def yi (S:Sg):List Expr->Option (List Nat)
 | []=>some []
 | .Name x _::r=>EZ (S.own x) (yi S r)
 | _=>none
noncomputable def Mi (S:Sg):Expr->Option Tg
 | .Name x _=>(S.own x).map .one
 | .Tuple ts _ _=>(yi S ts).map .many
 | _=>none
noncomputable def isTup:Expr->Bool
 | .Tuple ..=>true
 | _=>false
noncomputable def CV (Γ:Ct) (B:Bd) (S:Sg) (tg e:Expr) (x:Str) (es:List Expr):SI:=match S.gl x && Γ.us.contains x && es.all aY with
 | true=>match x == ("range":Str) with
  | true=>match es with
   | [a]=>rS (c (.int 0)) (B.E a)
   | [a,b]=>rS (B.E a) (B.E b)
   | _=>src (B.E e)
  | false=>match es with
   | [a]=>match x == ("enumerate":Str) with
    | true=>match isTup tg with
     | true=>KY (B.E a)
     | false=>src (B.E e)
    | false=>src (B.E e)
   | _=>src (B.E e)
 | false=>src (B.E e)
noncomputable def stI (Γ:Ct) (B:Bd) (S:Sg) (tg e:Expr):SI:=match e with
 | .Call (.Name x _) es [] _=>CV Γ B S tg e x es
 | e=>src (B.E e)
noncomputable def inN (sc:Scope):List Str:=(sc.names.filter fun y=>match y.2 with
 | .local=>true
 | .free=>true
 | _=>false).map (·.1)
noncomputable def yj (x:Str):Bool:=!(x == ("__debug__":Str)) && !(x == ("__classdict__":Str))
noncomputable def sN (S:Sg) (sc:Scope):Bool:=(match sc.kind with
  | .function=>true
  | _=>false) && (sc.names.all fun y=>match y.2 with
  | .cell=>false
  | .local=>(match sc.names.lookup y.1 with
   | some .local=>true
   | _=>false)
  | .free=>(match S.sc.names.lookup y.1 with
   | some .cell=>true
   | some .free=>true
   | _=>false)
  | _=>true) && decide (inN sc).Nodup && (inN sc).all yj
noncomputable def aV (S:Sg) (sc:Scope):List (Option Nat):=(inN sc).map fun y=>match sc.names.lookup y with
 | some .free=>S.at y
 | _=>none
noncomputable def tests (B:Bd):List Expr->ST
 | []=>yes
 | [k]=>B.T k
 | _=>no
noncomputable def nH (Γ:Ct) (B:Sg->Bd) (S:Sg) (elt tg iter:Expr) (ifs:List Expr) (sc:Scope) (p:Pos):SE :=
 match Mi ⟨inN sc,sc⟩ tg with
 | some t=>match sN S sc && iO iter && t.slots.all (fun i=>match (aV S sc)[i]? with
   | some none=>true
   | _=>false) with
  | true=>comp (Γ.fz p) (stI Γ (B S) S tg iter) (aV S sc) t (tests (B ⟨inN sc,sc⟩) ifs) ((B ⟨inN sc,sc⟩).E elt)
  | false=>no
 | none=>no
noncomputable def CW (Γ:Ct) (S:Sg) (fz:Bool) (x y:Str) (es:List Expr):Option (Fn × List Expr):=match S.gl y && Γ.us.contains y && es.all aY && (Γ.fn.lookup y).isNone with
 | true=>match x == ("sorted":Str) && y == ("set":Str) with
  | true=>match es with
   | [e]=>some (lP fz,[e])
   | _=>none
  | false=>match x == ("dict":Str) && y == ("zip":Str) with
   | true=>match es with
    | [a,b]=>some (fK,[a,b])
    | _=>none
   | false=>none
 | false=>none
noncomputable def CX (fz:Bool) (x:Str) (o:Expr) (m:Str) (ap q:Pos):Option (Fn × List Expr):=match okBase o && (ap.endLine == q.line) && x == ("sorted":Str) && m == ("items":Str) && aY o with
 | true=>some (jN fz,[o])
 | false=>none
noncomputable def nest (Γ:Ct) (S:Sg) (fz:Bool) (x:Str) (l:List Expr):Option (Fn × List Expr):=match l with
 | [e]=>match e with
  | .Call f es ks q=>match ks with
   | []=>match f with
    | .Name y _=>CW Γ S fz x y es
    | .Attribute o m ap=>match es with
     | []=>CX fz x o m ap q
     | _=>none
    | _=>none
   | _=>none
  | _=>none
 | _=>none
noncomputable def yk (Γ:Ct) (B:Bd) (S:Sg) (x:Str) (es:List Expr) (p:Pos):SE:=match S.gl x && es.all aY with
 | true=>match Γ.fn.lookup x with
  | some F=>ae F (es.map B.E)
  | none=>match Γ.us.contains x && !es.isEmpty,blt x (Γ.fz p) with
   | true,some F=>match nest Γ S (Γ.fz p) x es with
    | some q=>ae q.1 (q.2.map B.E)
    | none=>ae F (es.map B.E)
   | _,_=>no
 | false=>no
noncomputable def yl (Γ:Ct) (B:Bd) (o:Expr) (m:Str) (ap:Pos) (es:List Expr) (p:Pos):SE:=match okBase o && es.all aY && decide (es.length<30) && ap.endLine == p.line with
 | true=>match Γ.me.lookup m with
  | some mf=>oh m (fun y=>mf.lookup y) (B.E o) (es.map B.E)
  | none=>match OR m (Γ.fz p) with
   | some f=>aS f (B.E o) (es.map B.E)
   | none=>no
 | false=>no
noncomputable def CY (Γ:Ct) (B:Sg->Bd) (S:Sg):Expr->SE
 | .Name x _=>eName Γ S x
 | .Constant k _ _=>EY k
 | .BinOp a op b p=>b2 ((B S).E a) ((B S).E b) (aQ (Γ.fz p) op)
 | .UnaryOp .Not a _=>vD ((B S).E a)
 | .UnaryOp .USub a _=>b1 ((B S).E a) neg
 | .BoolOp .And es _=>m7 (es.map (B S).E)
 | .BoolOp .Or es _=>CU (es.map (B S).E)
 | .Compare a ops es _=>yh (B S) a ops es
 | .IfExp k a b _=>Lz ((B S).T k) ((B S).E a) ((B S).E b)
 | .List es p=>match es.all aY with
  | true=>lst (Γ.fz p) (es.map (B S).E)
  | false=>no
 | .Tuple es _ _=>match es.all aY && decide (es.length<=1000) with
  | true=>tup (es.map (B S).E)
  | false=>no
 | .Dict [] [] p=>vE (Γ.fz p)
 | .Subscript a b p=>Ie Γ (B S) a b p
 | .Attribute o f _=>match okBase o && Γ.fl.contains f with
  | true=>b1 ((B S).E o) (fld f)
  | false=>no
 | .ListComp elt [⟨tg,iter,ifs,0⟩] sc p=>nH Γ B S elt tg iter ifs sc p
 | .Call (.Name x _) es [] p=>yk Γ (B S) S x es p
 | .Call (.Attribute o m ap) es [] p=>yl Γ (B S) o m ap es p
 | _=>no
noncomputable def OS (B:Bd) (own:Expr->SE):Expr->ST
 | .UnaryOp .Not a _=>eR (B.T a)
 | .BoolOp .And es _=>kj (es.map B.T)
 | .BoolOp .Or es _=>vV (es.map B.T)
 | .Compare a ops es p=>tv (own (.Compare a ops es p))
 | .Name x p=>tv (own (.Name x p))
 | .Call f es ks p=>tv (own (.Call f es ks p))
 | .Subscript a b p=>tv (own (.Subscript a b p))
 | .Attribute o f p=>tv (own (.Attribute o f p))
 | .Constant k n p=>tv (own (.Constant k n p))
 | _=>no
noncomputable def CZ:Expr->Bool
 | .Call ..=>true
 | .Name ..=>true
 | .Subscript ..=>true
 | .Attribute ..=>true
 | _=>false
noncomputable def Mj (gs:List Comprehension):Option (Expr × Expr × List Expr):=match gs with
 | [⟨tg,iter,ifs,0⟩]=>some (tg,iter,ifs)
 | _=>none
noncomputable def Bz (B:Sg->Bd) (S:Sg) (i:Nat) (e:Expr):SS:=match iB e with
 | true=>asg (.one i) ((B S).E e)
 | false=>fE
noncomputable def vW (Γ:Ct) (B:Sg->Bd) (S:Sg) (tg e:Expr):SS:=match tg with
 | .Name x p=>match S.own x with
  | some i=>match e with
   | .ListComp elt gs sc p=>match Mj gs with
    | some (tg,iter,ifs)=>asg (.one i) (nH Γ B S elt tg iter ifs sc p)
    | none=>Bz B S i e
   | _=>Bz B S i e
  | none=>fE
 | .Tuple ts _ _=>match yi S ts,CZ e with
  | some is,true=>asg (.many is) ((B S).E e)
  | _,_=>fE
 | .Attribute o f _=>match Γ.fl.contains f && iB e with
  | true=>iJ ((B S).E o) f ((B S).E e)
  | false=>fE
 | .Subscript o i _=>match iB e with
  | true=>pZ ((B S).E o) ((B S).E i) ((B S).E e)
  | false=>fE
 | _=>fE
noncomputable def Ho (Γ:Ct) (B:Sg->Bd) (S:Sg):Stmt->SS
 | .Pass _=>pass
 | .Break _=>brk
 | .Continue _=>cnt
 | .Expr e _=>match iB e with
  | true=>fF ((B S).E e)
  | false=>fE
 | .Return none _=>ret (c .cb)
 | .Return (some e) _=>ret ((B S).E e)
 | .If k a b _=>iff ((B S).T k) (ab (a.map (B S).S)) (ab (b.map (B S).S))
 | .Assign [tg] e _=>vW Γ B S tg e
 | .AugAssign (.Name x _) op e _=>match S.own x with
  | some i=>aug op i ((B S).E e)
  | none=>fE
 | .AugAssign (.Subscript o i _) op e _=>match vP i with
  | true=>wU op ((B S).E o) ((B S).E i) ((B S).E e)
  | false=>fE
 | .For tg e b [] _=>match Mi S tg,iO e with
  | some t,true=>bS (stI Γ (B S) S tg e) t (ab (b.map (B S).S))
  | _,_=>fE
 | .While k b [] _=>pS ((B S).T k) (ab (b.map (B S).S)) lim
 | _=>fE
noncomputable def step (Γ:Ct) (B:Sg->Bd) (S:Sg):Bd:=⟨CY Γ B S,OS (B S) (CY Γ B S),Ho Γ B S⟩
noncomputable def cX (Γ:Ct):Nat->Sg->Bd
 | 0,_=>⟨fun _=>no,fun _=>no,fun _=>fE⟩
 | n+1,S=>step Γ (cX Γ n) S
noncomputable def code (Γ:Ct) (S:Sg) (b:List Stmt):SS:=ab (b.map (cX Γ 40 S).S)
end M
namespace M
open PySem PySem.W PySem.Calls PyProof.Rows L2
section
variable {X:Cx} {pins:aX} {φ:Fr} {g:G} {L L':aa} {s:Tv}
theorem lQ {A:Ux} {E:Ts->Tv->Prop} {fz:Bool} {ts:List T} {its:List Ts} {w:T} (hu:A.units+8<cLine) (I:Inv X pins φ g L s) (rr:cu g ts its) (ok:cw ts) (h:eO fz (jm ts) L=.ok w L') :
  TR (model X.prog X.w) A (Builtin.«list.sort» ⟨[.ref s.heap.objs.size],[]⟩) (fun fin s'=>fin=.done (.ret .none)/\EP X pins φ g w L' (.ref s.heap.objs.size) s') E { s with heap:=s.heap.push (seqObj "list" its.toArray 0) }:=by
 obtain⟨K6,hk,hh,hs⟩:=ok;have nD:∀b o,s.heap.get? b=some o->b≠s.heap.objs.size:=fun b o q=>Ub (T3 q)
 have E0:∀b o,s.heap.get? b=some o->(s.heap.push (seqObj "list" its.toArray 0)).get? b=some o:=fun b o q=>Tj _ q
 have hlen:its.length=ts.length:=(TV rr).symm;have hk':=Tr.mp hk
 have QP:∀i,kd 8 (ts.getD i (.int 0))=true:=fun i=>by
  cases e:ts[i]? with
  | none=>simp only [Gd9,e,YE];rfl
  | some x=>simp only [Gd9,e,VM];exact hk' x (Ul e)
 have Ml:∀{h':Heap},(∀b o,s.heap.get? b=some o->h'.get? b=some o)->∀i (hi:i<ts.length) (hi':i<its.length),cG h' ts[i] its[i]:=fun {h'} kp i hi hi' =>
  (I.kept (t':=s.toks) kp).EM 8 (hk' _ (TN hi)) (vH rr i _ _ (Ge9 hi) (Ge9 hi'))
 refine m6 (κ:=tuples' true) (lt:=fun i j=>ltN 8 (ts.getD i (.int 0)) (ts.getD j (.int 0))) (EX QP) (Tt _ rfl) (by omega) (fun h2 h' kp Q' hQ=>?_) (fun h' kp i j C hi hj hC=>?_) fun p h' c hp hr kp e'=>?_
 ·have hf:∀i:_root_.Fin its.length,∃f:Ts,(∃a o xs n,its[i.1]=.ref a/\h'.get? a=some o/\o.cls=.type "tuple"/\o.data=.seq xs n/\xs[0]?=some f)/\((ts.all pW=true->typeOf f=pure (.type "str"))/\(ts.all Bw=true->typeOf f=pure (.type "int"))):=fun⟨i,hi⟩=>by
   have hit:i<ts.length:=by omega
   have k:=Ml (fun b o q=>kp b o (nD b o q) (E0 b o q)) i hit hi;have tup:∃b r,ts[i]=.tup (b::r):=by
    rcases hh with hh|hh
    ·have z:=Tr.mp hh _ (TN hit)
     unfold pW at z;split at z
     ·rename_i e;exact⟨_,_,e⟩
     ·cases z
    ·have z:=Tr.mp hh _ (TN hit)
     unfold Bw at z;split at z
     ·rename_i e;exact⟨_,_,e⟩
     ·cases z
   obtain⟨b,r,et⟩:=tup;have hS:ts.all pW=true->∃x,b=.str x:=fun z=>by
    have z:=Tr.mp z _ (TN hit);rw [et] at z;cases b <;> first|exact⟨_,rfl⟩|cases z
   have hI:ts.all Bw=true->∃x,b=.int x:=fun z=>by
    have z:=Tr.mp z _ (TN hit);rw [et] at z;cases b <;> first|exact⟨_,rfl⟩|cases z
   rw [et] at k;generalize hv:its[i]=vv at k;cases k with
   | tup ho hc hd hl CO =>
    rename_i a1 o1 i1 n1;have vX:0<i1.size:=by simp at hl;omega
    have k0:=CO 0 b i1[0] rfl (Tx vX);refine⟨i1[0],⟨a1,o1,i1,n1,rfl,ho,hc,hd,Tx vX⟩,fun z=>?_,fun z=>?_⟩
    ·obtain⟨x,rfl⟩:=hS z
     generalize i1[0]=y at k0;cases k0;rfl
    ·obtain⟨x,rfl⟩:=hI z
     generalize i1[0]=y at k0;cases k0;rfl
  obtain⟨f,hf⟩:=Zy.mp hf;have kt:KatTups h' its (List.ofFn f):=nG (by simp) fun i h1 h2=>by
   rw [List.getElem_ofFn];exact(hf ⟨i,h1⟩).1
  rcases hh with hh|hh
  ·refine kat_kind (s:={ s with heap:=h' }) (T:=.type "str") (by simpa using kt) (by simp at h2 ⊢;omega) (fun v hv=>?_) (by decide) ?_
   ·obtain⟨i,rfl⟩:=(List.mem_ofFn (f:=f) (a:=v)).mp hv
    exact Looks.of_pure ((hf i).2.1 hh)
   ·exact hQ
  ·refine kat_kind (s:={ s with heap:=h' }) (T:=.type "int") (by simpa using kt) (by simp at h2 ⊢;omega) (fun v hv=>?_) (by decide) ?_
   ·obtain⟨i,rfl⟩:=(List.mem_ofFn (f:=f) (a:=v)).mp hv
    exact Looks.of_pure ((hf i).2.2 hh)
   ·exact hQ
 ·have i1:i<ts.length:=by omega
  have j1:j<ts.length:=by omega
  have t1:ts.getD i (.int 0)=ts[i]:=by simp [i1]
  have t2:ts.getD j (.int 0)=ts[j]:=by simp [j1]
  have g1:its.getD i U2=its[i]:=by rw [Gd9,Ge9 hi];rfl
  have g2:its.getD j U2=its[j]:=by rw [Gd9,Ge9 hj];rfl
  rw [g1,g2];have hC:C (ltN 8 (ts.getD i (.int 0)) (ts.getD j (.int 0))) _:=hC
  rw [t1,t2] at hC;refine Ic hu (hk' _ (TN i1)) (hk' _ (TN j1)) ?_ (Tr.mp (Tr.mp hs _ (TN i1)) _ (TN j1)) (Ml (fun b o q=>kp b o (nD b o q) (E0 b o q)) i i1 hi) (Ml (fun b o q=>kp b o (nD b o q) (E0 b o q)) j j1 hj) hC;rcases hh with hh|hh
  ·exact .inl ⟨Tr.mp hh _ (TN i1),Tr.mp hh _ (TN j1)⟩
  ·exact .inr ⟨Tr.mp hh _ (TN i1),Tr.mp hh _ (TN j1)⟩
 ·have hpl:p.toList.Perm (UE its.length):=hp.2
  have e1:(UE its.length).map (fun i=>ts.getD i (.int 0))=ts:=by
   rw [hlen];apply Vj (by simp);intro i a1 a2;simp [a2]
  have Mm:jm ts=p.toList.map (fun i=>ts.getD i (.int 0)):=by
   refine oL hk ?_ ?_
   ·have z:=hpl.map (fun i=>ts.getD i (.int 0))
    rw [e1] at z;exact z
   ·unfold iR
    rw [Ww,X3];intro i j hi hj sD;have hi':i<p.size:=by simpa using hi
    have hj':j<p.size:=by simpa using hj
    have z:=hr i j sD (by rw [<- hp.1];exact hj');have g1:p.getD i 0=p.toList[i]:=by simp [Vs,hi']
    have g2:p.getD j 0=p.toList[j]:=by simp [Vs,hj']
    rw [g1,g2] at z;exact z
  rw [Mm] at h;exact⟨rfl,Bx (s:=s) (t':=s.toks) (n:=c) I (uE rr p.toList fun i hi=>by have:=UC.mp (hpl.mem_iff.mp hi);omega) h (fun b o q=>kp b o (nD b o q) (E0 b o q)) (TK _) e'⟩
theorem Inv.Ig {h':Heap} {tk:Nat} {as:List Ug} (I:Inv X pins φ g L s) (kp:∀b o,s.heap.get? b=some o->h'.get? b=some o) (ha:∀a∈as,s.heap.objs.size<=a) :
  ∃g1,Le g g1/\Inv X pins φ g1 L { s with heap:=h',toks:=tk }/\∀a∈as,∀o,h'.get? a=some o->g1.H a=some (true,o):=by
 classical
 let g1:G:={ g with H:=fun b=>if b∈as then (h'.get? b).map fun o=>(true,o) else g.H b }
 have old:∀b,b<s.heap.objs.size->g1.H b=g.H b:=fun b hb=>if_neg fun z=>Vg _ (Uc hb (ha b z))
 have lt:∀b x,g.H b=some x->b<s.heap.objs.size:=fun b x q=>T3 (I.hok b x.1 x.2 q)
 have l:Le g g1:=⟨fun b o q=>(old b (lt b _ q)).trans q,fun _ _ q=>q,rfl,rfl,rfl⟩;refine⟨g1,l,I.un l ⟨fun b o q _ _=>kp b o q,fun b o q n _=>(old b (T3 q)).trans n,l.f⟩ (fun b c o q=>?_) (I.rel.le l rfl fun b o q=>old b (lt b _ q)),fun a hm o q=>?_⟩
 ·by_cases hb:b∈as
  ·have q:(if b∈as then (h'.get? b).map fun o=>(true,o) else g.H b)=some (c,o):=q
   rw [if_pos hb] at q;obtain⟨z,z1,z2⟩:=TG.mp q;cases z2;exact z1
  ·have q:(if b∈as then (h'.get? b).map fun o=>(true,o) else g.H b)=some (c,o):=q
   rw [if_neg hb] at q;exact kp b o (I.hok b c o q)
 ·show(if a∈as then (h'.get? a).map fun o=>(true,o) else g.H a)=_
  rw [if_pos hm,q];rfl
theorem C0 {a:Ug} {o:Obj} {es:Array DictEntry} {ep:Nat} {ks:List (T × T)} (D:bE X g s ks a o es ep) (h:(ks.map (·.1)).all jI=true):∃kvs,s.heap.DictAt (gE X.prog X.w) a kvs ep/\kvs.length=ks.length/\∀(i:Nat) k x,kvs[i]?=some (k,x)->∃p,ks[i]?=some p/\p.1=k/\(∃u,RT g none k u)/\RT g none p.2 x:=by
 have sc:∀(i:Nat) p e,ks[i]?=some p->es[i]?=some e->xS p.1 e.key=true:=fun i p e e1 e2 =>
  kU (Tr.mp h _ (TZ (Ul e1))) (D.h1 i p e e1 e2)
 have go:∀(l:List DictEntry) (ks:List (T × T)),ks.length=l.length->(∀(i:Nat) p e,ks[i]?=some p->l[i]?=some e->xS p.1 e.key=true)->∃kvs,Pairs (gE X.prog X.w) l kvs/\kvs.length=ks.length/\kvs.map (·.1)=ks.map (·.1)/\kvs.map (·.2)=l.map (·.val):=fun l=>by
  induction l with
  | nil=>intro ks hl _;cases ks with
   | nil=>exact⟨[],.nil,rfl,rfl,rfl⟩
   | cons _ _=>cases hl
  | cons e l ih=>intro ks hl h;cases ks with
   | nil=>cases hl
   | cons p ks =>
    obtain⟨kvs,k1,k2,k3,k4⟩:=ih ks (by simpa using hl) fun i p e e1 e2=>h (i+1) p e (by simpa using e1) (by simpa using e2)
    exact⟨(p.1,e.val)::kvs,.cons (h 0 p e rfl rfl) rfl k1,by simp [k2],by simp [k3],by simp [k4]⟩
 obtain⟨kvs,k1,k2,k3,k4⟩:=go es.toList ks (by simpa using D.hl) fun i p e e1 e2=>sc i p e e1 (by simpa using e2)
 refine⟨kvs,⟨o,es,D.ho,D.hx,D.hd,fun e he=>?_,k1,by rw [k3];exact D.hn⟩,k2,fun i k x q=>?_⟩
 ·obtain⟨i,hi,rfl⟩:=VA he
  have e1:=Ge9 (l:=ks) (i:=i) (by rw [D.hl];exact hi);exact⟨_,sc i _ _ e1 (Tx hi),D.hh i _ _ e1 (Tx hi)⟩
 ·have e1:(ks.map (·.1))[i]?=some k:=by rw [<- k3,TX,q];rfl
  have e2:(es.toList.map (·.val))[i]?=some x:=by rw [<- k4,TX,q];rfl
  rw [TX] at e1 e2;obtain⟨p,p1,p2⟩:=TG.mp e1;obtain⟨e,q1,q2⟩:=TG.mp e2;have q1:es[i]?=some e:=by simpa using q1
  subst p2 q2;exact⟨p,p1,rfl,⟨_,D.h1 i p e p1 q1⟩,D.h2 i p e p1 q1⟩
theorem qn {ks:List (T × T)} (h:(dE ks).all pW=true\/(dE ks).all Bw=true):(ks.map (·.1)).all jI=true:=by
 rw [Tr];intro k hk;obtain⟨p,hp,rfl⟩:=Tz.mp hk;have m:T.tup [p.1,p.2]∈dE ks:=Tz.mpr ⟨p,hp,rfl⟩
 rcases h with h|h
 ·have z:=Tr.mp h _ m
  generalize p.1=q at z ⊢;cases q <;> first|rfl|cases z
 ·have z:=Tr.mp h _ m
  generalize p.1=q at z ⊢;cases q <;> first|rfl|cases z
theorem sO {fz:Bool} {ks:List (T × T)} {w:T} {a r:Ug} {o:Obj} {es:Array DictEntry} {ep:Nat} (hu:X.A.units+20<cLine) (I:Inv X pins φ g L s) (D:bE X g s ks a o es ep) (hr:s.heap.get? r=some { cls:=.type "dict_items",data:=.fields #[.ref a] }) (ok:cw (dE ks)) (h:eO fz (jm (dE ks)) L=.ok w L') :
  TR (model X.prog X.w) X.A (call (.builtin "sorted") [.ref r]) (EP X pins φ g w L') F0 s:=by
 obtain⟨kvs,d1,d2,d3⟩:=C0 D (qn ok.2.2.1);refine WJ kind_sorted plain_sorted entry_sorted (args_sorted1 _) ?_;unfold Builtin.«sorted»;refine Ti (m:=checkCount "sorted" 1 1 _) (Tn ?_);refine Ti (PySem.W.kdx_collect (A:=X.A.in1) (knd:=gE X.prog X.w) (kvs:=kvs) (ep:=ep) (d:=a) I.ok.hd ⟨_,hr,rfl,rfl⟩ d1 (by rw [d2];exact D.hz) fun h' tk as kp OT hG=>?_);obtain⟨g1,l1,I1,n1⟩:=I.Ig (tk:=tk) (as:=as) kp fun a ha=>WR (hG.above a ha)
 have rr:cu g1 (dE ks) (as.map Vz):=by
  refine du (by simp [dE,OT,d2]) fun i x v e1 e2=>?_
  unfold dE at e1;rw [TX] at e1 e2;obtain⟨p,p1,rfl⟩:=TG.mp e1;obtain⟨b,b1,rfl⟩:=TG.mp e2;obtain⟨key,k,y,f1,f2,f3⟩:=hG.pairs i b b1;obtain⟨p',q1,q2,⟨u,q3⟩,q4⟩:=d3 i k y f1;rw [p1] at q1;cases q1;subst q2;have rk:RT g none p.1 key:=xW f2 q3
  refine .tup (.inl (n1 b (Ul b1) _ f3)) ⟨rfl,rfl⟩ rfl (by rw [Vb];simp) rfl fun j z v e1 e2=>?_
  match j,e1,e2 with
  | 0,e1,e2=>cases e1;cases e2;exact rk.le l1
  | 1,e1,e2=>cases e1;cases e2;exact q4.le l1
  | j+2,e1,e2=>simp at e1
 refine Ti (wpAny_newList ?_ (by rw [Lm9,OT,d2];exact D.hz));have jg:=fun E'=>lQ (s:={ s with heap:=h',toks:=tk }) (E:=E') (A:=X.A.in1.in1) (by show X.A.units+1+1+8<cLine;omega) I1 rr ok h
 refine Ti (wpAny_holding (wpAny_call_entry slot_list_sort ⟨_,Tt _ rfl,rfl⟩ entry_list_sort ?body (args_list_sort _)))
 case body =>
  refine wpAny_mono (jg _) (fun fin s' z=>?_) fun _ _ z=>z
  obtain⟨rfl,z⟩:=z;exact⟨_,rfl,Tn ⟨_,rfl,z.le l1⟩⟩
theorem vY {fz:Bool} (hu:X.A.units+20<cLine):cU X (.builtin "sorted") (gQ fz):=fun {pins φ g L s _ w L' _} I r h=>by
 unfold gQ at h;split at h
 ·obtain⟨u,rfl,ru⟩:=bF r
  obtain⟨q,v⟩:=I.view ru;split at h
  ·rename_i ts ev
   rw [ev] at v;obtain⟨ok,h⟩:=aA h;obtain⟨a,its,n,rfl,e,rr,hz⟩:=I.lst v;obtain⟨vs⟩:=its;have hlen:=TV rr
   have K6:=ok.1;refine WJ kind_sorted plain_sorted entry_sorted (args_sorted1 _) ?_;unfold Builtin.«sorted»;refine Ti (m:=checkCount "sorted" 1 1 _) (Tn ?_);refine Ti (collect_list (af e) ?_ (by rw [Vb];simp at hlen ⊢;omega));refine Ti (wpAny_newList ?_ (by rw [Vb];simp at hlen ⊢;omega));have keep:∀b o,s.heap.get? b=some o->((s.heap.push (seqObj "list" #[] 0)).update s.heap.objs.size (U9 (·++vs.toArray))).get? b=some o:=fun b o q=>by
    have bD:b<s.heap.objs.size:=T3 q;rw [XD _ _ _ _ (Ub bD),Wv _ _ _ (Ub bD)];exact q
   have I1:=I.kept (t':=s.toks) keep;have jg:=fun E'=>lQ (s:={ s with heap:=(s.heap.push (seqObj "list" #[] 0)).update s.heap.objs.size (U9 (·++vs.toArray)) }) (E:=E') (A:=X.A.in1.in1) (by show X.A.units+1+1+8<cLine;omega) I1 rr ok h
   refine Ti (wpAny_holding (wpAny_call_entry slot_list_sort ⟨_,Tt _ rfl,rfl⟩ entry_list_sort ?body (args_list_sort _)))
   case body =>
    refine wpAny_mono (jg _) (fun fin s' z=>?_) fun _ _ z=>z
    obtain⟨rfl,z⟩:=z;exact⟨_,rfl,Tn ⟨_,rfl,z⟩⟩
  ·cases h
 ·cases h
end
end M
namespace L2
open PySem
theorem noKeysZ:typeLookup (.type "zip") "keys"=pure none:=by rw [typeLookup_type,builtinLookup_eq_fast];kernel_rfl
theorem zip_getattr_none:typeLookup (.type "zip") "__getattr__"=pure none:=by rw [typeLookup_type,builtinLookup_eq_fast];kernel_rfl
theorem entry_zip_getattribute:entryFor table "zip.__getattribute__"=some Builtin.«object.__getattribute__» :=
 entryFor_alias (id':="object.__getattribute__") (by kernel_rfl) (by decide +kernel) (by decide +kernel) (by kernel_rfl)
theorem meets_miss_zip (a:Ug) (xs:Array Ts) (sl:Array (Option Ts)) (name:Str) (u:Tok) (hmiss:typeLookup (.type "zip") name=pure none) (hname:(["__module__","__name__","__qualname__","__doc__","__annotations__"]:List Str).contains name=false) (hsz:name.length+100<=T7:=by size_fits) :
  Meets (Builtin.«object.__getattribute__» ⟨[.ref a,.str name u],[]⟩) (fun A R s=>s.heap.get? a=some { cls:=.type "zip",dict:=none,data:=.fields xs,slots:=sl }/\raisesAttr (.ref a) name A R s) :=
 Meets.of_wp fun prog w A R s hs=>by
  obtain⟨hp,g,d,tk,os⟩:=s;obtain⟨hx,hs⟩:=hs;have hT:(⟨hp,g,d,tk,os⟩:Tv).TypeIs (.ref a) "zip":=⟨_,hx,rfl⟩
  unfold Builtin.«object.__getattribute__»
  repeat (any_goals (first|assumption|wp_step))
  simp only [hname,TH,if_false]
  repeat (any_goals (first|assumption|wp_step))
  exact wpAny_raiseAttrError hs.1 hs.2 (attrMsg_fits (by decide +kernel) hsz)
end L2
namespace L2
open PySem PySem.Spec PyProof.Rows
theorem vZ {prog:UU} {w:VL} {A:Ux} {E:Ts->Tv->Prop} {s:Tv} {a:Ug} {xs:Array Ts} {sl:Array (Option Ts)} {Q:Option Ts->Tv->Prop}
  (hx:s.heap.get? a=some { cls:=.type "zip",dict:=none,data:=.fields xs,slots:=sl }) (hA:A.handled=none)
  (h:∀h' tk e,Zn s.heap h' e "AttributeError"->Q none { s with heap:=h',toks:=tk }) :
  TR (model prog w) A (getAttr? (.ref a) "keys") Q E s:=by
 obtain⟨hp,g,d,tk,os⟩:=s;have hT:∀tk',(⟨hp,g,d,tk',os⟩:Tv).TypeIs (.ref a) "zip":=fun _=>⟨_,hx,rfl⟩
 have f1:=sub_AttributeError;have f3:=V7.lookup
 have f4:=V7.bind (.ref a);have f5:=zip_getattr_none
 have hmiss:=noKeysZ;unfold getAttr? getAttrBy? getAttrBy
 repeat (any_goals (first|assumption|exact hT _|((with_reducible show TR _ _ (call (Xu "zip.__getattribute__") _ _) _ _ _);refine call_meets V7 (hT _) entry_zip_getattribute (PySem.F.args_zip_getattribute_2 _ _) (meets_miss_zip a xs sl "keys" _ hmiss (by decide +kernel) (by decide)) ⟨hx,hA,fun h' tk' e hx'=>?_⟩)|wp_step))
 obtain⟨t',u',he⟩:=hx'.there;show TR _ _ (getattributeRaised _ _ _ _ _ _ _) _ _ _
 unfold getattributeRaised
 repeat (any_goals (first|assumption|wp_step))
 exact h _ _ _ hx'.of
abbrev IsZipF (h:Heap) (z TI TO:Ug) (f0:Ts) (f1:Bool):Prop :=
 h.get? z=some { cls:=.type "zip",dict:=none,data:=.fields #[f0,.bool f1,.bool false,.ref TI,.ref TO],slots:=#[] }
noncomputable def BB (h:Heap) (b:Bool) (i l:Ug) (k:Nat):Prop:=match b with|true=>h.IsTupleIter i l k|false=>h.IsListIter i l k
noncomputable def BC (h:Heap) (b:Bool) (l:Ug) (xs:Array Ts):Prop:=match b with|true=>h.IsTuple l xs|false=>h.IsList l xs
theorem BB.at {h h':Heap} {b:Bool} {i l:Ug} {k:Nat} (x:BB h b i l k) (e:∀o,h.get? i=some o->h'.get? i=some o):BB h' b i l k:=by
 cases b with
 | false=>obtain⟨o,ho,r⟩:=x;exact⟨o,e _ ho,r⟩
 | true=>obtain⟨o,ho,r⟩:=x;exact⟨o,e _ ho,r⟩
theorem BC.at {h h':Heap} {b:Bool} {l:Ug} {xs:Array Ts} (x:BC h b l xs) (e:∀o,h.get? l=some o->h'.get? l=some o):BC h' b l xs:=by
 cases b with
 | false=>obtain⟨o,ho,r⟩:=x;exact⟨o,e _ ho,r⟩
 | true=>obtain⟨o,ho,r⟩:=x;exact⟨o,e _ ho,r⟩
theorem BB.there {h:Heap} {b:Bool} {i l:Ug} {k:Nat} (x:BB h b i l k):∃o,h.get? i=some o:=by
 cases b with
 | false=>obtain⟨o,ho,r⟩:=x;exact⟨o,ho⟩
 | true=>obtain⟨o,ho,r⟩:=x;exact⟨o,ho⟩
section
variable {prog:UU} {w:VL} {A:Ux} {E:Ts->Tv->Prop} {s:Tv}
theorem oO {it t:Ug} {i:Nat} {items:Array Ts} {x:Ts} {Q:Ts->Tv->Prop} (hit:s.heap.IsTupleIter it t i)
  (ht:s.heap.IsTuple t items) (hx:items[i]?=some x)
  (hQ:∀h',h'.IsTupleIter it t (i+1)->Vl it s.heap h'->Q x { s with heap:=h' }) :
  TR (model prog w) A (Uy (.ref it)) Q E s:=by
 obtain⟨o,ho,hc,hd⟩:=id hit;obtain⟨ol,oJ,_,nl,Mn⟩:=ht;unfold Uy;refine Ti (wpAny_callSpecial?_slot (name:=Vd "__next__") hit.typeIs W6
  (wpAny_call_entry W6 hit.typeIs PySem.F.entry_tuple_iterator_next ?_ (PySem.F.args_tuple_iterator_next_1 _)))
 show TR _ _ (field (.ref it) 0 >>= _) _ _ s;refine Ti (wpAny_field ho hd (x:=.ref t) rfl ?_);show TR _ _ (if (Vz t == U2)=true then _ else _) _ _ s
 rw [if_neg (show ¬ ((Vz t == U2)=true) from VR)];show TR _ _ (field (.ref it) 1 >>= _) _ _ s
 refine Ti (wpAny_field ho hd (x:=.int i 0) rfl ?_);show TR _ _ (seqItems? (.ref t) >>= _) _ _ s
 refine Ti (wpAny_seqItems oJ Mn ?_);simp only [V2,hx];refine Ti (wpAny_setField ho hd (by simp) (Tn ⟨x,rfl,Tn (hQ _ ?_ (U5 ..))⟩));exact⟨_,U4 _ ho (Xk (VS hd _)),(Yk ..).trans hc,by
  rw [VS hd];simp [rawInt]⟩
theorem qo {b:Bool} {it t:Ug} {i:Nat} {items:Array Ts} {x:Ts} {Q:Ts->Tv->Prop} (hit:BB s.heap b it t i)
  (ht:BC s.heap b t items) (hx:items[i]?=some x)
  (hQ:∀h',BB h' b it t (i+1)->Vl it s.heap h'->Q x { s with heap:=h' }) :
  TR (model prog w) A (Uy (.ref it)) Q E s:=by
 cases b with
 | false=>exact wpAny_nextOf_list_item hit ht hx hQ
 | true=>exact oO hit ht hx hQ
structure ZD (z TI TO i1 i2 l1 l2 a:Ug):Prop where
 TIz:TI≠z
 TOz:TO≠z
 i1z:i1≠z
 i2z:i2≠z
 TITO:TI≠TO
 TIi1:TI≠i1
 TIi2:TI≠i2
 TOi1:TO≠i1
 TOi2:TO≠i2
 i12:i1≠i2
 l1z:l1≠z
 l1TO:l1≠TO
 l1i1:l1≠i1
 l1i2:l1≠i2
 l2z:l2≠z
 l2TO:l2≠TO
 l2i1:l2≠i1
 l2i2:l2≠i2
 za:z≠a
 QR:TI≠a
 QS:TO≠a
 QT:i1≠a
 QU:i2≠a
structure ym (h:Heap) (b:Bool) (z TI TO i1 i2 l1 l2 a:Ug) (k:Nat):Prop where
 z:∃f0 f1,IsZipF h z TI TO f0 f1/\(f0=.none\/∃T o,f0=rawInt ((T:Nat):Int)/\h.get? T=some o/\T≠z/\T≠TO/\T≠i1/\T≠i2/\T≠a)
 ti:IsPair h TI (.ref i1) (.ref i2)
 to:∃x y,IsPair h TO x y
 j1:h.IsListIter i1 l1 k
 j2:BB h b i2 l2 k
theorem ym.ext {h h':Heap} {b:Bool} {z TI TO i1 i2 l1 l2 a:Ug} {k:Nat} (D:ZD z TI TO i1 i2 l1 l2 a) (x:ym h b z TI TO i1 i2 l1 l2 a k) (e:∀c o,c≠a->h.get? c=some o->h'.get? c=some o):ym h' b z TI TO i1 i2 l1 l2 a k:=by
 obtain⟨⟨f0,f1,hz,hf⟩,QV,⟨u,v,QW⟩,h1,h2⟩:=x;refine⟨⟨f0,f1,e _ _ D.za hz,?_⟩,e _ _ D.QR QV,⟨u,v,e _ _ D.QS QW⟩,h1.at fun o q=>e _ o D.QT q,h2.at fun o q=>e _ o D.QU q⟩;rcases hf with hf|⟨T,o,e0,ho,n1,n2,n3,n4,n5⟩
 ·exact .inl hf
 ·exact .inr ⟨T,o,e0,e _ _ n5 ho,n1,n2,n3,n4,n5⟩
theorem qp {z TI TO T0:Ug} {f1:Bool} {o0:Obj} {C:Bool->Tv->Prop} (hz:IsZipF s.heap z TI TO (rawInt ((T0:Nat):Int)) f1) (ho:s.heap.get? T0=some o0)
  (h:∀h₁,IsZipF h₁ z TI TO (rawInt ((T0:Nat):Int)) true->Vl z s.heap h₁->C false { s with heap:=h₁ }):TR (model prog w) A (Uz (.ref z)) C E s:=by
 unfold Uz;refine Ti (wpAny_field hz rfl (x:=rawInt ((T0:Nat):Int)) rfl ?_);show TR _ _ (loadIfAlive (((T0:Nat):Int).toNat) >>= _) _ _ _
 rw [V2];refine Ti (Q:=_) ?_;have al:∀{Q:Option Obj->Tv->Prop},Q (some o0) s->TR (model prog w) A (loadIfAlive T0) Q E s:=fun {Q} q=>by
  have q':Q (s.heap.get? T0) s:=ho ▸ q;exact fun _ _ _=>q'
 refine al ?_;rw [if_neg (by simp)];refine Ti (wpAny_field hz rfl (x:=.bool f1) rfl ?_);cases f1 with
 | true =>
  rw [if_neg (by decide)];exact Tn (h s.heap hz ⟨rfl,fun _ _=>rfl⟩)
 | false =>
  rw [if_pos (by decide)];refine Ti (wpAny_setField_rec hz (by simp) fun h₁ wI nJ=>Tn (h h₁ wI nJ))
theorem yn {b:Bool} {z TI TO i1 i2 l1 l2 a:Ug} {k:Nat} {xs ys:Array Ts} {x y:Ts} {Q:Ts->Tv->Prop} (D:ZD z TI TO i1 i2 l1 l2 a) (ha:a<s.heap.objs.size)
  (Z:ym s.heap b z TI TO i1 i2 l1 l2 a k) (oP:s.heap.IsList l1 xs) (jH:BC s.heap b l2 ys) (hx:xs[k]?=some x) (hy:ys[k]?=some y)
  (hQ:∀h' T,ym h' b z TI TO i1 i2 l1 l2 a (k+1)->IsPair h' T x y->s.heap.objs.size<=T ->
   (∀c o,c≠z->c≠TO->c≠i1->c≠i2->s.heap.get? c=some o->h'.get? c=some o)->Q (.ref T) { s with heap:=h' }) :
  TR (model prog w) A (Builtin.«zip.__next__» ⟨[.ref z],[]⟩) (fun fin s'=>∃v,fin=.done (.ret v)/\Q v s') E s:=by
 obtain⟨⟨f0,f1,hz,hf⟩,Ih,⟨u,v,Mo⟩,h1,h2⟩:=Z;show TR _ _ (field (.ref z) 2 >>= _) _ _ _
 refine Ti (wpAny_field hz rfl (x:=.bool false) rfl ?_);show TR _ _ (field (.ref z) 3 >>= _) _ _ _
 refine Ti (wpAny_field hz rfl (x:=.ref TI) rfl ?_);refine Ti (wpAny_seqItems Ih rfl ?_);show TR _ _ (Uz (.ref z) >>= _) _ _ _
 rcases hf with rfl|⟨T0,o0,rfl,K9,n1,n2,n3,n4,n5⟩
 ·refine Ti ?_
  unfold Uz;refine Ti (wpAny_field hz rfl (x:=.none) rfl (Tn ?_));simp only [if_true];refine Ti (wpAny_rule ?_);refine Ti (wpAny_field hz rfl (x:=.ref TO) rfl ?_);refine Ti (wpAny_setField_rec hz (by simp) fun h₁ wI nJ=>?_)
  replace wI:IsZipF h₁ z TI TO .ellipsis f1:=wI
  refine Ti ?_;simp only [List.zipIdx_cons,List.zipIdx_nil,Wi,X4];refine Ti (Ti (wpAny_onRaise ?_));show TR _ _ (Uy (.ref i1) >>= _) _ _ _
  refine Ti (wpAny_nextOf_list_item (h1.extBut nJ.extBut D.i1z) (oP.extBut nJ.extBut D.l1z) hx fun h₂ Mp v5=>Tn ?_);have Ii:IsPair h₂ TO u v:=v5.extBut _ _ D.TOi1 (nJ.extBut _ _ D.TOz Mo)
  refine Ti (wpAny_seqItems Ii rfl ?_);refine Ti (wpAny_updateSeq_pair Ii fun h₃ E1 wJ=>?_)
  replace E1:IsPair h₃ TO x v:=E1
  refine Ti (wpAny_letGo (Tn ?_));refine Ti (Ti (wpAny_onRaise ?_));show TR _ _ (Uy (.ref i2) >>= _) _ _ _
  have C1:∀c o,c≠z->c≠i1->c≠TO->s.heap.get? c=some o->h₃.get? c=some o:=fun c o c1 c2 c3 e=>wJ.extBut _ _ c3 (v5.extBut _ _ c2 (nJ.extBut _ _ c1 e))
  refine Ti (qo (h2.at fun o e=>C1 _ o D.i2z D.i12.symm D.TOi2.symm e) (jH.at fun o e=>C1 _ o D.l2z D.l2i1 D.l2TO e) hy fun h₄ QX Ij=>Tn ?_);have Ik:IsPair h₄ TO x v:=Ij.extBut _ _ D.TOi2 E1
  refine Ti (wpAny_seqItems Ik rfl ?_);refine Ti (wpAny_updateSeq_pair Ik fun h₅ yo Il=>?_)
  replace yo:IsPair h₅ TO x y:=yo
  refine Ti (wpAny_letGo (Tn (Tn ?_)));refine Ti (wpAny_seqItems yo rfl ?_);refine Ti (wpAny_newTuple ?_);have hsz:h₅.objs.size=s.heap.objs.size:=by rw [Il.1,Ij.1,wJ.1,v5.1,nJ.1]
  have OU:IsZipF h₅ z TI TO .ellipsis f1:=Il.extBut _ _ D.TOz.symm (Ij.extBut _ _ D.i2z.symm (wJ.extBut _ _ D.TOz.symm (v5.extBut _ _ D.i1z.symm wI)));have OV:∀c o,c≠z->c≠TO->c≠i1->c≠i2->s.heap.get? c=some o->h₅.get? c=some o:=fun c o c1 c2 c3 c4 e =>
   Il.extBut _ _ c2 (Ij.extBut _ _ c4 (C1 _ _ c1 c3 c2 e))
  have OW:h₅.IsListIter i1 l1 (k+1):=((Mp.extBut wJ.extBut D.TOi1.symm).extBut Ij.extBut D.i12).extBut Il.extBut D.TOi1.symm;have OX:BB h₅ b i2 l2 (k+1):=QX.at fun o e=>Il.extBut _ _ D.TOi2.symm e
  have E2:z<h₅.objs.size:=T3 OU;have Io:TO<h₅.objs.size:=T3 yo
  have Ip:i1<h₅.objs.size:=by obtain⟨_,e,_⟩:=OW;exact T3 e
  have Iq:i2<h₅.objs.size:=by obtain⟨_,e⟩:=OX.there;exact T3 e
  show TR _ _ (WK (.ref z) (.ref h₅.objs.size) >>= _) _ _ _;refine Ti ?_;unfold WK;have QY:IsZipF (h₅.push { cls:=.type "tuple",data:=.seq #[x,y] }) z TI TO .ellipsis f1:=Tj _ OU
  refine Ti (wpAny_setField_rec QY (by simp) fun h₇ Mq OY=>?_)
  replace Mq:IsZipF h₇ z TI TO (rawInt h₅.objs.size) f1:=Mq
  refine wpAny_setField_rec Mq (by simp) fun h₈ Mr OZ=>?_
  replace Mr:IsZipF h₈ z TI TO (rawInt h₅.objs.size) false:=Mr
  have up:∀c o,c≠z->h₅.get? c=some o->h₈.get? c=some o:=fun c o c1 e=>OZ.extBut _ _ c1 (OY.extBut _ _ c1 (Tj _ e))
  have O3:IsPair h₈ h₅.objs.size x y:=OZ.extBut _ _ (UP E2) (OY.extBut _ _ (UP E2) (Tt _ rfl));refine Tn ⟨_,rfl,?_⟩;show Q (.ref h₅.objs.size) _
  refine hQ h₈ h₅.objs.size ⟨⟨_,_,Mr,.inr ⟨h₅.objs.size,_,rfl,O3,UP E2,UP Io,UP Ip,UP Iq,UP (by rw [hsz];exact ha)⟩⟩,up _ _ D.TIz (OV _ _ D.TIz D.TITO D.TIi1 D.TIi2 Ih),⟨x,y,up _ _ D.TOz yo⟩,OW.at fun o e=>up _ o D.i1z e,OX.at fun o e=>up _ o D.i2z e⟩ O3 (Wj hsz.symm) fun c o c1 c2 c3 c4 e=>up c o c1 (OV c o c1 c2 c3 c4 e)
 ·refine Ti (qp hz K9 fun h₁ wI nJ=>?_)
  simp only [TH,if_false,List.forIn_toArray,Wi,X4];refine Ti ?_;refine Ti (Ti (wpAny_holding ?_));show TR _ _ (Uy (.ref i1) >>= _) _ _ _
  refine Ti (wpAny_nextOf_list_item (h1.extBut nJ.extBut D.i1z) (oP.extBut nJ.extBut D.l1z) hx fun h₂ Mp v5=>Tn ?_);refine Tn ?_;refine Ti (Ti (wpAny_holding ?_));show TR _ _ (Uy (.ref i2) >>= _) _ _ _
  have Ms:∀c o,c≠z->c≠i1->s.heap.get? c=some o->h₂.get? c=some o:=fun c o c1 c2 e=>v5.extBut _ _ c2 (nJ.extBut _ _ c1 e)
  refine Ti (qo (h2.at fun o e=>Ms _ o D.i2z D.i12.symm e) (jH.at fun o e=>Ms _ o D.l2z D.l2i1 e) hy fun h₃ QZ wJ=>Tn ?_);refine Tn (Tn ?_);show TR _ _ (newTuple [x,y] >>= _) _ _ _
  refine Ti (wpAny_newTuple (Tn ⟨_,rfl,?_⟩));have hsz:h₃.objs.size=s.heap.objs.size:=by rw [wJ.1,v5.1,nJ.1]
  have C1:∀c o,c≠z->c≠i1->c≠i2->s.heap.get? c=some o->h₃.get? c=some o:=fun c o c1 c2 c3 e=>wJ.extBut _ _ c3 (Ms _ _ c1 c2 e)
  have Q0:IsZipF h₃ z TI TO (rawInt ((T0:Nat):Int)) true:=wJ.extBut _ _ D.i2z.symm (v5.extBut _ _ D.i1z.symm wI);have Q1:h₃.IsListIter i1 l1 (k+1):=Mp.extBut wJ.extBut D.i12
  have E3:∀c o,h₃.get? c=some o->(h₃.push { cls:=.type "tuple",data:=.seq #[x,y] }).get? c=some o:=fun c o e=>Tj _ e
  refine hQ (h₃.push { cls:=.type "tuple",data:=.seq #[x,y] }) h₃.objs.size ⟨⟨_,_,E3 _ _ Q0,.inr ⟨T0,o0,rfl,E3 _ _ (C1 _ _ n1 n3 n4 K9),n1,n2,n3,n4,n5⟩⟩,E3 _ _ (C1 _ _ D.TIz D.TIi1 D.TIi2 Ih),⟨u,v,E3 _ _ (C1 _ _ D.TOz D.TOi1 D.TOi2 Mo)⟩,Q1.at fun o e=>E3 _ o e,QZ.at fun o e=>E3 _ o e⟩ (Tt _ rfl) (Wj hsz.symm) fun c o c1 _ c3 c4 e=>E3 _ _ (C1 c o c1 c3 c4 e)
theorem BD {b:Bool} {z TI TO i1 i2 l1 l2 a:Ug} {k:Nat} {xs:Array Ts} {Q:Fin->Tv->Prop} (hh:A.handled=none) (D:ZD z TI TO i1 i2 l1 l2 a)
  (Z:ym s.heap b z TI TO i1 i2 l1 l2 a k) (oP:s.heap.IsList l1 xs) (hx:xs[k]?=none)
  (hE:∀h' e,(∀c o,c≠z->c≠TO->c≠i1->c≠i2->s.heap.get? c=some o->h'.get? c=some o)->(∃o,h'.get? e=some o/\o.cls=.type "StopIteration")->E (.ref e) { s with heap:=h' }) :
  TR (model prog w) A (Builtin.«zip.__next__» ⟨[.ref z],[]⟩) Q E s:=by
 obtain⟨⟨f0,f1,hz,hf⟩,Ih,⟨u,v,Mo⟩,h1,h2⟩:=Z;show TR _ _ (field (.ref z) 2 >>= _) _ _ _
 refine Ti (wpAny_field hz rfl (x:=.bool false) rfl ?_);show TR _ _ (field (.ref z) 3 >>= _) _ _ _
 refine Ti (wpAny_field hz rfl (x:=.ref TI) rfl ?_);refine Ti (wpAny_seqItems Ih rfl ?_);show TR _ _ (Uz (.ref z) >>= _) _ _ _
 rcases hf with rfl|⟨T0,o0,rfl,K9,n1,n2,n3,n4,n5⟩
 ·refine Ti ?_
  unfold Uz;refine Ti (wpAny_field hz rfl (x:=.none) rfl (Tn ?_));simp only [if_true];refine Ti (wpAny_rule ?_);refine Ti (wpAny_field hz rfl (x:=.ref TO) rfl ?_);refine Ti (wpAny_setField_rec hz (by simp) fun h₁ wI nJ=>?_)
  replace wI:IsZipF h₁ z TI TO .ellipsis f1:=wI
  refine Ti ?_;simp only [List.zipIdx_cons,List.zipIdx_nil,Wi,X4];refine Ti (Ti (wpAny_onRaise ?_));show TR _ _ (Uy (.ref i1) >>= _) _ _ _
  refine Ti (wpAny_nextOf_list_end hh (h1.extBut nJ.extBut D.i1z) (oP.extBut nJ.extBut D.l1z) hx fun h₂ e v5 he=>?_);obtain⟨oe,Mt,O4⟩:=he;have O5:IsZipF h₂ z TI TO .ellipsis f1:=v5 _ _ D.i1z.symm wI
  have Q2:e≠z:=fun x=>by subst x;rw [O5] at Mt;cases Mt;simp at O4
  refine wpAny_setField_rec O5 (by simp) fun h₃ _ wJ=>hE h₃ e (fun c o c1 _ c3 _ x=>wJ.extBut _ _ c1 (v5 _ _ c3 (nJ.extBut _ _ c1 x))) ⟨oe,wJ.extBut _ _ Q2 Mt,O4⟩
 ·refine Ti (qp hz K9 fun h₁ wI nJ=>?_)
  simp only [TH,if_false,List.forIn_toArray,Wi,X4];refine Ti ?_;refine Ti (Ti (wpAny_holding ?_));show TR _ _ (Uy (.ref i1) >>= _) _ _ _
  refine Ti (wpAny_nextOf_list_end hh (h1.extBut nJ.extBut D.i1z) (oP.extBut nJ.extBut D.l1z) hx fun h₂ e v5 he=>?_);exact hE h₂ e (fun c o c1 _ c3 _ x=>v5 _ _ c3 (nJ.extBut _ _ c1 x)) he
theorem m8 {b:Bool} {z TI TO i1 i2 l1 l2 a:Ug} {k:Nat} {xs ys:Array Ts} {x y:Ts} {Q:Option Ts->Tv->Prop} (D:ZD z TI TO i1 i2 l1 l2 a) (ha:a<s.heap.objs.size)
  (Z:ym s.heap b z TI TO i1 i2 l1 l2 a k) (oP:s.heap.IsList l1 xs) (jH:BC s.heap b l2 ys) (hx:xs[k]?=some x) (hy:ys[k]?=some y)
  (hQ:∀h' T,ym h' b z TI TO i1 i2 l1 l2 a (k+1)->IsPair h' T x y->s.heap.objs.size<=T ->
   (∀c o,c≠z->c≠TO->c≠i1->c≠i2->s.heap.get? c=some o->h'.get? c=some o)->Q (some (.ref T)) { s with heap:=h' }) :
  TR (model prog w) A (pyNext (.ref z)) Q E s:=by
 obtain⟨f0,f1,hz,_⟩:=Z.z;have hT:s.TypeIs (.ref z) "zip":=⟨_,hz,rfl⟩
 unfold pyNext;exact Ti (wpAny_attempt (wpAny_callSpecial?_slot (name:=Vd "__next__") hT Wl
  (wpAny_call_entry Wl hT YQ (yn D ha Z oP jH hx hy fun h' T a1 a2 a3 a4=>Tn (hQ h' T a1 a2 a3 a4)) (Yy _))))
theorem oQ {b:Bool} {z TI TO i1 i2 l1 l2 a:Ug} {k:Nat} {xs:Array Ts} {Q:Option Ts->Tv->Prop} (hh:A.handled=none) (D:ZD z TI TO i1 i2 l1 l2 a)
  (Z:ym s.heap b z TI TO i1 i2 l1 l2 a k) (oP:s.heap.IsList l1 xs) (hx:xs[k]?=none)
  (hQ:∀h',(∀c o,c≠z->c≠TO->c≠i1->c≠i2->s.heap.get? c=some o->h'.get? c=some o)->Q none { s with heap:=h' }):TR (model prog w) A (pyNext (.ref z)) Q E s:=by
 obtain⟨f0,f1,hz,_⟩:=Z.z;have hT:s.TypeIs (.ref z) "zip":=⟨_,hz,rfl⟩
 unfold pyNext;refine Ti (wpAny_attempt (wpAny_callSpecial?_slot (name:=Vd "__next__") hT Wl
  (wpAny_call_entry Wl hT YQ (BD hh D Z oP hx fun h' e hk he=>?_) (Yy _))))
 obtain⟨o,ho,hc⟩:=he;refine Ti (wpAny_isInstance (T:="StopIteration") (b:=true) ⟨o,ho,hc⟩ isSubtype_stop ?_);exact Tn (hQ _ hk)
end
abbrev La (h:Heap) (l1 l2:Ug):Heap:=(zipH1 h l1).push { cls:=.type "tuple_iterator",data:=.fields #[.ref l2,.int 0 0] }
abbrev Lb (h:Heap) (l1 l2:Ug):Heap:=(La h l1 l2).push { cls:=.type "tuple",data:=.seq #[.ref h.objs.size,.ref (zipH1 h l1).objs.size] }
abbrev Lc (h:Heap) (l1 l2:Ug):Heap:=(Lb h l1 l2).push { cls:=.type "tuple",data:=.seq #[.none,.none] }
abbrev E4 (h:Heap) (l1 l2:Ug):Heap:=(Lc h l1 l2).push { cls:=.type "zip",data:=.fields #[.none,.bool false,.bool false,.ref (La h l1 l2).objs.size,.ref (Lb h l1 l2).objs.size] }
theorem sP (l1 l2:Ug) (xs ys:Array Ts) :
  Meets (Builtin.«zip.__new__» ⟨[.type "zip",.ref l1,.ref l2],[]⟩) (fun _ R s=>s.heap.IsList l1 xs/\s.heap.IsTuple l2 ys /\
   R (.ok (.ret (.ref (Lc s.heap l1 l2).objs.size))) { s with heap:=E4 s.heap l1 l2 }) :=
 .of_wp fun prog w A R s h=>by
  obtain⟨hp,g,d,tk,os⟩:=s;obtain⟨oP,jH,h⟩:=h;have BE:=sub_zip
  have Ir:Heap.IsList (Shared.heap ⟨hp,g,d,tk,os⟩) l1 xs:=oP;have Hq:Heap.IsTuple (Shared.heap ⟨hp.push { cls:=.type "list_iterator",data:=.fields #[.ref l1,.int 0 0] },g,d,tk,os⟩) l2 ys:=Heap.IsTuple.push jH _
  wp_walk using wpAny_pyIter_list Ir,wpAny_pyIter_tuple Hq
  exact⟨_,rfl,h⟩
section
variable {prog:UU} {w:VL} {A:Ux} {E:Ts->Tv->Prop} {s:Tv}
theorem v7 {l1 l2:Ug} {xs ys:Array Ts} {Q:Ts->Tv->Prop} (oP:s.heap.IsList l1 xs) (jH:s.heap.IsTuple l2 ys)
  (h:∀h',IsZip h' (s.heap.objs.size+4) (s.heap.objs.size+2) (s.heap.objs.size+3) .none->IsPair h' (s.heap.objs.size+2) (.ref s.heap.objs.size) (.ref (s.heap.objs.size+1)) ->
   IsPair h' (s.heap.objs.size+3) .none .none->h'.IsListIter s.heap.objs.size l1 0->h'.IsTupleIter (s.heap.objs.size+1) l2 0->h'.objs.size=s.heap.objs.size+5 ->
   (∀c o,s.heap.get? c=some o->h'.get? c=some o)->Q (.ref (s.heap.objs.size+4)) { s with heap:=h' }) :
  TR (model prog w) A (call (.type "zip") [.ref l1,.ref l2]) Q E s:=by
 refine callType_new PySem.F.called_zip (by decide) (PySem.F.typeCall_zip_2 _ _) (PySem.F.newCall_zip_2 _ _) (fun obj=>PySem.F.args_object_init_3 obj _ _) PySem.F.entry_zip_new
  (sP l1 l2 xs ys) ⟨oP,jH,?_⟩
 have z1:(zipH1 s.heap l1).objs.size=s.heap.objs.size+1:=UM ..;have z2:(La s.heap l1 l2).objs.size=s.heap.objs.size+2:=by rw [UM,z1]
 have z3:(Lb s.heap l1 l2).objs.size=s.heap.objs.size+3:=by rw [UM,z2]
 have z4:(Lc s.heap l1 l2).objs.size=s.heap.objs.size+4:=by rw [UM,z3]
 have z5:(E4 s.heap l1 l2).objs.size=s.heap.objs.size+5:=by rw [UM,z4]
 have g5:(E4 s.heap l1 l2).get? (Lc s.heap l1 l2).objs.size=some _:=Tt _ rfl;have g4:(E4 s.heap l1 l2).get? (Lb s.heap l1 l2).objs.size=some _:=Tj _ (Tt _ rfl)
 have g3:(E4 s.heap l1 l2).get? (La s.heap l1 l2).objs.size=some _:=Tj _ (Tj _ (Tt _ rfl));have g2:(E4 s.heap l1 l2).get? (zipH1 s.heap l1).objs.size=some _:=Tj _ (Tj _ (Tj _ (Tt _ rfl)))
 have g1:(E4 s.heap l1 l2).get? s.heap.objs.size=some _:=Tj _ (Tj _ (Tj _ (Tj _ (Tt _ rfl))));show _/\_
 rw [z2,z3,z4] at g5;rw [z1,z2] at g3;rw [z3] at g4;rw [z1] at g2;rw [z4];exact⟨⟨_,g5,rfl⟩,h _ g5 g3 g4 ⟨_,g1,rfl,rfl⟩ ⟨_,g2,rfl,rfl⟩ z5 fun c o x =>
  Tj _ (Tj _ (Tj _ (Tj _ (Tj _ x))))⟩
theorem sQ {b:Bool} {l1 l2:Ug} {xs ys:Array Ts} {Q:Ts->Tv->Prop} (oP:s.heap.IsList l1 xs) (jH:BC s.heap b l2 ys)
  (h:∀h',IsZip h' (s.heap.objs.size+4) (s.heap.objs.size+2) (s.heap.objs.size+3) .none->(∀a,ym h' b (s.heap.objs.size+4) (s.heap.objs.size+2) (s.heap.objs.size+3) s.heap.objs.size (s.heap.objs.size+1) l1 l2 a 0)->h'.objs.size=s.heap.objs.size+5 ->
   (∀c o,s.heap.get? c=some o->h'.get? c=some o)->Q (.ref (s.heap.objs.size+4)) { s with heap:=h' }) :
  TR (model prog w) A (call (.type "zip") [.ref l1,.ref l2]) Q E s:=by
 cases b with
 | false=>exact call_zip_2 oP jH fun h' a1 a2 a3 a4 a5 a6 a7=>h h' a1 (fun _=>⟨⟨_,_,a1,.inl rfl⟩,a2,⟨_,_,a3⟩,a4,a5⟩) a6 a7
 | true=>exact v7 oP jH fun h' a1 a2 a3 a4 a5 a6 a7=>h h' a1 (fun _=>⟨⟨_,_,a1,.inl rfl⟩,a2,⟨_,_,a3⟩,a4,a5⟩) a6 a7
end
end L2
namespace M
open PySem PySem.Spec PyProof.Rows L2
section
variable {X:Cx} {pins:aX} {φ:Fr} {g g0:G} {L L':aa} {s:Tv} {xs ys:List T} {Iu Iv:List Ts} {a z TI TO i1 i2 l1 l2:Ug} {SW SX:Obj} {A:Ux} {R:Result->Tv->Prop} {b:Bool}
theorem Q3 (N l h:Nat) (e:h=N+5) (hl:l<N):l<h:=by omega
theorem O6 (N l h:Nat) (e:h=N+5) (hl:l<N):l≠h:=by omega
theorem O7 (N c h:Nat) (e:h=N+5) (hc:c=N+4\/c=N+3\/c=N\/c=N+1):N<=c/\c≠h:=by omega
theorem yp (N l1 l2:Nat) (h1:l1<N) (h2:l2<N):ZD (N+4) (N+2) (N+3) N (N+1) l1 l2 (N+5):=by
 constructor <;> (refine vO ?_;omega)
theorem qq:∀(a b:List T),prsOf (zp a b)=some (a.zip b)
 | [],_=>rfl
 | _::_,[]=>rfl
 | x::a,y::b=>by
  show prsOf (.tup [x,y]::zp a b)=_;unfold prsOf;rw [qq a b];rfl
theorem qr {w:T} (hu:X.A.units+20<cLine) (I:Inv X pins φ g L s) (Ir:s.heap.IsList l1 Iu.toArray) (Hq:BC s.heap b l2 Iv.toArray) (r1:cu g xs Iu) (r2:cu g ys Iv) (hle:xs.length<=ys.length) (h:w4 (zp xs ys) L=.ok w L') :
  TR (model X.prog X.w) X.A (call (.type "zip") [.ref l1,.ref l2]) (fun u s'=>TR (model X.prog X.w) X.A (call (.type "dict") [u]) (EP X pins φ g w L') F0 s') F0 s:=by
 have gP:X.A.in1.in1.units+8<cLine:=by show X.A.units+1+1+8<cLine;omega
 unfold w4 at h;rw [qq] at h;obtain⟨⟨hm,hlen⟩,h⟩:=aA h;cases h;have ha:l1<s.heap.objs.size:=by
  obtain⟨_,e,_⟩:=Ir;exact T3 e
 have hb:l2<s.heap.objs.size:=by
  cases b with
  | false=>obtain⟨_,e,_⟩:=Hq;exact T3 e
  | true=>obtain⟨_,e,_⟩:=Hq;exact T3 e
 refine sQ Ir Hq fun h1 OD hZ oR sd=>?_
 have I1:Inv X pins φ g L { s with heap:=h1 }:=I.kept (t':=s.toks) sd;have xk:g.H h1.objs.size=none:=I1.hok.fresh (TK _)
 have big:(h1.objs.size == sysModules)=false:=by
  have h1':sysModules<s.heap.objs.size:=VG (by decide) (I.mod.glob.keeps I.bk).lt;simpa using UP (Q3 _ _ _ oR h1')
 have J0:=I1.new (c:=.aP []) (o:={ cls:=.type "dict",data:=.dict #[] }) (h':=h1.push { cls:=.type "dict",data:=.dict #[] }) (t':=s.toks) (fun b u e=>Tj _ e) (TK _) (Tt _ rfl)
  (.aP (.inr rfl) (.inl aq) ⟨rfl,rfl,rfl⟩ rfl (Uj _) rfl ⟨Wa,rfl⟩ big (fun i x e e1 _=>by simp at e1) (fun i x e e1 _=>by simp at e1) fun i x e e1 _=>by simp at e1)
 have l0:=Le.new (o:={ cls:=.type "dict",data:=.dict #[] }) xk;have rd:RT (g.new h1.objs.size { cls:=.type "dict",data:=.dict #[] }) none (.ref L.length) (.ref h1.objs.size):=by
  have:=I.rel.len;exact .ref (p:=(h1.objs.size,h1.objs.size)) (by show at_ ((_,_)::g.α) _=_;rw [<- this];exact eS)
 refine callType_codes (Q₁:=fun obj s₁=>obj=.ref h1.objs.size/\s₁={ s with heap:=h1.push { cls:=.type "dict",data:=.dict #[] } }) YO (XJ _) Yv (kt_code_dict_new _ ⟨rfl,rfl⟩) ?_;rintro obj s₁ ⟨rfl,rfl⟩;have sG:Xw { s with heap:=h1.push { cls:=.type "dict",data:=.dict #[] } } (.ref h1.objs.size) "dict":=⟨_,Tt _ rfl,rfl⟩
 refine⟨sG,Yi _ _,?_⟩;unfold Builtin.«dict.__init__»;refine Ti ?_;unfold Yj;refine Ti (wpAny_notOrdered_dict sG ?_);show TR _ _ (pure (h1.objs.size,[Vz (s.heap.objs.size+4)])) _ _ _
 refine Tn ?_;show TR _ _ (V6 "dict.__init__" h1.objs.size (.ref (s.heap.objs.size+4)) [] .none) _ _ _
 unfold V6;have yd:=Tj { cls:=.type "dict",data:=.dict #[] } OD
 refine Ti (wpAny_typeOf (T:="zip") ⟨_,yd,rfl⟩ ?_);rw [if_pos (by decide)];refine Ti (vZ yd I.ok.hd fun h3 O8 e hx=>?_);rw [if_pos (show(none:Option Ts).isNone=true from rfl)];refine Ti (wpAny_rule ?_);have Q4:=hx.keeps _ _ yd
 have J1:=J0.kept (t':=O8) (h':=h3) fun b o e=>hx.keeps b o e
 refine Ti (wpAny_pyIter_zip (s:={ s with heap:=h3,toks:=O8 }) Q4 ?_);refine Tn ⟨plainId_quiet plain_dul _,codeAny_builtin entry_dul ?_⟩;rw [UY plain_dul _];have E0:∀b o,s.heap.get? b=some o->h3.get? b=some o:=fun b o q=>hx.keeps _ _ (Tj _ (sd _ _ q))
 have D:ZD (s.heap.objs.size+4) (s.heap.objs.size+2) (s.heap.objs.size+3) s.heap.objs.size (s.heap.objs.size+1) l1 l2 h1.objs.size:=by
  rw [oR];exact yp _ l1 l2 ha hb
 have oP:=TV r1;have jH:=TV r2
 have SY:(xs.zip ys).length=xs.length:=by rw [List.length_zip];omega
 have four:∀{c:Ug},c∉[s.heap.objs.size+4,s.heap.objs.size+3,s.heap.objs.size,s.heap.objs.size+1]->c≠s.heap.objs.size+4/\c≠s.heap.objs.size+3/\c≠s.heap.objs.size/\c≠s.heap.objs.size+1:=fun {c} h=>by simpa using h
 refine sF (A:=X.A.in1) (a:=h1.objs.size) (L:=L) gP [s.heap.objs.size+4,s.heap.objs.size+3,s.heap.objs.size,s.heap.objs.size+1] (fun i h=>h.IsList l1 Iu.toArray/\BC h b l2 Iv.toArray/\ym h b (s.heap.objs.size+4) (s.heap.objs.size+2) (s.heap.objs.size+3) s.heap.objs.size (s.heap.objs.size+1) l1 l2 h1.objs.size i) hm hlen (fun c hc=>by
   simp only [TJ,U6,or_false] at hc;exact(O7 _ _ _ oR hc).2)
  (fun i h h' ⟨q1,q2,q3⟩ e=>⟨q1.at fun o q=>(e l1 (O6 _ _ _ oR ha)).trans q,q2.at fun o q=>(e l2 (O6 _ _ _ oR hb)).trans q,q3.ext D fun c o hc q=>(e c hc).trans q⟩)
  (fun i s' g' p Q ep lg LY J ⟨q1,q2,q3⟩ hQ=>?_) (fun s' Q ⟨q1,q2,q3⟩ hQ=>oQ (s:=s') (A:=X.A.in1.in1) I.ok.hd D q3 q1 (by simp;omega) fun h2 pV=>hQ h2 fun c o hc e=>let ⟨a1,a2,a3,a4⟩:=four hc;pV c o a1 a2 a3 a4 e) (fun s' g' lg J H7=>?_)
  (xs.zip ys).length 0 _ _ rfl (Uj _) (Le.refl _) J1 rd (fun c hc=>?_) ⟨Ir.at fun o q=>E0 _ o q,Hq.at fun o q=>E0 _ o q,(hZ h1.objs.size).ext D fun c o _ e=>hx.keeps _ _ (Tj _ e)⟩
 ·have hi:=(TM.mp ep).1
  have hx:i<xs.length:=by omega
  have hy:i<ys.length:=by omega
  have wG:i<Iu.length:=by omega
  have CO:i<Iv.length:=by omega
  have ez:(xs.zip ys)[i]?=some (xs[i],ys[i]):=by rw [Ge9 hi,List.getElem_zip]
  obtain rfl:=Vn (ez.symm.trans ep);have rk:=(vH (r1.le l0) i _ _ (Ge9 hx) (Ge9 wG)).le lg
  have rv:=(vH (r2.le l0) i _ _ (Ge9 hy) (Ge9 CO)).le lg;refine m8 (s:=s') (x:=Iu[i]) (y:=Iv[i]) D LY q3 q1 q2 (by simp [wG]) (by simp [CO]) fun h4 t Q5 hT Ar Hr=>?_
  exact hQ h4 t _ _ _ _ ⟨q1.at fun o q=>Hr l1 o D.l1z D.l1TO D.l1i1 D.l1i2 q,q2.at fun o q=>Hr l2 o D.l2z D.l2TO D.l2i1 D.l2i2 q,Q5⟩ (fun c o hc e=>let ⟨a1,a2,a3,a4⟩:=four hc;Hr c o a1 a2 a3 a4 e) hT rfl rfl rk rv
 ·exact⟨rfl,g',l0.trans lg,J,H7⟩
 ·have CS:s.heap.objs.size<=c/\c≠h1.objs.size:=by
   simp only [TJ,U6,or_false] at hc;exact O7 _ _ _ oR hc
  refine I.rZ CS.1 ?_;show upd g.H _ _ c=none
  rw [az CS.2];exact I.hok.fresh CS.1
end
end M
namespace bV
open PySem
noncomputable def Ri (xs:Array Nat):Prop:=∀i j,i<j->j<xs.size->xs.getD i 0<xs.getD j 0
theorem getD_in (xs:Array Nat) {i:Nat} (h:i<xs.size) (a b:Nat):xs.getD i a=xs.getD i b:=by simp [Vs,h]
theorem oU (xs:Array Nat) (hr:Ri xs) (j:Nat):∀(fuel lo hi:Nat),lo<=hi->hi<=xs.size->hi - lo<=fuel->(∀i,i<lo->xs.getD i 0<j)->(∀i,hi<=i->i<xs.size->j<=xs.getD i 0) ->
  (Xb xs j fuel lo hi<=xs.size/\(∀i,i<Xb xs j fuel lo hi->xs.getD i 0<j)/\∀i,Xb xs j fuel lo hi<=i->i<xs.size->j<=xs.getD i 0)
 | 0,lo,hi,h1,h2,h3,h4,h5=>by
  obtain rfl:lo=hi:=by omega
  exact⟨h2,h4,h5⟩
 | fuel+1,lo,hi,h1,h2,h3,h4,h5=>by
  unfold Xb;by_cases hl:lo<hi
  ·rw [if_pos hl]
   have hm:(lo+hi) / 2<xs.size:=by omega
   have e:xs.getD ((lo+hi) / 2) j=xs.getD ((lo+hi) / 2) 0:=getD_in xs hm _ _;dsimp only;rw [e];by_cases hc:xs.getD ((lo+hi) / 2) 0<j
   ·rw [if_pos hc]
    refine oU xs hr j fuel ((lo+hi) / 2+1) hi (by omega) h2 (by omega) (fun i hi'=>?_) h5;by_cases ei:i=(lo+hi) / 2
    ·rw [ei];exact hc
    ·exact VG (hr i _ (by omega) hm) hc
   ·rw [if_neg hc]
    refine oU xs hr j fuel lo ((lo+hi) / 2) (by omega) (by omega) (by omega) h4 fun i wG CO=>?_
    by_cases ei:i=(lo+hi) / 2
    ·rw [ei];omega
    ·have:=hr _ i (show(lo+hi) / 2<i by omega) CO
     omega
  ·rw [if_neg hl]
   obtain rfl:lo=hi:=by omega
   exact⟨h2,h4,h5⟩
theorem gd (xs:Array Nat) (hr:Ri xs) (j:Nat):UD xs j<=xs.size/\(∀i,i<UD xs j->xs.getD i 0<j)/\∀i,UD xs j<=i->i<xs.size->j<=xs.getD i 0 :=
 oU xs hr j xs.size 0 xs.size (Uj _) (TK _) (by omega) (fun i h=>absurd h (by omega)) fun i h1 h2=>absurd h1 (by omega)
structure Tb (t:Um):Prop where
 ri:Ri t.place
 nd:t.dummies = #[]
theorem fL {t:Um} (T:Tb t) {i:Nat} (hi:i<t.place.size):t.slot (t.place.getD i 0)=.live i:=by
 have b:=gd t.place T.ri (t.place.getD i 0);have e:UD t.place (t.place.getD i 0)=i:=by
  rcases Yl (UD t.place (t.place.getD i 0)) i with h|h|h
  ·have z:=b.2.2 _ (TK _) (by omega)
   have y:=T.ri _ i h hi;omega
  ·exact h
  ·have z:=b.2.1 i h
   omega
 unfold SetTable.slot;rw [e];have e2:t.place[i]?=some (t.place.getD i 0):=by simp [Vs,hi]
 dsimp only;rw [e2];simp
theorem iS {t:Um} (T:Tb t) (j:Nat):(∃i,i<t.place.size/\t.place.getD i 0=j/\t.slot j=.live i)\/((∀i,i<t.place.size->t.place.getD i 0≠j)/\t.slot j=.empty):=by
 by_cases h:∃i,i<t.place.size/\t.place.getD i 0=j
 ·obtain⟨i,h1,h2⟩:=h
  exact .inl ⟨i,h1,h2,by rw [<- h2];exact fL T h1⟩
 ·refine .inr ⟨fun i h1 h2=>h ⟨i,h1,h2⟩,?_⟩
  have hn:∀i,i<t.place.size->t.place.getD i 0≠j:=fun i h1 h2=>h ⟨i,h1,h2⟩
  unfold SetTable.slot;dsimp only;have e1:(t.place[UD t.place j]? == some j)=false:=by
   cases e:t.place[UD t.place j]? with
   | none=>rfl
   | some y =>
    obtain⟨h1,h2⟩:=WA.mp e;have z:=hn _ h1
    have e3:t.place.getD (UD t.place j) 0=y:=by simp [Vs,h1,h2]
    rw [e3] at z;simpa using z
  rw [e1];have e2:Y2 t.dummies j=false:=by rw [T.nd];simp [Y2]
  rw [e2];rfl
end bV
namespace bV
noncomputable def pX:Nat->Nat->Nat
 | 0,s=>s
 | r+1,s=>5 * pX r s+1
noncomputable def T5:Nat->Nat
 | 0=>0
 | r+1=>5 * T5 r+1
theorem lR:∀r s,pX r s=5 ^ r * s+T5 r
 | 0,s=>by simp [pX,T5]
 | r+1,s=>by
  rw [pX,lR r s,T5,Wm,Nat.mul_add,<- Nat.mul_assoc,Zt 5 (5 ^ r),Wu]
theorem sR:∀r,4 * T5 r+1=5 ^ r
 | 0=>rfl
 | r+1=>by
  have:=sR r;rw [T5,Wm,<- this];omega
theorem oV:∀a b s,pX (a+b) s=pX a (pX b s)
 | 0,b,s=>by simp [pX]
 | a+1,b,s=>by
  rw [show a+1+b=(a+b)+1 by omega,pX,pX,oV a b s]
theorem E5 (a b:Nat):T5 (a+b)=5 ^ a * T5 b+T5 a:=by
 have h:=oV a b 0;rw [lR,lR a,lR b] at h;simpa using h
theorem yq:∀k,∃o,T5 (2 ^ k)=2 ^ k * (2 * o+1)
 | 0=>⟨0,rfl⟩
 | k+1=>by
  obtain⟨o,h⟩:=yq k;have e:2 ^ (k+1)=2 ^ k+2 ^ k:=by rw [Wm];omega
  rw [e,E5,<- sR];refine⟨2 * T5 (2 ^ k) * o+T5 (2 ^ k)+o,?_⟩;generalize T5 (2 ^ k)=T at *
  generalize 2 ^ k=M at *
  have h3:(4 * T+1) * T+T=(2 * (2 * T+1)) * T:=by grind
  rw [h3];have h4:(2 * (2 * T+1)) * T=(2 * (2 * T+1)) * (M * (2 * o+1)):=by rw [<- h]
  rw [h4];grind
theorem cover:∀(k s j:Nat),j<2 ^ k->∃r,r<2 ^ k/\pX r s % 2 ^ k=j
 | 0,s,j,h=>⟨0,by simp,by simp at h;subst h;simp [Nat.mod_one]⟩
 | k+1,s,j,h=>by
  have e:2 ^ (k+1)=2 * 2 ^ k:=by rw [Wm];omega
  have hM:0<2 ^ k:=Nat.two_pow_pos k;obtain⟨r,hr,hj⟩:=cover k s (j % 2 ^ k) (Xc _ hM);obtain⟨o,ho⟩:=yq k;have hB:pX (2 ^ k+r) s=pX r s+2 ^ k * ((2 * o+1) * (4 * pX r s+1)):=by
   rw [oV,lR (2 ^ k),<- sR,ho];generalize pX r s=A;generalize 2 ^ k=M;grind
  rw [e] at h ⊢;obtain⟨A,hA⟩:∃A,pX r s=A:=⟨_,rfl⟩;rw [hA] at hB hj;generalize 2 ^ k=M at *
  have a1:=Nat.div_add_mod A M;have j1:=Nat.div_add_mod j M
  rw [hj] at a1;generalize j % M=c at *
  have hc:c<M:=by
   rw [<- hj];exact Xc _ hM
  have hp:j / M=0\/j / M=1:=by
   have:j / M<2:=Nat.div_lt_of_lt_mul (by rw [Zt];exact h)
   revert this
   generalize j / M=p;intro this;omega
  have key:∀q x,x=2 * M * q+j->x % (2 * M)=j:=fun q x e=>by
   rw [e,Nat.mul_add_mod];exact YH h
  obtain⟨q,hq⟩:∃q,A / M=2 * q\/A / M=2 * q+1:=⟨A / M / 2,by generalize A / M=z;omega⟩;generalize A / M=a at *
  generalize j / M=p at *
  obtain⟨u,hu⟩:∃u,(2 * o+1) * (4 * A+1)=2 * u+1:=⟨4 * A * o+o+2 * A,by grind⟩;rw [hu] at hB;rcases hq with rfl|rfl <;> rcases hp with rfl|rfl
  ·exact⟨r,by omega,key q _ (by grind)⟩
  ·exact⟨M+r,by omega,key (q+u) _ (by grind)⟩
  ·exact⟨M+r,by omega,key (q+u+1) _ (by grind)⟩
  ·exact⟨r,by omega,key q _ (by grind)⟩
end bV
namespace bV
open PySem
noncomputable def bG (t:Um):Nat->VH->VH
 | 0,p=>p
 | n+1,p=>bG t n (t.advance p)
theorem gf (t:Um):∀a b p,bG t (a+b) p=bG t b (bG t a p)
 | 0,b,p=>by simp [bG]
 | a+1,b,p=>by rw [show a+1+b=(a+b)+1 by omega,bG,bG,gf t a b]
noncomputable def start (mask i pb:Nat) (d:Option Nat):VH:={ j:=i,more:=Us mask i - i,i:=i,perturb:=pb,dummy:=d }
theorem jo (t:Um):∀(more j i pb:Nat) (d:Option Nat),bG t (more+1) { j:=j,more:=more,i:=i,perturb:=pb,dummy:=d }=start t.mask (US t.mask i pb).1 (US t.mask i pb).2 d
 | 0,j,i,pb,d=>by
  simp only [bG,V8];rfl
 | more+1,j,i,pb,d=>by
  rw [bG];have e:t.advance { j:=j,more:=more+1,i:=i,perturb:=pb,dummy:=d }={ j:=j+1,more:=more,i:=i,perturb:=pb,dummy:=d }:=by
   simp [V8]
  rw [e];exact jo t more (j+1) i pb d
noncomputable def lp (mask:Nat):Nat->Nat × Nat->Nat × Nat
 | 0,x=>x
 | q+1,x=>US mask (lp mask q x).1 (lp mask q x).2
theorem starts (t:Um) (d:Option Nat) (i pb:Nat):∀q,∃n,n<=10 * q/\bG t n (start t.mask i pb d)=start t.mask (lp t.mask q (i,pb)).1 (lp t.mask q (i,pb)).2 d
 | 0=>⟨0,TK _,rfl⟩
 | q+1=>by
  obtain⟨n,h1,h2⟩:=starts t d i pb q;have hr:Us t.mask (lp t.mask q (i,pb)).1 - (lp t.mask q (i,pb)).1<=9:=by
   unfold Us;split <;> omega
  refine⟨n+(Us t.mask (lp t.mask q (i,pb)).1 - (lp t.mask q (i,pb)).1+1),by omega,?_⟩;rw [gf,h2,start,jo];rfl
theorem C2 (mask:Nat) (x:Nat × Nat):∀q,(lp mask q x).2=x.2 / 32 ^ q
 | 0=>by simp [lp]
 | q+1=>by
  rw [lp,US,C2 mask x q,Wm,Nat.div_div_eq_div_mul]
theorem BF {mask:Nat} {x:Nat × Nat} (h:x.2<2 ^ 64) {q:Nat} (hq:13<=q):(lp mask q x).2=0:=by
 rw [C2];apply Nat.div_eq_of_lt
 calc x.2<2 ^ 64:=h
  _<=32 ^ 13:=by decide
  _<=32 ^ q:=Y5 (by decide) hq
theorem sS {mask:Nat} {x:Nat × Nat} (h:x.2<2 ^ 64):∀r,(lp mask (13+r) x).1 % (mask+1)=pX r (lp mask 13 x).1 % (mask+1)
 | 0=>rfl
 | r+1=>by
  have e:lp mask (13+(r+1)) x=US mask (lp mask (13+r) x).1 (lp mask (13+r) x).2:=rfl;rw [e,US,BF h (by omega)];show((lp mask (13+r) x).1 * 5+1+0 / 32) % (mask+1) % (mask+1)=_
  rw [Nat.mod_mod,pX];simp only [Nat.zero_div,XT];rw [Nat.add_mod,Nat.mul_mod,sS h r,<- Nat.mul_mod,<- Nat.add_mod,Zt]
theorem E6 (t:Um) {k:Nat} (hk:t.mask+1=2 ^ k) (h:Int) {j:Nat} (hj:j<=t.mask):∃n,n<=10 * (t.mask+14)/\(bG t n (t.probeStart h)).j=j:=by
 have e:t.probeStart h=start t.mask (Uw h % (t.mask+1)) (Uw h) none:=rfl;have hb:Uw h<2 ^ 64:=by
  unfold Uw;have h1:=VT h (show(0:Int)<2 ^ 64 by decide)
  have h2:=V3 h (show(2 ^ 64:Int)≠0 by decide);omega
 let x:Nat × Nat:=(Uw h % (t.mask+1),Uw h)
 obtain⟨r,hr,hx⟩:=cover k (lp t.mask 13 x).1 j (by omega);rw [<- hk] at hx hr;have h1:=sS (mask:=t.mask) (x:=x) hb r
 have h2:(lp t.mask (13+r) x).1<t.mask+1:=by
  rw [show 13+r=(12+r)+1 by omega,lp,US];exact Xc _ (XU _)
 rw [YH h2,hx] at h1;obtain⟨n,h3,h4⟩:=starts t none x.1 x.2 (13+r);refine⟨n,by omega,?_⟩;rw [e];show(bG t n (start t.mask x.1 x.2 none)).j=j
 rw [h4];exact h1
theorem sT {t:Um} (T:Tb t) (hf:t.place.size<=t.mask):∃j,j<=t.mask/\t.slot j=.empty:=by
 refine Vt fun j4=>?_
 have all:∀j,j<=t.mask->∃i,i<t.place.size/\t.place.getD i 0=j:=fun j hj=>by
  rcases iS T j with⟨i,h1,h2,_⟩|⟨_,h2⟩
  ·exact⟨i,h1,h2⟩
  ·exact absurd ⟨j,hj,h2⟩ j4
 have up:∀j,j<=t.mask->∀i,i<t.place.size->t.place.getD i 0=j->j<=i:=by
  intro j;induction j with
  | zero=>intro _ i _ _;omega
  | succ j ih =>
   intro hj i hi e;obtain⟨i',hi',e'⟩:=all j (by omega);have:=ih (by omega) i' hi' e'
   rcases Yl i i' with q|q|q
   ·have:=T.ri i i' q hi';omega
   ·subst q;omega
   ·omega
 obtain⟨i,hi,e⟩:=all t.mask (TK _);have:=up _ (TK _) i hi e
 omega
theorem first (P:Nat->Prop) (n:Nat) (h:P n):∃m,m<=n/\P m/\∀i,i<m->¬ P i:=by
 induction n using Nat.strongRecOn with
 | ind n ih =>
  by_cases q:∃i,i<n/\P i
  ·obtain⟨i,h1,h2⟩:=q
   obtain⟨m,a,b,c⟩:=ih i h1 h2;exact⟨m,by omega,b,c⟩
  ·exact⟨n,TK _,h,fun i hi hp=>q ⟨i,hi,hp⟩⟩
theorem way {t:Um} (T:Tb t) {k:Nat} (hk:t.mask+1=2 ^ k) (hf:t.place.size<=t.mask) (h:Int) (hit:Nat->Prop) :
  ∃n,n<=10 * (t.mask+14)/\(t.slot (bG t n (t.probeStart h)).j=.empty\/∃i,i<t.place.size/\t.slot (bG t n (t.probeStart h)).j=.live i/\hit i) /\
   ∀m,m<n->∃i,i<t.place.size/\t.slot (bG t m (t.probeStart h)).j=.live i/\¬ hit i:=by
 obtain⟨j,hj,he⟩:=sT T hf;obtain⟨n,hn,e⟩:=E6 t hk h hj;obtain⟨m,hm,hp,hb⟩:=first (fun n=>t.slot (bG t n (t.probeStart h)).j=.empty\/∃i,i<t.place.size/\t.slot (bG t n (t.probeStart h)).j=.live i/\hit i) n (.inl (by rw [e];exact he))
 refine⟨m,by omega,hp,fun i hi=>?_⟩;have j4:=hb i hi
 rcases iS T (bG t i (t.probeStart h)).j with⟨a,h1,h2,h3⟩|⟨_,h2⟩
 ·exact⟨a,h1,h3,fun z=>j4 (.inr ⟨a,h1,h3,z⟩)⟩
 ·exact absurd (.inl h2) j4
theorem yr (t:Um) (hashAt:Nat->Int) (h:Int):∀(n fuel:Nat) (p:VH),(∀m,m<n->∃i,t.slot (bG t m p).j=.live i/\(hashAt i == h)=false)->n<=fuel ->
  V4 t hashAt h fuel p=V4 t hashAt h (fuel - n) (bG t n p)
 | 0,fuel,p,_,_=>rfl
 | n+1,0,p,_,hf=>absurd hf (by omega)
 | n+1,fuel+1,p,hm,hf=>by
  obtain⟨i,h1,h2⟩:=hm 0 (by omega);have h1:t.slot p.j=.live i:=h1
  rw [V4,h1];simp only [h2,TH,if_false];rw [yr t hashAt h n fuel (t.advance p) (fun m q=>hm (m+1) (by omega)) (by omega)];rw [show fuel+1 - (n+1)=fuel - n by omega];rfl
noncomputable def E7 (t:Um) (h:Int) (j:Nat):Prop:=∃n,n<10 * (t.mask+15)/\(bG t n (t.probeStart h)).j=j/\∀m,m<n->t.slot (bG t m (t.probeStart h)).j≠.empty
structure pY (t:Um) (hs:Array Int):Prop where
 tb:Tb t
 sz:t.place.size=hs.size
 le:∀i,i<t.place.size->t.place.getD i 0<=t.mask
 fill:hs.size<=t.mask
 pw:∃k,t.mask+1=2 ^ k
 sU:∀i,i<hs.size->E7 t (hs.getD i 0) (t.place.getD i 0)
theorem fM {t t':Um} (h:t'.mask=t.mask):∀n p,bG t' n p=bG t n p
 | 0,p=>rfl
 | n+1,p=>by
  have e:t'.advance p=t.advance p:=by simp only [V8,h]
  rw [bG,bG,e,fM h n]
theorem gg {t t':Um} (hm:t'.mask=t.mask) (h:Int):t'.probeStart h=t.probeStart h:=by simp only [SetTable.probeStart,hm]
theorem cA {α:Type} (xs:Array α) {p:Nat} (hp:p<=xs.size) (x:α):(Uq xs p x).size=xs.size+1:=by
 unfold Uq;simp;omega
theorem gh {α:Type} (xs:Array α) {p:Nat} (hp:p<=xs.size) (x:α) (i:Nat):(Uq xs p x)[i]?=if i<p then xs[i]? else if i=p then some x else xs[i - 1]?:=by
 unfold Uq;rw [Array.getElem?_append];have e:((xs.extract 0 p).push x).size=p+1:=by simp;omega
 rw [e];by_cases h1:i<p
 ·rw [if_pos (UK h1),if_pos h1,WQ]
  rw [if_neg (by simp;omega),YR];simp;omega
 ·rw [if_neg h1]
  by_cases h2:i=p
  ·rw [if_pos (Nat.lt_succ_of_le (Wj h2)),if_pos h2,WQ]
   rw [if_pos (by simp;omega)]
  ·rw [if_neg (by omega),if_neg h2,YR]
   have e2:p+(i - (p+1))=i - 1:=by omega
   rw [e2];by_cases h3:i - 1<xs.size
   ·rw [if_pos (by omega)]
   ·rw [if_neg (by omega)]
    simp;omega
theorem iC {α:Type} (xs:Array α) {p:Nat} (hp:p<=xs.size) (x d:α) (i:Nat):(Uq xs p x).getD i d=if i<p then xs.getD i d else if i=p then x else xs.getD (i - 1) d:=by
 rw [Ue,gh xs hp x i,Ue,Ue];split
 ·rfl
 ·split <;> rfl
theorem oH {t:Um} {hs:Array Int} (I:pY t hs) {h:Int} {n:Nat} (hn:n<10 * (t.mask+15)) (he:t.slot (bG t n (t.probeStart h)).j=.empty) (hj:(bG t n (t.probeStart h)).j<=t.mask)
  (hw:∀m,m<n->t.slot (bG t m (t.probeStart h)).j≠.empty) (C3:hs.size+1<=t.mask) :
  pY (t.put (bG t n (t.probeStart h)).j).1 (Uq hs (t.put (bG t n (t.probeStart h)).j).2 h)/\(t.put (bG t n (t.probeStart h)).j).2<=hs.size:=by
 generalize Q6:(bG t n (t.probeStart h)).j=j at *
 have Iw:∀i,i<t.place.size->t.place.getD i 0≠j:=fun i hi e=>by
  have z:=fL I.tb hi;rw [e,he] at z;cases z
 have hb:=gd t.place I.tb.ri j;have v8:(t.put j).2=UD t.place j:=rfl
 have hm:(t.put j).1.mask=t.mask:=rfl;have hpl:(t.put j).1.place=Uq t.place (UD t.place j) j:=rfl
 have hd:(t.put j).1.dummies = #[]:=by
  show(if Y2 t.dummies j then _ else t.dummies) = #[];rw [I.tb.nd];simp [Y2]
 have gp:=iC t.place hb.1 j 0;have sp:=cA t.place hb.1 j
 generalize UD t.place j=bb at hb v8 hpl gp sp;have hsz:=I.sz
 have CK:bb<=hs.size:=by omega
 have ri:Ri (t.put j).1.place:=fun a b hab Q7=>by
  rw [hpl,sp] at Q7;rw [hpl,gp,gp];have h1:=hb.2.1
  have h2:=hb.2.2;by_cases b1:b<bb
  ·rw [if_pos (VG hab b1),if_pos b1];exact I.tb.ri a b hab (Uc b1 hb.1)
  ·rw [if_neg b1]
   by_cases b2:b=bb
   ·rw [if_pos b2,if_pos (b2 ▸ hab)];exact h1 a (b2 ▸ hab)
   ·rw [if_neg b2]
    have b3:bb<=b - 1:=by omega
    have b4:b - 1<t.place.size:=by omega
    by_cases a1:a<bb
    ·rw [if_pos a1];exact I.tb.ri a (b - 1) (Uc a1 b3) b4
    ·rw [if_neg a1]
     by_cases a2:a=bb
     ·rw [if_pos a2]
      have z:=h2 (b - 1) b3 b4;have y:=Iw (b - 1) b4
      omega
     ·rw [if_neg a2];exact I.tb.ri (a - 1) (b - 1) (by omega) b4
 have tb:Tb (t.put j).1:=⟨ri,hd⟩;have mono:∀c,t.slot c≠.empty->(t.put j).1.slot c≠.empty:=fun c hc z=>by
  rcases iS I.tb c with⟨i,h1,h2,_⟩|⟨_,h2⟩
  ·have key:∃i',i'<(t.put j).1.place.size/\(t.put j).1.place.getD i' 0=c:=by
    rw [hpl,sp];by_cases q:i<bb
    ·exact⟨i,UK h1,by rw [gp,if_pos q];exact h2⟩
    ·exact⟨i+1,Nat.succ_lt_succ h1,by rw [gp,if_neg (by omega),if_neg (by omega)];exact h2⟩
   obtain⟨i',k1,k2⟩:=key;have y:=fL tb k1
   rw [k2,z] at y;cases y
  ·exact hc h2
 refine⟨⟨tb,?_,?_,?_,?_,?_⟩,?_⟩
 ·rw [v8,hpl,sp,cA hs CK,hsz]
 ·intro i hi
  rw [hpl,sp] at hi;rw [hpl,gp,hm];split
  ·exact I.le i (by omega)
  ·split
   ·exact hj
   ·exact I.le (i - 1) (by omega)
 ·rw [v8,cA hs CK,hm];exact C3
 ·rw [hm];exact I.pw
 ·intro i hi
  rw [v8,cA hs CK] at hi;rw [v8,hpl,gp,iC hs CK];have lift:∀h' c,E7 t h' c->E7 (t.put j).1 h' c:=fun h' c ⟨n',k1,k2,k3⟩ =>
   ⟨n',by rw [hm];exact k1,by rw [gg hm,fM hm];exact k2,fun m q=>by rw [gg hm,fM hm];exact mono _ (k3 m q)⟩
  split
  ·exact lift _ _ (I.sU i (by omega))
  ·split
   ·exact lift _ _ ⟨n,hn,Q6,hw⟩
   ·exact lift _ _ (I.sU (i - 1) (by omega))
 ·rw [v8];exact CK
theorem Iy {mask k:Nat} (hk:mask+1=2 ^ k) (h:Int) {j:Nat} (hj:j<=mask):∃q,q<=13+mask/\(lp mask q (Uw h % (mask+1),Uw h)).1=j:=by
 have hb:Uw h<2 ^ 64:=by
  unfold Uw;have h1:=VT h (show(0:Int)<2 ^ 64 by decide)
  have h2:=V3 h (show(2 ^ 64:Int)≠0 by decide);omega
 let x:Nat × Nat:=(Uw h % (mask+1),Uw h)
 obtain⟨r,hr,hx⟩:=cover k (lp mask 13 x).1 j (by omega);rw [<- hk] at hx hr;have h1:=sS (mask:=mask) (x:=x) hb r
 have h2:(lp mask (13+r) x).1<mask+1:=by
  rw [show 13+r=(12+r)+1 by omega,lp,US];exact Xc _ (XU _)
 rw [YH h2,hx] at h1;exact⟨13+r,by omega,h1⟩
theorem lj (t:Um):∀(n more j i pb:Nat) (d:Option Nat),n<=more->bG t n { j:=j,more:=more,i:=i,perturb:=pb,dummy:=d }={ j:=j+n,more:=more - n,i:=i,perturb:=pb,dummy:=d }
 | 0,more,j,i,pb,d,_=>rfl
 | n+1,0,j,i,pb,d,h=>absurd h (by omega)
 | n+1,more+1,j,i,pb,d,h=>by
  rw [bG];have e:t.advance { j:=j,more:=more+1,i:=i,perturb:=pb,dummy:=d }={ j:=j+1,more:=more,i:=i,perturb:=pb,dummy:=d }:=by simp [V8]
  rw [e,lj t n more (j+1) i pb d (by omega)];simp only [SetTable.Probe.mk.injEq,and_true];omega
noncomputable def Fr (owner:Array (Option Nat)) (c:Nat):Prop:=(owner.getD c (some 0)).isNone=true
theorem qt (mask:Nat) (x:Nat × Nat):∀q,lp mask (q+1) x=lp mask q (US mask x.1 x.2)
 | 0=>rfl
 | q+1=>by rw [lp,qt mask x q,lp]
theorem nK (t:Um) (owner:Array (Option Nat)):∀(fuel i pb:Nat),(∃q,q<fuel/\Fr owner (lp t.mask q (i,pb)).1) ->
  ∃j n,W8 t.mask owner fuel i pb=some j/\n+1<=10 * fuel/\(bG t n (start t.mask i pb none)).j=j/\Fr owner j/\∀m,m<n->¬ Fr owner (bG t m (start t.mask i pb none)).j
 | 0,i,pb,⟨q,hq,_⟩=>absurd hq (by omega)
 | fuel+1,i,pb,⟨q,hq,hf⟩=>by
  have hr:Us t.mask i - i<=9/\i<=Us t.mask i:=by
   unfold Us;split <;> omega
  unfold W8;cases e:(UE (Us t.mask i+1 - i)).find? fun k=>(owner.getD (i+k) (some 0)).isNone with
  | some k =>
   obtain⟨h1,hk,h3⟩:=List.find?_range_eq_some.mp e;have hk:=UC.mp hk
   have Q8:∀m,m<k->(owner.getD (i+m) (some 0)).isNone=false:=fun m hm=>by simpa using h3 m hm
   refine⟨i+k,k,rfl,by omega,?_,h1,fun m hm=>?_⟩
   ·rw [start,lj t k _ _ _ _ _ (by omega)]
   ·rw [start,lj t m _ _ _ _ _ (by omega)]
    show ¬ (owner.getD (i+m) (some 0)).isNone=true;rw [Q8 m hm];simp
  | none =>
   have j4:∀k,k<Us t.mask i+1 - i->(owner.getD (i+k) (some 0)).isNone=false:=fun k hk=>by
    have:=Ve.mp e k (UC.mpr hk);exact Bool.eq_false_iff.mpr this
   obtain⟨q,rfl⟩:∃q',q=q'+1:=by
    cases q with
    | zero =>
     have z:=j4 0 (by omega);have hf:(owner.getD i (some 0)).isNone=true:=hf
     rw [XT,hf] at z;cases z
    | succ q=>exact⟨q,rfl⟩
   rw [qt] at hf;obtain⟨j,n,g1,g2,g3,g4,g5⟩:=nK t owner fuel (US t.mask i pb).1 (US t.mask i pb).2 ⟨q,by omega,hf⟩;refine⟨j,(Us t.mask i - i+1)+n,g1,by omega,?_,g4,fun m hm=>?_⟩
   ·rw [gf,start,jo];exact g3
   ·by_cases E8:m<=Us t.mask i - i
    ·rw [start,lj t m _ _ _ _ _ E8]
     show ¬ (owner.getD (i+m) (some 0)).isNone=true;rw [j4 m (by omega)];simp
    ·have em:m=(Us t.mask i - i+1)+(m - (Us t.mask i - i+1)):=by omega
     rw [em,gf,start,jo];exact g5 _ (by omega)
theorem nL:∀(n:Nat) (l:List Nat),l.Nodup->(∀x∈l,x<n)->l.length<=n
 | 0,l,_,h=>by
  cases l with
  | nil=>simp
  | cons a r=>exact absurd (h a (by simp)) (by omega)
 | n+1,l,hn,h=>by
  have h1:=nL n (l.erase n) (hn.erase n) fun x hx=>by
   have a:=h x (List.mem_of_mem_erase hx);have b:x≠n:=fun e=>by
    subst e;exact(hn.not_mem_erase) hx
   omega
  have h2:l.length<=(l.erase n).length+1:=by
   by_cases hm:n∈l
   ·rw [WU hm];omega
   ·rw [List.erase_of_not_mem hm];omega
  omega
structure Own (t:Um) (owner:Array (Option Nat)) (hs:List Int) (pos:Nat->Nat):Prop where
 sz:owner.size=t.mask+1
 at_:∀c,c<=t.mask->∀i,owner.getD c none=some i↔(i<hs.length/\pos i=c)
 le:∀i,i<hs.length->pos i<=t.mask
 sU:∀i (hi:i<hs.length),∃n,n<10 * (t.mask+15)/\(bG t n (t.probeStart hs[i])).j=pos i/\∀m,m<n->¬ Fr owner (bG t m (t.probeStart hs[i])).j
theorem Own.lS {t:Um} {owner:Array (Option Nat)} {hs:List Int} {pos:Nat->Nat} (O:Own t owner hs pos) (c:Nat):Fr owner c↔(c<=t.mask/\∀i,i<hs.length->pos i≠c):=by
 unfold Fr;constructor
 ·intro h
  have hc:c<=t.mask:=by
   refine Vt fun hc=>?_
   have hs':=O.sz;have:owner.getD c (some 0)=some 0:=by simp [Vs,show ¬ c<owner.size by omega]
   rw [this] at h;cases h
  refine⟨hc,fun i hi e=>?_⟩;have z:=(O.at_ c hc i).mpr ⟨hi,e⟩
  have bD:c<owner.size:=by rw [O.sz];omega
  have e2:owner.getD c (some 0)=owner.getD c none:=by simp [Vs,bD]
  rw [e2,z] at h;cases h
 ·rintro⟨hc,h⟩
  have bD:c<owner.size:=by rw [O.sz];omega
  have e2:owner.getD c (some 0)=owner.getD c none:=by simp [Vs,bD]
  rw [e2];cases e:owner.getD c none with
  | none=>rfl
  | some i =>
   obtain⟨h1,h2⟩:=(O.at_ c hc i).mp e;exact absurd h2 (h i h1)
theorem Own.v9 {t:Um} {owner:Array (Option Nat)} {hs:List Int} {pos:Nat->Nat} (O:Own t owner hs pos) (hf:hs.length<=t.mask):∃c,c<=t.mask/\Fr owner c:=by
 refine Vt fun j4=>?_
 have all:∀c,c<=t.mask->∃i,i<hs.length/\pos i=c:=fun c hc=>Vt fun hn=>j4 ⟨c,hc,(O.lS c).mpr ⟨hc,fun i hi e=>hn ⟨i,hi,e⟩⟩⟩
 have Mu:∀c,∃i,c<=t.mask->i<hs.length/\pos i=c:=fun c=>by
  by_cases hc:c<=t.mask
  ·obtain⟨i,h⟩:=all c hc;exact⟨i,fun _=>h⟩
  ·exact⟨0,fun z=>absurd z hc⟩
 obtain⟨g,hg⟩:=Zy.mp Mu;have h1:=nL hs.length ((UE (t.mask+1)).map g) (by
  unfold List.Nodup;rw [Ww];refine Ym (R:=fun a b=>a<b) (fun {a b} ha hb bD e=>?_) YS;have ha':=(hg a (by have:=UC.mp ha;omega)).2
  have hb':=(hg b (by have:=UC.mp hb;omega)).2;rw [e] at ha';omega) fun x hx=>by
   obtain⟨c,hc,rfl⟩:=Tz.mp hx;exact(hg c (by have:=UC.mp hc;omega)).1
 simp at h1;omega
noncomputable def sW (mask:Nat) (acc:Option (Array (Option Nat) × Nat)) (h:Int):Option (Array (Option Nat) × Nat):=do
 let (owner,k) <- acc
 let j <- W8 mask owner (Vu mask) (Uw h % (mask+1)) (Uw h)
 pure (owner.setIfInBounds j (some k),k+1)
theorem qv (mask:Nat) (hashes:Array Int):Xd mask hashes=(hashes.toList.foldl (sW mask) (some (Array.replicate (mask+1) none,0))).map (·.1):=by
 unfold Xd;rw [<- Array.foldl_toList];rfl
theorem Own.step {t:Um} {k:Nat} (hk:t.mask+1=2 ^ k) {owner:Array (Option Nat)} {hs:List Int} {pos:Nat->Nat} (O:Own t owner hs pos) (hf:hs.length<=t.mask) (h:Int) :
  ∃lU pos',sW t.mask (some (owner,hs.length)) h=some (lU,hs.length+1)/\Own t lU (hs++[h]) pos':=by
 obtain⟨c,hc,xk⟩:=O.v9 hf;obtain⟨q,hq,e⟩:=Iy hk h hc;obtain⟨j,n,g1,g2,g3,g4,g5⟩:=nK t owner (Vu t.mask) (Uw h % (t.mask+1)) (Uw h) ⟨q,by unfold Vu;omega,by rw [e];exact xk⟩;have hj:=(O.lS j).mp g4
 have Hs:∀i,i<hs.length+1->i≠hs.length->i<hs.length:=fun i a b=>by omega
 have bD:j<owner.size:=by rw [O.sz];omega
 have gs:∀c d,(owner.setIfInBounds j (some hs.length)).getD c d=if c=j then some hs.length else owner.getD c d:=fun c d=>by
  rw [Ue,Ue,Array.getElem?_setIfInBounds];by_cases ec:j=c
  ·subst ec;simp [bD]
  ·rw [if_neg ec,if_neg (U7 ec)]
 refine⟨owner.setIfInBounds j (some hs.length),fun i=>if i=hs.length then j else pos i,?_,?_⟩
 ·unfold sW
  simp only [Option.bind_eq_bind,VP,g1];rfl
 ·have O9:∀c,Fr (owner.setIfInBounds j (some hs.length)) c->Fr owner c:=fun c hc=>by
   unfold Fr at hc ⊢;rw [gs] at hc;by_cases ec:c=j
   ·rw [if_pos ec] at hc;cases hc
   ·rw [if_neg ec] at hc;exact hc
  refine⟨by rw [Array.size_setIfInBounds];exact O.sz,fun c hc i=>?_,fun i hi=>?_,fun i hi=>?_⟩
  ·rw [gs,Tq,UQ]
   by_cases ec:c=j
   ·subst ec
    rw [if_pos rfl];constructor
    ·intro e;cases e;exact⟨Vh _,by rw [if_pos rfl]⟩
    ·rintro⟨h1,h2⟩
     by_cases ei:i=hs.length
     ·rw [ei]
     ·rw [if_neg ei] at h2
      exact absurd h2 (hj.2 i (Hs i h1 ei))
   ·rw [if_neg ec,O.at_ c hc i]
    constructor
    ·rintro⟨h1,h2⟩;exact⟨UK h1,by rw [if_neg (Ub h1)];exact h2⟩
    ·rintro⟨h1,h2⟩
     by_cases ei:i=hs.length
     ·rw [if_pos ei] at h2;exact absurd h2.symm ec
     ·rw [if_neg ei] at h2;exact⟨Hs i h1 ei,h2⟩
  ·rw [Tq,UQ] at hi
   by_cases ei:i=hs.length
   ·show(if i=hs.length then j else pos i)<=t.mask
    rw [if_pos ei];exact hj.1
   ·show(if i=hs.length then j else pos i)<=t.mask
    rw [if_neg ei];exact O.le i (Hs i hi ei)
  ·rw [Tq,UQ] at hi
   by_cases ei:i=hs.length
   ·subst ei
    have e2:(hs++[h])[hs.length]=h:=by simp
    rw [e2];refine⟨n,by unfold Vu at g2;omega,by rw [if_pos rfl];exact g3,fun m hm z=>g5 m hm (O9 _ z)⟩
   ·obtain⟨n',k1,k2,k3⟩:=O.sU i (Hs i hi ei)
    have e2:(hs++[h])[i]=hs[i]'(Hs i hi ei):=List.getElem_append_left (Hs i hi ei);rw [e2];exact⟨n',k1,by rw [if_neg ei];exact k2,fun m hm z=>k3 m hm (O9 _ z)⟩
theorem qw {t:Um} {k:Nat} (hk:t.mask+1=2 ^ k):∀(l:List Int) (owner:Array (Option Nat)) (pre:List Int) (pos:Nat->Nat),Own t owner pre pos->pre.length+l.length<=t.mask+1 ->
  ∃lU pos',l.foldl (sW t.mask) (some (owner,pre.length))=some (lU,pre.length+l.length)/\Own t lU (pre++l) pos'
 | [],owner,pre,pos,O,_=>⟨owner,pos,by simp,by simpa using O⟩
 | h::l,owner,pre,pos,O,hf=>by
  simp only [Tu] at hf;obtain⟨o1,p1,e1,O1⟩:=O.step hk (by omega) h;obtain⟨o2,p2,e2,O2⟩:=qw hk l o1 (pre++[h]) p1 O1 (by rw [Tq,UQ];omega);refine⟨o2,p2,?_,by simpa using O2⟩;rw [XA,e1];rw [Tq,UQ] at e2;rw [e2];simp only [Tu];congr 2;omega
theorem E9 {t:Um} {k:Nat} (hk:t.mask+1=2 ^ k) (hs:Array Int) (hf:hs.size<=t.mask):∃owner pos,Xd t.mask hs=some owner/\Own t owner hs.toList pos:=by
 have O0:Own t (Array.replicate (t.mask+1) none) [] (fun _=>0):=⟨by simp,fun c hc i=>by simp [Vs,hc],fun i hi=>by simp at hi,fun i hi=>by simp at hi⟩;obtain⟨o,p,e,O⟩:=qw hk hs.toList _ [] _ O0 (by simp;omega);refine⟨o,p,?_,by simpa using O⟩;rw [qv,show(0:Nat)=([]:List Int).length from rfl,e];rfl
theorem nM {mask i:Nat} (h:i<=mask):i<=Us mask i/\Us mask i<=mask:=by
 unfold Us;split <;> omega
theorem sX (t:Um) (p:VH) (h:p.j+p.more<=t.mask):(t.advance p).j+(t.advance p).more<=t.mask:=by
 unfold V8;split
 ·show p.j+1+(p.more - 1)<=t.mask
  omega
 ·have hl:(US t.mask p.i p.perturb).1<=t.mask:=by
   unfold US;exact Nat.le_of_lt_succ (Xc _ (XU _))
  have hr:=nM hl;show(US t.mask p.i p.perturb).1+(Us t.mask (US t.mask p.i p.perturb).1 - (US t.mask p.i p.perturb).1)<=t.mask
  omega
theorem sY (t:Um):∀(n:Nat) (p:VH),p.j+p.more<=t.mask->(bG t n p).j<=t.mask
 | 0,p,h=>by show p.j<=t.mask;omega
 | n+1,p,h=>sY t n _ (sX t p h)
theorem qx (t:Um) (h:Int):(t.probeStart h).j+(t.probeStart h).more<=t.mask:=by
 have hl:Uw h % (t.mask+1)<=t.mask:=Nat.le_of_lt_succ (Xc _ (XU _));have hr:=nM hl
 show Uw h % (t.mask+1)+(Us t.mask (Uw h % (t.mask+1)) - Uw h % (t.mask+1))<=t.mask;omega
theorem BG {mask k:Nat} (hk:mask+1=2 ^ k) (finger moves:Nat) (led plain:Bool) (hs:Array Int) (hf:hs.size<=mask) :
  ∃t order,SetTable.laid mask finger moves led plain hs=some (t,order)/\t.mask=mask/\t.led=led/\t.plain=plain/\order.toList.Perm (UE hs.size)/\pY t (order.map fun i=>hs.getD i 0):=by
 let t0:Um:={ mask:=mask,place:=#[],dummies:=#[],finger:=finger,led:=led,moves:=moves,plain:=plain }
 obtain⟨owner,pos,e,O⟩:=E9 (t:=t0) hk hs hf;have e:Xd mask hs=some owner:=e
 let live:List (Nat × Nat):=(UE (mask+1)).filterMap fun j=>(owner.getD j none).map (j,·)
 let t:Um:={ mask:=mask,place:=(live.map (·.1)).toArray,dummies:=#[],finger:=finger,led:=led,moves:=moves,plain:=plain }
 have hlen:hs.toList.length=hs.size:=by simp
 have mem:∀j i,(j,i)∈live↔(j<=mask/\i<hs.size/\pos i=j):=fun j i=>by
  have z:(j,i)∈live↔∃a,a∈UE (mask+1)/\(owner.getD a none).map (a,·)=some (j,i):=XR;rw [z];constructor
  ·rintro⟨a,h1,h2⟩
   obtain⟨b,h3,h4⟩:=TG.mp h2;cases h4;have ha:j<=mask:=by have:=UC.mp h1;omega
   have:=(O.at_ j ha i).mp h3;exact⟨ha,by rw [<- hlen];exact this.1,this.2⟩
  ·rintro⟨h1,h2,h3⟩
   exact⟨j,UC.mpr (by omega),by rw [(O.at_ j h1 i).mpr ⟨by rw [hlen];exact h2,h3⟩];rfl⟩
 have rise:live.Pairwise fun a b=>a.1<b.1:=by
  refine List.Pairwise.filterMap (R:=fun a b=>a<b) _ (fun a a' Q9 b hb b' hb'=>?_) YS;obtain⟨_,_,rfl⟩:=TG.mp hb;obtain⟨_,_,rfl⟩:=TG.mp hb';exact Q9
 have Ra:(live.map (·.2)).Nodup:=by
  unfold List.Nodup;rw [Ww];refine Ym (fun {a b} ha hb bD e2=>?_) rise;have h1:=((mem a.1 a.2).mp ha).2.2
  have h2:=((mem b.1 b.2).mp hb).2.2;rw [e2] at h1;omega
 have perm:(live.map (·.2)).Perm (UE hs.size):=by
  refine(XK Ra List.nodup_range).mpr fun i=>?_
  rw [UC];constructor
  ·intro hi
   obtain⟨⟨j,i'⟩,h1,rfl⟩:=Tz.mp hi;exact((mem j i').mp h1).2.1
  ·intro hi
   exact Tz.mpr ⟨(pos i,i),(mem _ _).mpr ⟨O.le i (by rw [hlen];exact hi),hi,rfl⟩,rfl⟩
 have ri:Ri t.place:=fun a b hab hb=>by
  show(live.map (·.1)).toArray.getD a 0<(live.map (·.1)).toArray.getD b 0;have hb':b<live.length:=by
   have:(live.map (·.1)).toArray.size=live.length:=by simp
   show b<live.length;rw [<- this];exact hb
  have z:=X3.mp rise a b (by omega) hb' hab;simpa [Vs,show a<live.length by omega,hb'] using z
 have tb:Tb t:=⟨ri,rfl⟩;have Mw:t.place.size=live.length:=by show(live.map (·.1)).toArray.size=_;simp
 have Fb:∀i (hi:i<live.length),t.place.getD i 0=(live[i]).1:=fun i hi=>by
  show(live.map (·.1)).toArray.getD i 0=_;simp [Vs,hi]
 have full:∀c,¬ Fr owner c->c<=mask->t.slot c≠.empty:=fun c hc hle z=>by
  have hex:∃i,i<hs.size/\pos i=c:=Vt fun j4=>hc ((O.lS c).mpr ⟨hle,fun i hi e2=>j4 ⟨i,by rw [<- hlen];exact hi,e2⟩⟩)
  obtain⟨i,h1,h2⟩:=hex;obtain⟨a,ha,ea⟩:=WD.mp ((mem c i).mpr ⟨hle,h1,h2⟩);have y:=fL tb (i:=a) (by rw [Mw];exact ha)
  rw [Fb a ha,ea,z] at y;cases y
 have Mx:live.length=hs.size:=by
  have:=perm.length_eq;simpa using this
 have Iz:∀h m,(bG t m (t.probeStart h)).j<=mask:=fun h m=>sY t m _ (qx t h)
 refine⟨t,(live.map (·.2)).toArray,?_,rfl,rfl,rfl,by simpa using perm,tb,?_,?_,?_,⟨k,hk⟩,?_⟩
 ·unfold SetTable.laid
  rw [e];rfl
 ·rw [Mw];simp
 ·intro i hi
  rw [Mw] at hi;rw [Fb i hi];exact((mem _ _).mp (TN hi)).1
 ·rw [UO,U8,Lm9,Mx];exact hf
 ·intro i hi
  have hi':i<live.length:=by simpa using hi
  have e1:((live.map (·.2)).toArray.map fun i=>hs.getD i 0).getD i 0=hs.getD (live[i]).2 0:=by simp [Vs,hi']
  rw [e1,Fb i hi'];have mm:(live[i]).1<=mask/\(live[i]).2<hs.size/\pos (live[i]).2=(live[i]).1:=(mem _ _).mp (TN hi')
  obtain⟨m1,m2,m3⟩:=mm;obtain⟨n,k1,k2,k3⟩:=O.sU (live[i]).2 (by rw [hlen];exact m2);have e2:hs.toList[(live[i]).2]'(by rw [hlen];exact m2)=hs.getD (live[i]).2 0:=by simp [Vs,m2]
  rw [e2] at k2 k3;refine⟨n,k1,?_,fun m hm=>?_⟩
  ·rw [fM (t:=t0) (t':=t) rfl,gg (t:=t0) (t':=t) rfl,k2,m3]
  ·refine full _ ?_ (Iz _ _)
   rw [fM (t:=t0) (t':=t) rfl,gg (t:=t0) (t':=t) rfl];exact k3 m hm
theorem nN (t:Um):∀(n:Nat) (p:VH),(bG t n p).dummy=p.dummy
 | 0,p=>rfl
 | n+1,p=>by
  rw [bG,nN t n];unfold V8;split <;> rfl
theorem yt (t:Um) (n:Nat) (p:VH):t.advance (bG t n p)=bG t (n+1) p:=by
 rw [gf t n 1 p];rfl
theorem C4 {t:Um} {H:Nat->Int} {h:Int} {m0 c:Nat} (hb:∀c',c'<c->∃i,t.slot (bG t (m0+c') (t.probeStart h)).j=.live i/\(H i == h)=false) (hc:c<10 * Vu t.mask) :
  ∃f,t.probe H h (bG t m0 (t.probeStart h))=V4 t H h (f+1) (bG t (m0+c) (t.probeStart h)):=by
 refine⟨10 * Vu t.mask - c - 1,?_⟩;unfold SetTable.probe;rw [yr t H h c _ _ (fun m hm=>by rw [<- gf];exact hb m hm) (by omega),<- gf];congr 1;omega
theorem yu {t:Um} {H:Nat->Int} {h:Int} {m0 c:Nat} (hs:t.slot (bG t (m0+c) (t.probeStart h)).j=.empty) (hc:c<10 * Vu t.mask)
  (hb:∀c',c'<c->∃i,t.slot (bG t (m0+c') (t.probeStart h)).j=.live i/\(H i == h)=false):t.probe H h (bG t m0 (t.probeStart h))=some (.empty (bG t (m0+c) (t.probeStart h)).j none):=by
 obtain⟨f,e⟩:=C4 hb hc;rw [e,V4,hs];simp only [nN];rfl
theorem BH {t:Um} {H:Nat->Int} {h:Int} {m0 c i:Nat} (hs:t.slot (bG t (m0+c) (t.probeStart h)).j=.live i) (hc:c<10 * Vu t.mask)
  (hb:∀c',c'<c->∃i,t.slot (bG t (m0+c') (t.probeStart h)).j=.live i/\(H i == h)=false) (hi:(H i == h)=true) :
  t.probe H h (bG t m0 (t.probeStart h))=some (.candidate (bG t (m0+c) (t.probeStart h)).j i (bG t (m0+c+1) (t.probeStart h))):=by
 obtain⟨f,e⟩:=C4 hb hc;rw [e,V4,hs];simp only [hi,if_true,yt]
section
variable {prog:UU} {w:VL} {A:Ux} {E:Ts->Tv->Prop} {s:Tv} {a:Ug} {o:Obj} {es:Array (Int × Ts)} {ep:Nat} {t:Um} {x:Ts} {h:Int} {eqv:Nat->Bool} {Q:SetFound->Tv->Prop}
theorem wa (ho:s.heap.get? a=some o) (hd:o.data=.set es ep t) (I:pY t (es.map (·.1))) (BI:(t.mask % 2 == 0)=false)
  (hq:∀i (hi:i<es.size),(es[i]).1=h->VN A s (es[i]).2 x (eqv i)) (IA:∀i (hi:i<es.size),∃b,(es[i]).2=.ref b)
  (yw:t.led=false->∀Q':Bool->Tv->Prop,Q' false s->TR (model prog w) A (searchCouldBeSeen x ((es.filter (·.1 == h)).toList.map (·.2))) Q' E s)
  {n:Nat} (hn:n<=10 * (t.mask+14))
  (wb:∀m,m<n->∃i,i<t.place.size/\t.slot (bG t m (t.probeStart h)).j=.live i/\¬ (∃hi:i<es.size,(es[i]).1=h/\eqv i=true))
  (hend:(t.slot (bG t n (t.probeStart h)).j=.empty/\Q (.free (bG t n (t.probeStart h)).j false) s)\/((∃i,t.slot (bG t n (t.probeStart h)).j=.live i/\∃hi:i<es.size,(es[i]).1=h/\eqv i=true)/\Q (.there none) s)) :
  ∀(d m0 fuel:Nat) (yx:Option VH),m0+d=n->d<fuel->yx.getD (t.probeStart h)=bG t m0 (t.probeStart h)->TR (model prog w) A (setSearchFrom a x h true fuel yx) Q E s:=by
 intro d;induction d using Nat.strongRecOn with
 | ind d ih =>
  intro m0 fuel yx hm S1 mQ;obtain⟨fuel,rfl⟩:∃g,fuel=g+1:=⟨fuel - 1,by omega⟩;have hfit:t.fits es.size=true:=by
   have z:=I.sz;have f:=I.fill
   rw [UO] at z f;simp only [SetTable.fits,Zo,I.tb.nd,Tw,beq_iff_eq,decide_eq_true_eq];exact⟨z,by simp;omega⟩
  unfold setSearchFrom;refine Ti (Ut ho hd hfit ?_);dsimp only;have hg:t.gaveWay=false:=BI
  rw [hg];simp only [TH,if_false];rw [mQ];have hsz:t.place.size=es.size:=by have z:=I.sz;rw [UO] at z;exact z
  have gH:∀i (hi:i<es.size),((es[i]?.map (·.1)).getD 0)=(es[i]).1:=fun i hi=>by simp [hi]
  obtain⟨c,hcd,hP,My⟩:=first (fun c=>m0+c=n\/∃i,t.slot (bG t (m0+c) (t.probeStart h)).j=.live i/\∃hi:i<es.size,(es[i]).1=h) d (.inl hm)
  have EU:c<10 * Vu t.mask:=by unfold Vu;omega
  have hb:∀c',c'<c->∃i,t.slot (bG t (m0+c') (t.probeStart h)).j=.live i/\(((es[i]?.map (·.1)).getD 0) == h)=false:=fun c' hc'=>by
   have j4:=My c' hc';obtain⟨i,h1,h2,_⟩:=wb (m0+c') (by omega);refine⟨i,h2,?_⟩;rw [gH i (by omega)];exact beq_eq_false_iff_ne.mpr fun e=>j4 (.inr ⟨i,h2,by omega,e⟩)
  have IB:(m0+c=n/\t.slot (bG t (m0+c) (t.probeStart h)).j=.empty)\/∃i,∃hi:i<es.size,t.slot (bG t (m0+c) (t.probeStart h)).j=.live i/\(es[i]).1=h:=by
   rcases hP with e|⟨i,h1,hi,h2⟩
   ·rcases hend with⟨z,_⟩|⟨⟨i,z,hi,h1,_⟩,_⟩
    ·exact .inl ⟨e,by rw [e];exact z⟩
    ·exact .inr ⟨i,hi,by rw [e];exact z,h1⟩
   ·exact .inr ⟨i,hi,h1,h2⟩
  rcases IB with⟨e,hs⟩|⟨i,hi,hs,hh⟩
  ·rw [yu hs EU]
   rotate_left
   ·exact hb
   dsimp only;rcases hend with⟨_,q⟩|⟨⟨i,z,_⟩,_⟩
   ·refine Tn ?_
    rw [e];exact q
   ·rw [<- e,hs] at z;cases z
  ·rw [BH (i:=i) hs EU]
   case hb=>exact hb
   case hi =>
    show(((es[i]?.map (·.1)).getD 0) == h)=true;rw [gH i hi,hh];simp
   dsimp only;obtain⟨b,vK⟩:=IA i hi;have ge:es[i]?=some (es[i]):=by simp [hi]
   have tail:TR (model prog w) A (do
     let some (_,y):=es[i]?|unsupported "internal:set-entry"
     let equal <- holding [y] (eqBool y x)
     let (fq,_,t') <- setState a
     if true && equal then return .there none
     let some same:=t'.sameMemory t.moves t.mask|unsupported "set.changed-during-lookup:is-the-new-block-at-the-old-address"
     let IC <- match (if same then t'.slot (bG t (m0+c) (t.probeStart h)).j else .empty) with
      | .live i'=>match fq[i']? with
       | some (_,y')=>do pure (if <- isSame y' y then some i' else none)
       | none=>pure none
      | _=>pure none
     match IC with
     | none=>rule "set.search.anew";setSearchFrom a x h true fuel none
     | some i'=>if equal then return .there (some i') else setSearchFrom a x h true fuel (some (bG t (m0+c+1) (t.probeStart h)))) Q E s:=by
    rw [ge];dsimp only;refine Ti (wpAny_holding (hq i hi hh prog w _ _ ?_));refine Ti (Ut ho hd hfit ?_);dsimp only;cases ev:eqv i with
    | true =>
     simp only [Bool.and_self,if_true];refine Tn ?_;rcases hend with⟨z,_⟩|⟨_,q⟩
     ·exfalso
      by_cases en:m0+c=n
      ·rw [<- en,hs] at z;cases z
      ·obtain⟨i',_,h2,h3⟩:=wb (m0+c) (by omega)
       rw [hs] at h2;cases h2;exact h3 ⟨hi,hh,ev⟩
     ·exact q
    | false =>
     simp only [Xe,TH,if_false];have hmem:t.sameMemory t.moves t.mask=some true:=by simp [SetTable.sameMemory]
     rw [hmem];simp only [if_true];rw [hs];simp only [ge,vK];refine Ti (wpAny_isSame_ref_self (Ti (Tn ?_)));simp only [if_true,TH,if_false];have bD:m0+c<n:=by
      refine Nat.lt_of_le_of_ne (by omega) fun en=>?_
      rcases hend with⟨z,_⟩|⟨⟨i',z,hi',h1,h2⟩,_⟩
      ·rw [<- en,hs] at z;cases z
      ·rw [<- en,hs] at z
       cases z;rw [ev] at h2;cases h2
     exact ih (n - (m0+c+1)) (by omega) (m0+c+1) fuel _ (by omega) (by omega) rfl
   cases hl:t.led with
   | true =>
    simp only [VC,TH,if_false];exact tail
   | false =>
    simp only [Wb,if_true];refine Ti (yw hl _ ?_);simp only [TH,if_false];exact tail
end
theorem qy (n:Nat):∀(fuel k:Nat),n<2 ^ (k+fuel)->2 ^ k<=8+2 * n->∃k',Y3 n fuel (2 ^ k)=2 ^ k'/\n<2 ^ k'/\2 ^ k'<=8+2 * n
 | 0,k,h1,h2=>⟨k,rfl,h1,h2⟩
 | fuel+1,k,h1,h2=>by
  unfold Y3;by_cases h:2 ^ k<=n
  ·rw [if_pos h,<- Wm]
   exact qy n fuel (k+1) (by rw [show k+1+fuel=k+(fuel+1) by omega];exact h1) (by rw [Wm];omega)
  ·rw [if_neg h]
   exact⟨k,rfl,by omega,h2⟩
theorem above {n:Nat} (h:n<2 ^ 60):∃k,XW n=2 ^ k/\n<2 ^ k/\2 ^ k<=8+2 * n :=
 qy n 64 3 (Uc h (Y5 (by decide) (by decide))) (by omega)
theorem pY.plain {t:Um} {hs:Array Int} (I:pY t hs) (b:Bool):pY { t with plain:=b } hs :=
 ⟨⟨I.tb.ri,I.tb.nd⟩,I.sz,I.le,I.fill,I.pw,fun i hi=>by
  obtain⟨n,h1,h2,h3⟩:=I.sU i hi;have e1:∀m p,bG { t with plain:=b } m p=bG t m p:=fun m p=>fM (t:=t) (t':={ t with plain:=b }) rfl m p
  exact⟨n,h1,by rw [e1];exact h2,fun m hm=>by rw [e1];exact h3 m hm⟩⟩
theorem oW {α β:Type} (f:α->β) (xs:Array α) {p:Nat} (hp:p<=xs.size) (x:α):(Uq xs p x).map f=Uq (xs.map f) p (f x):=by
 apply Array.ext_getElem?;intro i;rw [Array.getElem?_map,gh xs hp,gh (xs.map f) (by rw [UO];exact hp)];split
 ·simp
 ·split <;> simp
theorem m9 {α:Type} (xs:Array α) {p:Nat} (hp:p<=xs.size) (x:α):(Uq xs p x).toList.Perm (x::xs.toList):=by
 unfold Uq;rw [Array.toList_append,Yg,Y6,Y6];have e:xs.toList=xs.toList.take p++xs.toList.drop p:=(Wo p _).symm
 have e1:xs.toList.extract 0 p=xs.toList.take p:=by simp [X5]
 have e2:xs.toList.extract p xs.size=xs.toList.drop p:=by
  rw [X5];rw [UA];simp
 rw [e1,e2]
 conv=>rhs;rw [e]
 rw [T8];exact List.perm_middle
noncomputable def SI (l:Bool) (h:Heap) (a:Ug) (es:Array (Int × Ts)):Prop :=
 ∃o ep t,h.get? a=some o/\o.ExactSet/\o.data=.set es ep t/\pY t (es.map (·.1))/\es.size * 5<t.mask * 3/\t.mask<=8 * es.size+20/\(t.mask % 2 == 0)=false/\(∀i (hi:i<es.size),∃b,(es[i]).2=.ref b)/\t.led=l/\(1<=es.size->t.plain=false)
theorem pY.fits {t:Um} {es:Array (Int × Ts)} (I:pY t (es.map (·.1))):t.fits es.size=true:=by
 have z:=I.sz;have f:=I.fill
 rw [UO] at z f;simp only [SetTable.fits,Zo,I.tb.nd,Tw,beq_iff_eq,decide_eq_true_eq];exact⟨z,by simp;omega⟩
theorem Fd {m k:Nat} (h:m+1=2 ^ k) (hm:1<=m):(m % 2 == 0)=false:=by
 cases k with
 | zero=>simp at h;omega
 | succ k =>
  rw [Wm] at h;have:m % 2=1:=by omega
  rw [this];rfl
theorem uF {h:Heap} {a:Ug} {o:Obj} {es:Array (Int × Ts)} {ep:Nat} {t:Um} (ho:h.get? a=some o) (hd:o.data=.set es ep t) (fq:Array (Int × Ts)) (t':Um) :
  (h.update a (Zr fq t')).get? a=some { o with data:=.set fq (ep+1) t' }:=by
 have:=U4 (Zr fq t') ho (by rw [putSet_of fq t' hd];rfl);rw [putSet_of fq t' hd] at this;exact this
theorem gF {α:Type}:∀(l:List α),(UE l.length).filterMap (fun i=>l[i]?)=l
 | []=>rfl
 | a::r=>by
  rw [Tu,YL,Zf];simp only [VD,List.filterMap_map];have e:((fun i=>(a::r)[i]?) ∘ Nat.succ)=fun i=>r[i]?:=by funext i;simp
  rw [e,gF r]
theorem lV (es:Array (Int × Ts)):∀(l:List Nat),(∀i∈l,i<es.size)->(l.filterMap (fun i=>es[i]?)).map (·.1)=l.map fun i=>(es.map (·.1)).getD i 0
 | [],_=>rfl
 | i::l,h=>by
  have hi:=h i (by simp);have e:es[i]?=some es[i]:=by simp [hi]
  rw [Zf,e];simp only [TC];rw [lV es l fun j hj=>h j (by simp [hj])];congr 1;simp [Vs,hi]
section
variable {prog:UU} {w:VL} {A:Ux} {E:Ts->Tv->Prop} {s:Tv} {a:Ug} {es:Array (Int × Ts)} {x:Ts} {h:Int} {eqv:Nat->Bool} {l:Bool}
theorem yy {o:Obj} {ep:Nat} {t:Um} {Q:Unit->Tv->Prop} (ho:s.heap.get? a=some o) (hx:o.ExactSet) (hd:o.data=.set es ep t) (I:pY t (es.map (·.1))) (h1:1<=es.size) (hs:es.size<50000) (hr:∀i (hi:i<es.size),∃b,(es[i]).2=.ref b) (hL:t.led=l) (hP:t.plain=false)
  (hQ:∀h' fq,Vl a s.heap h'->SI l h' a fq->fq.toList.Perm es.toList->Q () { s with heap:=h' }):TR (model prog w) A (setRelay a (VI es.size)) Q E s:=by
 have hg:VI es.size<=4 * 100000/\VI es.size=4 * es.size:=by
  unfold VI;rw [if_neg (by omega)];omega
 obtain⟨k,e1,e2,e3⟩:=above (n:=VI es.size) (XQ hg.1 (by decide));have hm:XW (VI es.size) - 1+1=2 ^ k:=by rw [e1];omega
 obtain⟨t',order,f1,f2,f3,f4,f5,f6⟩:=BG hm t.finger (t.movedTo (XW (VI es.size) - 1)) t.led t.plain (es.map (·.1)) (by rw [UO,e1];omega);rw [UO] at f5;unfold setRelay;refine Ti (Ut ho hd I.fits ?_);dsimp only;rw [if_neg (by rw [e1,Vb];omega)];have Mz:t.relaid (es.map (·.1)) (VI es.size)=some (t',order):=f1
 rw [Mz];have HY:(order.filterMap (es[·]?)).toList.Perm es.toList:=by
  rw [YT];have z:=f5.filterMap (fun i=>es[i]?)
  refine z.trans (List.Perm.of_eq ?_);have y:=gF es.toList
  simpa using y
 have hsz:(order.filterMap (es[·]?)).size=es.size:=by
  rw [<- U3,HY.length_eq,U3]
 have MA:(order.filterMap (es[·]?)).map (·.1)=order.map fun i=>(es.map (·.1)).getD i 0:=by
  apply Array.toList_inj.mp;rw [YG,YT,YG];exact lV es order.toList fun i hi=>UC.mp (f5.mem_iff.mp hi)
 show TR (model prog w) A ((do
  let fq:=order.filterMap (es[·]?)
  if fq.size != es.size then unsupported "internal:set-table-lost-an-element"
  pure (fq,t')) >>= fun(p:Array (Int × Ts) × Um)=>storeSet a p.1 p.2) Q E s
 refine Ti ?_;dsimp only;rw [hsz];simp only [bne_self_eq_false,TH,if_false];refine Tn (wpAny_storeSet_of ho hd ?_ (by rw [hsz,Vb];omega));have I':pY t' ((order.filterMap (es[·]?)).map (·.1)):=by rw [MA];exact f6
 refine hQ _ (order.filterMap (es[·]?)) (U5 _ _ _) ⟨_,_,t',uF ho hd _ _,hx,rfl,I',?_,?_,?_,fun i hi=>?_,f3.trans hL,fun _=>f4.trans hP⟩ HY
 ·rw [hsz,f2,e1];omega
 ·rw [hsz,f2,e1];omega
 ·rw [f2];exact Fd hm (by rw [e1];omega)
 ·have hm:(order.filterMap (es[·]?))[i]∈es.toList:=HY.mem_iff.mp (by rw [WC];exact Yd hi)
  obtain⟨j,hj,e⟩:=WD.mp hm;have hj':j<es.size:=by simpa using hj
  obtain⟨b,hb⟩:=hr j hj';refine⟨b,?_⟩;rw [<- e];simpa using hb
theorem Fe {Q:Bool->Tv->Prop} (hS:SI l s.heap a es) (hx:∃b,x=.ref b) (hs:es.size<1000) (hq:∀i (hi:i<es.size),(es[i]).1=h->VN A s (es[i]).2 x (eqv i))
  (yw:∀Q':Bool->Tv->Prop,Q' false s->TR (model prog w) A (searchCouldBeSeen x ((es.filter (·.1 == h)).toList.map (·.2))) Q' E s)
  (Rb:∀Q':Bool->Tv->Prop,Q' false s->TR (model prog w) A (hashByValue 8 x) Q' E s)
  (h1:(∃i,∃hi:i<es.size,(es[i]).1=h/\eqv i=true)->Q false s)
  (h2:(¬ ∃i,∃hi:i<es.size,(es[i]).1=h/\eqv i=true)->∀h' fq,Vl a s.heap h'->SI l h' a fq->fq.toList.Perm ((h,x)::es.toList)->Q true { s with heap:=h' }) :
  TR (model prog w) A (setAddHashed a x h) Q E s:=by
 obtain⟨o,ep,t,ho,hex,hd,I,C3,S2,BI,hr,hL,hP⟩:=hS;obtain⟨b,rfl⟩:=hx;have hsz:t.place.size=es.size:=by have z:=I.sz;rw [UO] at z;exact z
 obtain⟨k,hk⟩:=I.pw;obtain⟨n,hn,hend,wb⟩:=way I.tb hk (by omega) h (fun i=>∃hi:i<es.size,(es[i]).1=h/\eqv i=true);have Ff:t.slot (bG t n (t.probeStart h)).j=.empty->¬ ∃i,∃hi:i<es.size,(es[i]).1=h/\eqv i=true:=by
  rintro he ⟨i,hi,e1,e2⟩;obtain⟨n',g1,g2,g3⟩:=I.sU i (by rw [UO];exact hi);have eh:(es.map (·.1)).getD i 0=h:=by simp [Vs,hi,e1]
  rw [eh] at g2 g3;have hl:=fL I.tb (i:=i) (by omega)
  rw [<- g2] at hl;rcases Yl n n' with q|q|q
  ·exact g3 n q he
  ·subst q;rw [he] at hl;cases hl
  ·obtain⟨i',_,w2,w3⟩:=wb n' q
   rw [hl] at w2;cases w2;exact w3 ⟨hi,e1,e2⟩
 unfold setAddHashed;refine wpAny_holding ?_;unfold setAddHashedIn;refine Ti (Ut ho hd I.fits ?_);dsimp only;have hsc:byScan (.ref b) es=false:=rfl
 rw [hsc];simp only [TH,if_false];unfold setSearch;refine Ti (wa (n:=n) (eqv:=eqv) ho hd I BI hq hr (fun _=>yw) hn wb ?_ n 0 100000 none (by omega) (by omega) rfl);rcases hend with he|⟨i,_,hl,hi,e1,e2⟩
 ·refine .inl ⟨he,?_⟩
  dsimp only;refine Ti (Ut ho hd I.fits ?_);dsimp only;have hj:(bG t n (t.probeStart h)).j<=t.mask:=sY t n _ (qx t h)
  obtain⟨I1,hp⟩:=oH I (h:=h) (n:=n) (by omega) he hj (fun m hm=>by obtain⟨i,_,z,_⟩:=wb m hm;rw [z];intro q;cases q) (by rw [UO];omega);rw [UO] at hp;rw [<- oW (·.1) es hp (h,Vz b)] at I1;have yz:=m9 es hp (h,Vz b)
  have oR:(Uq es (t.put (bG t n (t.probeStart h)).j).2 (h,Vz b)).size=es.size+1:=cA es hp _;have Pa:∀i (hi:i<(Uq es (t.put (bG t n (t.probeStart h)).j).2 (h,Vz b)).size),∃b',((Uq es (t.put (bG t n (t.probeStart h)).j).2 (h,Vz b))[i]).2=.ref b':=fun i hi=>by
   have hm:(Uq es (t.put (bG t n (t.probeStart h)).j).2 (h,Vz b))[i]∈(h,Vz b)::es.toList:=yz.mem_iff.mp (by rw [WC];exact Yd hi);rcases TJ.mp hm with e|e
   ·exact⟨b,by rw [e]⟩
   ·obtain⟨j,hj,e⟩:=WD.mp e
    have hj':j<es.size:=by simpa using hj
    obtain⟨b',hb'⟩:=hr j hj';refine⟨b',?_⟩;rw [<- e];simpa using hb'
  have j4:=Ff he;generalize Rc:Uq es (t.put (bG t n (t.probeStart h)).j).2 (h,Vz b)=C5 at *
  have tail:∀t2:Um,pY t2 (C5.map (·.1))->t2.mask=t.mask->t2.led=l->t2.plain=false->TR (model prog w) A (do
    storeSet a C5 t2
    if (!false && t2.tooFull)=true then setRelay a (VI (es.size+1))
    return true) Q E s:=fun t2 I2 E8 jH v8=>by
   refine Ti (wpAny_storeSet_of ho hd ?_ (by rw [oR,Vb];omega));have hg:=uF ho hd C5 t2
   by_cases hf:t2.tooFull=true
   ·simp only [hf,Wb,Bool.and_self,if_true]
    refine Ti ?_;rw [<- oR];refine yy (s:={ s with heap:=s.heap.update a (Zr C5 t2) }) hg hex rfl I2 (by omega) (by omega) Pa jH v8 fun h' fq CM hS' hp'=>Tn ?_
    exact h2 j4 h' fq ((U5 s.heap a (Zr C5 t2)).trans CM) hS' (hp'.trans yz)
   ·have hf':t2.tooFull=false:=by simpa using hf
    simp only [hf',Wb,Xe,TH,if_false];refine Tn ?_;have hnf:C5.size * 5<t2.mask * 3:=by
     have z:¬ (t2.fill * 5≥t2.mask * 3):=by simpa [SetTable.tooFull] using hf'
     have y:t2.fill=C5.size:=by
      have q:=I2.sz;rw [UO] at q;simp only [Zo,I2.tb.nd];simp [q]
     omega
    exact h2 j4 _ C5 (U5 _ _ _) ⟨_,_,t2,hg,hex,rfl,I2,hnf,by omega,by rw [E8];exact BI,Pa,jH,fun _=>v8⟩ yz
  cases hpl:(t.put (bG t n (t.probeStart h)).j).1.plain with
  | false =>
   simp only [TH,if_false];refine Ti (Tn ?_);simp only [if_true];exact tail _ I1 rfl hL hpl
  | true =>
   simp only [if_true];refine Ti (Rb _ ?_);simp only [TH,if_false];exact tail _ (I1.plain false) rfl hL rfl
 ·refine .inr ⟨⟨i,hl,hi,e1,e2⟩,?_⟩
  exact Tn (h1 ⟨i,hi,e1,e2⟩)
end
end bV
namespace PySem
theorem typeCall_set_1 (v:Ts):checkTypeCall "set" ⟨[v],[]⟩=pure ():=by kernel_rfl
theorem newCall_set_1 (v:Ts):checkBuiltinCall "set.__new__" ⟨[.type "set",v],[]⟩=pure ():=by kernel_rfl
theorem sub_list_set:isSubtype (.type "list") (.type "set")=pure false:=by rw [isSubtype_type];kernel_rfl
theorem sub_list_frozenset:isSubtype (.type "list") (.type "frozenset")=pure false:=by rw [isSubtype_type];kernel_rfl
section
variable {prog:UU} {w:VL} {A:Ux} {E:Ts->Tv->Prop} {s:Tv}
theorem nh {v:Ts} {Q₁:Ts->Tv->Prop}
  (h:Q₁ (.ref s.heap.objs.size) { s with heap:=s.heap.push { cls:=.type "set",dict:=none,data:=.set #[] 0 (.fresh 0 0 (!w.params.followText "set-order")) } }) :
  codeAny (model prog w) A (.call (.builtin "set.__new__") ⟨[.type "set",v],[]⟩) (wants Q₁ E) s:=by
 refine codeAny_of_tree ?_;show TR _ A.in1 (do checkBuiltinCall "set.__new__" ⟨[.type "set",v],[]⟩;again (.builtin "set.__new__" ⟨[.type "set",v],[]⟩)) _ _ s
 refine Ti (wpAny_of_eq (newCall_set_1 v) (Tn ⟨plainId_quiet F.plain_set_new _,codeAny_builtin F.entry_set_new ?_⟩));rw [UY F.plain_set_new _];unfold Builtin.«set.__new__» Builtin.Frozenset.newClass;have BE:=sub_set_self
 obtain⟨hp,g,d,tk,os⟩:=s;dsimp only
 wp_walk
 refine wpAny_askSetting (Tn ?_);dsimp only;simp only [newObj];refine Ti (wpAny_alloc (Tn ?_));exact Tn h
theorem km {M:Model} {self v:Ts} {Q:Unit->Tv->Prop} (hT:s.TypeIs self "set") (hQ:Q () s) :
  TR M A (checkBuiltinCall "set.__init__" ⟨[self,v],[]⟩) Q E s:=by
 simp only [checkBuiltinCall,kind_set_init,split_set_init,sig_set_init];refine Ti (wpAny_isInstance hT sub_set_self ?_);simp only [VC,TH,if_false];unfold Bind.checkArgs;dsimp only;refine Ti (m:=Bind.printed "set" true _ _) (PyProof.Rows.printed_name (by decide) ?_);refine Ti (m:=Bind.printed "*" false _ _) (PyProof.Rows.printed_star (self:=self) rfl hT fun short=>?_);have Rd:(YU == YV)=false:=by decide
 have hn:(if (YU == YV)=true then [self,v].length else [self,v].length - 1)=1:=by simp [Rd]
 rw [hn];simp only [UB];have hc:Bind.check ⟨.positional,"set","*",.self,[⟨"iterable",.posOnly,false⟩]⟩ "set" short 1 []=pure ():=by
  have hp:(XM == XM)=true:=by decide
  simp [Bind.check,Bind.checkCount,Bind.isPositional,hp]
 rw [hc];exact Tn hQ
set_option maxHeartbeats 1000000 in
theorem sZ {l:Ug} {items:Array Ts} {Q:Ts->Tv->Prop} (hl:s.heap.IsList l items)
  {led:Bool} (MB:led = !w.params.followText "set-order") (h:codeAny (model prog w) A.in1.in1 (.builtin "set.update.loop" ⟨[.ref s.heap.objs.size,.ref (s.heap.objs.size+1)],[]⟩) (wants (fun _ s'=>Q (.ref s.heap.objs.size) s') E)
   { s with heap:=(s.heap.push { cls:=.type "set",dict:=none,data:=.set #[] 0 (.fresh 0 0 led) }).push { cls:=.type "list_iterator",data:=.fields #[.ref l,.int 0 0] } }) :
  TR (model prog w) A (call (.type "set") [.ref l]) Q E s:=by
 obtain⟨c,tl,Rf⟩:=Wq.mro;have hmade:=Wq.made
 have BE:=Wq.sub;refine wpAny_call (codeAny_of_tree ?_);show TR _ _ (callAny (.type "set") _) _ _ _
 refine Tn ⟨Code.quiet_builtin _ (by decide +kernel),codeAny_builtin F.entry_type_call ?_⟩;rw [Around.under_plain (weight_type_call_type "set" [.ref l] []) rfl];have h1:=Wq.notType
 have h2:=Wq.canCreate;have EU:=typeCall_set_1 (.ref l)
 repeat (any_goals (first|assumption|wp_step))
 refine codeAny_mono (nh (E:=E) (Q₁:=fun obj s₁=>obj=.ref s.heap.objs.size/\s₁={ s with heap:=s.heap.push { cls:=.type "set",dict:=none,data:=.set #[] 0 (.fresh 0 0 led) } }) ⟨rfl,by rw [MB]⟩) fun r s₁ hr=>?_
 cases r with
 | error e=>exact hr
 | ok fl =>
  cases fl with
  | ret obj =>
   obtain⟨rfl,rfl⟩:=hr;have hS:(s.heap.push { cls:=.type "set",dict:=none,data:=.set #[] 0 (.fresh 0 0 led) }).get? s.heap.objs.size=some { cls:=.type "set",dict:=none,data:=.set #[] 0 (.fresh 0 0 led) }:=Tt _ rfl
   have hT:Xw { s with heap:=s.heap.push { cls:=.type "set",dict:=none,data:=.set #[] 0 (.fresh 0 0 led) } } (.ref s.heap.objs.size) "set":=⟨_,hS,rfl⟩;have S3:=Wq.init.lookup
   have S4:=Wq.init.bind (.ref s.heap.objs.size)
   repeat (any_goals (first|assumption|wp_step))
   refine codeAny_mono (codeAny_call_builtin (R:=wants (fun r s₂=>r=.none/\Q (.ref s.heap.objs.size) s₂) E) Wq.init.plain F.entry_set_init (km hT ?_)) fun r₂ s₂ MC=>?_
   ·unfold Builtin.«set.__init__» noKeywords
    have hl':(s.heap.push { cls:=.type "set",dict:=none,data:=.set #[] 0 (.fresh 0 0 led) }).IsList l items:=by obtain⟨o,ho,r⟩:=hl;exact⟨o,Tj _ ho,r⟩
    have S5:Xw { s with heap:=s.heap.push { cls:=.type "set",dict:=none,data:=.set #[] 0 (.fresh 0 0 led) } } (.ref l) "list":=hl'.typeIs;have MD:=sub_list_set
    have rL:=sub_list_frozenset;have L9:∀{A':Ux} {Q':Ts->Tv->Prop} {E':Ts->Tv->Prop},Q' (.ref (s.heap.objs.size+1)) { s with heap:=(s.heap.push { cls:=.type "set",dict:=none,data:=.set #[] 0 (.fresh 0 0 led) }).push { cls:=.type "list_iterator",data:=.fields #[.ref l,.int 0 0] } } ->
      TR (model prog w) A' (pyIter (.ref l)) Q' E' { s with heap:=s.heap.push { cls:=.type "set",dict:=none,data:=.set #[] 0 (.fresh 0 0 led) } }:=fun {A' Q' E'} hq=>by
     have e:(s.heap.push { cls:=.type "set",dict:=none,data:=.set #[] 0 (.fresh 0 0 led) }).objs.size=s.heap.objs.size+1:=UM _ _;refine wpAny_pyIter_list (s:={ s with heap:=s.heap.push { cls:=.type "set",dict:=none,data:=.set #[] 0 (.fresh 0 0 led) } }) hl' ?_;show Q' (.ref (s.heap.push _).objs.size) _
     rw [e];exact hq
    wp_walk using L9
    refine codeAny_mono h fun r3 s3 ME=>?_
    cases r3 with
    | error e=>exact ME
    | ok f3 =>
     cases f3 with
     | ret v3=>exact Tn (Tn ⟨rfl,ME⟩)
     | _=>exact ME.elim
   ·cases r₂ with
    | error e=>exact MC
    | ok Rg =>
     cases Rg with
     | ret r =>
      obtain⟨rfl,hq⟩:=MC
      repeat (any_goals (first|assumption|wp_step))
     | _=>exact MC.elim
  | _=>exact hr.elim
end
end PySem
namespace PySem.F
theorem ba:Slot "set_iterator" "__next__" "set_iterator.__next__" :=
 .of (owner:="set_iterator") (n:="__next__") (by rw [typeLookup_type,builtinLookup_eq_fast];kernel_rfl) (by decide +kernel) (by decide +kernel) (by decide +kernel)
  (by first|exact .inl (by decide +kernel)|exact .inr (by decide +kernel)) (by rw [isSubtype_type];kernel_rfl)
theorem gG:entryFor table "set_iterator.__next__"=some Builtin.«set_iterator.__next__»:=entryFor_of_tree (by kernel_rfl)
theorem gS (a:Ts):argsOk "set_iterator.__next__" ⟨[a],[]⟩:=by unfold argsOk;kernel_rfl
theorem gT:Slot "set_iterator" "__iter__" "set_iterator.__iter__" :=
 .of (owner:="set_iterator") (n:="__iter__") (by rw [typeLookup_type,builtinLookup_eq_fast];kernel_rfl) (by decide +kernel) (by decide +kernel) (by decide +kernel)
  (by first|exact .inl (by decide +kernel)|exact .inr (by decide +kernel)) (by rw [isSubtype_type];kernel_rfl)
theorem kq:entryFor table "set_iterator.__iter__"=some Builtin.«dict_keyiterator.__iter__» :=
 entryFor_alias (id':="dict_keyiterator.__iter__") (by kernel_rfl) rfl (by decide +kernel) (by kernel_rfl)
theorem lW (a:Ts):argsOk "set_iterator.__iter__" ⟨[a],[]⟩:=by unfold argsOk;kernel_rfl
theorem kr:entryFor table "set.__iter__"=some Builtin.«frozenset.__iter__» :=
 entryFor_alias (id':="frozenset.__iter__") (by kernel_rfl) rfl (by decide +kernel) (by kernel_rfl)
end PySem.F
namespace bV
open PySem
theorem lX {α:Type} {l:List α} {i:Nat} (h:i<l.length):(l[i]::l.eraseIdx i).Perm l:=by
 rw [List.eraseIdx_eq_take_drop_succ];have e:l=l.take i++l[i]::l.drop (i+1):=by rw [List.getElem_cons_drop,Wo]
 conv=>rhs;rw [e]
 exact List.perm_middle.symm
theorem uG {α:Type} (next:Nat->Nat):∀(n k:Nat) (left:List α) (out:Array α),left.length=n->(pickOrder.go next n k left out).toList.Perm (out.toList++left)
 | 0,k,left,out,h=>by
  have:left=[]:=Yz.mp h;subst this;rw [T4];exact .refl _
 | n+1,k,left,out,h=>by
  have hi:next k % left.length<left.length:=Xc _ (by omega)
  unfold pickOrder.go;rw [Ge9 hi];dsimp only;refine(uG next n (k+1) _ _ (by rw [XN hi];omega)).trans ?_;rw [Yg,T8];exact(lX hi).append_left _
theorem nO {α:Type} (next:Nat->Nat) (xs:Array α):(pickOrder next xs).toList.Perm xs.toList:=by
 have z:=uG next xs.size 0 xs.toList #[] (by simp)
 simpa [pickOrder] using z
section
variable {M:Model} {A:Ux} {E:Ts->Tv->Prop} {s:Tv}
theorem wc {src:Source} {n:Nat} {Q:Nat->Tv->Prop} (hn:n≠0) (h:∀k dr,k<n->Q k { s with drawn:=dr }):TR M A (choose src n) Q E s :=
 fun _ _ _=>⟨hn,h _ _ (Xc _ (Nat.pos_of_ne_zero hn))⟩
theorem uH {α:Type}:∀(n:Nat) (xs:List α) (s:Tv) (Q:List α->Tv->Prop),xs.length=n->(∀l dr,l.Perm xs->Q l { s with drawn:=dr })->TR M A (drawOrder n xs) Q E s
 | 0,xs,s,Q,h,hQ=>by
  have:xs=[]:=Yz.mp h;subst this;exact Tn (hQ [] s.drawn (.refl _))
 | n+1,[],s,Q,h,hQ=>by cases h
 | n+1,x::xs,s,Q,h,hQ=>by
  unfold drawOrder;refine Ti (wc (by simp) fun k dr hk=>?_);rw [Ge9 hk];dsimp only;refine Ti (uH n _ _ _ (by rw [XN hk];omega) fun l Rh hp=>Tn ?_);exact hQ _ Rh ((hp.cons _).trans (lX hk))
end
noncomputable def eU (h:Heap) (I a:Ug) (first:Ts) (i n ep:Nat):Prop:=∃o,h.get? I=some o/\o.cls=.type "set_iterator"/\o.data=.fields #[first,.int i 0,.ref a,.int n 0,.int ep 0]
noncomputable def cW (h:Heap) (a:Ug) (es:Array (Int × Ts)) (ep:Nat) (t:Um):Prop:=∃o,h.get? a=some o/\o.cls=.type "set"/\o.data=.set es ep t
noncomputable def Way (w:VL) (h:Heap) (a:Ug) (es:Array (Int × Ts)) (ep:Nat) (t:Um) (pl:List Nat) (T:Ug) (ord:List Ts) (i:Nat) (first:Ts):Prop :=
 (w.params.followText "set-order"=true/\first=.int 0 0/\ord=(pickOrder (w.params.setOrder a ep) es).toList.map (·.2)) \/
 (w.params.followText "set-order"=false/\first=.ref T/\h.IsTuple T (pl.map fun(j:Nat)=>ZA j 0).toArray/\pl.Perm (UE es.size)/\ord=pl.map fun j=>(es.getD j (0,.none)).2) \/
 (w.params.followText "set-order"=false/\t.led=true/\es.size<=1/\ord=es.toList.map (·.2)/\((i=0/\first=.int 0 0)\/(i=1/\∃k:Nat,first=.int k 0/\∀j,j<t.place.size->t.place.getD j 0<k)))
section
variable {prog:UU} {w:VL} {A:Ux} {E:Ts->Tv->Prop} {s:Tv} {I a T:Ug} {first:Ts} {i ep:Nat} {es:Array (Int × Ts)} {t:Um} {pl:List Nat} {ord:List Ts}
theorem eU.typeIs {h:Heap} {n:Nat} (x:eU s.heap I a first i n ep):s.TypeIs (.ref I) "set_iterator":=let ⟨o,ho,hc,_⟩:=x;⟨o,ho,hc⟩
theorem iT {Q:Array (Int × Ts)->Tv->Prop} (hS:cW s.heap a es ep t) (hf:t.fits es.size=true) (h:Q es s):TR (model prog w) A (setEntries a) Q E s:=by
 obtain⟨o,ho,_,hd⟩:=hS;unfold setEntries;exact Ti (Ut ho hd hf (Tn h))
theorem dz {Q:Bool->Tv->Prop} (h:Q (w.params.followText "set-order") s):TR (model prog w) A setsByText Q E s:=by
 unfold setsByText;exact Ti (wpAny_askSetting (Tn h))
theorem oX (W:Way w s.heap a es ep t pl T ord i first):ord.length=es.size:=by
 rcases W with⟨_,_,e⟩|⟨_,_,_,p,e⟩|⟨_,_,_,e,_⟩
 ·rw [e,Lm9,(nO _ es).length_eq,U3]
 ·rw [e,Lm9,p.length_eq,Wx]
 ·rw [e,Lm9,U3]
theorem range_getD (es:Array (Int × Ts)):∀n,n<=es.size->(UE n).map (fun j=>(es.getD j (0,.none)).2)=(es.toList.take n).map (·.2):=fun n hn=>by
 apply Vj (by simp;omega);intro j h1 h2;have hj:j<es.size:=by simp at h1;omega
 simp [hj]
theorem yA (W:Way w s.heap a es ep t pl T ord i first):ord.Perm (es.toList.map (·.2)):=by
 rcases W with⟨_,_,e⟩|⟨_,_,_,p,e⟩|⟨_,_,_,e,_⟩
 ·rw [e];exact(nO _ es).map _
 ·rw [e]
  have z:=p.map (fun j=>(es.getD j (0,U2)).2);rw [range_getD es es.size (TK _),UA (by simp)] at z;exact z
 ·rw [e]
theorem Fg {h:Heap} {n:Nat} (x:eU h I a first i n ep):eU (h.update I (YA (·.setIfInBounds 1 (rawInt ((i:Int)+1))))) I a first (i+1) n ep:=by
 obtain⟨o,ho,hc,hd⟩:=x;exact⟨_,U4 _ ho (Xk (VS hd _)),(Yk ..).trans hc,by rw [VS hd];simp [rawInt]⟩
theorem Fh {h:Heap} {n:Nat} {f:Ts} (x:eU h I a first i n ep):eU (h.update I (YA (·.setIfInBounds 0 f))) I a f i n ep:=by
 obtain⟨o,ho,hc,hd⟩:=x;exact⟨_,U4 _ ho (Xk (VS hd _)),(Yk ..).trans hc,by rw [VS hd];simp⟩
theorem Fi {n:Nat} {Q:Unit->Tv->Prop} (x:eU s.heap I a first i n ep) (h:Q () { s with heap:=s.heap.update I (YA (·.setIfInBounds 1 (rawInt ((i:Int)+1)))) }):TR (model prog w) A (setField (.ref I) 1 (rawInt ((i:Int)+1))) Q E s:=by
 obtain⟨o,ho,hc,hd⟩:=x;exact wpAny_setField ho hd (by simp) h
theorem Fj {n:Nat} {f:Ts} {Q:Unit->Tv->Prop} (x:eU s.heap I a first i n ep) (h:Q () { s with heap:=s.heap.update I (YA (·.setIfInBounds 0 f)) }):TR (model prog w) A (setField (.ref I) 0 f) Q E s:=by
 obtain⟨o,ho,hc,hd⟩:=x;exact wpAny_setField ho hd (by simp) h
set_option maxHeartbeats 1000000 in
theorem next_item {Q:Option Ts->Tv->Prop} (qz:pY t (es.map (·.1))) (ID:I≠T) (hIa:I≠a) (hit:eU s.heap I a first i es.size ep) (hS:cW s.heap a es ep t) (W:Way w s.heap a es ep t pl T ord i first) (hi:i<es.size)
  (hQ:∀v h' yB,ord[i]?=some v->eU h' I a yB (i+1) es.size ep->Way w h' a es ep t pl T ord (i+1) yB->Vl I s.heap h'->Q (some v) { s with heap:=h' }):TR (model prog w) A (pyNext (.ref I)) Q E s:=by
 obtain⟨o,ho,hc,hd⟩:=id hit;have hf:=qz.fits
 have oJ:=oX W;unfold pyNext;refine Ti (wpAny_attempt (wpAny_callSpecial?_slot (name:=Vd "__next__") (eU.typeIs (h:=s.heap) hit) F.ba
  (wpAny_call_entry F.ba (eU.typeIs (h:=s.heap) hit) F.gG ?_ (F.gS _))))
 unfold Builtin.«set_iterator.__next__»;refine Ti (wpAny_of_eq (a:=(Vz I,[])) rfl ?_);dsimp only;refine Ti (wpAny_fieldsOf ho hd ?_);dsimp only;refine Ti (iT hS hf ?_);rw [if_neg (by simp)];rcases id W with⟨hT,rfl,e⟩|⟨hT,rfl,hp,pp,e⟩|⟨hT,hl,h1,e,hw⟩
 ·dsimp only
  unfold setNext;obtain⟨oa,uI,_,rP⟩:=id hS;refine Ti (Ti (Ut uI rP hf ?_));dsimp only;refine Ti (dz ?_);rw [hT];simp only [if_true,V2,bne_self_eq_false,TH,if_false];unfold setWalk;refine Ti (Ti (Ut uI rP hf ?_));dsimp only;refine Ti (dz ?_);rw [hT];simp only [if_true];refine Ti (wpAny_askSetting (Tn ?_));refine Tn ?_;have Pb:i<ord.length:=by omega
  have hx:(pickOrder (w.params.setOrder a ep) es)[i]?.map (·.2)=some ord[i]:=by
   rw [<- Xi,<- TX,<- e,Ge9 Pb]
  obtain⟨y,hy,Rj⟩:=TG.mp hx;have hy':(pickOrder ({ program:=(model prog w).prog,params:=(model prog w).w.params:Setting }.params.setOrder a ep) es)[i]?=some y:=hy
  rw [hy'];dsimp only [Option.map];refine Ti (Fj hit ?_);have h0:=Fh (f:=rawInt ((ZC 0:Nat):Int)) hit
  refine Ti (Fi (s:={ s with heap:=_ }) h0 ?_);refine Tn ⟨_,rfl,Tn (hQ _ _ _ (by rw [Ge9 Pb,Rj]) (Fg h0) (.inl ⟨hT,rfl,e⟩) ((U5 ..).trans (U5 ..)))⟩
 ·dsimp only
  obtain⟨oT,IE,_,nT,MF⟩:=id hp;refine Ti (wpAny_seqItems IE MF ?_);dsimp only;have hpl:i<pl.length:=by rw [pp.length_eq,Wx];exact hi
  have hj:pl[i]<es.size:=UC.mp (pp.mem_iff.mp (TN hpl));have hx:(pl.map fun(j:Nat)=>ZA j 0).toArray[((i:Nat):Int).toNat]?=some (ZA (pl[i]:Nat) 0):=by simp [hpl]
  rw [hx];dsimp only;refine Ti ?_;unfold setNextDrawn;obtain⟨oa,uI,_,rP⟩:=id hS;refine Ti (Ut uI rP hf ?_);dsimp only;simp only [V2,bne_self_eq_false,TH,if_false,Tx hj];refine Tn ?_;refine Ti (Fi hit ?_);refine Tn ⟨_,rfl,Tn (hQ _ _ _ ?_ (Fg hit) (.inr (.inl ⟨hT,rfl,⟨oT,(Uk _ _ ID).trans IE,?_⟩,pp,e⟩)) (U5 ..))⟩
  ·subst e
   simp [hpl,hj]
  ·obtain⟨S6,IF,r⟩:=hp
   rw [IE] at IF;cases IF;exact r
 ·have Rk:i=0:=by omega
  subst Rk;rcases hw with⟨_,rfl⟩|⟨z,_⟩
  ·dsimp only
   unfold setNext;obtain⟨oa,uI,_,rP⟩:=id hS;refine Ti (Ti (Ut uI rP hf ?_));dsimp only;refine Ti (dz ?_);rw [hT];have Bp:t.place.size=es.size:=by have z:=qz.sz;rw [UO] at z;exact z
   have hb:UD t.place (ZC 0)=0:=by
    have z:=gd t.place qz.tb.ri (ZC 0);rcases Nat.eq_zero_or_pos (UD t.place (ZC 0)) with q|q
    ·exact q
    ·exact absurd (z.2.1 0 q) (Nat.not_lt_zero _)
   refine wpAny_ite_split (fun hab=>absurd hab (by decide)) fun _=>?_
   refine wpAny_ite_split (fun hab=>absurd hab (show ¬ ((!t.plain && decide (es.size > 1))=true) from by simp;omega)) fun _=>?_
   refine Ti (show TR (model prog w) A.in1 (if (!t.led && !es.isEmpty)=true then unsupported "set:maker-not-led" else pure ()) _ _ s from ?_);rw [hl];refine wpAny_ite_split (fun hab=>absurd hab (by simp)) fun _=>?_
   refine Tn (Tn ?_);rw [hb,Tx (by omega),Tx (by omega)];dsimp only;refine Ti (Fj hit ?_);have h0:=Fh (f:=rawInt ((t.place[0]'(by omega)+1:Nat):Int)) hit
   refine Ti (Fi (s:={ s with heap:=_ }) h0 ?_);refine Tn ⟨_,rfl,Tn (hQ _ _ _ ?_ (Fg h0) (.inr (.inr ⟨hT,hl,h1,e,.inr ⟨rfl,_,rfl,fun j hj=>?_⟩⟩)) ((U5 ..).trans (U5 ..)))⟩
   ·subst e
    simp [hi]
   ·have:j=0:=by omega
    subst this;simp [hj]
  ·cases z
set_option maxHeartbeats 1000000 in
theorem next_end {Q:Option Ts->Tv->Prop} (hh:A.handled=none) (qz:pY t (es.map (·.1))) (hit:eU s.heap I a first es.size es.size ep) (hS:cW s.heap a es ep t) (W:Way w s.heap a es ep t pl T ord es.size first)
  (hQ:∀h',Heap.ExtBut I s.heap h'->Q none { s with heap:=h' }):TR (model prog w) A (pyNext (.ref I)) Q E s:=by
 obtain⟨o,ho,hc,hd⟩:=id hit;have hf:=qz.fits
 have oJ:=oX W;have fin:∀(h1:Heap) (f:Ts),eU h1 I a f es.size es.size ep->Heap.ExtBut I s.heap h1->TR (model prog w) A.in1 (do
   setField (Vz I) 2 U2
   let e <- newExc (Yn "StopIteration") []
   raiseNew e:Sem PySem.Fin) (fun fin s'=>∃v,fin=PySem.Fin.done (Flow.ret v)/\TR (model prog w) A (pure (some v)) Q E s') (fun e s'=>TR (model prog w) A (do
     let b <- isInstance e (Yn "StopIteration")
     if b=true then pure none else throw e) Q E s') { s with heap:=h1 }:=fun h1 f Rm hex=>by
  obtain⟨o1,K7,S7,Rn⟩:=Rm;refine Ti (wpAny_setField (s:={ s with heap:=h1 }) K7 Rn (by simp) ?_);refine Ti ?_;simp only [newExc,newTuple];refine Ti (wpAny_newObj_type ?_ (by size_fits));refine Ti (m:=firstArgMember _ _) (wpAny_of_eq (a:=U2) (by first|rfl|(simp only [firstArgMember];rfl)) ?_);refine wpAny_newObj_type ?_ (by size_fits);simp only [raiseNew];refine Ti (wpAny_handled ?_);rw [show A.in1.handled=none from hh];refine Ti (Tn (wpAny_throw ?_));refine Ti (wpAny_isInstance (T:="StopIteration") (b:=true) ⟨_,Tt _ rfl,rfl⟩ isSubtype_stop ?_);refine Tn (hQ _ fun b ob hb MG=>?_);exact Tj _ (Tj _ ((Uk _ _ (U7 hb)).trans (hex b ob hb MG)))
 unfold pyNext;refine Ti (wpAny_attempt (wpAny_callSpecial?_slot (name:=Vd "__next__") (eU.typeIs (h:=s.heap) hit) F.ba
  (wpAny_call_entry F.ba (eU.typeIs (h:=s.heap) hit) F.gG ?_ (F.gS _))))
 unfold Builtin.«set_iterator.__next__»;refine Ti (wpAny_of_eq (a:=(Vz I,[])) rfl ?_);dsimp only;refine Ti (wpAny_fieldsOf ho hd ?_);dsimp only;refine Ti (iT hS hf ?_);rw [if_neg (by simp)];rcases id W with⟨hT,rfl,e⟩|⟨hT,rfl,hp,pp,e⟩|⟨hT,hl,h1,e,hw⟩
 ·dsimp only
  unfold setNext;obtain⟨oa,uI,_,rP⟩:=id hS;refine Ti (Ti (Ut uI rP hf ?_));dsimp only;refine Ti (dz ?_);rw [hT];simp only [if_true,V2,bne_self_eq_false,TH,if_false];unfold setWalk;refine Ti (Ti (Ut uI rP hf ?_));dsimp only;refine Ti (dz ?_);rw [hT];simp only [if_true];refine Ti (wpAny_askSetting (Tn ?_));refine Tn ?_;have hy:(pickOrder (w.params.setOrder a ep) es)[es.size]?=none:=by
   rw [XO];rw [e,Lm9,U3] at oJ;omega
  have hy':(pickOrder ({ program:=(model prog w).prog,params:=(model prog w).w.params:Setting }.params.setOrder a ep) es)[es.size]?=none:=hy;rw [hy'];exact fin s.heap _ hit fun _ _ _ z=>z
 ·dsimp only
  obtain⟨oT,IE,_,nT,MF⟩:=id hp;refine Ti (wpAny_seqItems IE MF ?_);dsimp only;have hpl:pl.length=es.size:=by rw [pp.length_eq,Wx]
  have hx:(pl.map fun(j:Nat)=>ZA j 0).toArray[((es.size:Nat):Int).toNat]?=none:=by simp [hpl]
  rw [hx];dsimp only;refine Ti (Fj hit ?_);exact fin _ _ (Fh hit) fun b ob hb MG=>(Uk _ _ (U7 hb)).trans MG
 ·have Bp:t.place.size=es.size:=by have z:=qz.sz;rw [UO] at z;exact z
  have hk:∃k:Nat,first=.int k 0/\es.size<=UD t.place k:=by
   rcases hw with⟨z,rfl⟩|⟨z,k,rfl,hk⟩
   ·exact⟨0,rfl,by omega⟩
   ·refine⟨k,rfl,?_⟩
    have q:=gd t.place qz.tb.ri k;rcases YZ (UD t.place k) es.size with y|y
    ·have:=q.2.2 (UD t.place k) (TK _) (by omega)
     have:=hk (UD t.place k) (by omega);omega
    ·exact y
  obtain⟨k,rfl,hb⟩:=hk;dsimp only;unfold setNext;obtain⟨oa,uI,_,rP⟩:=id hS;refine Ti (Ti (Ut uI rP hf ?_));dsimp only;refine Ti (dz ?_);rw [hT];refine wpAny_ite_split (fun hab=>absurd hab (by decide)) fun _=>?_
  refine wpAny_ite_split (fun hab=>absurd hab (show ¬ ((!t.plain && decide (es.size > 1))=true) from by simp;omega)) fun _=>?_
  refine Ti (show TR (model prog w) A.in1 (if (!t.led && !es.isEmpty)=true then unsupported "set:maker-not-led" else pure ()) _ _ s from ?_);rw [hl];refine wpAny_ite_split (fun hab=>absurd hab (by simp)) fun _=>?_
  refine Tn (Tn ?_);rw [V2,XO.mpr hb];exact fin s.heap _ hit fun _ _ _ z=>z
theorem BJ {n:Nat} {Q:Ts->Tv->Prop} (hit:eU s.heap I a first i n ep) (h:Q (.ref I) s):TR (model prog w) A (pyIter (.ref I)) Q E s:=by
 refine wpAny_pyIter_slot (eU.typeIs (h:=s.heap) hit) F.gT (wpAny_call_entry F.gT (eU.typeIs (h:=s.heap) hit) F.kq ?_ (F.lW _));show TR _ _ (ret (.ref I)) _ _ s
 exact Tn ⟨_,rfl,"set_iterator",_,eU.typeIs (h:=s.heap) hit,F.ba.lookup,h⟩
theorem we (hh:A.handled=none) (qz:pY t (es.map (·.1))) (ID:I≠T) (hIa:I≠a) :
  Walks prog w A I [I,a,T] [I] es.size (fun i v=>ord[i]?=some v) (fun i h=>∃first,eU h I a first i es.size ep/\cW h a es ep t/\Way w h a es ep t pl T ord i first) where
 sub:=fun b hb=>by simp at hb;simp [hb]
 frame:=fun i h h' ⟨first,⟨o,ho,r⟩,⟨o2,Hm,r2⟩,W⟩ hk=>⟨first,⟨o,hk I (by simp) o ho,r⟩,⟨o2,hk a (by simp) o2 Hm,r2⟩,by
  rcases W with z|⟨z1,z2,⟨o3,Ro,r3⟩,z4⟩|z
  ·exact .inl z
  ·exact .inr (.inl ⟨z1,z2,⟨o3,hk T (by simp) o3 Ro,r3⟩,z4⟩)
  ·exact .inr (.inr z)⟩
 item:=fun i s Q E hi ⟨first,hit,hS,W⟩ hQ=>next_item qz ID hIa hit hS W hi fun v h' f' hv hit' W' sb=>by
  obtain⟨o2,Hm,r2⟩:=hS;exact hQ v h' s.toks hv ⟨f',hit',⟨o2,(sb.2 a (U7 hIa)).trans Hm,r2⟩,W'⟩ fun b o hb ho=>(sb.2 b (by simpa using hb)).trans ho
 done:=fun s Q E ⟨first,hit,hS,W⟩ hQ=>next_end hh qz hit hS W fun h' hx=>hQ h' s.toks fun b o hb ho=>hx b o (by simpa using hb) ho
 self:=fun i s Q E ⟨first,hit,hS,W⟩ h=>BJ hit h
end
section
variable {prog:UU} {w:VL} {A:Ux} {E:Ts->Tv->Prop} {s:Tv} {a:Ug} {ep:Nat} {es:Array (Int × Ts)} {t:Um}
theorem cW.push {h:Heap} (x:cW h a es ep t) (o:Obj):cW (h.push o) a es ep t:=let ⟨o',ho,r⟩:=x;⟨o',Tj _ ho,r⟩
set_option maxHeartbeats 1000000 in
theorem BK {Q:Ts->Tv->Prop} (qz:pY t (es.map (·.1))) (hS:cW s.heap a es ep t) (hl:t.led = !w.params.followText "set-order") (hp:1<=es.size->t.plain=false) (hsz:es.size<1000)
  (hQ:∀I T first pl ord h' dr,s.heap.objs.size<=I->s.heap.objs.size<=T->I≠T->(∀b o,s.heap.get? b=some o->h'.get? b=some o)->eU h' I a first 0 es.size ep->cW h' a es ep t->Way w h' a es ep t pl T ord 0 first->Q (.ref I) { s with heap:=h',drawn:=dr }) :
  TR (model prog w) A (pyIter (.ref a)) Q E s:=by
 obtain⟨o,ho,hc,hd⟩:=id hS;have hT:s.TypeIs (.ref a) "set":=⟨o,ho,hc⟩
 have hf:=qz.fits;refine wpAny_pyIter_slot hT F.slot_set_iter (wpAny_call_entry F.slot_set_iter hT F.kr ?_ (F.args_set_iter_1 _));unfold Builtin.«frozenset.__iter__»;refine Ti (wpAny_of_eq (a:=a) rfl ?_);dsimp only;refine Ti (m:=Builtin.Frozenset.sizeOf a) (show TR _ _ (setEntries a >>= fun es=>pure es.size) _ _ _ from Ti (iT hS hf (Tn ?_)));refine Ti (m:=setDrawn a) (show TR _ _ (setState a >>= fun q=>setsByText >>= fun b=>pure (!b && (!q.2.2.plain && decide (q.1.size > 1)))) _ _ _ from Ti (Ut ho hd hf (Ti (dz (Tn ?_)))));have Pc:∀{A':Ux} {E':Ts->Tv->Prop} {s':Tv} {Q':Nat->Tv->Prop},cW s'.heap a es ep t->Q' ep s'->TR (model prog w) A' (setEpoch a) Q' E' s':=fun {A' E' s' Q'} ⟨o',ho',_,hd'⟩ q=>by
  unfold setEpoch;exact Ti (Ut ho' hd' hf (Tn q))
 by_cases hdr:(!w.params.followText "set-order" && (!t.plain && decide (es.size > 1)))=true
 ·rw [if_pos hdr]
  have h1:w.params.followText "set-order"=false:=by simpa using (Bool.and_eq_true_iff.mp hdr).1
  refine Ti (uH _ _ _ _ (Wx) fun l dr hp=>?_);have jH:l.length=es.size:=by rw [hp.length_eq,Wx]
  refine Ti (wpAny_newObj_type (T:="tuple") (data:=.seq (l.map fun(i:Nat)=>rawInt i).toArray) ?_ (by show(l.map fun(i:Nat)=>rawInt i).toArray.size<=T7;simp only [U8,Lm9];rw [Vb];omega));refine Ti (Pc (cW.push hS _) ?_);refine Ti (wpAny_newObj_type ?_ (by size_fits));refine Tn ⟨_,rfl,"set_iterator",_,⟨_,Tt _ rfl,rfl⟩,F.ba.lookup,?_⟩;have e1:∀o,(s.heap.push o).objs.size=s.heap.objs.size+1:=fun o=>UM _ _
  refine hQ _ s.heap.objs.size (.ref s.heap.objs.size) l _ _ dr (by rw [e1];omega) (TK _) (by rw [e1];omega) (fun b o q=>Tj _ (Tj _ q)) ⟨_,Tt _ rfl,rfl,rfl⟩ (cW.push (cW.push hS _) _) (.inr (.inl ⟨h1,rfl,⟨_,Tj _ (Tt _ rfl),rfl,0,rfl⟩,hp,rfl⟩))
 ·rw [if_neg hdr]
  refine Ti (Tn ?_);refine Ti (Pc hS ?_);refine Ti (wpAny_newObj_type ?_ (by size_fits));refine Tn ⟨_,rfl,"set_iterator",_,⟨_,Tt _ rfl,rfl⟩,F.ba.lookup,?_⟩;cases h1:w.params.followText "set-order" with
  | true=>exact hQ s.heap.objs.size (s.heap.objs.size+1) (.int 0 0) [] _ _ s.drawn (TK _) (by omega) (by omega) (fun b o q=>Tj _ q) ⟨_,Tt _ rfl,rfl,rfl⟩ (cW.push hS _) (.inl ⟨h1,rfl,rfl⟩)
  | false =>
   rw [h1] at hl hdr;refine hQ s.heap.objs.size (s.heap.objs.size+1) (.int 0 0) [] _ _ s.drawn (TK _) (by omega) (by omega) (fun b o q=>Tj _ q) ⟨_,Tt _ rfl,rfl,rfl⟩ (cW.push hS _) (.inr (.inr ⟨h1,hl,?_,rfl,.inl ⟨rfl,rfl⟩⟩));rcases YZ 1 es.size with q|q
   ·exfalso
    apply hdr;rw [hp (by omega)];simp [q]
   ·exact q
end
end bV
namespace bV
open PySem PySem.W PyProof.Rows
section
variable {prog:UU} {w:VL} {A:Ux} {E:Ts->Tv->Prop} {s:Tv} {a:Ug} {ep:Nat} {es:Array (Int × Ts)} {t:Um}
theorem yC {Q:Bool->Tv->Prop} (hT:s.TypeIs (.ref a) "set") (h:Q false s):TR (model prog w) A (XE (.ref a)) Q E s:=by
 unfold XE;refine Ti (wpAny_specialOf hT PySem.F.slot_set_len.lookup ?_);generalize rK:("set.__len__":String)=Rp
 wp_delta
 rw [show splitId Rp=some ("set","__len__") from by subst rK;decide +kernel];subst rK;refine Ti (wpAny_isInstance (T:="set") (b:=true) hT (by rw [isSubtype_type];kernel_rfl) ?_);refine wpAny_ite_split (fun hab=>absurd hab (by decide)) (fun _=>?_);refine wpAny_ite_split (fun _=>?_) (fun hab=>absurd (by decide +kernel) hab);refine Ti (wpAny_typeOf hT ?_);exact Tn h
theorem yD {ord:List Ts} {acc:Array Ts} (h:ItemsOf (fun i v=>ord[i]?=some v) acc ord.length):acc.toList=ord:=by
 apply X7 fun j=>?_
 rcases YZ j acc.size with hj|hj
 ·have e:acc[j]?=some acc[j]:=Tx hj
  rw [h.2 j _ e,Xi,e]
 ·rw [Vv (by simpa using hj),Vv (by have:=h.1;omega)]
theorem s9 {R:Result->Tv->Prop} (hh:A.handled=none) (qz:pY t (es.map (·.1))) (hA:cW s.heap a es ep t) (hl:t.led = !w.params.followText "set-order") (hp:1<=es.size->t.plain=false) (hsz:es.size<1000)
  (S:Ug) (Pd:S≠a) (res:Ts) (c₀:Nat) (hS:s.heap.get? S=some { cls:=.type "list",data:=.seq #[] c₀ })
  (hR:∀h' tk dr dZ c',(∀b o,b≠S->s.heap.get? b=some o->h'.get? b=some o)->h'.get? S=some { cls:=.type "list",dict:=none,data:=.seq dZ c',slots:=#[] }->dZ.toList.Perm (es.toList.map (·.2))->R (.ok (.ret res)) { s with heap:=h',toks:=tk,drawn:=dr }) :
  TR (model prog w) A.in1 (Wr (.ref S) (.ref a) res)
   (fun fin s'=>match fin with|.done f=>R (.ok f) s'|.again c'=>c'.quiet=true/\codeAny (model prog w) A c' R s') (fun e s'=>R (.error e) s') s:=by
 have hn:es.size<=T7:=by rw [Vb];omega
 have IG:s.TypeIs (.ref a) "set":=let ⟨o,ho,hc,_⟩:=hA;⟨o,ho,hc⟩
 unfold Wr;refine Ti (wpAny_typeOf (T:="set") IG ?_);have h1:Yo (.ref S) (.ref a)=false:=by simp [Yo,Pd]
 have h2:(Yn "set" == Yn "list")=false:=by decide
 have h3:(Yn "set" == Yn "tuple")=false:=by decide
 simp only [h1,h2,h3,Bool.or_false,TH,if_false];refine Ti (BK qz hA hl hp hsz fun I T first pl ord h1 dr hI hT ID kp hit MH W=>?_);have Pe:=T3 hS
 have MI:S≠I:=Ub (Uc Pe hI);have Rr:S≠T:=Ub (Uc Pe hT)
 have hIa:I≠a:=by
  obtain⟨o,ho,_⟩:=hA;exact UP (Uc (T3 ho) hI)
 have Pf:=we (prog:=prog) (A:=A.in1) (w:=w) (ep:=ep) (pl:=pl) (ord:=ord) (T:=T) hh qz ID hIa;have oJ:=oX (s:={ s with heap:=h1 }) W
 have MJ:=yA (s:={ s with heap:=h1 }) W;have hS1:=kp S _ hS
 have Pg:S∉[I,a,T]:=by simp only [TJ,U6,or_false,not_or];exact⟨MI,Pd,Rr⟩
 have key:∀(h:Heap) (c₁ tk:Nat),(∃first,eU h I a first 0 es.size ep/\cW h a es ep t/\Way w h a es ep t pl T ord 0 first)->(∀b o,b≠S->s.heap.get? b=some o->h.get? b=some o) ->
   h.get? S=some { cls:=.type "list",data:=.seq #[] c₁ }->codeAny (model prog w) A (.builtin "list.extend.loop" ⟨[.ref S,.ref I,res],[]⟩) R { s with heap:=h,toks:=tk,drawn:=dr }:=by
  intro h c₁ tk mQ hk MK;refine codeAny_extend_loopS Pf.toS hn S Pg res es.size 0 _ #[] c₁ rfl (Uj _) mQ MK (ItemsOf.nil _) fun s' dZ c' hm hS' lN=>?_
  rw [Moved.eq_with hm];refine hR s'.heap s'.toks dr dZ c' (fun b o hb e=>hm.heap b o (fun hmem=>?_) (hk b o hb e)) hS' ?_
  ·rcases TJ.mp hmem with e'|hmem
   ·exact hb e'
   ·exact absurd (T3 e) (by rw [TY.mp hmem];exact Nat.not_lt.mpr hI)
  ·rw [<- oJ] at lN
   rw [yD lN];exact MJ
 refine Ti (wpAny_holding (yC (s:={ s with heap:=h1,drawn:=dr }) (let ⟨o,ho,hc,_⟩:=MH;⟨o,ho,hc⟩) ?_));refine wpAny_ite_split (fun _=>?_) (fun _=>Tn ⟨plainId_quiet X6 _,key _ c₀ s.toks ⟨first,hit,MH,W⟩ (fun b o _ e=>kp b o e) hS1⟩);refine Ti (wpAny_rule ?_);refine Ti ?_;show TR _ _ (updateSeq S (·.push .none) >>= fun _=>updateSeq S (·.pop)) _ _ _
 refine Ti (wpAny_updateSeq (s:={ s with heap:=h1,drawn:=dr }) hS1 rfl ?_);have Ph:=U4 (U9 (·.push U2)) hS1 rfl
 refine wpAny_updateSeq (s:={ s with heap:=h1.update S (U9 (·.push U2)),drawn:=dr }) (hz:=by seq_fits) Ph rfl ?_;have Rt:=U4 (U9 (·.pop)) Ph rfl
 refine Tn ⟨plainId_quiet X6 _,key _ _ s.toks ?_ (fun b o hb e=>?_) Rt⟩
 ·refine Pf.frame 0 _ _ ⟨first,hit,MH,W⟩ fun b hb o e=>?_
  have Pj:b≠S:=fun h=>Pg (h ▸ hb)
  exact(Uk _ _ (U7 Pj)).trans ((Uk _ _ (U7 Pj)).trans e)
 ·exact(Uk _ _ (U7 hb)).trans ((Uk _ _ (U7 hb)).trans (kp b o e))
theorem qA {R:List Ts->Tv->Prop} {ld:Bool} (hh:A.handled=none) (hS:SI ld s.heap a es) (hl:ld = !w.params.followText "set-order") (hsz:es.size<1000)
  (h:∀h' tk dr acc,(∀b o,s.heap.get? b=some o->h'.get? b=some o)->acc.Perm (es.toList.map (·.2))->R acc { s with heap:=h',toks:=tk,drawn:=dr }):TR (model prog w) A (collect (.ref a)) R E s:=by
 obtain⟨oa,ep,t,uI,hex,rP,qz,_,_,_,_,hL,hP⟩:=hS;have hA:cW s.heap a es ep t:=⟨oa,uI,hex.1,rP⟩
 unfold collect;refine Ti (wpAny_runValue (codeAny_builtin entry_proto_collect' ?_));rw [UY PySem.F.plain_proto_collect _];show TR _ A.in1 (newList [] >>= fun l=>again (.builtin "list.__iadd__" ⟨[l,.ref a],[]⟩)) _ _ s
 refine Ti (wpAny_newObj_type ?_);refine Tn ⟨plainId_quiet YB _,codeAny_builtin entry_list_iadd' ?_⟩;rw [UY YB _];have MK:(s.heap.push { cls:=.type "list",data:=.seq ([]:List Ts).toArray }).get? s.heap.objs.size=some { cls:=.type "list",data:=.seq #[] }:=Tt _ rfl
 show TR _ A.in1 (Wr (.ref s.heap.objs.size) (.ref a) (.ref s.heap.objs.size)) _ _ _;have key:=s9 (A:=A) (w:=w) (prog:=prog) (s:={ s with heap:=s.heap.push { cls:=.type "list",data:=.seq ([]:List Ts).toArray } })
  (R:=fun(q:Result) (s':Tv)=>∃(h':Heap) (tk:Nat) (dr:_) (dZ:Array Ts) (c':Nat),q=.ok (.ret (.ref s.heap.objs.size))/\s'={ s with heap:=h',toks:=tk,drawn:=dr } /\
   (∀b o,s.heap.get? b=some o->h'.get? b=some o)/\h'.get? s.heap.objs.size=some { cls:=.type "list",dict:=none,data:=.seq dZ c',slots:=#[] }/\dZ.toList.Perm (es.toList.map (·.2)))
  hh qz (cW.push hA _) (hL.trans hl) hP hsz s.heap.objs.size (UP (T3 uI)) (.ref s.heap.objs.size) 0 MK
  (fun h' tk dr dZ c' hk hS' lN=>⟨h',tk,dr,dZ,c',rfl,rfl,fun b o e=>hk b o (Ub (T3 e)) (Tj _ e),hS',lN⟩)
 refine wpAny_mono key (fun fin s' x=>?_) fun e s' x=>?_
 ·cases fin with
  | done f =>
   obtain⟨h',tk,dr,dZ,c',e,rfl,hk,hS',lN⟩:=x;cases e;show TR _ A (load s.heap.objs.size >>= _) _ _ _
   refine Ti (wpAny_load hS' ?_);exact Tn (h h' tk dr _ hk lN)
  | again c₁ =>
   refine⟨x.1,codeAny_mono x.2 fun q s₂ y=>?_⟩;obtain⟨h',tk,dr,dZ,c',rfl,rfl,hk,hS',lN⟩:=y;show TR _ A (load s.heap.objs.size >>= _) _ _ _
   refine Ti (wpAny_load hS' ?_);exact Tn (h h' tk dr _ hk lN)
 ·obtain⟨_,_,_,_,_,e',_⟩:=x
  cases e'
end
end bV
namespace M
open PySem PySem.Spec PyProof.Rows L2 bV
section
variable {P:UU} {w:VL} {A:Ux} {E:Ts->Tv->Prop}
theorem cG.yE:∀(n m:Nat) {A:Ux} {E:Ts->Tv->Prop} {s:Tv} {t:T} {u:Ts},kd n t=true->n<=m->cG s.heap t u->TR (model P w) A (ofAClassStatement m u) (fun b s'=>b=false/\s'=s) E s
 | 0,_,_,_,_,t,_,hk,_,_=>(EL hk).elim
 | n+1,m,A,E,s,t,u,hk,hm,k=>by
  cases k with
  | int i t=>cases m with
   | zero=>omega
   | succ m=>exact Tn ⟨rfl,rfl⟩
  | str z t=>cases m with
   | zero=>omega
   | succ m=>exact Tn ⟨rfl,rfl⟩
  | tup ho hc hd hl hi =>
   rename_i a o its nn xs;have IG:s.TypeIs (.ref a) "tuple":=⟨o,ho,hc⟩
   obtain⟨m,rfl⟩:∃k,m=k+1:=⟨m - 1,by omega⟩;unfold ofAClassStatement;refine Ti (wpAny_typeOf IG ?_);dsimp only;simp only [beq_self_eq_true,if_true];refine Ti (Tn ?_);simp only [VC,TH,if_false];refine Ti (wpAny_seqItems ho hd ?_);dsimp only;refine Ti ?_;show TR _ _ (forIn its _ _) _ _ s
   rw [<- WY];refine wpAny_forIn_list _ (fun rest r s'=>r.1=none/\s'=s/\∀v∈rest,v∈its) _ ?_ ?_ _ _ ⟨rfl,rfl,fun v hv=>by simpa using hv⟩
   ·rintro v rest r s' ⟨hr,rfl,hall⟩
    obtain⟨i,wG,rfl⟩:=VA (hall v To);have ex:=Ge9 (l:=xs) (i:=i) (by omega)
    refine Ti (wpAny_mono (cG.yE n m (gC hk ex) (by omega) (hi i _ _ ex (Tx wG))) (fun b Bc hb=>?_) fun _ _ e=>e);obtain⟨rfl,rfl⟩:=hb;simp only [TH,if_false];exact Tn ⟨rfl,rfl,fun u gP=>hall u (Tp _ gP)⟩
   ·rintro⟨r1,r2⟩ s' ⟨hr,rfl,_⟩
    simp only at hr;subst hr;exact Tn ⟨rfl,rfl⟩
theorem cG.IH {s:Tv} {t:T} {u:Ts} {Q:Bool->Tv->Prop} (hh:pW t=true) (k:cG s.heap t u) (q:Q false s):TR (model P w) A (hashByValue 8 u) Q E s:=by
 unfold pW at hh;split at hh
 ·rename_i z r
  cases k with
  | tup ho hc hd hl hi =>
   rename_i a o its nn;have IG:s.TypeIs (.ref a) "tuple":=⟨o,ho,hc⟩
   unfold hashByValue;refine Ti (wpAny_specialOf IG Wd.lookup ?_);show TR _ _ (seqItems? (.ref a) >>= _) _ _ s
   refine Ti (wpAny_seqItems ho hd ?_);refine Ti ?_;have vX:0<its.size:=by simp at hl;omega
   have k0:=hi 0 (.str z) its[0] rfl (Tx vX);obtain⟨l⟩:=its;cases l with
   | nil=>simp at vX
   | cons v vs =>
    have k0:cG s.heap (.str z) v:=k0;cases k0;show TR _ _ (forIn (Xh _ _::vs).toArray _ _) _ _ s
    rw [<- WY];simp only [Wi];exact Ti (Ti (Tn (by simp only [Wb,if_true];exact Tn (Tn (Tn q)))))
 ·cases hh
theorem cG.seen {n:Nat} (hn:n<=8) {s:Tv} {t:T} {u:Ts} {Q:Bool->Tv->Prop} (hk:kd n t=true) (k:cG s.heap t u) :
  ∀(stored:List Ts),(∀v∈stored,∃b,kd n b=true/\cG s.heap b v)->Q false s->TR (model P w) A (searchCouldBeSeen u stored) Q E s:=by
 intro stored mQ q;unfold searchCouldBeSeen;refine Ti ?_;refine wpAny_forIn_list _ (fun rest rr s'=>s'=s/\rr.1=none/\∀v∈rest,v∈stored) _ ?_ ?_ _ _ ⟨rfl,rfl,fun v hv=>hv⟩
 ·rintro v rest rr s' ⟨rfl,hr,hm⟩
  obtain⟨b,hb,k2⟩:=mQ v (hm v (by simp));dsimp only;split;all_goals split
  any_goals exact Tn ⟨rfl,rfl,fun z hz=>hm z (by simp [hz])⟩
  all_goals
   refine Ti (wpAny_mono (cG.quiet n 8 hk hn k) (fun b Bc hb=>?_) fun _ _ e=>e);obtain⟨rfl,rfl⟩:=hb;simp only [VC,TH,if_false];refine Ti (wpAny_mono (cG.quiet n 8 hb hn k2) (fun b Bc hb=>?_) fun _ _ e=>e);obtain⟨rfl,rfl⟩:=hb;simp only [VC,TH,if_false];refine Ti (wpAny_mono (cG.yE n 8 hk hn k) (fun b Bc hb=>?_) fun _ _ e=>e);obtain⟨rfl,rfl⟩:=hb;simp only [TH,if_false];refine Ti (wpAny_mono (cG.yE n 8 hb hn k2) (fun b Bc hb=>?_) fun _ _ e=>e);obtain⟨rfl,rfl⟩:=hb;simp only [TH,if_false];exact Tn ⟨rfl,rfl,fun z hz=>hm z (by simp [hz])⟩
 ·rintro⟨r1,r2⟩ s' ⟨rfl,hr,_⟩
  simp only at hr;subst hr;exact Tn q
end
noncomputable def Ht (w:VL) (g:G) (es:List (Int × Ts)) (tr:List T):Prop:=Paired (fun(e:Int × Ts) (t:T)=>e.1=hT w t/\kd 6 t=true/\RT g none t e.2) es tr
theorem j6 {α β:Type} {F:α->β->Prop} {l l':List α} (p:l'.Perm l):∀{m:List β},Paired F l m->∃m',m'.Perm m/\Paired F l' m':=by
 induction p with
 | nil=>intro m h;exact⟨m,.refl _,h⟩
 | cons x _ ih =>
  intro m h;cases h with
  | cons r t=>obtain⟨m',h1,h2⟩:=ih t;exact⟨_::m',h1.cons _,.cons r h2⟩
 | swap x y l =>
  intro m h;cases h with
  | cons r t=>cases t with
   | cons r2 t2=>exact⟨_,.swap _ _ _,.cons r2 (.cons r t2)⟩
 | trans _ _ ML MM =>
  intro m h;obtain⟨m1,a1,a2⟩:=MM h;obtain⟨m2,b1,b2⟩:=ML a2;exact⟨m2,b1.trans a1,b2⟩
theorem BL {l:Bool} {h h':Heap} {a b:Ug} {es:Array (Int × Ts)} (S:bV.SI l h a es) (hs:Vl b h h') (hab:a≠b):bV.SI l h' a es:=by
 obtain⟨o,ep,t,ho,r⟩:=S;exact⟨o,ep,t,(hs.2 a hab).trans ho,r⟩
theorem nP:entryFor table "set.update.loop"=some Builtin.«set.update.loop»:=entryFor_of_tree (by kernel_rfl)
theorem jP:plainId "set.update.loop"=true:=by decide +kernel
theorem yF {h:Heap} {a:Ug} {ld:Bool} (e:h.get? a=some { cls:=.type "set",dict:=none,data:=.set #[] 0 (.fresh 0 0 ld) }):bV.SI ld h a #[] :=
 ⟨_,0,.fresh 0 0 ld,e,⟨rfl,rfl,rfl⟩,rfl,⟨⟨fun i j _ hj=>absurd hj (by simp [WL]),rfl⟩,by simp [WL],fun i hi=>absurd hi (by simp [WL]),by simp,⟨3,rfl⟩,fun i hi=>absurd hi (by simp)⟩,by simp [WL],by simp [WL],by simp [WL],fun i hi=>absurd hi (by simp),rfl,fun z=>absurd z (by simp)⟩
section
variable {X:Cx} {pins:aX} {φ:Fr} {g:G} {L L':aa} {s:Tv} {a it l:Ug} {es:Array (Int × Ts)} {tr ts:List T} {its:List Ts} {t:T} {u:Ts} {ld:Bool}
theorem MN {A:Ux} {E:Ts->Tv->Prop} {Q:Bool->Tv->Prop} (I:Inv X pins φ g L s) (hu:A.units+10<cLine) (hS:bV.SI ld s.heap a es) (hE:Ht X.w g es.toList tr) (hs:es.size<1000) (hd:tr.Nodup) (hk:kd 6 t=true) (hh:pW t=true) (r:RT g none t u)
  (hQ:∀b h' tk fq wK,Vl a s.heap h'\/h'=s.heap->bV.SI ld h' a fq->Ht X.w g fq.toList wK->wK.Nodup->wK.length<=tr.length+1->(∀x,x∈wK↔x=t\/x∈tr)->Q b { s with heap:=h',toks:=tk }):TR (model X.prog X.w) A (setAdd a u) Q E s:=by
 classical
 have hl:=TV hE;have hl':es.size=tr.length:=by simpa using hl
 have k:=I.EM 6 hk r;unfold setAdd;refine wpAny_holding (Ti ?_);refine cG.hash 6 hk (by omega) k ?_;generalize s.toks+dr t=tk;have I':Inv X pins φ g L { s with toks:=tk }:=I.tok tk
 have k':=I'.EM 6 hk r;have at_:∀i (hi:i<es.size),(es[i]).1=hT X.w (tr[i]'(by omega))/\kd 6 (tr[i]'(by omega))=true/\RT g none (tr[i]'(by omega)) (es[i]).2:=fun i hi=>by
  have z:=vH hE i _ _ (Ge9 (by simpa using hi)) (Ge9 (by omega));simpa using z
 refine Fe (s:={ s with toks:=tk }) (eqv:=fun i=>decide (tr.getD i (.int 0)=t)) hS ?_ hs (fun i hi _=>?_) (fun Q' q=>cG.seen (n:=6) (by omega) hk k' _ (fun v hv=>?_) q) (fun Q' q=>cG.IH hh k' q) (fun hex=>?_) fun j4 h' fq CM hS' hp=>?_
 ·unfold pW at hh
  split at hh
  ·cases r with
   | tup=>exact⟨_,rfl⟩
  ·cases hh
 ·obtain⟨_,h2,h3⟩:=at_ i hi
  have e:tr.getD i (.int 0)=tr[i]'(by omega):=by simp [show i<tr.length by omega]
  show VN A _ _ _ (decide (tr.getD i (.int 0)=t));rw [e];exact cG.eq 6 h2 hk (by omega) (I'.EM 6 h2 h3) k'
 ·obtain⟨e,he,rfl⟩:=Tz.mp hv
  rw [WC] at he;have he:=(Array.mem_filter.mp he).1
  obtain⟨i,hi,rfl⟩:=VA he;obtain⟨_,h2,h3⟩:=at_ i hi
  exact⟨_,h2,I'.EM 6 h2 h3⟩
 ·obtain⟨i,hi,e1,e2⟩:=hex
  have e:tr.getD i (.int 0)=tr[i]'(by omega):=by simp [show i<tr.length by omega]
  have e2:=of_decide_eq_true e2;rw [e] at e2;refine hQ false s.heap tk es tr (.inr rfl) hS hE hd (VJ _) fun x=>⟨.inr,fun z=>?_⟩
  rcases z with rfl|z
  ·rw [<- e2];exact TN _
  ·exact z
 ·have hE':Ht X.w g ((hT X.w t,u)::es.toList) (t::tr):=.cons ⟨rfl,hk,r⟩ hE
  obtain⟨wK,p1,p2⟩:=j6 hp hE';have MO:t∉tr:=fun hb=>by
   obtain⟨i,hi,e⟩:=WD.mp hb;have hi':i<es.size:=by omega
   refine j4 ⟨i,hi',?_,?_⟩
   ·rw [(at_ i hi').1,e]
   ·exact decide_eq_true (by simp [hi,e])
  exact hQ true h' tk fq wK (.inl CM) hS' p2 (p1.nodup_iff.mpr (Uu.mpr ⟨MO,hd⟩)) (Wj p1.length_eq) fun x=>by rw [p1.mem_iff,TJ]
theorem yG {A:Ux} {R:Result->Tv->Prop} (I:Inv X pins φ g L s) (hu:A.units+12<cLine) (hh:A.handled=none) (hl:s.heap.IsList l its.toArray) (rv:cu g ts its) (hlen:its.length<900) (Ru:∀t∈ts,kd 6 t=true/\pW t=true)
  (ha:s.heap.objs.size<=a) (MP:s.heap.objs.size<=it) (hne:a≠it)
  (fin:∀h' tk es tr,(∀b o,s.heap.get? b=some o->h'.get? b=some o)->bV.SI ld h' a es->Ht X.w g es.toList tr->tr.Nodup->(∀x,x∈tr↔x∈ts)->R (.ok (.ret .none)) { s with heap:=h',toks:=tk }) :
  ∀(k i:Nat) (h':Heap) (tk:Nat) (es:Array (Int × Ts)) (tr:List T),its.length - i=k->i<=its.length->(∀b o,s.heap.get? b=some o->h'.get? b=some o)->h'.IsListIter it l i->bV.SI ld h' a es->Ht X.w g es.toList tr->tr.Nodup->tr.length<=i->(∀x,x∈tr↔x∈ts.take i) ->
   TR (model X.prog X.w) A.in1 (Builtin.«set.update.loop» ⟨[.ref a,.ref it],[]⟩) (fun fin s'=>match fin with|.done f=>R (.ok f) s'|.again c'=>c'.quiet=true/\codeAny (model X.prog X.w) A c' R s') (fun e s'=>R (.error e) s') { s with heap:=h',toks:=tk }:=by
 have oP:=TV rv;have lt:∀b o,s.heap.get? b=some o->b≠a/\b≠it:=fun b o q =>
  ⟨Ub (Uc (T3 q) ha),Ub (Uc (T3 q) MP)⟩
 obtain⟨ol,oJ,Pk⟩:=id hl;intro k;induction k with
 | zero =>
  intro i h' tk es tr hk hi kp hit hS hE hd hn hp;obtain rfl:i=its.length:=by omega
  unfold Builtin.«set.update.loop»;dsimp only;refine Ti (wpAny_pyNext_list_end (s:={ s with heap:=h',toks:=tk }) (A:=A.in1) hh hit (show h'.IsList l its.toArray from⟨ol,kp _ _ oJ,Pk⟩) (by simp) fun h2 II=>?_);dsimp only;refine Tn ?_;refine fin h2 tk es tr (fun b o q=>II b o (lt b o q).2 (kp b o q)) ?_ hE hd (by rw [<- oP,List.take_length] at hp;exact hp);obtain⟨o,ep,t,ho,r⟩:=hS;exact⟨o,ep,t,II a o hne ho,r⟩
 | succ k ih =>
  intro i h' tk es tr hk hi kp hit hS hE hd hn hp;have wG:i<its.length:=by omega
  have xi:i<ts.length:=by omega
  unfold Builtin.«set.update.loop»;dsimp only;refine Ti (wpAny_pyNext_list_item (s:={ s with heap:=h',toks:=tk }) (x:=its[i]) hit (show h'.IsList l its.toArray from⟨ol,kp _ _ oJ,Pk⟩) (by simp [wG]) fun h1 C6 CM=>?_);dsimp only;have MQ:∀b o,s.heap.get? b=some o->h1.get? b=some o:=fun b o q=>(CM.2 b (lt b o q).2).trans (kp b o q)
  have I1:Inv X pins φ g L { s with heap:=h1,toks:=tk }:=I.kept MQ;have hS1:bV.SI ld h1 a es:=BL hS CM hne
  have ht:=Ru _ (TN xi);have IJ:es.size<1000:=by
   have z1:=TV hE;have z4:es.toList.length=es.size:=by simp
   omega
  refine Ti (wpAny_holding (MN (s:={ s with heap:=h1,toks:=tk }) I1 (by show A.units+1+10<cLine;omega) hS1 hE IJ hd ht.1 ht.2 (vH rv i _ _ (Ge9 xi) (Ge9 wG)) fun bb h2 IK fq wK Pl hS2 Rv hd2 vL v8=>?_));have MR:∀b o,s.heap.get? b=some o->h2.get? b=some o:=fun b o q=>by
   rcases Pl with Fl|rfl
   ·exact(Fl.2 b (lt b o q).1).trans (MQ b o q)
   ·exact MQ b o q
  have MS:h2.IsListIter it l (i+1):=by
   rcases Pl with Fl|rfl
   ·obtain⟨o,ho,r⟩:=C6
    exact⟨o,(Fl.2 it (U7 hne)).trans ho,r⟩
   ·exact C6
  refine Tn ?_;refine⟨plainId_quiet jP _,codeAny_builtin nP ?_⟩;rw [UY jP _];have hmem:∀x,x∈wK↔x∈ts.take (i+1):=fun x=>by
   rw [v8,List.take_succ_eq_append_getElem xi,TL,TY,hp,or_comm]
  exact ih (i+1) h2 IK fq wK (by omega) (by omega) MR MS hS2 Rv hd2 (by omega) hmem
theorem ll {x:T}:∀{l:List T},x∈qm l↔x∈l
 | []=>Iff.rfl
 | y::l=>by
  unfold qm;split
  ·rename_i h
   rw [ll,TJ];exact⟨.inr,fun z=>z.elim (fun e=>by rw [e];exact h) id⟩
  ·rw [TJ,TJ,ll]
theorem ta:∀l:List T,(qm l).Nodup
 | []=>.nil
 | y::l=>by
  unfold qm;split
  ·exact ta l
  ·rename_i h
   exact Uu.mpr ⟨fun z=>h (ll.mp z),ta l⟩
theorem uJ:∀l:List T,(qm l).length<=l.length
 | []=>TK _
 | y::l=>by
  have:=uJ l;unfold qm;split <;> simp <;> omega
theorem qB {α:Type}:∀{a b:List α},a.Nodup->b.Nodup->(∀x,x∈a↔x∈b)->a.Perm b:=fun ha hb h=>(XK ha hb).mpr h
theorem Inv.Rw (I:Inv X pins φ g L s) (dr:_):Inv X pins φ g L { s with drawn:=dr }:=⟨I.ok,I.os,I.bare,I.base,I.loc,I.cell,I.free,I.p5,I.pin,I.hok,I.len,I.rel,I.gB,I.gm,I.gw⟩
theorem uK:∀{es:List (Int × Ts)} {tr:List T},Ht w' g es tr->cu g tr (es.map (·.2))
 | _,_,.nil=>.nil
 | _,_,.cons h t=>.cons h.2.2 (uK t)
theorem qC:∀{us:List Ts} {tr:List T},cu g tr us->Paired (fun u t=>RT g none t u) us tr
 | _,_,.nil=>.nil
 | _,_,.cons h t=>.cons h (qC t)
theorem qD:∀{us:List Ts} {tr:List T},Paired (fun u t=>RT g none t u) us tr->cu g tr us
 | _,_,.nil=>.nil
 | _,_,.cons h t=>.cons h (qD t)
theorem tc {a b:List T} (h:cw b) (hl:a.length<=b.length) (hm:∀x∈a,x∈b):cw a:=by
 obtain⟨h1,h2,h3,h4⟩:=h;refine⟨by omega,Tr.mpr fun x hx=>Tr.mp h2 x (hm x hx),?_,Tr.mpr fun x hx=>Tr.mpr fun y hy=>Tr.mp (Tr.mp h4 x (hm x hx)) y (hm y hy)⟩;rcases h3 with h3|h3
 ·exact .inl (Tr.mpr fun x hx=>Tr.mp h3 x (hm x hx))
 ·exact .inr (Tr.mpr fun x hx=>Tr.mp h3 x (hm x hx))
theorem MT {x y:T} (hx:kd 8 x=true) (hy:kd 8 y=true) (h:ltN 8 y x=false):x=y\/ltN 8 x y=true:=by
 by_cases e:x=y
 ·exact .inl e
 ·rcases jl 8 _ _ hx hy e with q|q
  ·exact .inr q
  ·rw [h] at q;cases q
theorem C7 (x:T) (hx:kd 8 x=true):∀l:List T,(∀y∈l,kd 8 y=true)->iR l->∃l',l'.Perm (x::l)/\iR l'
 | [],_,_=>⟨[x],.refl _,by simp [iR]⟩
 | y::l,hk,hr=>by
  have hy:=hk y To;have hr':=Vy.mp hr
  cases e:ltN 8 y x with
  | false =>
   refine⟨x::y::l,.refl _,Vy.mpr ⟨fun z hz=>?_,hr⟩⟩;rcases TJ.mp hz with rfl|hz
   ·exact e
   ·have h1:=hr'.1 z hz
    rcases MT hx hy e with rfl|q
    ·exact h1
    ·cases e2:ltN 8 z x with
     | false=>rfl
     | true=>rw [dy 8 _ _ _ e2 q] at h1;cases h1
  | true =>
   obtain⟨l',p,r⟩:=C7 x hx l (fun z hz=>hk z (Tp _ hz)) hr'.2;refine⟨y::l',(p.cons y).trans (.swap _ _ _),Vy.mpr ⟨fun z hz=>?_,r⟩⟩;rcases TJ.mp (p.mem_iff.mp hz) with rfl|hz
   ·cases e2:ltN 8 z y with
    | false=>rfl
    | true=>have:=dy 8 _ _ _ e e2;rw [kY] at this;cases this
   ·exact hr'.1 z hz
theorem C8:∀l:List T,(∀y∈l,kd 8 y=true)->∃l',l'.Perm l/\iR l'
 | [],_=>⟨[],.refl _,Yp⟩
 | x::l,h=>by
  obtain⟨l1,p1,r1⟩:=C8 l fun y hy=>h y (Tp _ hy)
  obtain⟨l2,p2,r2⟩:=C7 x (h x To) l1 (fun y hy=>h y (Tp _ (p1.mem_iff.mp hy))) r1;exact⟨l2,p2.trans (p1.cons x),r2⟩
theorem yH {a b:List T} (hk:a.all (kd 8)=true) (p:a.Perm b):jm a=jm b:=by
 obtain⟨l',p',h⟩:=C8 a (Tr.mp hk);rw [oL hk p' h,oL (Tr.mpr fun x hx=>Tr.mp hk x (p.mem_iff.mpr hx)) (p'.trans p) h]
theorem yI {fz:Bool} {w:T} (hu:X.A.units+20<cLine) (I:Inv X pins φ g L s) (hl:s.heap.IsList l its.toArray) (rv:cu g ts its) (ok:cw ts) (h6:ts.all (kd 6)=true) (hS:ts.all pW=true) (h:eO fz (jm (qm ts)) L=.ok w L') :
  TR (model X.prog X.w) X.A (call (.type "set") [.ref l]) (fun u s'=>TR (model X.prog X.w) X.A (call (.builtin "sorted") [u]) (EP X pins φ g w L') F0 s') F0 s:=by
 have hlen:=TV rv;have K6:=ok.1
 refine sZ (led:=!X.w.params.followText "set-order") hl rfl ?_;refine codeAny_builtin nP ?_;rw [UY jP _];have e1:(s.heap.push { cls:=.type "set",dict:=none,data:=.set #[] 0 (.fresh 0 0 (!X.w.params.followText "set-order")) }).get? s.heap.objs.size=some { cls:=.type "set",dict:=none,data:=.set #[] 0 (.fresh 0 0 (!X.w.params.followText "set-order")) }:=Tt _ rfl
 have e2:(s.heap.push { cls:=.type "set",dict:=none,data:=.set #[] 0 (.fresh 0 0 (!X.w.params.followText "set-order")) }).objs.size=s.heap.objs.size+1:=UM _ _;have e3:((s.heap.push { cls:=.type "set",dict:=none,data:=.set #[] 0 (.fresh 0 0 (!X.w.params.followText "set-order")) }).push { cls:=.type "list_iterator",data:=.fields #[.ref l,.int 0 0] }).get? (s.heap.objs.size+1)=some { cls:=.type "list_iterator",data:=.fields #[.ref l,.int 0 0] }:=by
  rw [<- e2];exact Tt _ rfl
 refine yG (ld:=!X.w.params.followText "set-order") (l:=l) (ts:=ts) (its:=its) I (A:=X.A.in1.in1) (by show X.A.units+1+1+12<cLine;omega) I.ok.hd hl rv (by omega) (fun t ht=>⟨Tr.mp h6 t ht,Tr.mp hS t ht⟩) (TK _) (VJ _) (Ub (Vh _)) ?_ its.length 0 _ s.toks #[] [] (by omega) (Uj _) (fun b o z=>Tj _ (Tj _ z)) ⟨_,e3,rfl,rfl⟩ (yF (Tj _ e1)) .nil .nil (Uj _) (fun x=>by simp);intro h' tk es tr kp MI hE hnd hmem;have pn:tr.Perm (qm ts):=qB hnd (ta ts) fun x=>(hmem x).trans ll.symm
 have nl:(qm ts).length<=ts.length:=uJ ts;have hsz:es.size<1000:=by
  have z1:=TV hE;have z2:=pn.length_eq
  have z4:es.toList.length=es.size:=by simp
  omega
 refine WJ kind_sorted plain_sorted entry_sorted (args_sorted1 _) ?_;unfold Builtin.«sorted»;refine Ti (m:=checkCount "sorted" 1 1 _) (Tn ?_);refine Ti (qA (A:=X.A.in1) (s:={ s with heap:=h',toks:=tk }) I.ok.hd MI rfl hsz fun h2 IK dr acc MR pa=>?_);have I1:Inv X pins φ g L { s with heap:=h2,toks:=IK,drawn:=dr }:=(I.kept (t':=IK) fun b o q=>MR b o (kp b o q)).Rw dr
 obtain⟨wK,p1,p2⟩:=j6 pa (qC (uK hE));have rr:=qD p2
 have hl':=TV rr;have jH:=p1.length_eq
 have MU:cw wK:=tc ok (by have:=pn.length_eq;omega) fun x hx=>(hmem x).mp (p1.mem_iff.mp hx)
 have fq:jm wK=jm (qm ts):=yH MU.2.1 (p1.trans pn);refine Ti (wpAny_newList ?_ (by rw [Vb];have:=MU.1;omega));have jg:=fun E'=>lQ (s:={ s with heap:=h2,toks:=IK,drawn:=dr }) (E:=E') (A:=X.A.in1.in1) (by show X.A.units+1+1+8<cLine;omega) I1 rr MU (by rw [fq];exact h)
 refine Ti (wpAny_holding (wpAny_call_entry slot_list_sort ⟨_,Tt _ rfl,rfl⟩ entry_list_sort ?body (args_list_sort _)))
 case body =>
  refine wpAny_mono (jg _) (fun fin s' z=>?_) fun _ _ z=>z
  obtain⟨rfl,z⟩:=z;exact⟨_,rfl,Tn ⟨_,rfl,z⟩⟩
end
end M
namespace M
open PySem PySem.Spec PyProof.Rows
section
variable {X:Cx} {pins:aX} {φ:Fr} {g:G} {L L':aa} {s:Tv} {o e:Expr} {m:SE} {fz:Bool} {p q ap pos:Pos}
theorem oY {t:List T} {L1:aa} (h:ib [m] φ L=.ok t L1):∃x,t=[x]/\m φ L=.ok x L1:=by
 obtain⟨x,L2,e1,h⟩:=R.of h;obtain⟨ts,L3,e2,h⟩:=R.of h;cases e2;cases h;exact⟨x,rfl,e1⟩
theorem yJ (hu:X.A.units+20<cLine) (ho:PE X o m) (hb:okBase o=true) (lJ:(ap.endLine == q.line)=true) (hg:Gl X "sorted") (hm:X.mg "sorted"=none) (hs:aY (.Call (.Attribute o "items" ap) [] [] q)=true):PE X (.Call (.Name "sorted" p) [.Call (.Attribute o "items" ap) [] [] q] [] pos) (ae (jN fz) [m]):=fun {pins φ g L s w L'} I h=>by
 obtain⟨ts,L1,e1,h⟩:=R.of h;obtain⟨t,rfl,e2⟩:=oY e1;refine wpAny_Call_Name_kw (fu I hg hm (by kernel_rfl:bootBuiltins "sorted"=some (.builtin "sorted")) ?_ (by decide) (by decide));refine callWith_builtin1 ?_ (ay hs) (bM rfl);rw [ay hs];refine WV ?_;refine wpAny_Call_method_late (base_ok hb) (sr rfl (by decide)) lJ rfl (thn (ho I e2) fun v s1 ⟨g1,l1,I1,r1⟩=>?_);unfold jN at h;obtain⟨pp,vw⟩:=I1.view r1
 ·dsimp only at h
  split at h
  ·rename_i ks ev
   rw [ev] at vw;obtain⟨ok,h⟩:=aA h;obtain⟨a,od,es,ep,rfl,_,_,D⟩:=I1.aP vw;obtain⟨kvs,d1,d2,d3⟩:=C0 D (qn ok.2.2.1);refine⟨"dict","dict.items",W2,YC,PySem.F.type_dict_items,D.typeIs,fun b e=>?_,?_⟩
   ·cases e;exact⟨od,D.ho,D.hx.2.1⟩
   ·refine YM (bM rfl) (Zc ?_)
    refine call_meetsIn YC D.typeIs PySem.F.entry_dict_items (PySem.F.args_dict_items_1 _) (meets_dict_items (gE X.prog X.w) a D.hs) ⟨⟨kvs,Heap.DictAt.dictOf d1⟩,?_⟩;refine Wt ?_;have kp:∀b o,s1.heap.get? b=some o->(s1.heap.push { cls:=.type "dict_items",data:=.fields #[.ref a] }).get? b=some o:=fun b o z=>Tj _ z
    have I2:=I1.kept (t':=s1.toks) kp;have D2:bE X g1 { s1 with heap:=s1.heap.push { cls:=.type "dict_items",data:=.fields #[.ref a] } } ks a od es ep:=⟨kp _ _ D.ho,D.hx,D.hd,D.hz,D.hl,D.hn,D.hm,D.hs,D.hh,D.h1,D.h2⟩
    exact thn (sO hu I2 D2 (Tt _ rfl) ok h) fun _ _ z=>z.le l1
  ·cases h
theorem BM {m1 m2:SE} {t:List T} {L1:aa} (h:ib [m1,m2] φ L=.ok t L1):∃x y,t=[x,y]:=by
 obtain⟨x,L2,e1,h⟩:=R.of h;obtain⟨ts,L3,e2,h⟩:=R.of h;obtain⟨y,rfl,e2⟩:=oY e2;cases h;exact⟨x,y,rfl⟩
theorem yK (hu:X.A.units+20<cLine) (ha:PA X [e] (ib [m])) (hg:Gl X "sorted") (hm:X.mg "sorted"=none) (Br:Gl X "set") (E8:X.mg "set"=none) (rL:[e].all aY=true) (hs:aY (.Call (.Name "set" ap) [e] [] q)=true):PE X (.Call (.Name "sorted" p) [.Call (.Name "set" ap) [e] [] q] [] pos) (ae (lP fz) [m]):=fun {pins φ g L s w L'} I h=>by
 obtain⟨ts,L1,e1,h⟩:=R.of h;obtain⟨t,rfl,e2⟩:=oY e1;refine wpAny_Call_Name_kw (fu I hg hm (by kernel_rfl:bootBuiltins "sorted"=some (.builtin "sorted")) ?_ (by decide) (by decide));refine callWith_builtin1 ?_ (ay hs) (bM rfl);rw [ay hs];refine WV ?_;refine wpAny_Call_Name_kw (fu I Br E8 (by kernel_rfl:bootBuiltins "set"=some (.type "set")) ?_ (by decide) (by decide));refine callWith_type1 (thn (ha q I e1) fun us s1 ⟨g1,l1,I1,r1⟩=>?_) (ay (by simpa using rL)) (bM rfl);obtain⟨u,rfl,ru⟩:=bF r1;unfold lP at h;dsimp only at h;obtain⟨pp,v⟩:=I1.view ru;split at h
 ·rename_i ys ev
  rw [ev] at v;obtain⟨⟨ok,h6,hS⟩,h⟩:=aA h;obtain⟨a,its,n,rfl,e,rr,hz⟩:=I1.lst v;exact thn (yI hu I1 (by simpa using af e) rr ok h6 hS h) fun _ _ z=>Wt (thn z fun _ _ y=>y.le l1)
 ·cases h
theorem BN {a b:Expr} {ma mb:SE} (hu:X.A.units+20<cLine) (ha:PA X [a,b] (ib [ma,mb])) (hg:Gl X "dict") (hm:X.mg "dict"=none) (Br:Gl X "zip") (E8:X.mg "zip"=none) (rL:[a,b].all aY=true) (hs:aY (.Call (.Name "zip" ap) [a,b] [] q)=true):PE X (.Call (.Name "dict" p) [.Call (.Name "zip" ap) [a,b] [] q] [] pos) (ae fK [ma,mb]):=fun {pins φ g L s w L'} I h=>by
 obtain⟨ts,L1,e1,h⟩:=R.of h;obtain⟨t1,t2,rfl⟩:=BM e1;have Pm:aY a=true/\aY b=true:=by simpa using rL
 refine wpAny_Call_Name_kw (fu I hg hm (by kernel_rfl:bootBuiltins "dict"=some (.type "dict")) ?_ (by decide) (by decide));refine callWith_type1 ?_ (ay hs) (bM rfl);rw [ay hs];refine WV ?_;refine wpAny_Call_Name_kw (fu I Br E8 (by kernel_rfl:bootBuiltins "zip"=some (.type "zip")) ?_ (by decide) (by decide));refine callWith_type1 (thn (ha q I e1) fun us s1 ⟨g1,l1,I1,r1⟩=>?_) (ay Pm.1) (bM (by simpa using Pm.2));obtain⟨u1,u2,rfl,Rx,Ry⟩:=iQ r1;unfold fK at h;dsimp only at h;obtain⟨p1,v1⟩:=I1.view Rx;obtain⟨p2,v2⟩:=I1.view Ry;split at h
 ·rename_i xs ys MV MW
  rw [MV] at v1;rw [MW] at v2;obtain⟨hle,h⟩:=aA h;obtain⟨a1,MX,n1,rfl,q1,MY,_⟩:=I1.lst v1;obtain⟨a2,oB,n2,rfl,q2,Bb,_⟩:=I1.lst v2;exact thn (qr (b:=false) hu I1 (by simpa using af q1) (show s1.heap.IsList a2 oB.toList.toArray from by simpa using af q2) MY Bb hle h) fun _ _ z=>Wt (thn z fun _ _ y=>y.le l1)
 ·rename_i xs ys MV MW
  rw [MV] at v1;rw [MW] at v2;obtain⟨hle,h⟩:=aA h;obtain⟨a1,MX,n1,rfl,q1,MY,_⟩:=I1.lst v1;obtain⟨a2,oB,rfl,q2,Bb,_⟩:=I1.tupP v2;exact thn (qr (b:=true) hu I1 (by simpa using af q1) (show s1.heap.IsTuple a2 oB.toList.toArray from by rw [Array.toArray_toList];exact q2) MY Bb hle h) fun _ _ z=>Wt (thn z fun _ _ y=>y.le l1)
 ·cases h
end
structure dS (X:Cx) (Γ:Ct):Prop where
 hu:X.A.units+20<cLine
 fn:∀x F,Γ.fn.lookup x=some F->(x == ("__debug__":Str))=false/\∃k fa,eY X.prog X.w X.K X.mg X.cls X.base k fa F/\eX k X.A/\X.mg x=some (.ref fa)/\UW X.K (.ref fa)=true
 co:∀x t,Γ.co.lookup x=some t->(x == ("__debug__":Str))=false/\∃u,X.mg x=some u/\∀g:G,g.B=X.base->g.cls=X.cls->g.w=X.w->RT g none t u
 us:∀x∈Γ.us,X.mg x=none/\x≠"__name__"/\(x == ("__debug__":Str))=false
 fl:∀c C,X.cls c=some C->ClsOk X.K Γ.fl C
 me:∀m mf,Γ.me.lookup m=some mf->∀c C F,X.cls c=some C->mf.lookup c=some F->∃fa k,AW X.K C/\Meth X.K C m fa/\eY X.prog X.w X.K X.mg X.cls X.base k fa F/\eX k X.A
structure d6 (X:Cx) (S:Sg):Prop where
 N:X.N=S.N
 nd:S.N.Nodup
 nm:S.N.all yj=true
 loc:∀x,S.sc.names.lookup x=some .local->X.env.scope.names.lookup x=some .local
 Ld:∀x,S.sc.names.lookup x=some .cell->X.env.scope.names.lookup x=some .cell/\X.fn x=true
 Pn:∀x,S.sc.names.lookup x=some .free->X.env.scope.names.lookup x=some .cell\/X.env.scope.names.lookup x=some .free
 Rz:∀x,S.sc.names.lookup x=some .globalImplicit->X.env.scope.names.lookup x=some .globalImplicit
structure eZ (X:Cx) (B:Bd):Prop where
 E:∀e,PE X e (B.E e)
 T:∀e,PT X e (B.T e)
 S:∀st,PS X st (B.S st)
section
variable {X:Cx} {Γ:Ct} {S:Sg} {B:Bd} {BS:Sg->Bd} {x:Str} {i:Nat} {pos p p2:Pos} {a b e:Expr} {es:List Expr}
theorem lY {N:List Str} (h:Hn N x=some i):N[i]?=some x:=by
 obtain⟨h1,h2,_⟩:=U0.mp h;rw [Ge9 h1,eq_of_beq h2]
theorem IL (c:d6 X S) (h:S.N[i]?=some x):(x == ("__debug__":Str))=false/\(x == ("__classdict__":Str))=false:=by
 have:=Tr.mp c.nm x (Ul h);unfold yj at this;simpa using this
theorem at_of (c:d6 X S) (h:S.at x=some i):X.N[i]?=some x/\K0 X.env.scope x:=by
 unfold Sg.at at h;rw [c.N];split at h
 ·exact⟨lY h,.inl (c.loc x (by assumption))⟩
 ·exact⟨lY h,.inr (.inl (c.Ld x (by assumption)).1)⟩
 ·refine⟨lY h,?_⟩
  rcases c.Pn x (by assumption) with z|z
  ·exact .inr (.inl z)
  ·exact .inr (.inr z)
 ·cases h
theorem lZ (c:d6 X S) (h:S.own x=some i):r6 X i x:=by
 unfold Sg.own at h;split at h
 ·exact⟨by rw [c.N];exact c.nd,by rw [c.N];exact lY h,.inl (c.loc x (by assumption)),.inr (c.loc x (by assumption))⟩
 ·exact⟨by rw [c.N];exact c.nd,by rw [c.N];exact lY h,.inr (c.Ld x (by assumption)).1,.inl (c.Ld x (by assumption)).2⟩
 ·cases h
theorem jq (c:d6 X S) (h:S.gl x=true):Gl X x:=by
 unfold Sg.gl at h;split at h
 ·exact c.Rz x (by assumption)
 ·cases h
theorem BO (o:dS X Γ) (c:d6 X S):PE X (.Name x pos) (eName Γ S x):=by
 unfold eName;split
 ·rename_i h
  obtain⟨h1,h2⟩:=at_of c h;have:=IL c (by rw [<- c.N];exact h1)
  exact fun {_ _ _ _ _ _ _} I h=>DN h1 h2 this.1 this.2 I h
 ·split
  ·rename_i hg
   split
   ·rename_i ht
    obtain⟨h1,u,h2,h3⟩:=o.co x _ ht;exact DR (jq c hg) h2 h3 h1
   ·split
    ·rename_i n hu hn
     obtain⟨h1,h2,h3⟩:=o.us x (by simpa using hu);have hb:bootBuiltins x=some (.type n):=by
      simp only [T6] at hn
      repeat' split at hn
      all_goals first|cases hn|skip
      all_goals (rename_i hx;have hx:=eq_of_beq hx;subst hx;kernel_rfl)
     exact fun {_ _ _ _ _ _ _} I q=>DS (jq c hg) h1 hb (fun _ _ _ _=>.ty _) h2 h3 I q
    ·exact fun {_ _ _ _ _ _ _} I q=>cy I q
  ·exact fun {_ _ _ _ _ _ _} I q=>cy I q
theorem Fm {k:Const} {j:Nat}:PE X (.Constant k j pos) (EY k):=by
 cases k with
 | int=>exact DO
 | bool=>exact HA
 | none=>exact DP
 | str x =>
  delta EY;dsimp only;split
  ·rename_i h;exact DQ (of_decide_eq_true h)
  ·exact cy
 | _=>exact cy
theorem Fo (o:dS X Γ) (hB:eZ X B) {ops:List CmpOp}:PE X (.Compare a ops es pos) (yh B a ops es):=by
 unfold yh;split
 ·exact cy
 ·split
  ·split
   ·split
    ·exact DU (oG o.hu) (hB.E _) (hB.E _) (by assumption)
    ·exact cy
   ·exact cy
  ·split
   ·split
    ·split
     ·exact w8 (fun _=>oG o.hu) (hB.E _) (hB.E _) (hB.E _) (by assumption)
     ·exact cy
    ·exact cy
   ·exact cy
theorem BP (o:dS X Γ) (hB:eZ X B) {ops:List CmpOp}:PT X (.Compare a ops es pos) (tv (yh B a ops es)):=by
 have BQ:PT X (.Compare a ops es pos) (tv no):=fun {_ _ _ _ _ _ _} w _ I h=>by cases h
 unfold yh;split
 ·exact @BQ
 ·split
  ·split
   ·split
    ·rename_i hm;exact fun {_ _ _ _ _ _ _} w hw I h=>D5 (oG o.hu) (hB.E _) (hB.E _) hm w hw I h
    ·exact @BQ
   ·exact @BQ
  ·split
   ·split
    ·split
     ·rename_i hm;exact fun {_ _ _ _ _ _ _} w hw I h=>w9 (fun _=>oG o.hu) (hB.E _) (hB.E _) (hB.E _) hm w hw I h
     ·exact @BQ
    ·exact @BQ
   ·exact @BQ
theorem yL (hB:eZ X B) {o:Option Expr}:PO X o (o.map B.E):=by
 cases o with
 | none=>exact A6
 | some e=>exact A7 (hB.E e)
theorem Fp (o:dS X Γ) (hB:eZ X B):PE X (.Subscript a b pos) (Ie Γ B a b pos):=by
 have V:PE X (.Subscript a b pos) (K8 B a b):=by
  unfold K8;split
  ·exact HB (H5 o.hu (by assumption)) (hB.E _) (hB.E _)
  ·exact cy
 cases b with
 | Slice lo hi st p=>cases st with
  | none=>exact fun {_ _ _ _ _ _ _} I q=>EB (hB.E _) (yL hB) (yL hB) I q
  | some _=>exact @V
 | _=>exact @V
theorem d7 (hB:eZ X B):∀{es:List Expr},es.all aY=true->PA X es (ib (es.map B.E))
 | [],_=>oq
 | e::es,h=>by
  rw [UG,Tw] at h;exact i9 (hB.E e) (d7 hB h.2) h.1
theorem uL (hB:eZ X B):∀(es:List Expr),PE X (.BoolOp .And es pos) (m7 (es.map B.E))
 | []=>cy
 | [a]=>w7 (hB.E a)
 | a::b::r=>DY (hB.E a) (uL hB (b::r))
theorem yM (hB:eZ X B):∀(es:List Expr),PE X (.BoolOp .Or es pos) (CU (es.map B.E))
 | []=>cy
 | [a]=>w7 (hB.E a)
 | a::b::r=>HD (hB.E a) (yM hB (b::r))
theorem uM (hB:eZ X B):∀(es:List Expr),PT X (.BoolOp .And es pos) (kj (es.map B.T))
 | []=>t8
 | [a]=>AG (hB.T a)
 | a::b::r=>D4 (hB.T a) (uM hB (b::r))
theorem yN (hB:eZ X B):∀(es:List Expr),PT X (.BoolOp .Or es pos) (vV (es.map B.T))
 | []=>t8
 | [a]=>D3 (hB.T a)
 | a::b::r=>HE (hB.T a) (yN hB (b::r))
theorem fN (hB:eZ X B):∀(l:List Stmt),w5 X l (ab (l.map B.S))
 | []=>AH
 | s::l=>xd (hB.S s) (fN hB l)
theorem BR {a:Option Nat} {b:Option (List Nat)} {is:List Nat} (h:EZ a b=some is):∃i js,a=some i/\b=some js/\is=i::js:=by
 cases a with
 | none=>cases h
 | some i=>cases b with
  | none=>cases h
  | some js=>cases h;exact⟨i,js,rfl,rfl,rfl⟩
theorem oZ (c:d6 X S):∀{ts:List Expr} {is:List Nat},yi S ts=some is->HH X ts is/\(assignEach ts X.env).length=is.length/\(assignEach ts X.env).findIdx? (·.1)=none
 | [],is,h=>by cases h;exact⟨AK,rfl,rfl⟩
 | t::r,is,h=>by
  cases t with
  | Name x p =>
   obtain⟨i,js,h1,h2,rfl⟩:=BR (show EZ (S.own x) (yi S r)=some is from h);obtain⟨q1,q2,q3⟩:=oZ c h2;refine⟨xe (lZ c h1) q1,?_,?_⟩
   ·show(assignEach r X.env).length+1=_;rw [q2];rfl
   ·show((false,_)::assignEach r X.env).findIdx? (·.1)=none
    rw [XS,q3];rfl
  | _=>cases h
theorem td (c:d6 X S) {tg:Expr} {t:Tg} (h:Mi S tg=some t):PG X tg t:=by
 cases tg with
 | Name x p =>
  obtain⟨i,h1,rfl⟩:=TG.mp h;exact kI (lZ c h1)
 | Tuple ts k p =>
  obtain⟨is,h1,rfl⟩:=TG.mp h;obtain⟨q1,q2,q3⟩:=oZ c h1;exact xf q1 q2 q3
 | _=>cases h
theorem yO {e:Expr} (h:isTup e=true):∃ts k p,e=.Tuple ts k p:=by
 cases e with
 | Tuple ts k p=>exact⟨ts,k,p,rfl⟩
 | _=>cases h
theorem pd (o:dS X Γ) (c:d6 X S) (hB:eZ X B) {tg:Expr}:PI X tg e (stI Γ B S tg e):=by
 unfold stI;split
 ·rename_i x px es pos
  unfold CV;split
  ·rename_i hc
   simp only [Tw] at hc;obtain⟨⟨h1,h2⟩,h3⟩:=hc;have hg:=jq c h1
   have hm:=(o.us x (by simpa using h2)).1;split
   ·rename_i hx
    have:=eq_of_beq hx;subst this;split
    ·simp only [UG,Y0,YD] at h3
     exact fun {_ _ _ _ _ _ _ _} I h=>AL hg hm (hB.E _) h3 I h
    ·simp only [UG,Y0,YD,Tw] at h3
     exact fun {_ _ _ _ _ _ _ _} I h=>AM hg hm (hB.E _) (hB.E _) h3.1 h3.2 I h
    ·exact fun {_ _ _ _ _ _ _ _} I h=>jK (hB.E _) I h
   ·split
    ·split
     ·rename_i hx
      have:=eq_of_beq hx;subst this;split
      ·rename_i ht
       simp only [UG,Y0,YD] at h3;obtain⟨_,_,_,rfl⟩:=yO ht;exact fun {_ _ _ _ _ _ _ _} I h=>Eg hg hm (hB.E _) h3 I h
      ·exact fun {_ _ _ _ _ _ _ _} I h=>jK (hB.E _) I h
     ·exact fun {_ _ _ _ _ _ _ _} I h=>jK (hB.E _) I h
    ·exact fun {_ _ _ _ _ _ _ _} I h=>jK (hB.E _) I h
  ·exact fun {_ _ _ _ _ _ _ _} I h=>jK (hB.E _) I h
 ·exact fun {_ _ _ _ _ _ _ _} I h=>jK (hB.E _) I h
theorem jr {scope:Scope} {env:Env} {y:Str} {k:NameKind} (h:scope.names.lookup y=some k) (hk:k≠.free):(relabel scope env).names.lookup y=some k:=by
 have go:∀(names:List (Str × NameKind)),names.lookup y=some k->(names.map fun(n,k)=>if (k == Vi && env.scope.kind == .function && env.kindOf n == some .cell) then (n,Yt) else (n,k)).lookup y=some k:=by
  intro names;induction names with
  | nil=>intro h;simp at h
  | cons a r ih =>
   obtain⟨n,k'⟩:=a;intro h;rw [TC];rw [T6] at h;by_cases hc:(k' == Vi && env.scope.kind == .function && env.kindOf n == some .cell)=true
   ·simp only [hc,if_true,T6]
    cases hy:y == n with
    | true =>
     rw [hy] at h;have e:k'=k:=Vn h
     simp only [Tw,beq_iff_eq] at hc;exact absurd (e ▸ hc.1.1) hk
    | false =>
     rw [hy] at h;exact ih h
   ·simp only [hc,TH,if_false,T6]
    cases hy:y == n with
    | true =>
     rw [hy] at h;exact h
    | false =>
     rw [hy] at h;exact ih h
 exact go scope.names h
theorem uN (c:d6 X S) {sc:Scope} (h:sN S sc=true):lF X sc (inN sc) (aV S sc)/\∀cl C s₀ H₀ ex,d6 (cV X sc cl (inN sc) C s₀ H₀ ex) ⟨inN sc,sc⟩:=by
 unfold sN at h;simp only [Tw] at h;obtain⟨⟨⟨h1,h2⟩,h3⟩,h4⟩:=h;have h2:=Tr.mp h2
 have lG:∀y∈sc.names,y.2≠.cell:=fun y hy e=>by
  have:=h2 y hy;rw [e] at this;cases this
 constructor
 ·refine⟨?_,lG,fun y hy e=>?_,fun y hy e=>?_,fun i y j q1 q2=>?_,of_decide_eq_true h3,by unfold aV;rw [Lm9]⟩
  ·split at h1
   ·assumption
   ·cases h1
  ·have:=h2 y hy
   simp only [e] at this;split at this
   ·assumption
   ·cases this
  ·have:=h2 y hy
   simp only [e] at this;split at this
   ·rename_i k;exact .inl (c.Ld _ k).1
   ·rename_i k;exact c.Pn _ k
   ·cases this
  ·unfold aV at q2
   rw [TX,q1] at q2;simp only [Option.map_some,Option.some.injEq] at q2;split at q2
   ·rename_i k
    exact⟨(at_of c q2).1,k⟩
   ·cases q2
 ·intro cl C s₀ H₀ ex
  exact⟨rfl,of_decide_eq_true h3,h4,fun x h=>jr h (by decide),fun x h=>absurd rfl (lG (x,.cell) (Up h)),fun x h=>je h,fun x h=>jr h (by decide)⟩
theorem dS.comp (o:dS X Γ) {sc:Scope} {N:List Str} {cl C s₀ H₀ ex}:dS (cV X sc cl N C s₀ H₀ ex) Γ:=⟨o.hu,o.fn,o.co,o.us,o.fl,o.me⟩
theorem qE (hB:eZ X B) (ifs:List Expr):Ek X ifs (tests B ifs):=by
 unfold tests;split
 ·exact AO
 ·exact AQ (hB.T _)
 ·exact fun I h=>by cases h
theorem BU (hS:∀X S,dS X Γ->d6 X S->eZ X (BS S)) (o:dS X Γ) (c:d6 X S) {elt tg iter:Expr} {ifs:List Expr} {sc:Scope}:PE X (.ListComp elt [⟨tg,iter,ifs,0⟩] sc pos) (nH Γ BS S elt tg iter ifs sc pos):=by
 unfold nH;split
 ·rename_i t ht
  split
  ·rename_i h
   simp only [Tw] at h;obtain⟨⟨h1,h2⟩,h3⟩:=h;obtain⟨k1,k2⟩:=uN c h1;refine fun {_ _ _ _ _ _ _} I h=>ue k1 (fun i hi=>?_) (pd o c (hS X S o c)) (fun cl C s₀ H₀ ex=>td (k2 cl C s₀ H₀ ex) ht) (fun cl C s₀ H₀ ex=>qE (hS _ _ o.comp (k2 cl C s₀ H₀ ex)) ifs) (fun cl C s₀ H₀ ex=>(hS _ _ o.comp (k2 cl C s₀ H₀ ex)).E elt) h2 I h
   have:=Tr.mp h3 i hi;split at this
   ·assumption
   ·cases this
  ·exact cy
 ·exact cy
theorem yP (hS:∀X S,dS X Γ->d6 X S->eZ X (BS S)) (o:dS X Γ) (c:d6 X S) {y:Str} (hy:r6 X i y) {elt tg iter:Expr} {ifs:List Expr} {sc:Scope}:PS X (.Assign [.Name y p] (.ListComp elt [⟨tg,iter,ifs,0⟩] sc pos) p2) (asg (.one i) (nH Γ BS S elt tg iter ifs sc pos)):=by
 have BQ:PS X (.Assign [.Name y p] (.ListComp elt [⟨tg,iter,ifs,0⟩] sc pos) p2) (asg (.one i) no):=fun I h=>absurd rfl h
 unfold nH;split
 ·rename_i t ht
  split
  ·rename_i h
   simp only [Tw] at h;obtain⟨⟨h1,h2⟩,h3⟩:=h;obtain⟨k1,k2⟩:=uN c h1;refine fun {_ _ _ _ _} I h=>AU hy k1 (fun i hi=>?_) (pd o c (hS X S o c)) (fun cl C s₀ H₀ ex=>td (k2 cl C s₀ H₀ ex) ht) (fun cl C s₀ H₀ ex=>qE (hS _ _ o.comp (k2 cl C s₀ H₀ ex)) ifs) (fun cl C s₀ H₀ ex=>(hS _ _ o.comp (k2 cl C s₀ H₀ ex)).E elt) h2 I h
   have:=Tr.mp h3 i hi;split at this
   ·assumption
   ·cases this
  ·exact fun {_ _ _ _ _} I h=>BQ I h
 ·exact fun {_ _ _ _ _} I h=>BQ I h
end
section
variable {X:Cx} {Γ:Ct} {S:Sg} {B:Bd} {BS:Sg->Bd} {x:Str} {i:Nat} {pos p p2:Pos} {a b e o:Expr} {es:List Expr} {fz:Bool} {F:Fn}
theorem l6 {α β:Type} [BEq α] [LawfulBEq α] {P:α->β->Prop} {x:α} {b:β}:∀{l:List (α × β)},l.lookup x=some b->(∀p∈l,P p.1 p.2)->P x b
 | (a,c)::l,h,k=>by
  rw [T6] at h;split at h
  ·rename_i e
   cases h;cases eq_of_beq e;exact k _ To
  ·exact l6 h fun p hp=>k p (Tp _ hp)
theorem lc {α:Type} {P:α->Prop} {a:α} {l:List α} (h:P a) (k:∀x∈l,P x):∀x∈a::l,P x:=WE.mpr ⟨h,k⟩
theorem ln {α:Type} {P:α->Prop}:∀x∈([]:List α),P x:=fun _ h=>nomatch h
theorem Fq (hu:X.A.units+20<cLine) (h:blt x fz=some F):∃f,bootBuiltins x=some f/\cU X f F/\((∃id,f=.builtin id)\/∃T,f=.type T):=by
 refine l6 (P:=fun x F=>∃f,bootBuiltins x=some f/\cU X f F/\((∃id,f=.builtin id)\/∃T,f=.type T)) h ?_
 repeat' refine lc ?_ ?_
 ·exact⟨_,by kernel_rfl,xC,.inl ⟨_,rfl⟩⟩
 ·exact⟨_,by kernel_rfl,vQ,.inr ⟨_,rfl⟩⟩
 ·exact⟨_,by kernel_rfl,xD,.inr ⟨_,rfl⟩⟩
 ·exact⟨_,by kernel_rfl,xF,.inl ⟨_,rfl⟩⟩
 ·exact⟨_,by kernel_rfl,xG,.inl ⟨_,rfl⟩⟩
 ·exact⟨_,by kernel_rfl,xH,.inl ⟨_,rfl⟩⟩
 ·exact⟨_,by kernel_rfl,xO,.inl ⟨_,rfl⟩⟩
 ·exact⟨_,by kernel_rfl,xI,.inr ⟨_,rfl⟩⟩
 ·exact⟨_,by kernel_rfl,xJ,.inr ⟨_,rfl⟩⟩
 ·exact⟨_,by kernel_rfl,A9,.inl ⟨_,rfl⟩⟩
 ·exact⟨_,by kernel_rfl,vS hu,.inr ⟨_,rfl⟩⟩
 ·exact⟨_,by kernel_rfl,vY hu,.inl ⟨_,rfl⟩⟩
 ·exact ln
theorem Fs (hu:X.A.units+20<cLine) {f:Ty->Option (T->Fn)} (h:OR x fz=some f):∀y F,f y=some F->EH X x y F:=by
 refine l6 (P:=fun x f=>∀y F,f y=some F->EH X x y F) h ?_
 repeat' refine lc ?_ ?_
 rotate_right
 ·exact ln
 all_goals (intro y F hf;cases y <;> cases hf)
 ·exact⟨_,W3,Xq,PySem.F.type_list_append,EI⟩
 ·exact⟨_,W3,Xr,PySem.F.type_list_extend,EJ⟩
 ·exact⟨_,W3,Yu,PySem.F.type_list_count,Be hu⟩
 ·exact⟨_,Yq,Ye,PySem.F.type_tuple_count,Bf hu⟩
 ·exact⟨_,Yq,Yf,PySem.F.type_tuple_index,EK hu⟩
 ·exact⟨_,W9,PySem.F.slot_str_join,PySem.F.type_str_join,Bg⟩
 ·exact⟨_,W9,Wc,PySem.F.type_str_split,xR⟩
 ·exact⟨_,W9,PySem.F.slot_str_strip,PySem.F.type_str_strip,xP⟩
 ·exact⟨_,W2,Y1,PySem.F.type_dict_get,EO hu⟩
 ·exact⟨_,W2,Xv,PySem.F.type_dict_setdefault,ER hu⟩
theorem BV (o:dS X Γ) (c:d6 X S) (hB:eZ X B) {q:Fn × List Expr} (hg:Gl X x) (h1:X.mg x=none) (h2:x≠"__name__") (h3:(x == ("__debug__":Str))=false) (hs:es.all aY=true) (h:nest Γ S fz x es=some q):PE X (.Call (.Name x p) es [] pos) (ae q.1 (q.2.map B.E)):=by
 unfold nest at h;split at h
 case h_2=>cases h
 split at h
 case h_2=>cases h
 split at h
 case h_2=>cases h
 split at h
 case h_3=>cases h
 ·rename_i Po q _ _ y p2
  replace hs:aY (.Call (.Name y p2) Po [] q)=true:=by simpa using hs
  unfold CW at h;split at h
  case h_2=>cases h
  rename_i hb;simp only [Tw] at hb;obtain⟨⟨⟨b1,b2⟩,b3⟩,b4⟩:=hb;obtain⟨m1,m2,m3⟩:=o.us y (by simpa using b2);split at h
  ·rename_i hx
   rw [Tw] at hx;have e1:=eq_of_beq hx.1
   have e2:=eq_of_beq hx.2;subst e1 e2;split at h
   ·cases h
    exact fun {_ _ _ _ _ _ _} I q=>yK o.hu (d7 hB b3) hg h1 (jq c b1) m1 b3 hs I q
   ·cases h
  ·split at h
   ·rename_i hx
    rw [Tw] at hx;have e1:=eq_of_beq hx.1
    have e2:=eq_of_beq hx.2;subst e1 e2;split at h
    ·cases h
     exact fun {_ _ _ _ _ _ _} I q=>BN o.hu (d7 hB b3) hg h1 (jq c b1) m1 b3 hs I q
    ·cases h
   ·cases h
 ·rename_i Po q _ _ ob m ap
  split at h
  case h_2=>cases h
  replace hs:aY (.Call (.Attribute ob m ap) [] [] q)=true:=by simpa using hs
  unfold CX at h;split at h
  ·rename_i hb
   simp only [Tw] at hb;obtain⟨⟨⟨⟨b1,b2⟩,b3⟩,b4⟩,b5⟩:=hb;have e1:=eq_of_beq b3
   have e2:=eq_of_beq b4;subst e1 e2;cases h;exact fun {_ _ _ _ _ _ _} I q=>yJ o.hu (hB.E _) b1 b2 hg h1 hs I q
  ·cases h
theorem BW (o:dS X Γ) (c:d6 X S) (hB:eZ X B):PE X (.Call (.Name x p) es [] pos) (yk Γ B S x es pos):=by
 unfold yk;split
 ·rename_i h
  simp only [Tw] at h;split
  ·rename_i F hF
   obtain⟨h1,k,fa,h2,h3,h4,h5⟩:=o.fn x F hF;cases es with
   | nil=>exact fun {_ _ _ _ _ _ _} I q=>AY (sq h2 h3) (jq c h.1) h4 h5 h1 I q
   | cons e es=>exact fun {_ _ _ _ _ _ _} I q=>Es (sq h2 h3) (jq c h.1) h4 h5 (d7 hB h.2) h.2 h1 I q
  ·split
   ·rename_i hb hF
    simp only [Tw] at hb;obtain⟨h1,h2,h3⟩:=o.us x (by simpa using hb.1);split
    ·rename_i q hq
     exact fun {_ _ _ _ _ _ _} I z=>BV o c hB (jq c h.1) h1 h2 h3 h.2 hq I z
    ·cases es with
     | nil=>exact absurd hb.2 (by simp)
     | cons e es=>exact fun {_ _ _ _ _ _ _} I q=>EC (Fq o.hu hF) (jq c h.1) h1 h2 h3 (d7 hB h.2) h.2 I q
   ·exact fun {_ _ _ _ _ _ _} I q=>cy I q
 ·exact fun {_ _ _ _ _ _ _} I q=>cy I q
theorem BX (oc:dS X Γ) (hB:eZ X B):PE X (.Call (.Attribute o x p) es [] pos) (yl Γ B o x p es pos):=by
 unfold yl;split
 ·rename_i h
  simp only [Tw] at h;obtain⟨⟨⟨h1,h2⟩,h3⟩,h4⟩:=h;have h3:=of_decide_eq_true h3
  have h0:es=[]->es.map B.E=[]:=fun e=>by rw [e];rfl
  split
  ·rename_i mf hF
   refine fun {_ _ _ _ _ _ _} I q=>A0 (fun c C F hc hf=>?_) (hB.E o) (d7 hB h2) h0 h2 h3 h1 h4 I q
   obtain⟨fa,k,q1,q2,q3,q4⟩:=oc.me x mf hF c C F hc hf;exact⟨fa,q1,q2,sq q3 q4⟩
  ·split
   ·rename_i f hf
    exact fun {_ _ _ _ _ _ _} I q=>Ba (Fs oc.hu hf) (hB.E o) (d7 hB h2) h0 h2 h3 h1 h4 I q
   ·exact fun {_ _ _ _ _ _ _} I q=>cy I q
 ·exact fun {_ _ _ _ _ _ _} I q=>cy I q
theorem yQ (hS:∀X S,dS X Γ->d6 X S->eZ X (BS S)) (o:dS X Γ) (c:d6 X S) (e:Expr):PE X e (CY Γ BS S e):=by
 have hB:=hS X S o c;have no:PE X e no:=fun {_ _ _ _ _ _ _} I q=>cy I q
 cases e with
 | Name=>exact fun {_ _ _ _ _ _ _} I q=>BO o c I q
 | Constant=>exact fun {_ _ _ _ _ _ _} I q=>Fm I q
 | BinOp=>exact fun {_ _ _ _ _ _ _} I q=>DT Ey (hB.E _) (hB.E _) I q
 | UnaryOp op=>cases op with
  | Not=>exact fun {_ _ _ _ _ _ _} I q=>DX (hB.E _) I q
  | USub=>exact fun {_ _ _ _ _ _ _} I q=>HC DW (hB.E _) I q
  | _=>exact @no
 | BoolOp op=>cases op with
  | And=>exact fun {_ _ _ _ _ _ _} I q=>uL hB _ I q
  | Or=>exact fun {_ _ _ _ _ _ _} I q=>yM hB _ I q
 | Compare=>exact fun {_ _ _ _ _ _ _} I q=>Fo o hB I q
 | IfExp=>exact fun {_ _ _ _ _ _ _} I q=>D6 (hB.T _) (hB.E _) (hB.E _) I q
 | List =>
  delta CY;dsimp only;split
  ·rename_i h;exact fun {_ _ _ _ _ _ _} I q=>D7 (d7 hB h) I q
  ·exact @no
 | Tuple =>
  delta CY;dsimp only;split
  ·rename_i h
   simp only [Tw] at h;exact fun {_ _ _ _ _ _ _} I q=>D8 (d7 hB h.1) (TU (of_decide_eq_true h.2) (by decide)) (by simp) I q
  ·exact @no
 | Dict a b=>cases a with
  | nil=>cases b with
   | nil=>exact fun {_ _ _ _ _ _ _} I q=>Bm I q
   | _=>exact @no
  | _=>exact @no
 | Subscript=>exact fun {_ _ _ _ _ _ _} I q=>Fp o hB I q
 | Attribute =>
  delta CY;dsimp only;split
  ·rename_i h
   simp only [Tw] at h;exact fun {_ _ _ _ _ _ _} I q=>pe_fld o.fl (by simpa using h.2) (hB.E _) h.1 I q
  ·exact @no
 | ListComp _ gs=>cases gs with
  | nil=>exact @no
  | cons g r =>
   obtain⟨tg,it,fs,n⟩:=g;cases n with
   | ofNat n=>cases n with
    | zero=>cases r with
     | nil=>exact fun {_ _ _ _ _ _ _} I q=>BU hS o c I q
     | cons=>exact @no
    | succ=>cases r <;> exact @no
   | negSucc=>cases r <;> exact @no
 | Call f es ks=>cases ks with
  | nil=>cases f with
   | Name=>exact fun {_ _ _ _ _ _ _} I q=>BW o c hB I q
   | Attribute=>exact fun {_ _ _ _ _ _ _} I q=>BX o hB I q
   | _=>exact @no
  | cons=>cases f <;> exact @no
 | _=>exact @no
theorem Ft (o:dS X Γ) (hB:eZ X (BS S)) (hE:∀e,PE X e (CY Γ BS S e)) (e:Expr):PT X e (OS (BS S) (CY Γ BS S) e):=by
 have no:PT X e no:=fun {_ _ _ _ _ _ _} w hw I q=>t8 w hw I q
 cases e with
 | UnaryOp op=>cases op with
  | Not=>exact fun {_ _ _ _ _ _ _} w hw I q=>D0 (hB.T _) w hw I q
  | _=>exact @no
 | BoolOp op=>cases op with
  | And=>exact fun {_ _ _ _ _ _ _} w hw I q=>uM hB _ w hw I q
  | Or=>exact fun {_ _ _ _ _ _ _} w hw I q=>yN hB _ w hw I q
 | Compare=>exact fun {_ _ _ _ _ _ _} w hw I q=>BP o hB w hw I q
 | Name|Call|Subscript|Attribute|Constant=>exact fun {_ _ _ _ _ _ _} w hw I q=>DZ (hE _) (fun _=>rfl) (fun _ _ _ h=>by cases h) w hw I q
 | _=>exact @no
theorem C9 {tg:Expr} {l:Nat} {env:Env} (h:iB e=true):swapsWithSole [tg] e l env=pure false:=ja h
theorem Pp {ts:List Expr} {k:Nat} {env:Env} (h:CZ e=true):swappedStores [.Tuple ts k p] e env=pure none/\iB e=true:=by
 cases e <;> first|exact⟨rfl,rfl⟩|cases h
theorem Fu {gs:List Comprehension} {tg iter:Expr} {ifs:List Expr} (h:Mj gs=some (tg,iter,ifs)):gs=[⟨tg,iter,ifs,0⟩]:=by
 unfold Mj at h;split at h
 ·cases h;rfl
 ·cases h
theorem Fv (hS:∀X S,dS X Γ->d6 X S->eZ X (BS S)) (o:dS X Γ) (c:d6 X S) {tg:Expr}:PS X (.Assign [tg] e pos) (vW Γ BS S tg e):=by
 have hB:=hS X S o c;have no:PS X (.Assign [tg] e pos) fE:=fun {_ _ _ _ _} I q=>xc I q
 cases tg with
 | Name x p =>
  delta vW;dsimp only;split
  ·rename_i i hi
   have V:PS X (.Assign [.Name x p] e pos) (Bz BS S i e):=by
    unfold Bz;split
    ·rename_i hv
     exact fun {_ _ _ _ _} I q=>r7 (hB.E _) (kI (lZ c hi)) (C9 hv) rfl rfl I q
    ·exact @no
   cases e with
   | ListComp elt gs sc q =>
    dsimp only;split
    ·rename_i hg
     cases Fu hg;exact fun {_ _ _ _ _} I q=>yP hS o c (lZ c hi) I q
    ·exact @V
   | _=>exact @V
  ·exact @no
 | Tuple ts _ _ =>
  delta vW;dsimp only;split
  ·rename_i hi ht
   obtain⟨q1,q2,q3⟩:=oZ c hi;exact fun {_ _ _ _ _} I q=>r7 (hB.E _) (xf q1 q2 q3) (C9 (Pp (ts:=[]) (k:=0) (p:=pos) (env:=X.env) ht).2) (Pp ht).1 rfl I q
  ·exact @no
 | Attribute ob f _ =>
  delta vW;dsimp only;split
  ·rename_i h
   simp only [Tw] at h;exact fun {_ _ _ _ _} I q=>AX o.fl (by simpa using h.1) (hB.E _) (hB.E _) h.2 I q
  ·exact @no
 | Subscript ob i _ =>
  delta vW;dsimp only;split
  ·rename_i h;exact fun {_ _ _ _ _} I q=>Bj o.hu (hB.E _) (hB.E _) (hB.E _) h I q
  ·exact @no
 | _=>exact @no
theorem Fw (hS:∀X S,dS X Γ->d6 X S->eZ X (BS S)) (o:dS X Γ) (c:d6 X S) (st:Stmt):PS X st (Ho Γ BS S st):=by
 have hB:=hS X S o c;have no:PS X st fE:=fun {_ _ _ _ _} I q=>xc I q
 cases st with
 | Pass=>exact fun {_ _ _ _ _} I q=>AI I q
 | Break=>exact fun {_ _ _ _ _} I q=>D9 I q
 | Continue=>exact fun {_ _ _ _ _} I q=>Ea I q
 | Expr =>
  delta Ho;dsimp only;split
  ·rename_i h;exact fun {_ _ _ _ _} I q=>Eb (hB.E _) h I q
  ·exact @no
 | Return v=>cases v with
  | none=>exact fun {_ _ _ _ _} I q=>AJ I q
  | some=>exact fun {_ _ _ _ _} I q=>Ec (hB.E _) I q
 | If=>exact fun {_ _ _ _ _} I q=>HF (hB.T _) (fN hB _) (fN hB _) I q
 | Assign ts=>cases ts with
  | nil=>exact @no
  | cons t r=>cases r with
   | nil=>exact fun {_ _ _ _ _} I q=>Fv hS o c I q
   | cons=>exact @no
 | AugAssign t=>cases t with
  | Name =>
   delta Ho;dsimp only;split
   ·rename_i h;exact fun {_ _ _ _ _} I q=>Ed (lZ c h) (hB.E _) xx I q
   ·exact @no
  | Subscript =>
   delta Ho;dsimp only;split
   ·rename_i h;exact fun {_ _ _ _ _} I q=>Bl o.hu (hB.E _) (hB.E _) (hB.E _) h I q
   ·exact @no
  | _=>exact @no
 | For tg e b r=>cases r with
  | nil =>
   delta Ho;dsimp only;split
   ·rename_i h1 h2;exact fun {_ _ _ _ _} I q=>Eh (pd o c hB) (td c h1) (fN hB _) h2 I q
   ·exact @no
  | cons=>exact @no
 | While k b r=>cases r with
  | nil=>exact fun {_ _ _ _ _} I q=>Ee (hB.T _) (fN hB _) lim I q
  | cons=>exact @no
 | _=>exact @no
theorem qF:∀(n:Nat) (X:Cx) (S:Sg),dS X Γ->d6 X S->eZ X (cX Γ n S)
 | 0,X,S,_,_=>⟨fun _ {_ _ _ _ _ _ _} I q=>cy I q,fun _ {_ _ _ _ _ _ _} w hw I q=>t8 w hw I q,fun _ {_ _ _ _ _} I q=>xc I q⟩
 | n+1,X,S,o,c=>⟨yQ (qF n) o c,Ft o (qF n X S o c) (yQ (qF n) o c),Fw (qF n) o c⟩
theorem uO (o:dS X Γ) (c:d6 X S) (b:List Stmt):w5 X b (code Γ S b):=fN (qF 40 X S o c) b
end
theorem qG {n0 n:Nat} {L:aa} (hn:n0<=n) (h:∀c,at_ L n=some c->c=.ref n):∀k,bU n0 L k (.ref n)=none
 | 0=>rfl
 | k+1=>by
  unfold bU;rw [if_neg (by rw [lt];simpa using hn)];cases e:at_ L n with
  | none=>simp only [e]
  | some c=>simp only [e];rw [h c e];exact qG hn h k
theorem BY {n0 k:Nat} {L:aa} {xs:List T} {t:T} (e:bU n0 L (k+2) (.lst xs)=some t):∃ys,t=.lst ys/\xs.length=ys.length/\∀(i:Nat) y,ys[i]?=some y->∃x,xs[i]?=some x/\bU n0 L (k+1) x=some y:=by
 unfold bU at e;split at e
 ·rename_i hl
  cases e;rw [lt] at hl;refine⟨xs,rfl,rfl,fun i y q=>⟨y,q,?_⟩⟩;unfold bU;rw [if_pos (fY.mp hl i y q)]
 ·obtain⟨ys,e1,rfl⟩:=TG.mp e
  obtain⟨len,at'⟩:=ie e1;exact⟨ys,rfl,len,at'⟩
theorem BZ {g g':G} {L L' Lo:aa} {t t':T} {u:Ts} (l:Le g g') (r0:Rel g L) (r:Rel g' L') (h:RT g' none t u) (e:By L t L'=.ok t' Lo) :
  ∃cS,Le g cS/\Rel cS Lo/\RT cS none t' u/\(∀a b o,cS.H a=some (b,o)->∃b',g'.H a=some (b',o))/\(∀a,g'.H a=none->cS.H a=none)/\∀a o,g'.H a=some (true,o)->cS.H a=some (true,o):=by
 classical
 cases t with
 | ref n=>?_
 | _=>cases e
 cases h with
 | ref hp=>?_
 rename_i p;unfold By at e;cases ec:at_ L' n with
 | none=>simp only [ec] at e;cases e
 | some c=>?_
 cases c with
 | lst xs=>?_
 | _=>simp only [ec] at e;cases e
 simp only [ec] at e;unfold bT at e;split at e
 case isFalse=>cases e
 case isTrue hn =>
 obtain⟨p',hp',hcell⟩:=r.cells n _ ec;rw [hp] at hp';cases hp';generalize MZ:put L' n (.ref n)=Lp at e;have IM:Lp.length=L'.length:=by rw [<- MZ];exact t6
 unfold fin at e;split at e
 case isFalse=>cases e
 case isTrue ho =>
 have n0:L.length<=L'.length:=by have:=fb ec;omega
 cases ef:bU L.length Lp 9 (.lst xs) with
 | none=>rw [ef] at e;cases e
 | some t1=>?_
 rw [ef] at e;cases e;obtain⟨ys,rfl,IP,RA⟩:=BY ef;have IQ:∀m c,m≠n->at_ Lp m=some c->at_ L' m=some c:=fun m c hm q=>by
  rw [<- MZ] at q;rcases oi q with⟨z,_⟩|⟨_,z⟩
  ·exact absurd z hm
  ·exact z
 have Pq:∀c,at_ Lp n=some c->c=.ref n:=fun c q=>by
  rw [<- MZ] at q;rcases oi q with⟨_,z⟩|⟨z,_⟩
  ·exact z
  ·exact absurd rfl z
 let nw:Ug->Prop:=fun a=>∃m q,L.length<=m/\m≠n/\at_ g'.α m=some q/\(a=q.1\/a=q.2)
 let cS:G:={ g' with H:=fun a=>if nw a then (g'.H a).map fun q=>(true,q.2) else g'.H a,α:=p::g'.α.drop (g'.α.length - L.length) }
 have hH:∀a,cS.H a=if nw a then (g'.H a).map fun q=>(true,q.2) else g'.H a:=fun _=>rfl
 have dl:(g'.α.drop (g'.α.length - L.length)).length=L.length:=by rw [Uo,r.len];omega
 have dL:(Lp.drop (Lp.length - L.length)).length=L.length:=by rw [Uo,IM];omega
 have hα:∀m,m<L.length->at_ cS.α m=at_ g'.α m:=fun m hm=>by
  have:at_ (p::g'.α.drop (g'.α.length - L.length)) m=at_ (g'.α.drop (g'.α.length - L.length)) m:=if_neg (by rw [dl];omega)
  exact this.trans (jf hm (by rw [r.len];exact n0))
 have M0:at_ cS.α L.length=some p:=by
  have:at_ (p::g'.α.drop (g'.α.length - L.length)) (g'.α.drop (g'.α.length - L.length)).length=some p:=eS
  rw [dl] at this;exact this
 have Fx:∀a o,g'.H a=some (true,o)->cS.H a=some (true,o):=fun a o q=>by
  rw [hH];split
  ·rw [q];rfl
  ·exact q
 have mY:∀a o,g'.kn true a o->cS.kn true a o:=fun a o q=>q.elim (fun q=>.inl (Fx a o q)) .inr
 have sd:∀m p b o,L.length<=m->m≠n->at_ g'.α m=some p->(b=p.1\/b=p.2)->g'.kn false b o->cS.kn true b o:=fun m p b o hm hne hp hb q=>by
  rcases q with q|⟨z,_⟩
  ·refine .inl ?_
   rw [hH,if_pos ⟨m,p,hm,hne,hp,hb⟩,q];rfl
  ·cases z
 have hr:∀m p,m<L.length->at_ g'.α m=some p->at_ cS.α m=some p:=fun m p hm hp=>(hα m hm).trans hp
 have xn:∀m p,m<L.length\/m=n->at_ g'.α m=some p->¬ nw p.1/\¬ nw p.2:=fun m p hm hp=>by
  refine⟨?_,?_⟩ <;>
  ·rintro⟨m',q,hm',hne,hq,hb⟩
   have ap:=r.apart m m' p q hp hq (by omega);rcases hb with hb|hb
   ·first|exact ap.1 hb|exact ap.2.2.1 hb
   ·first|exact ap.2.1 hb|exact ap.2.2.2 hb
 have Dc:∀m p b o,m<L.length\/m=n->at_ g'.α m=some p->(b=p.1\/b=p.2)->g'.kn false b o->cS.kn false b o:=fun m p b o hm hp hb hk=>by
  have no:=xn m p hm hp;rcases hk with hk|⟨z,_⟩
  ·refine .inl ?_
   rw [hH,if_neg (by rcases hb with hb|hb <;> rw [hb];exact no.1;exact no.2)];exact hk
  ·cases z
 have hc:∀m c,L.length<=m->at_ Lp m=some c->(∀k,bU L.length Lp k c=none)\/∃p,at_ g'.α m=some p/\RT g' (some p) c (.ref p.1)/\∀b o,(b=p.1\/b=p.2)->g'.kn false b o->cS.kn true b o:=fun m c hm q=>by
  by_cases z:m=n
  ·subst z
   rw [Pq c q];exact .inl (qG hn Pq)
  ·obtain⟨p1,q1,q2⟩:=r.cells m c (IQ m c z q)
   exact .inr ⟨p1,q1,q2,fun b o hb=>sd m p1 b o hm z q1 hb⟩
 have top:RT cS (some p) (.lst ys) (.ref p.1):=by
  cases hcell with
  | lst ht hk hz hl hi =>
   have hk':=Dc n p _ _ (.inr rfl) hp (.inl rfl) hk;refine .lst ht hk' (by rw [<- IP];exact hz) (by rw [<- IP];exact hl) fun i y v q1 q2=>?_
   obtain⟨x,x1,x2⟩:=RA i y q1;exact fZ hr mY hc rfl rfl _ (hi i x v x1 q2) (fun q z=>by cases z) x2
 have M1:∀m c,m<L.length->at_ (Lp.drop (Lp.length - L.length)) m=some c->∃p,at_ cS.α m=some p/\RT cS (some p) c (.ref p.1):=fun m c hm q=>by
  have q':at_ L' m=some c:=IQ m c (by omega) ((jf hm (by rw [IM];exact n0)).symm.trans q)
  obtain⟨p1,h1,h2⟩:=r.cells m c q';have bD:M.lt L.length c=true:=by
   rcases ho m c q with z|z
   ·obtain⟨p0,_,z2⟩:=r0.cells m c z
    rw [<- r0.len];exact z2.lt
   ·exact z
  refine⟨p1,hr m p1 hm h1,h2.re hr mY rfl rfl bD (fun z=>by cases z) fun a d b o ht hb hk=>⟨ht,?_⟩⟩;rcases ht with z|z
  ·cases z
  ·cases z
   exact Dc m _ b o (.inl hm) h1 hb hk
 have yR:∀m q,at_ cS.α m=some q->∃m',at_ g'.α m'=some q/\((m<L.length/\m'=m)\/(m=L.length/\m'=n)):=fun m q z=>by
  have hm:m<L.length+1:=by have:=fb z;have:m<(p::g'.α.drop (g'.α.length - L.length)).length:=this;rw [Tu,dl] at this;exact this
  by_cases zz:m=L.length
  ·subst zz;rw [M0] at z;cases z;exact⟨n,hp,.inr ⟨rfl,rfl⟩⟩
  ·have hm:m<L.length:=by omega
   exact⟨m,(hα m hm).symm.trans z,.inl ⟨hm,rfl⟩⟩
 refine⟨cS,⟨fun a o q=>Fx a o (l.f a o q),fun m p q=>hr m p (by rw [<- r0.len];exact fb q) (l.α m p q),l.B,l.m,l.w⟩,⟨?_,fun m c q=>?_,fun m m' q q' h1 h2 hne=>?_,fun m q z=>?_⟩,.ref M0,fun a b o q=>?_,fun a q=>?_,Fx⟩
 ·show(p::g'.α.drop _).length=_
  rw [Tu,Tu,dl,dL]
 ·unfold at_ at q
  split at q
  ·rename_i em
   cases q;rw [dL] at em;subst em;exact⟨p,M0,top⟩
  ·exact M1 m c (by have:=fb q;rw [dL] at this;exact this) q
 ·obtain⟨a,a1,a2⟩:=yR m q h1
  obtain⟨b,b1,b2⟩:=yR m' q' h2;exact r.apart a b q q' a1 b1 (by omega)
 ·obtain⟨a,a1,a2⟩:=yR m q z
  obtain⟨⟨o1,h1⟩,o2,h2⟩:=r.live a q a1;have no:=xn a q (by omega) a1
  exact⟨⟨o1,by rw [hH,if_neg no.1];exact h1⟩,o2,by rw [hH,if_neg no.2];exact h2⟩
 ·rw [hH] at q
  split at q
  ·obtain⟨z,z1,z2⟩:=TG.mp q
   cases z2;exact⟨z.1,z1⟩
  ·exact⟨b,q⟩
 ·rw [hH,q];split <;> rfl
section
variable {P:UU} {w:VL} {K:Ua} {mg:Str->Option Ts} {cls:Str->Option Ug} {base:Heap} {N ps:List Str} {qual:Str} {scope:Scope} {f:Ug} {g:G} {L:aa}
theorem Fy {k:Nat} {name:Str} {params:Arguments} {body:List Stmt} {dV kV doc pm f7 ct oc:Ts} {an od:Option Ug} {rM:Array (Option Ts)} {mb:SS} (lk:K.lookup f=some ⟨oc,od,.func (Vw name qual params body scope dV kV doc pm an f7 ct),rM⟩) (hcd:V9 K f7 qual=true) (S:kO N ps scope)
  (xt:∀us:List Ts,us.length=ps.length->bindArgs (Vw name qual params body scope dV kV doc pm an f7 ct) ⟨us,[]⟩=pure (ps.zip us))
  (jg:∀(A:Ux) (s:Tv) (H:Hp),eX k (A.deeper (envOfC qual scope s.heap.objs.size f f7))->w5 (xq P w K mg cls base N qual scope f f7 A s H) body mb) :
  eY P w K mg cls base (k+1) f (vU ps.length N.length mb):=fun {A s g L L' us xs t} hr e0 r mZ=>by
 unfold vU at mZ;split at mZ
 ·rename_i hl
  have LR:us.length=ps.length:=by rw [<- TV r];exact hl
  have KX:K.In s.heap:=e0.mod.Hf.keeps fun b o e=>(e0.bs b o e).1
  have lim:s.heap.NoLimit:=e0.mod.nolimit.keeps fun b o e=>(e0.bs b o e).1
  have hkind:∀y∈ps.zip us,scope.names.lookup y.1=some .local\/(scope.names.lookup y.1=some .cell/\((cellsFrom (s.heap.objs.size+1) scope.names []).lookup y.1).isSome=true):=fun⟨n,v⟩ hy=>by
   rcases S.par n (WW hy).1 with q|q
   ·exact .inl q
   ·exact .inr ⟨q,W7 _ _ _ (.inl q)⟩
  refine codeAny_call_function hr.depth (KX _ _ lk) rfl S.co S.gen rfl (Zm KX hcd) (BindsTo.of_eq (xt us LR) _ _ _ _ ?_);refine wpAny_newFunctionEnv_cells S.kind hkind fun env he s1 x=>?_
  subst he;refine⟨lim.keeps x.toInCall.keep,codeAny_func ?_⟩;have I:=nC (A:=A) (cd:=f7) S hr.hd e0 hl r x
  have nb:mb (xs.map some++Ui (N.length - ps.length) none) L≠.bad:=fun z=>by rw [z] at mZ;cases mZ
  refine wpAny_mono (jg A s g.H (hr.deeper _) I nb) (fun fl s' ⟨g',l,hs⟩=>?_) fun e s' hs=>hs.elim
  cases eb:mb (xs.map some++Ui (N.length - ps.length) none) L with
  | rt t0 L1 =>
   rw [eb] at hs mZ;cases fl <;> first|exact hs.elim|skip
   obtain⟨⟨φ',J⟩,rt⟩:=hs;obtain⟨g2,l2,r2,h2,a,b,c⟩:=BZ l e0.rel J.rel rt mZ;exact⟨g2,J.os,J.bare,⟨J.base.keep,fun x o q n z=>b x (J.base.free x o q n z),fun x o q=>c x o (J.base.bU x o q)⟩,fun x y o q=>let ⟨_,z⟩:=a x y o q;J.hok x _ o z,l2,r2,h2⟩
  | _=>rw [eb] at mZ;cases mZ
 ·cases mZ
end
noncomputable def gi (s:Stmt):Arguments:=match s with
 | .FunctionDef _ a ..=>a
 | _=>⟨[],[],none,[],[],none,[]⟩
noncomputable def bodyOf (s:Stmt):List Stmt:=match s with
 | .FunctionDef _ _ b ..=>b
 | _=>[]
noncomputable def fO (s:Stmt):Scope:=match s with
 | .FunctionDef _ _ _ _ _ _ sc ..=>sc
 | _=>⟨.function,[],false,false,[]⟩
noncomputable def IS:NameKind->Bool
 | .local=>true
 | .cell=>true
 | _=>false
noncomputable def yS (ps:List Str) (sc:Scope):List Str:=ps++((sc.names.filter fun y=>IS y.2).map (·.1)).filter fun y=>!ps.contains y
noncomputable def yT (ps:List Str) (sc:Scope):Bool:=(match sc.kind with
  | .function=>true
  | _=>false) && !sc.isCoroutine && !sc.isGenerator && decide (yS ps sc).Nodup && (ps.all fun x=>match sc.names.lookup x with
  | some k=>IS k
  | none=>false) && (sc.names.all fun y=>match y.2 with
  | .free=>false
  | _=>true) && (yS ps sc).all yj
structure te (K:Ua) (x qual:Str) (st:Stmt) (f:Ug):Prop where
 ex:∃(oc:Ts) (od:Option Ug) (kV doc pm:Ts) (an:Option Ug) (f7 ct:Ts) (rM:Array (Option Ts)),K.lookup f=some ⟨oc,od,.func (Vw x qual (gi st) (bodyOf st) (fO st) .none kV doc pm an f7 ct),rM⟩/\V9 K f7 qual=true
 kp:UW K (.ref f)=true
structure Tab (P:UU) (w:VL) (K:Ua) (mg:Str->Option Ts) (cls:Str->Option Ug) (base:Heap) (n:Nat) (Γ:Ct):Prop where
 fn:∀x F,Γ.fn.lookup x=some F->(x == ("__debug__":Str))=false/\∃fa,eY P w K mg cls base n fa F/\mg x=some (.ref fa)/\UW K (.ref fa)=true
 co:∀x t,Γ.co.lookup x=some t->(x == ("__debug__":Str))=false/\∃u,mg x=some u/\∀g:G,g.B=base->g.cls=cls->g.w=w->RT g none t u
 us:∀x∈Γ.us,mg x=none/\x≠"__name__"/\(x == ("__debug__":Str))=false
 fl:∀c C,cls c=some C->ClsOk K Γ.fl C
 me:∀m mf,Γ.me.lookup m=some mf->∀c C F,cls c=some C->mf.lookup c=some F->∃fa,AW K C/\Meth K C m fa/\eY P w K mg cls base n fa F
noncomputable def Ct.wh (Γ:Ct) (x:Str) (F:Fn):Ct:={ Γ with fn:=(x,F)::Γ.fn }
noncomputable def Ct.yU (Γ:Ct) (m c:Str) (F:Fn):Ct:={ Γ with me:=(m,(c,F)::(Γ.me.lookup m).getD [])::Γ.me }
section
variable {P:UU} {w:VL} {K:Ua} {mg:Str->Option Ts} {cls:Str->Option Ug} {base:Heap} {n:Nat} {Γ:Ct} {x qual:Str} {st:Stmt} {f:Ug} {ps:List Str} {m F:Fn}
theorem eY.mono {j k:Nat} (h:eY P w K mg cls base j f m) (l:j<=k):eY P w K mg cls base k f m:=fun {_ _ _ _ _ _ _ _} hr e r q=>h (hr.mono l) e r q
theorem Tab.ct {X:Cx} (T:Tab P w K mg cls base n Γ) (h:X.prog=P/\X.w=w/\X.K=K/\X.mg=mg/\X.cls=cls/\X.base=base) (hr:eX n X.A):dS X Γ:=by
 obtain⟨rfl,rfl,rfl,rfl,rfl,rfl⟩:=h;refine⟨?_,fun x F q=>?_,T.co,T.us,T.fl,fun m mf q c C F hc hF=>?_⟩
 ·have:=hr.un;omega
 ·obtain⟨h1,fa,h2,h3,h4⟩:=T.fn x F q
  exact⟨h1,n,fa,h2,hr,h3,h4⟩
 ·obtain⟨fa,h1,h2,h3⟩:=T.me m mf q c C F hc hF
  exact⟨fa,n,h1,h2,h3,hr⟩
theorem uP (h:yT ps sc=true):kO (yS ps sc) ps sc/\(yS ps sc).all yj=true:=by
 unfold yT at h;simp only [Tw] at h;obtain⟨⟨⟨⟨⟨⟨h1,h2⟩,h3⟩,h4⟩,h5⟩,h6⟩,h7⟩:=h;refine⟨⟨?_,by simpa using h2,by simpa using h3,of_decide_eq_true h4,by simp [yS],fun x hx=>?_,fun y hy e=>?_⟩,h7⟩
 ·split at h1
  ·assumption
  ·cases h1
 ·have:=Tr.mp h5 x hx
  cases e:sc.names.lookup x with
  | none=>rw [e] at this;cases this
  | some k =>
   rw [e] at this;cases k <;> first|exact .inl rfl|exact .inr rfl|cases this
 ·have:=Tr.mp h6 y hy
  rw [e] at this;cases this
noncomputable def Dn (rn:Nat->Nat->SS->Fn) (Γ:Ct) (ps:List Str) (st:Stmt) (m:Fn):Prop:=yT ps (fO st)=true/\rn ps.length (yS ps (fO st)).length (code Γ ⟨yS ps (fO st),fO st⟩ (bodyOf st))=m
theorem Tab.M3 (T:Tab P w K mg cls base n Γ) (F:te K x qual st f)
  (e:Dn run Γ ps st m)
  (hb:∀(kV doc pm:Ts) (an:Option Ug) (f7 ct:Ts) (us:List Ts),us.length=ps.length->bindArgs (Vw x qual (gi st) (bodyOf st) (fO st) .none kV doc pm an f7 ct) ⟨us,[]⟩=pure (ps.zip us)):eY P w K mg cls base (n+1) f m:=by
 obtain⟨ok,e⟩:=e;subst e;obtain⟨oc,od,kV,doc,pm,an,f7,ct,rM,l,c⟩:=F.ex;obtain⟨S,nm⟩:=uP ok;refine HS l c S (hb kV doc pm an f7 ct) fun A s H hr=>uO (T.ct ⟨rfl,rfl,rfl,rfl,rfl,rfl⟩ hr) ⟨rfl,S.nd,nm,fun _ h=>h,fun _ h=>⟨h,rfl⟩,fun x h=>absurd rfl (S.su (x,.free) (Up h)),fun _ h=>h⟩ _
theorem Tab.IT (T:Tab P w K mg cls base n Γ) (F:te K x qual st f)
  (e:Dn vU Γ ps st m)
  (hb:∀(kV doc pm:Ts) (an:Option Ug) (f7 ct:Ts) (us:List Ts),us.length=ps.length->bindArgs (Vw x qual (gi st) (bodyOf st) (fO st) .none kV doc pm an f7 ct) ⟨us,[]⟩=pure (ps.zip us)):eY P w K mg cls base (n+1) f m:=by
 obtain⟨ok,e⟩:=e;subst e;obtain⟨oc,od,kV,doc,pm,an,f7,ct,rM,l,c⟩:=F.ex;obtain⟨S,nm⟩:=uP ok;refine Fy l c S (hb kV doc pm an f7 ct) fun A s H hr=>uO (T.ct ⟨rfl,rfl,rfl,rfl,rfl,rfl⟩ hr) ⟨rfl,S.nd,nm,fun _ h=>h,fun _ h=>⟨h,rfl⟩,fun x h=>absurd rfl (S.su (x,.free) (Up h)),fun _ h=>h⟩ _
theorem Tab.add (T:Tab P w K mg cls base n Γ) (hF:eY P w K mg cls base (n+1) f m) (hm:mg x=some (.ref f)) (hk:UW K (.ref f)=true) (hd:(x == ("__debug__":Str))=false):Tab P w K mg cls base (n+1) (Γ.wh x m):=by
 refine⟨fun y F q=>?_,T.co,T.us,T.fl,fun m mf q c C F hc hF=>let ⟨fa,h1,h2,h3⟩:=T.me m mf q c C F hc hF;⟨fa,h1,h2,h3.mono (VJ n)⟩⟩;have z:Ys y ((x,m)::Γ.fn)=some F:=q
 clear q;rw [T6] at z;split at z
 ·rename_i e
  have:=eq_of_beq e;subst this;cases z;exact⟨hd,f,hF,hm,hk⟩
 ·obtain⟨h1,fa,h2,h3⟩:=T.fn y F z
  exact⟨h1,fa,h2.mono (VJ n),h3⟩
theorem Tab.yU {c y:Str} {C:Ug} (T:Tab P w K mg cls base n Γ) (hF:eY P w K mg cls base (n+1) f m) (hc:cls c=some C) (h1:AW K C) (h2:Meth K C y f):Tab P w K mg cls base (n+1) (Γ.yU y c m):=by
 refine⟨fun y F q=>let ⟨h1,fa,h2,h3⟩:=T.fn y F q;⟨h1,fa,h2.mono (VJ n),h3⟩,T.co,T.us,T.fl,fun y' mf q c' C' F hc' hF'=>?_⟩;have z:Ys y' ((y,(c,m)::(Γ.me.lookup y).getD [])::Γ.me)=some mf:=q
 clear q;have old:∀mf,Γ.me.lookup y'=some mf->mf.lookup c'=some F->∃fa,AW K C'/\Meth K C' y' fa/\eY P w K mg cls base (n+1) fa F:=fun mf q z =>
  let ⟨fa,h1,h2,h3⟩:=T.me y' mf q c' C' F hc' z;⟨fa,h1,h2,h3.mono (VJ n)⟩
 rw [T6] at z;split at z
 ·rename_i e
  have:=eq_of_beq e;subst this;cases z;rw [T6] at hF';split at hF'
  ·rename_i e2
   have:=eq_of_beq e2;subst this;cases hF';rw [hc] at hc';cases hc';exact⟨f,h1,h2,hF⟩
  ·cases eo:Γ.me.lookup y' with
   | none=>rw [eo] at hF';cases hF'
   | some mf=>rw [eo] at hF';exact old mf eo hF'
 ·exact old mf z hF'
theorem qH:∀{g:G} {vs:List Ts} {ns:List Int},IntsAre vs ns->cu g (ns.map T.int) vs
 | _,_,_,.nil=>.nil
 | _,_,_,.cons n t h=>.cons (.int n t) (qH h)
theorem yV {mb:Str->Option Ts} {k:Nat} {fa a:Ug} {s₁:Tv} {vs:List Ts} {ns:List Int}
  (KX:K.In s₁.heap) (Dd:s₁.heap.Ns Uv mg) (hb:s₁.heap.Ns builtinsNs mb) (RB:∀x:Str,x≠"__name__"->mb x=bootBuiltins x) (M4:s₁.heap.NoLimit) (hg:s₁.gens = #[])
  (ha:s₁.heap.get? a=some { cls:=.type "list",data:=.seq vs.toArray }) (hi:IntsAre vs ns) (hl:ns.length<=T7) (hr:eX k callerA)
  (hF:eY P w K mg cls s₁.heap k fa m) (hm:∃L',m [.lst (ns.map .int)] []=.ok (.bl true) L') :
  codeAny (model P w) callerA (.call (.ref fa) ⟨[.ref a],[]⟩) (fun r s'=>r=.ok (.ret (.bool true))/\OldK s₁.heap s'.heap/\s'.os=s₁.os/\AllBare s'.gens) s₁:=by
 obtain⟨L',hm⟩:=hm
 let g:G:=⟨fun _=>none,[],s₁.heap,cls,w⟩
 have r:cu g [.lst (ns.map T.int)] [.ref a]:=.cons ((qH hi).lst (o:=default) (Le.refl g) (.inl rfl) (.inr ⟨rfl,ha⟩) (by simpa using hl)) .nil;have e0:vN P w K mg cls s₁.heap s₁ g []:=⟨⟨KX,Dd,⟨mb,hb,RB⟩,M4⟩,fun b o e=>⟨e,rfl⟩,TK _,fun a b o z=>(by cases z),.of_eq hg,⟨rfl,fun n c z=>(by cases z),fun n m p q z=>(by cases z),fun n p z=>(by cases z)⟩,rfl,rfl,rfl⟩
 refine codeAny_mono (hF hr e0 r hm) fun r s' h=>?_
 cases r with
 | error e=>exact Ya h
 | ok fl =>
  cases fl with
  | ret u =>
   obtain⟨g',os,bare,un,hok,l,rel,rt⟩:=h;cases rt;exact⟨rfl,OldK.of_keep fun b o e=>un.keep b o e rfl (by simp),os,bare⟩
  | _=>exact Ya h
end
end M
namespace Pt
open PySem PySem.W PySem.Calls PyProof.Rows
theorem ku {P:Params} {h:Heap}:∀(ns:List Int) (vs:List Ts),WellAll P h vs (ns.map WData.int)->IntsAre vs ns:=by
 intro ns;induction ns with
 | nil =>
  intro vs w;rw [UB] at w;cases w;exact .nil
 | cons n ns ih =>
  intro vs w;rw [TC] at w;cases w with
  | cons a b =>
   cases a;exact .cons _ _ (ih _ b)
theorem wi {l:OpenLaw} {n:Nat} (hn:l.most=some n) {P:Params} {h:Heap} {args:List WData} {vals:List Ts}
  (hpre:l.row.toRowW.claim.pre args=true) (hwl:WellAll P h vals args) :
  ∃a vs ns,vals=[Vz a]/\args=[WData.list (ns.map WData.int)]/\h.get? a=some { cls:=.type "list",data:=.seq vs.toArray }/\IntsAre vs ns/\ns.length<=n:=by
 have Lf:WShape.hasAll [] args [.list .int]=true:=(pre_splitW hpre).1;have hc:l.pre.holds [] { args:=args }=true:=(pre_splitW hpre).2
 obtain⟨d,r,rfl,h1,h2⟩:=hasAllW_cons Lf;obtain rfl:=hasAllW_nil h2;obtain⟨xs,rfl,h3⟩:=hasW_list h1;obtain⟨ns,rfl⟩:=items_int h3;have hlen:ns.length<=n:=by
  unfold OpenLaw.pre at hc;have h4:(WTm.not (.lt (.lit (.int (n:Int))) (.len (.arg 0)))).holds [] { args:=[.list (ns.map .int)] }=true:=by
   have h4:=(holds_andW hc).1;rw [hn] at h4;exact h4
  have h5:=condW_of h4 (w_not (w_lt w_lit (w_len_list (w_arg rfl))));rw [Lm9] at h5;refine Nat.le_of_not_lt fun q=>?_
  have q':(n:Int)<((ns.length:Nat):Int):=by omega
  first
   | (rw [decide_eq_true q'] at h5;exact absurd h5 (by decide))
   | (simp at h5;omega)
 cases hwl with
 | cons w1 w2 =>
  cases w2;cases w1 with
  | list ho hall=>exact⟨_,_,ns,rfl,rfl,ho,ku ns _ hall,hlen⟩
theorem wj (l:OpenLaw) (args:List WData):l.row.toRowW.claim.post args (.bool true) args=true :=
 postW_of (r:=l.row.toRowW) (X:=(true == true))
  (show WShape.has [] (.bool true) .bool=true by first|rfl|decide|simp [WShape.has,WShape.arms,WShape.armsAll])
  (show(WTm.eq .res (.lit (.bool true))).value [] { args:=args,res:=some (.bool true),after:=args }=some (.bool (true == true)) from w_eq_bool (w_res rfl) w_lit) rfl
theorem qI {l:OpenLaw} {n:Nat} {q:UU} {loose:List Str} {XP:(Str->Option Ts)->Heap->Prop} {YP:VL->Heap->Prop} {d:DefRec}
  (hn:l.most=some n) (M5:d.params.defaults=[])
  (call:∀(w:VL) (s₀ s₁:Tv) (mg mb:Str->Option Ts) (fa:Ug) (o:Obj) (pm cd doc:Ts) (a:Ug) (vs:List Ts) (ns:List Int),
   Ground q loose [] XP w s₀ mg mb s₁.heap->YP w s₁.heap ->
   s₁.heap.get? fa=some o->o.data=.func (docDef d.name d.params d.body d.scope pm cd doc)->s₁.heap.CodeRec cd d.name->mg d.name=some (.ref fa) ->
   s₁.heap.get? a=some { cls:=.type "list",data:=.seq vs.toArray }->IntsAre vs ns->ns.length<=n->s₁.gens = #[] ->
   codeAny (model l.prog w) callerA (.call (.ref fa) ⟨[.ref a],[]⟩) (fun r s'=>r=.ok (.ret (.bool true))/\OldK s₁.heap s'.heap/\s'.os=s₁.os/\AllBare s'.gens) s₁) :
  WalkO q loose XP YP l.row.toRowW d [] (fun f vs=>PySem.call f vs):=by
 intro w s₀ s₁ mg mb G Y fa o pm cd doc dV kV ho hd hcd hD hmg hg args vals as hpre hlay hrd hwl hlo;obtain rfl:dV=.none:=Dflts.none hD M5;obtain rfl:kV=.none:=Dflts.noKw hD;obtain⟨a,vs,ns,rfl,rfl,Fz,hints,hlen⟩:=wi hn hpre hwl;refine enter_call (codeAny_mono (call w s₀ s₁ mg mb fa o pm cd doc a vs ns G Y ho (fd_plain hd) hcd hmg Fz hints hlen hg) fun r s' hq=>?_);obtain⟨rfl,h2,h3,h4⟩:=hq;exact⟨.inl ⟨.bool true,.bool true,[],rfl,fun _=>rfl,.bool true,wj l _,fun _=>⟨Yp,fun _ hm=>(nomatch hm)⟩⟩,h2,h3,h4⟩
end Pt
namespace M
open PySem PySem.Spec PyProof.Rows
theorem B0 {l:PySem.W.OpenLaw} {n k:Nat} {q:UU} {loose:List Str} {XP:(Str->Option Ts)->Heap->Prop} {YP:VL->Heap->Prop} {d:DefRec} {K:Params->Ua} {m:Fn}
  (hn:l.most=some n) (vL:n<=T7) (M5:d.params.defaults=[]) (hr:eX k callerA) (hY:∀(w:VL) (h:Heap),YP w h->(K w.params).In h)
  (F:∀(w:VL) (mg:Str->Option Ts) (fa:Ug) (h:Heap),(K w.params).In h->h.Ns Uv mg->mg d.name=some (.ref fa)->∃cls,∀base:Heap,(K w.params).In base->base.Ns Uv mg->eY l.prog w (K w.params) mg cls base k fa m)
  (hm:∀ns:List Int,ns.length<=n->∃L',m [.lst (ns.map .int)] []=.ok (.bl true) L'):PySem.W.WalkO q loose XP YP l.row.toRowW d [] (fun f vs=>PySem.call f vs):=by
 refine Pt.qI hn M5 fun w s₀ s₁ mg mb fa o pm cd doc a vs ns G Y ho hd hcd hmg Fz hints hlen hg=>?_
 have KX:=hY w _ Y;obtain⟨cls,hF⟩:=F w mg fa _ KX G.T.g hmg;exact yV KX G.T.g G.T.b G.T.builtins G.T.nolimit hg Fz hints (TU hlen vL) hr (hF _ KX G.T.g) (hm ns hlen)
theorem tf {K:Ua} {x qual:Str} {st:Stmt} {f:Ug} {oc:Ts} {od an:Option Ug} {rM:Array (Option Ts)} {kV doc pm f7 ct:Ts} (l:K.lookup f=some ⟨oc,od,.func (Vw x qual (gi st) (bodyOf st) (fO st) .none kV doc pm an f7 ct),rM⟩)
  (c:V9 K f7 qual=true) (k:UW K (.ref f)=true):te K x qual st f:=⟨⟨oc,od,kV,doc,pm,an,f7,ct,rM,l,c⟩,k⟩
noncomputable def M6 (K:Ua) (x:Str) (st:Stmt) (f:Ug):Prop:=UZ K Uv x=some (some (.ref f))/\te K x x st f
theorem b0 {Pr:List Ts->Prop} (h:Pr []):∀us:List Ts,us.length=0->Pr us:=fun us e=>by cases us;exact h;cases e
theorem bC {n:Nat} {Pr:List Ts->Prop} (h:∀q us,us.length=n->Pr (q::us)):∀us:List Ts,us.length=n+1->Pr us:=fun us e=>by
 cases us
 ·cases e
 ·exact h _ _ (Nat.succ.inj e)
section
variable {P:UU} {w:VL} {K:Ua} {mg:Str->Option Ts} {cls:Str->Option Ug} {base h:Heap} {n:Nat} {Γ:Ct} {x:Str} {st:Stmt} {f:Ug} {m:Fn}
theorem Tab.mono (T:Tab P w K mg cls base n Γ):Tab P w K mg cls base (n+1) Γ :=
 ⟨fun y F q=>let ⟨h1,fa,h2,h3⟩:=T.fn y F q;⟨h1,fa,h2.mono (VJ n),h3⟩,T.co,T.us,T.fl,fun m mf q c C F hc hF=>let ⟨fa,h1,h2,h3⟩:=T.me m mf q c C F hc hF;⟨fa,h1,h2,h3.mono (VJ n)⟩⟩
theorem Tab.RC {cn:Str} {C:Ug} (T:Tab P w K mg cls base n Γ) (hF:eY P w K mg cls base (n+1) f m) (Q:Mk K C f) (hc:cls cn=some C) (hm:mg cn=some (.ref C)) (hd:(cn == ("__debug__":Str))=false):Tab P w K mg cls base (n+2) (Γ.wh cn (make cn m)) :=
 T.mono.add (HT Q hF hc) hm Q.kp hd
end
noncomputable def AllP {α:Type} (p:α->Prop):List α->Prop
 | []=>True
 | a::r=>p a/\AllP p r
theorem AllP.of {α:Type} {p:α->Prop}:∀{l:List α},AllP p l->∀a∈l,p a
 | _::_,h,a,m=>by
  rcases TJ.mp m with rfl|m
  ·exact h.1
  ·exact AllP.of h.2 a m
noncomputable def tp (B:List Stmt) (i:Nat):Stmt:=B.getD i (.Pass ⟨0,0,0,0⟩)
noncomputable def wL (s:Stmt) (j:Nat):Stmt:=match s with
 | .ClassDef _ _ _ b ..=>b.getD j (.Pass ⟨0,0,0,0⟩)
 | _=>s
noncomputable def pe (s:Stmt):List Str:=(gi s).args.map (·.arg)
mutual
noncomputable def wM (K:Ua):T->Ts->Prop
 | .bl b,u=>u=.bool b
 | .int i,u=>∃t,u=.int i t
 | .str s,u=>s.length<=T7/\∃t,u=.str ⟨s.toArray⟩ t
 | .tup xs,u=>∃a us n s,u=.ref a/\K.lookup a=some ⟨.type "tuple",none,.seq us n,s⟩/\xs.length<=T7/\fy K xs us.toList
 | _,_=>False
noncomputable def fy (K:Ua):List T->List Ts->Prop
 | [],us=>us=[]
 | x::xs,us=>∃v vs,us=v::vs/\wM K x v/\fy K xs vs
end
mutual
theorem wM.rt {K:Ua} {g:G} (KB:K.In g.B):∀(t:T) (u:Ts),wM K t u->RT g none t u
 | .bl b,u,h=>(show u=.bool b from h) ▸ .bl b
 | .int i,u,h=>by obtain⟨t,rfl⟩:∃t,u=.int i t:=h;exact .int i t
 | .str s,u,h=>by obtain⟨h,t,rfl⟩:s.length<=T7/\∃t,u=.str ⟨s.toArray⟩ t:=h;exact .str s t h
 | .tup xs,u,h=>by
  obtain⟨a,us,n,s,rfl,l,hz,r⟩:∃a us n s,u=.ref a/\K.lookup a=some ⟨.type "tuple",none,.seq us n,s⟩/\xs.length<=T7/\fy K xs us.toList:=h;exact cu.tup (us:=us.toList) (n:=n) (fy.rt KB xs _ r) (.refl _) (.inr ⟨rfl,KB _ _ l⟩) ⟨rfl,rfl⟩ (by simp) hz
 | .cb,_,h=>(show False from h).elim
 | .cl _,_,h=>(show False from h).elim
 | .ref _,_,h=>(show False from h).elim
 | .lst _,_,h=>(show False from h).elim
 | .aP _,_,h=>(show False from h).elim
 | .obj _ _,_,h=>(show False from h).elim
theorem fy.rt {K:Ua} {g:G} (KB:K.In g.B):∀(xs:List T) (us:List Ts),fy K xs us->cu g xs us
 | [],us,h=>(show us=[] from h) ▸ .nil
 | x::xs,us,h=>by
  obtain⟨v,vs,rfl,h1,h2⟩:∃v vs,us=v::vs/\wM K x v/\fy K xs vs:=h;exact .cons (wM.rt KB x v h1) (fy.rt KB xs vs h2)
end
inductive Df
 | f (b:Bool) (x:Str) (k i:Nat) (m:Fn)
 | mt (c y q:Str) (k i j:Nat) (m:Fn)
 | mk (c q:Str) (k i j:Nat) (m:Fn)
noncomputable def Pu:Bool->Nat->Nat->SS->Fn
 | true=>vU
 | false=>run
noncomputable def BA (k:Nat) (x q:Str) (st:Stmt):Prop:=∀(kV doc pm:Ts) (an:Option Ug) (f7 ct:Ts) (us:List Ts),us.length=k->bindArgs (Vw x q (gi st) (bodyOf st) (fO st) .none kV doc pm an f7 ct) ⟨us,[]⟩=pure ((pe st).zip us)
structure FC (b:Bool) (k:Nat) (Γ:Ct) (x q:Str) (st:Stmt) (m:Fn):Prop where
 d:(yT (pe st) (fO st) && (pe st).length == k && !(x == ("__debug__":Str)))=true
 e:Pu b k (yS (pe st) (fO st)).length (code Γ ⟨yS (pe st) (fO st),fO st⟩ (bodyOf st))=m
 a:BA k x q st
noncomputable def Df.ok (B:List Stmt) (Γ:Ct):Df->Prop
 | .f b x k i m=>FC b k Γ x x (tp B i) m
 | .mt _ y q k i j m=>FC false k Γ y q (wL (tp B i) j) m
 | .mk c q k i j m=>FC false k Γ "__init__" q (wL (tp B i) j) m/\(c == ("__debug__":Str))=false
noncomputable def Df.add (Γ:Ct):Df->Ct
 | .f _ x _ _ m=>Γ.wh x m
 | .mt c y _ _ _ _ m=>Γ.yU y c m
 | .mk c _ _ _ _ m=>Γ.wh c (make c m)
noncomputable def Df.n:Df->Nat
 | .mk ..=>2
 | _=>1
noncomputable def adds:Ct->List Df->Ct
 | Γ,[]=>Γ
 | Γ,d::ds=>adds (d.add Γ) ds
noncomputable def dep:List Df->Nat
 | []=>0
 | d::ds=>d.n+dep ds
noncomputable def yW (B:List Stmt):Ct->List Df->Prop
 | _,[]=>True
 | Γ,d::ds=>d.ok B Γ/\yW B (d.add Γ) ds
noncomputable def De (B:List Stmt) (K:Ua) (cn:List Str):Df->Prop
 | .f _ x _ i _=>∃f,M6 K x (tp B i) f
 | .mt c y q _ i j _=>cn.contains c=true/\∃C f,UZ K Uv c=some (some (.ref C))/\UN K (.ref C) y=some (some (.ref f))/\WS K (.ref f)=true/\te K y q (wL (tp B i) j) f
 | .mk c q _ i j _=>cn.contains c=true/\∃C f,UZ K Uv c=some (some (.ref C))/\UN K (.ref C) "__init__"=some (some (.ref f))/\WS K (.ref f)=true/\te K "__init__" q (wL (tp B i) j) f
noncomputable def FD (K:Ua) (p:Str × T):Prop:=∃u,UZ K Uv p.1=some (some u)/\wM K p.2 u
noncomputable def M7 (K:Ua) (x:Str):Prop:=UZ K Uv x=some none
noncomputable def B1 (K:Ua) (fl:List Str) (c:Str):Prop:=∃C,UZ K Uv c=some (some (.ref C))/\AW K C/\Xz K C=true/\UW K (.ref C)=true/\AllP (iP K C) fl
noncomputable def qJ (K:Ua) (cn:List Str) (c:Str):Option Ug:=match cn.contains c,UZ K Uv c with
 | true,some (some (.ref C))=>some C
 | _,_=>none
theorem uQ {K:Ua} {cn:List Str} {c:Str} {C:Ug} (h:cn.contains c=true) (e:UZ K Uv c=some (some (.ref C))):qJ K cn c=some C:=by
 unfold qJ;rw [h,e]
theorem yX {K:Ua} {cn:List Str} {c:Str} {C:Ug} (h:qJ K cn c=some C):c∈cn/\UZ K Uv c=some (some (.ref C)):=by
 unfold qJ at h;split at h
 ·rename_i h1 h2
  cases h;exact⟨by simpa using h1,h2⟩
 ·cases h
section
variable {P:UU} {w:VL} {K:Ua} {mg:Str->Option Ts} {base h:Heap} {B:List Stmt} {cn fl:List Str}
theorem FC.fn {cls:Str->Option Ug} {n k:Nat} {Γ:Ct} {x q:Str} {st:Stmt} {f:Ug} {m:Fn} {b:Bool} (D:FC b k Γ x q st m) (T:Tab P w K mg cls base n Γ) (F:te K x q st f):eY P w K mg cls base (n+1) f m/\(x == ("__debug__":Str))=false:=by
 obtain⟨d,e,a⟩:=D;simp only [Tw,beq_iff_eq,Bool.not_eq_true'] at d;obtain⟨⟨d,rfl⟩,d2⟩:=d;refine⟨?_,d2⟩;cases b with
 | true=>exact T.IT F ⟨d,e⟩ a
 | false=>exact T.M3 F ⟨d,e⟩ a
theorem Tab.all (X:K.In h) (G:h.Ns Uv mg) (hc:AllP (B1 K fl) cn):∀(ds:List Df) {n:Nat} {Γ:Ct},Tab P w K mg (qJ K cn) base n Γ->yW B Γ ds->AllP (De B K cn) ds->Tab P w K mg (qJ K cn) base (n+dep ds) (adds Γ ds)
 | [],_,_,T,_,_=>by exact T
 | .f b x k i m::ds,n,Γ,T,o,p=>by
  obtain⟨⟨f,F⟩,p⟩:=p;obtain⟨h1,h2⟩:=o.1.fn T F.2;have:=Tab.all X G hc ds (T.add h1 (Zp X G F.1) F.2.kp h2) o.2 p
  rw [Wu] at this;exact this
 | .mt c y q k i j m::ds,n,Γ,T,o,p=>by
  obtain⟨⟨hm,C,f,e,fi,is,F⟩,p⟩:=p;obtain⟨C',e',ck,mk,kc,_⟩:=hc.of c (by simpa using hm);rw [e] at e';cases e';have:=Tab.all X G hc ds (T.yU (o.1.fn T F).1 (uQ hm e) ck ⟨fi,is,F.kp⟩) o.2 p
  rw [Wu] at this;exact this
 | .mk c q k i j m::ds,n,Γ,T,o,p=>by
  obtain⟨⟨hm,C,f,e,fi,is,F⟩,p⟩:=p;obtain⟨C',e',ck,mk,kc,_⟩:=hc.of c (by simpa using hm);rw [e] at e';cases e';have:=Tab.all X G hc ds (T.RC (o.1.1.fn T F).1 ⟨mk,fi,is,kc⟩ (uQ hm e) (Zp X G e) o.1.2) o.2 p
  rw [Wu] at this;exact this
theorem FE {fa:Ug} (B:List Stmt) (Γ:Ct) (cn:List Str) (ds:List Df) {k:Nat} {m:Fn} (X:K.In h) (G:h.Ns Uv mg) (RD:mg "law"=some (.ref fa)) (o:yW B Γ ds) (hk:dep ds=k) (hm:(adds Γ ds).fn.lookup ("law":Str)=some m) (h0:Γ.fn=[]/\Γ.me=[])
  (hd:((Γ.co.all fun p=>!(p.1 == ("__debug__":Str))) && Γ.us.all fun x=>!(x == ("__debug__":Str)) && !(x == ("__name__":Str)))=true)
  (c1:AllP (FD K) Γ.co) (c2:AllP (M7 K) Γ.us) (c3:AllP (B1 K Γ.fl) cn) (c4:AllP (De B K cn) ds):∃cls,∀base:Heap,K.In base->base.Ns Uv mg->eY P w K mg cls base k fa m:=by
 refine⟨qJ K cn,fun base KB _=>?_⟩;simp only [Tw,Tr,Bool.not_eq_true'] at hd;have T0:Tab P w K mg (qJ K cn) base 0 Γ:=by
  refine⟨fun x F q=>by(rw [h0.1] at q;cases q),fun x t q=>?_,fun x hx=>⟨PySem.W.mg_none_of X G (c2.of x hx),fun z=>?_,(hd.2 x hx).1⟩,fun c C e=>?_,fun y mf q=>by(rw [h0.2] at q;cases q)⟩
  ·have hm:=Up q
   obtain⟨u,h1,h2⟩:=c1.of _ hm;exact⟨hd.1 _ hm,u,Zp X G h1,fun g hB _ _=>h2.rt (by rw [hB];exact KB)⟩
  ·have:=(hd.2 x hx).2;rw [z] at this;exact absurd this (by decide)
  ·obtain⟨h1,h2⟩:=yX e
   obtain⟨C',e',ck,_,_,na⟩:=c3.of c h1;rw [h2] at e';cases e';exact⟨ck,na.of⟩
 have T:=Tab.all X G c3 ds T0 o c4;rw [Nat.zero_add,hk] at T;obtain⟨_,S8,h1,h2,_⟩:=T.fn _ _ hm;rw [RD] at h2;cases h2;exact fun {_ _ _ _ _ _ _ _} a b c d=>h1 a b c d
theorem IU {α:Type} {p:α->Prop}:AllP p []:=trivial
theorem M8 {Γ:Ct}:yW B Γ []:=trivial
theorem M9 {x:Str} {l:List Str} (h:UZ K Uv x=some none) (r:AllP (M7 K) l):AllP (M7 K) (x::l):=⟨h,r⟩
theorem Na {C:Ug} {x:Str} {l:List Str} (h:UN K (.ref C) x=some none) (r:AllP (iP K C) l):AllP (iP K C) (x::l):=⟨h,r⟩
theorem Nb {x:Str} {C:Ug} {l:List Str} (h:UZ K Uv x=some (some (.ref C))) (pg:WM K C Str.empty=true) (hd:Xa K C=true) (po:X9 K C=true) (sa:UN K (.ref C) "__setattr__"=some (some (.builtin "object.__setattr__"))) (mk:Xz K C=true) (kc:UW K (.ref C)=true) (na:AllP (iP K C) fl) (r:AllP (B1 K fl) l):AllP (B1 K fl) (x::l):=⟨⟨C,h,⟨pg,hd,po,sa⟩,mk,kc,na⟩,r⟩
theorem Nc {x:Str} {b:Bool} {k i:Nat} {m:Fn} {ds:List Df} {f:Ug} {oc:Ts} {od an:Option Ug} {rM:Array (Option Ts)} {kV doc pm f7 ct:Ts} (n:UZ K Uv x=some (some (.ref f))) (l:K.lookup f=some ⟨oc,od,.func (Vw x x (gi (tp B i)) (bodyOf (tp B i)) (fO (tp B i)) .none kV doc pm an f7 ct),rM⟩)
  (c:V9 K f7 x=true) (kp:UW K (.ref f)=true) (r:AllP (De B K cn) ds):AllP (De B K cn) (.f b x k i m::ds):=⟨⟨f,n,tf l c kp⟩,r⟩
theorem IV {cl y q:Str} {k i j:Nat} {m:Fn} {ds:List Df} {C f:Ug} {oc:Ts} {od an:Option Ug} {rM:Array (Option Ts)} {kV doc pm f7 ct:Ts} (n:UZ K Uv cl=some (some (.ref C))) (fi:UN K (.ref C) y=some (some (.ref f))) (is:WS K (.ref f)=true) (l:K.lookup f=some ⟨oc,od,.func (Vw y q (gi (wL (tp B i) j)) (bodyOf (wL (tp B i) j)) (fO (wL (tp B i) j)) .none kV doc pm an f7 ct),rM⟩)
  (c:V9 K f7 q=true) (kp:UW K (.ref f)=true) (hc:cn.contains cl=true) (r:AllP (De B K cn) ds):AllP (De B K cn) (.mt cl y q k i j m::ds):=⟨⟨hc,C,f,n,fi,is,tf l c kp⟩,r⟩
theorem IW {cl q:Str} {k i j:Nat} {m:Fn} {ds:List Df} {C f:Ug} {oc:Ts} {od an:Option Ug} {rM:Array (Option Ts)} {kV doc pm f7 ct:Ts} (n:UZ K Uv cl=some (some (.ref C))) (fi:UN K (.ref C) "__init__"=some (some (.ref f))) (is:WS K (.ref f)=true) (l:K.lookup f=some ⟨oc,od,.func (Vw "__init__" q (gi (wL (tp B i) j)) (bodyOf (wL (tp B i) j)) (fO (wL (tp B i) j)) .none kV doc pm an f7 ct),rM⟩)
  (c:V9 K f7 q=true) (kp:UW K (.ref f)=true) (hc:cn.contains cl=true) (r:AllP (De B K cn) ds):AllP (De B K cn) (.mk cl q k i j m::ds):=⟨⟨hc,C,f,n,fi,is,tf l c kp⟩,r⟩
theorem wm {Γ:Ct} {b:Bool} {x:Str} {k i:Nat} {m:Fn} {ds:List Df} (r:yW B (Γ.wh x m) ds) (d:(yT (pe (tp B i)) (fO (tp B i)) && (pe (tp B i)).length == k && !(x == ("__debug__":Str)))=true:=by decide +kernel) (e:Pu b k (yS (pe (tp B i)) (fO (tp B i))).length (code Γ ⟨yS (pe (tp B i)) (fO (tp B i)),fO (tp B i)⟩ (bodyOf (tp B i)))=m:=by kernel_rfl) (a:BA k x x (tp B i):=by intro _ _ _ _ _ _;(repeat refine bC fun _=>?_);exact b0 (by kernel_rfl)):yW B Γ (.f b x k i m::ds):=⟨⟨d,e,a⟩,r⟩
theorem IX {Γ:Ct} {c y q:Str} {k i j:Nat} {m:Fn} {ds:List Df} (r:yW B (Γ.yU y c m) ds) (D:FC false k Γ y q (wL (tp B i) j) m:=by exact⟨by decide +kernel,by kernel_rfl,by intro _ _ _ _ _ _;(repeat refine bC fun _=>?_);exact b0 (by kernel_rfl)⟩):yW B Γ (.mt c y q k i j m::ds):=⟨D,r⟩
theorem IY {Γ:Ct} {c q:Str} {k i j:Nat} {m:Fn} {ds:List Df} (r:yW B (Γ.wh c (make c m)) ds) (D:FC false k Γ "__init__" q (wL (tp B i) j) m:=by exact⟨by decide +kernel,by kernel_rfl,by intro _ _ _ _ _ _;(repeat refine bC fun _=>?_);exact b0 (by kernel_rfl)⟩) (h:(c == ("__debug__":Str))=false:=by decide):yW B Γ (.mk c q k i j m::ds):=⟨⟨D,h⟩,r⟩
theorem yY {x:Str} {s:Cs} {t:Tok} {l:List (Str × T)} (h:UZ K Uv x=some (some (.str ⟨s.toArray⟩ t))) (z:s.length<=T7) (r:AllP (FD K) l):AllP (FD K) ((x,.str s)::l):=⟨⟨_,h,by rw [wM];exact⟨z,t,rfl⟩⟩,r⟩
theorem Nd {x:Str} {i:Int} {t:Tok} {l:List (Str × T)} (h:UZ K Uv x=some (some (.int i t))) (r:AllP (FD K) l):AllP (FD K) ((x,.int i)::l):=⟨⟨_,h,by rw [wM];exact⟨t,rfl⟩⟩,r⟩
theorem B2 {x:Str} {xs:List T} {a:Ug} {us:Array Ts} {n:Nat} {s:Array (Option Ts)} {l:List (Str × T)} (h:UZ K Uv x=some (some (.ref a))) (e:K.lookup a=some ⟨.type "tuple",none,.seq us n,s⟩) (z:xs.length<=T7) (q:fy K xs us.toList) (r:AllP (FD K) l):AllP (FD K) ((x,.tup xs)::l):=⟨⟨_,h,by rw [wM];exact⟨a,us,n,s,rfl,e,z,q⟩⟩,r⟩
theorem th:fy K [] []:=by rw [fy]
theorem ky {s:Cs} {t:Tok} {xs:List T} {vs:List Ts} (z:s.length<=T7) (q:fy K xs vs):fy K (.str s::xs) (.str ⟨s.toArray⟩ t::vs):=by rw [fy];exact⟨_,_,rfl,by rw [wM];exact⟨z,t,rfl⟩,q⟩
theorem Nf {b:Bool} {xs:List T} {vs:List Ts} (q:fy K xs vs):fy K (.bl b::xs) (.bool b::vs):=by rw [fy];exact⟨_,_,rfl,by rw [wM],q⟩
theorem FF {ys:List T} {a:Ug} {us:Array Ts} {n:Nat} {s:Array (Option Ts)} {xs:List T} {vs:List Ts} (e:K.lookup a=some ⟨.type "tuple",none,.seq us n,s⟩) (z:ys.length<=T7) (p:fy K ys us.toList) (q:fy K xs vs):fy K (.tup ys::xs) (.ref a::vs):=by rw [fy];exact⟨_,_,rfl,by rw [wM];exact⟨a,us,n,s,rfl,e,z,p⟩,q⟩
end
end M
namespace M
open PySem
theorem fin_same {L:aa} {t:T} (h:lt L.length t=true):fin L t L=.ok t L:=by
 unfold fin;rw [if_pos (show old L (L.drop (L.length - L.length)) from fun n c e=>.inl (by simpa using e))];simp only [Zs,Y8];unfold bU;rw [if_pos h];rfl
theorem aJ {α β:Type} (a:α) (L:aa) (f:α->aa->R β):(R.ok a L).bind f=f a L:=rfl
theorem of_ok {α:Type} (a:α) (L:aa) (f:α->aa->O):O.of (.ok a L) f=f a L:=rfl
theorem uR (φ:Fr) (L:aa) (f:Fr->aa->O):(O.nx φ L).next f=f φ L:=Eq.trans rfl rfl
theorem B3 (t:T) (L:aa) (f:Fr->aa->O):(O.rt t L).next f=.rt t L:=rfl
theorem dA (t:T) (L:aa):lift (some t) L=.ok t L:=rfl
theorem FH {α β:Type} (f:α->β) (a:α) (L:aa):R.map f (.ok a L)=.ok (f a) L:=rfl
theorem aR {α:Type} {c:Prop} [Decidable c] {r:R α} (h:c):bT c r=r:=if_pos h
theorem yZ {L:aa} {b:Bool}:fin L (.bl b) L=.ok (.bl b) L:=fin_same (by simp [lt])
theorem B4 {L:aa} {b:Int}:fin L (.int b) L=.ok (.int b) L:=fin_same (by simp [lt])
theorem B5 {L:aa} {b:Cs}:fin L (.str b) L=.ok (.str b) L:=fin_same (by simp [lt])
theorem B6 {L:aa}:fin L .cb L=.ok .cb L:=fin_same (by simp [lt])
theorem dT {xs:List T} {i:Nat} {x:T} {L:aa} (h:xs[i]?=some x):ix (.lst xs) (.int i) L=.ok x L:=by
 obtain⟨hi,e⟩:=TM.mp h;simp [ix,vw,place,hi,e,lift]
theorem FI {α:Type} {b:Bool} {x y:α} {L:aa}:(if b=true then R.ok x L else R.ok y L)=R.ok (if b=true then x else y) L:=by cases b <;> rfl
theorem FJ (i:Nat) (φ:Fr) (L:aa):v i φ L=((lift ((φ[i]?).join) L):R T):=rfl
theorem Pw (x:T) (φ:Fr) (L:aa):c x φ L=((.ok x L):R T):=rfl
theorem Ng (a:SE) (f:T->aa->R T) (φ:Fr) (L:aa):b1 a f φ L=(((a φ L).bind f):R T):=rfl
theorem IZ (a b:SE) (f:T->T->aa->R T) (φ:Fr) (L:aa):b2 a b f φ L=(((a φ L).bind fun x L1=>(b φ L1).bind fun y L2=>f x y L2):R T):=rfl
theorem FL (op nt:CmpOp) (a b d:SE) (φ:Fr) (L:aa):vC op nt a b d φ L=(((a φ L).bind fun x L1=>(b φ L1).bind fun y L2=>(Az op x y L2).bind fun k L3=>if k=true then (d φ L3).bind fun z L4=>cmp nt y z L4 else .ok (.bl false) L3):R T):=rfl
theorem Nh (a:SE) (φ:Fr) (L:aa):tv a φ L=(((a φ L).bind fun x L1=>match x with
 | .bl b=>.ok b L1
 | _=>.bad):R Bool):=rfl
theorem FN (a b:ST) (φ:Fr) (L:aa):AA a b φ L=(((a φ L).bind fun x L1=>if x=true then b φ L1 else .ok false L1):R Bool):=rfl
theorem I0 (a b:ST) (φ:Fr) (L:aa):KV a b φ L=(((a φ L).bind fun x L1=>if x=true then .ok true L1 else b φ L1):R Bool):=rfl
theorem FO (a:ST) (φ:Fr) (L:aa):eR a φ L=(((a φ L).map (!·)):R Bool):=rfl
theorem FP (a b:SE) (φ:Fr) (L:aa):AB a b φ L=(((tv a φ L).bind fun x L1=>if x=true then b φ L1 else .ok (.bl false) L1):R T):=rfl
theorem I8 (a b:SE) (φ:Fr) (L:aa):KW a b φ L=(((tv a φ L).bind fun x L1=>if x=true then .ok (.bl true) L1 else b φ L1):R T):=rfl
theorem FQ (a:SE) (φ:Fr) (L:aa):vD a φ L=(((tv a φ L).map fun b=>.bl (!b)):R T):=rfl
theorem I9 (φ:Fr) (L:aa):yes  φ L=((.ok true L):R Bool):=rfl
theorem Ja (k:ST) (a b:SE) (φ:Fr) (L:aa):Lz k a b φ L=(((k φ L).bind fun x L1=>if x=true then a φ L1 else b φ L1):R T):=rfl
theorem Dg (ms:List SE) (φ:Fr) (L:aa):tup ms φ L=(((ib ms φ L).bind fun ts L1=>.ok (.tup ts) L1):R T):=rfl
theorem Jb (fz:Bool) (ms:List SE) (φ:Fr) (L:aa):lst fz ms φ L=(((ib ms φ L).bind fun ts L1=>eO fz ts L1):R T):=rfl
theorem FU (fz:Bool) (φ:Fr) (L:aa):vE fz φ L=((mk fz (.aP []) L):R T):=rfl
theorem Ni (fz:Bool) (a:SE) (lo hi:Option SE) (φ:Fr) (L:aa):sl fz a lo hi φ L=(((a φ L).bind fun x L1=>(DK lo φ L1).bind fun i L2=>(DK hi φ L2).bind fun j L3=>iH fz x i j L3):R T):=rfl
theorem y0 (f:Fn) (ms:List SE) (φ:Fr) (L:aa):ae f ms φ L=(((ib ms φ L).bind f):R T):=rfl
theorem uS (a:SE) (φ:Fr) (L:aa):src a φ L=(((a φ L).bind fun x L1=>match items x L1 with
 | some xs=>.ok (xs,stays x L1) L1
 | none=>.bad):R (List T × (aa->Prop))):=rfl
theorem Px (a b:SE) (φ:Fr) (L:aa):rS a b φ L=(((a φ L).bind fun x L1=>(b φ L1).bind fun y L2=>match x,y with
 | .int i,.int j=>bT (rR i/\rR j) (.ok (upTo i (j - i).toNat,fun _=>True) L2)
 | _,_=>.bad):R (List T × (aa->Prop))):=rfl
theorem Jc (a:SE) (φ:Fr) (L:aa):KY a φ L=(((a φ L).bind fun x L1=>match vw L1 x with
 | .lst xs=>.ok (num 0 xs,stays x L1) L1
 | _=>.bad):R (List T × (aa->Prop))):=rfl
theorem FV (a b:SE) (φ:Fr) (L:aa):LA a b φ L=(((src a φ L).bind fun p L1=>(src b φ L1).bind fun q L2=>.ok (zp p.1 q.1,fun L'=>p.2 L'/\q.2 L') L2):R (List T × (aa->Prop))):=rfl
theorem FW (a:SE) (φ:Fr) (L:aa):LB a φ L=(((a φ L).bind fun x L1=>match vw L1 x with
 | .aP ks=>.ok (dE ks,stays x L1) L1
 | _=>.bad):R (List T × (aa->Prop))):=rfl
theorem FX (φ:Fr) (L:aa):pass  φ L=((.nx φ L):O):=rfl
theorem Jd (φ:Fr) (L:aa):brk  φ L=((.bk φ L):O):=rfl
theorem Je (φ:Fr) (L:aa):cnt  φ L=((.ct φ L):O):=rfl
theorem Jf (φ:Fr) (L:aa):fE  φ L=((.bad):O):=rfl
theorem y3 (tg:Tg) (m:SE) (φ:Fr) (L:aa):asg tg m φ L=((O.of (m φ L) fun t L1=>match tg.set t φ with
 | some φ1=>.nx φ1 L1
 | none=>.bad):O):=rfl
theorem Jg (m:SE) (φ:Fr) (L:aa):fF m φ L=((O.of (m φ L) fun _ L1=>.nx φ L1):O):=rfl
theorem y6 (m:SE) (φ:Fr) (L:aa):ret m φ L=((O.of (m φ L) fun t L1=>.rt t L1):O):=rfl
theorem Jh (k:ST) (a b:SS) (φ:Fr) (L:aa):iff k a b φ L=((O.of (k φ L) fun x L1=>if x=true then a φ L1 else b φ L1):O):=rfl
theorem Ji (op:Operator) (i:Nat) (m:SE) (φ:Fr) (L:aa):aug op i m φ L=((O.of (b2 (v i) m (ag op) φ L) fun t L1=>.nx (φ.set i (some t)) L1):O):=rfl
theorem FY (o:SE) (f:Str) (m:SE) (φ:Fr) (L:aa):iJ o f m φ L=((O.of (m φ L) fun t L1=>O.of (o φ L1) fun x L2=>match rU f x t L2 with
 | some L3=>.nx φ L3
 | none=>.bad):O):=rfl
theorem FZ (o i m:SE) (φ:Fr) (L:aa):pZ o i m φ L=((O.of (m φ L) fun t L1=>O.of (o φ L1) fun x L2=>O.of (i φ L2) fun y L3=>match i8 x y t L3 with
 | some L4=>.nx φ L4
 | none=>.bad):O):=rfl
theorem Ga (op:Operator) (o i m:SE) (φ:Fr) (L:aa):wU op o i m φ L=((O.of (o φ L) fun x L1=>O.of (i φ L1) fun y L2=>O.of (Hz x y L2) fun z L3=>O.of (m φ L3) fun t L4=>O.of (ag op z t L4) fun r L5=>match i8 x y r L5 with
 | some L6=>.nx φ L6
 | none=>.bad):O):=rfl
theorem y7 (s:SI) (tg:Tg) (b:SS) (φ:Fr) (L:aa):bS s tg b φ L=((O.of (s φ L) fun u L1=>forL u.2 tg b u.1 φ L1):O):=rfl
theorem l9 (np nn:Nat) (b:SS) (xs:List T) (L:aa):run np nn b xs L=(if xs.length=np then match b (xs.map some++Ui (nn - np) none) L with
  | .rt t L'=>fin L t L'
  | .nx _ L'=>fin L .cb L'
  | _=>.bad
 else .bad):=rfl
theorem pf (φ:Fr) (L:aa):ab [] φ L=.nx φ L:=rfl
theorem jQ (s:SS) (r:List SS) (φ:Fr) (L:aa):ab (s::r) φ L=(s φ L).next (ab r):=rfl
theorem B7 (a:SE) (φ:Fr) (L:aa):m7 [a] φ L=a φ L:=rfl
theorem B8 (a b:SE) (r:List SE) (φ:Fr) (L:aa):m7 (a::b::r) φ L=AB a (m7 (b::r)) φ L:=rfl
theorem Gb (a:SE) (φ:Fr) (L:aa):CU [a] φ L=a φ L:=rfl
theorem Gd (a b:SE) (r:List SE) (φ:Fr) (L:aa):CU (a::b::r) φ L=KW a (CU (b::r)) φ L:=rfl
theorem Ca (a:ST) (φ:Fr) (L:aa):kj [a] φ L=a φ L:=rfl
theorem Cb (a b:ST) (r:List ST) (φ:Fr) (L:aa):kj (a::b::r) φ L=AA a (kj (b::r)) φ L:=rfl
theorem Ge (a:ST) (φ:Fr) (L:aa):vV [a] φ L=a φ L:=rfl
theorem Gf (a b:ST) (r:List ST) (φ:Fr) (L:aa):vV (a::b::r) φ L=KV a (vV (b::r)) φ L:=rfl
theorem mc (φ:Fr) (L:aa):ib [] φ L=.ok [] L:=rfl
theorem mj (m:SE) (ms:List SE) (φ:Fr) (L:aa):ib (m::ms) φ L=((m φ L).bind fun t L1=>(ib ms φ L1).bind fun ts L2=>.ok (t::ts) L2):=rfl
theorem Gg (φ:Fr) (L:aa):DK none φ L=.ok none L:=rfl
theorem Gh (m:SE) (φ:Fr) (L:aa):DK (some m) φ L=((m φ L).bind fun t L1=>match t with
  | .int i=>.ok (some i) L1
  | _=>.bad):=rfl
theorem Gi (f:Ty->Option (T->Fn)) (a:SE) (ms:List SE) (φ:Fr) (L:aa):aS f a ms φ L=((a φ L).bind fun x L1=>match (CJ L1 x).bind f with
 | some F=>(ib ms φ L1).bind fun ts L2=>F x ts L2
 | none=>.bad):=rfl
theorem mapM_map {α β:Type} {f:T->Option α} {g:β->T} {h:β->α} (hf:∀b,f (g b)=some (h b)):∀l:List β,(l.map g).mapM f=some (l.map h)
 | []=>rfl
 | b::l=>by rw [TC,VF,hf,mapM_map hf l];rfl
theorem y8 {L Ln:aa} {t:T} (h:lt L.length t=true):fin L t (Ln++L)=.ok t L:=by
 have e:(Ln++L).drop ((Ln++L).length - L.length)=L:=by
  rw [Tq,XX,Xf]
 unfold fin;rw [e,if_pos (show old L L from fun n c e=>.inl e)];unfold bU;rw [if_pos h];rfl
theorem tj {s:Cs} {i:Int} {L:aa} (h0:0<=i) (h1:i<s.length):ix (.str s) (.int i) L=.ok (.str [s.getD i.toNat 0]) L:=by
 have hi:i.toNat<s.length:=by omega
 simp [ix,vw,place,h0,h1,lift,Gd9,hi]
theorem uT {xs:List T} {i:Int} {x:T} {L:aa} (h0:0<=i) (h:xs[i.toNat]?=some x):ix (.lst xs) (.int i) L=.ok x L:=by
 obtain⟨hi,e⟩:=TM.mp h;have h1:i<xs.length:=by omega
 simp [ix,vw,place,h0,h1,hi,e,lift]
theorem Gj {sep:Cs} {zs:List Cs} {L:aa} (h:(zs.map (·.length)).sum+zs.length * sep.length<=16777216):j0 (.str sep) [.lst (zs.map .str)] L=.ok (.str (jn sep zs)) L:=by
 have:=mapM_map (f:=Hd) (g:=T.str) (h:=id) (fun _=>rfl) zs;simp [j0,items,vw,this,bT,h]
theorem uU {x:T} {L:aa} (h:∀n,x≠.ref n) (L':aa):stays x L L':=fun n e=>absurd e (h n)
theorem ai {x:T} {L:aa}:stays x L L:=fun n e=>rfl
noncomputable def RE:T->Bool
 | .ref _=>true
 | _=>false
theorem sv {x:T} {L L':aa} (h:RE x=false:=by rfl):stays x L L':=fun n e=>by subst e;cases h
end M
namespace kz
open PySem
abbrev tm:Str:="abcdefghijklmnopqrstuvwxyz"
abbrev ph:Str:="ABCDEFGHIJKLMNOPQRSTUVWXYZ"
abbrev Nj:Str:="0123456789"
noncomputable def bH (c:Nat):Bool:=decide (c∈tm.cps.toList) || (decide (c∈ph.cps.toList) || decide (c∈Nj.cps.toList))
noncomputable def aN (l:List Nat):Nat:=(l.takeWhile bH).length
noncomputable def ah (p:List Nat):Bool:=decide (1<=p.length) && (decide (p.length<=12) && p.all bH)
end kz
namespace Bk
open PySem kz
abbrev Cs:=List Nat
theorem ax {s:Cs} (h:ah s=true):1<=s.length/\s.length<=12:=by
 unfold ah at h;simp only [Tw,decide_eq_true_eq] at h;exact⟨h.1,h.2.1⟩
theorem Dh {s:Cs} (h:ah s=true):∀c∈s,bH c=true:=by
 unfold ah at h;simp only [Tw,Tr] at h;exact h.2.2
structure Fc where
 k:Cs
 as:List Cs
structure Kd where
 n:Cs
 c:Nat
 l:Bool
structure Lk where
 same:Bool
 l:Cs
 r:Cs
structure Rl where
 title:Cs
 take:List Fc
 keep:List Fc
 aH:List Lk
 put:List Fc
 tell:List (Cs × Cs)
noncomputable def great (x:Cs):Bool:=decide (x.headD 0∈ph.cps.toList)
noncomputable def aK (p:Cs):Bool:=ah p && decide (p.headD 0∈tm.cps.toList)
theorem bc {p:Cs} (h:aK p=true):ah p=true:=by
 unfold aK at h;rw [Tw] at h;exact h.1
noncomputable def cB (x:Cs) (acc:List Cs):List Cs:=if great x=true then (if x∈acc then acc else acc++[x]) else acc
noncomputable def aw (l:List Cs) (acc:List Cs):List Cs:=l.foldl (fun acc x=>cB x acc) acc
noncomputable def opens (fs:List Fc):List Cs:=aw (fs.flatMap (·.as)) []
theorem mq:∀(l:List Cs) {acc:List Cs} (x:Cs),x∈aw l acc↔x∈acc\/(x∈l/\great x=true)
 | [],acc,x=>by simp [aw]
 | n::ns,acc,x=>by
  show x∈aw ns (cB n acc)↔_;rw [mq ns];have e:x∈cB n acc↔x∈acc\/(x=n/\great x=true):=by
   unfold cB;by_cases g:great n=true
   ·by_cases hm:n∈acc <;> simp only [g,hm,if_true,if_false,TL,TY]
    ·exact⟨.inl,fun z=>z.elim id fun z=>z.1 ▸ hm⟩
    ·exact or_congr_right ⟨fun z=>⟨z,z ▸ g⟩,And.left⟩
   ·rw [if_neg g]
    exact⟨.inl,fun z=>z.elim id fun z=>absurd (z.1 ▸ z.2) g⟩
  rw [e,TJ,or_assoc,<- or_and_right]
theorem mr:∀(l acc:List Cs),acc.Nodup->(aw l acc).Nodup
 | [],_,h=>h
 | x::r,acc,h=>mr r _ (by
  show(cB x acc).Nodup;unfold cB;split
  ·split
   ·exact h
   ·rename_i hx
    exact UX.mpr ⟨h,by simp,fun a ha b hb e=>hx (by rw [<- TY.mp hb,<- e];exact ha)⟩
  ·exact h)
theorem dJ (fs:List Fc):(opens fs).Nodup:=mr _ _ Wa
theorem y9 (x:Cs) (acc:List Cs):(cB x acc).length<=acc.length+1:=by unfold cB;split <;> (try split) <;> simp
theorem dB (l acc:List Cs):(aw l acc).length<=acc.length+l.length:=by
 induction l generalizing acc with
 | nil=>simp [aw]
 | cons x l ih =>
  have h1:=ih (cB x acc);have h2:=y9 x acc
  show(aw l (cB x acc)).length<=_;rw [Tu];omega
theorem fP {α β:Type} {g:α->List β} {B:Nat}:∀{l:List α},(∀x∈l,(g x).length<=B)->(l.flatMap g).length<=l.length * B
 | [],_=>by simp
 | a::r,h=>by
  have h1:=fP (l:=r) fun x hx=>h x (Tp _ hx)
  have h2:=h a To;rw [Yr,Tq,Tu,Zu];omega
theorem jt {fs:List Fc} {a:Cs} (h:a∈opens fs):(∃f∈fs,a∈f.as)/\great a=true:=by
 rcases(mq _ a).mp h with h|⟨h,g⟩
 ·cases h
 ·exact⟨Xo.mp h,g⟩
theorem wo {fs:List Fc} {a:Cs} {f:Fc} (hf:f∈fs) (ha:a∈f.as) (g:great a=true):a∈opens fs :=
 (mq _ a).mpr (.inr ⟨Xo.mpr ⟨f,hf,ha⟩,g⟩)
inductive W (m:Cs):Cs->List Cs->Prop
 | nil:W m [] []
 | name {n:Cs} (h:ah n=true):W m n [n]
 | sp {a b:Cs} {p q:List Cs} (x:W m a p) (y:W m b q):W m (a++32::b) (p++q)
 | mk {a b:Cs} {p q:List Cs} {c:Nat} (hc:c∈m) (x:W m a p) (y:W m b q):W m (a++c::b) (p++[c]::q)
theorem W.up {m m':Cs} (h:∀c∈m,c∈m') {t:Cs} {p:List Cs} (w:W m t p):W m' t p:=by
 induction w with
 | nil=>exact .nil
 | name h=>exact .name h
 | sp _ _ a b=>exact .sp a b
 | mk hc _ _ a b=>exact .mk (h _ hc) a b
theorem qK:bH 32=false:=by decide +kernel
theorem W.no {m:Cs} {c:Nat} (ha:bH c=false) (hm:c∉m) {t:Cs} {p:List Cs} (w:W m t p):[c]∉p/\(c≠32->c∉t):=by
 induction w with
 | nil=>simp
 | @name n h =>
  have z:c∉n:=fun z=>by rw [Dh h c z] at ha;cases ha
  exact⟨fun e=>z (by rw [<- TY.mp e];exact TY.mpr rfl),fun _=>z⟩
 | sp _ _ a b=>exact⟨fun z=>(TL.mp z).elim a.1 b.1,fun h z=>(TL.mp z).elim (a.2 h) fun z=>(TJ.mp z).elim h (b.2 h)⟩
 | mk hc _ _ a b =>
  have n:∀{d},d∈m->c≠d:=fun h e=>hm (e ▸ h)
  exact⟨fun z=>(TL.mp z).elim a.1 fun z=>(TJ.mp z).elim (fun e=>n hc (Vp e).1) b.1,fun h z=>(TL.mp z).elim (a.2 h) fun z=>(TJ.mp z).elim (n hc) (b.2 h)⟩
inductive Tk (m:Cs):Cs->List Cs->Prop
 | nil:Tk m [] []
 | sp {r:Cs} {q:List Cs} (t:Tk m r q):Tk m (32::r) q
 | mk {c:Nat} {r:Cs} {q:List Cs} (hc:c∈m) (t:Tk m r q):Tk m (c::r) ([c]::q)
 | name {n r:Cs} {q:List Cs} (h:ah n=true) (hs:∀c∈r.head?,bH c=false) (t:Tk m r q):Tk m (n++r) (n::q)
theorem W.tk {m:Cs} (hm:∀c∈m,bH c=false) {t:Cs} {p:List Cs} (w:W m t p):∀{r:Cs} {q:List Cs},(∀c∈r.head?,bH c=false)->Tk m r q->Tk m (t++r) (p++q):=by
 induction w with
 | nil=>exact fun _ h=>h
 | name h=>exact fun s t=>.name h s t
 | sp _ _ a b =>
  intro r q s t;rw [T8,T8];exact a (fun c h=>by cases h;exact qK) (.sp (b s t))
 | mk hc _ _ a b =>
  intro r q s t;rw [T8,T8];exact a (fun c h=>by cases h;exact hm _ hc) (.mk hc (b s t))
theorem Tk.len {m t:Cs} {p:List Cs} (w:Tk m t p):p.length<=t.length:=by
 induction w with
 | nil=>exact TK _
 | sp _ ih=>exact Nat.le_succ_of_le ih
 | mk _ _ ih=>exact YF ih
 | name h _ _ ih =>
  have:=(ax h).1;rw [Tq,Tu];omega
noncomputable def glue (m:Cs):List (List Cs)->List Cs
 | []=>[]
 | [q]=>q
 | q::r=>q++m::glue m r
theorem W.join {α:Type} {m:Cs} {c:Nat} (hc:c∈m) {tx:α->Cs} {tp:α->List Cs}:∀l:List α,(∀x∈l,W m (tx x) (tp x))->W m (M.jn [c,32] (l.map tx)) (glue [c] (l.map tp))
 | [],_=>.nil
 | [a],h=>h a To
 | a::b::r,h=>by
  have z:=W.mk hc (h a To) (.sp .nil (W.join hc (b::r) fun x hx=>h x (Tp _ hx)));show W m (tx a++[c,32]++M.jn [c,32] ((b::r).map tx)) _
  rw [T8];exact z
theorem jR {sep:Cs} {B:Nat}:∀{ls:List Cs},(∀l∈ls,l.length<=B)->(M.jn sep ls).length<=ls.length * (B+sep.length)
 | [],_=>Uj _
 | [a],h=>by
  have:=h a To;show a.length<=1 * _
  omega
 | a::b::r,h=>by
  have z:=jR (sep:=sep) (ls:=b::r) fun l hl=>h l (Tp _ hl)
  have:=h a To;show(a++sep++M.jn sep (b::r)).length<=((b::r).length+1) * _
  rw [Tq,Tq,Zu];omega
abbrev cf:Cs:=[112,97,115,115,105,110,103]
abbrev cg:Cs:=[108,97,115,116,105,110,103]
abbrev gj:Cs:=[114,117,108,101]
abbrev Gk:Cs:=[115,97,109,101]
abbrev zc:Cs:=[117,110,108,105,107,101]
noncomputable def wordAt:Nat->Cs
 | 0=>[116,97,107,101]
 | 1=>[107,101,101,112]
 | 2=>[108,111,111,107]
 | 3=>[112,117,116]
 | _=>[116,101,108,108]
theorem iU {i j:Nat} (hi:i<5) (hj:j<5) (h:wordAt i=wordAt j):i=j:=(by decide +kernel:∀i<5,∀j<5,wordAt i=wordAt j->i=j) i hi j hj h
theorem zd {n:Nat} (h:n<5):ah (wordAt n)=true/\(wordAt n).length<=4:=(by decide +kernel:∀n<5,ah (wordAt n)=true/\(wordAt n).length<=4) n h
noncomputable def between:List Cs->List Cs
 | []=>[]
 | [a]=>[a,[41]]
 | a::r=>a::[44]::between r
noncomputable def gU (g:Fc):Cs:=if g.as=[] then g.k else ((g.k++[40])++M.jn [44] g.as)++[41]
noncomputable def cC (g:Fc):List Cs:=if g.as=[] then [g.k] else g.k::[40]::between g.as
noncomputable def gI (b:Bool):Cs:=if b=true then Gk else zc
theorem zf (b:Bool):ah (gI b)=true/\(gI b).length<=6:=by cases b <;> decide +kernel
noncomputable def mv (k:Lk):Cs:=k.l++32::(gI k.same++32::k.r)
noncomputable def gV (k:Lk):List Cs:=[k.l,gI k.same,k.r]
noncomputable def mw (p:Cs × Cs):Cs:=p.1++32::61::32::p.2
noncomputable def gW (p:Cs × Cs):List Cs:=[p.1,[61],p.2]
noncomputable def ar (k:Kd):Cs:=(if k.l=true then cg else cf)++(32::(k.n++(32::[48+k.c])))
noncomputable def qL (k:Kd):List Cs:=[if k.l=true then cg else cf,k.n,[48+k.c]]
structure Im where
 tx:Cs
 tp:List Cs
 t:M.T
end Bk
namespace M
open PySem
open Bk (Fc Kd Lk Rl)
noncomputable def fT (f:Fc):T:=.tup [.str f.k,.tup (f.as.map .str)]
noncomputable def pT (p:Cs × Cs):T:=.tup [.str p.1,.str p.2]
noncomputable def lT (k:Lk):T:=.obj (if k.same=true then "Same" else "Unlike") [("left",.str k.l),("right",.str k.r)]
end M
namespace Bk
open PySem kz
noncomputable def fI (f:Fc):Im:=⟨gU f,cC f,M.fT f⟩
noncomputable def lI (k:Lk):Im:=⟨mv k,gV k,M.lT k⟩
noncomputable def pI (p:Cs × Cs):Im:=⟨mw p,gW p,M.pT p⟩
noncomputable def rows (r:Rl):List (Nat × List Im):=[(0,r.take.map fI),(1,r.keep.map fI),(2,r.aH.map lI),(3,r.put.map fI),(4,r.tell.map pI)]
noncomputable def ne (x:Nat × List Im):Bool:=!x.2.isEmpty
noncomputable def gn (r:Rl):List (Nat × List Im):=(rows r).filter ne
noncomputable def gJ (x:Nat × List Im):Cs:=wordAt x.1++32::M.jn [44,32] (x.2.map (·.tx))
noncomputable def gK (x:Nat × List Im):List Cs:=wordAt x.1::glue [44] (x.2.map (·.tp))
noncomputable def nQ (w:Cs) (m:List Cs):List Cs:=if m=[] then [] else [w++32::M.jn [44,32] m]
theorem qM:∀l:List (Nat × List Im),(l.flatMap fun x=>nQ (wordAt x.1) (x.2.map (·.tx)))=(l.filter ne).map gJ
 | []=>rfl
 | x::r=>by
  rw [Yr,qM r,YI];obtain⟨n,l⟩:=x;cases l <;> rfl
noncomputable def bR (r:Rl):Cs:=gj++32::(r.title++58::32::M.jn [59,32] ((gn r).map gJ))
noncomputable def dW (r:Rl):List Cs:=gj::r.title::[58]::glue [59] ((gn r).map gK)
structure FG (g:Fc):Prop where
 k:aK g.k=true
 as:∀a∈g.as,ah a=true
 n:g.as.length<=4
noncomputable def zi (m:Nat) (r:Rl):Prop:=r.take.length<=m/\r.keep.length<=m/\r.aH.length<=m/\r.put.length<=m/\r.tell.length<=m
noncomputable def aD (ks:List Kd):List Cs:=(ks.filter (·.l)).map (·.n)
noncomputable def ak (ks:List Kd) (f:Fc):Prop:=∃k∈ks,k.n=f.k/\f.as.length=k.c
noncomputable def bW (r:Rl):List Cs:=(r.aH.flatMap fun k=>[k.l,k.r])++((r.put.flatMap (·.as))++(r.tell.flatMap fun p=>[p.1,p.2]))
structure mS (ks:List Kd) (r:Rl):Prop where
 t:aK r.title=true
 f:∀g∈r.take++r.keep++r.put,FG g/\ak ks g
 l:∀k∈r.aH,ah k.l=true/\ah k.r=true
 p:∀p∈r.tell,ah p.1=true/\ah p.2=true
 hd:r.take=[]->r.keep≠[]
 uu:zi 2 r
 takes:∀f∈r.take,f.k∉aD ks
 calls:r.take=[]->∀f∈r.put,f.k∈aD ks
 Nk:∀a∈bW r,ah a=true/\(great a=true->a∈opens (r.take++r.keep))
abbrev Lg:Cs:=[40,41,44,61]
abbrev Di:Cs:=[40,41,44,58,59,61]
theorem W.Py:∀{as:List Cs},as≠[]->(∀a∈as,ah a=true)->W Lg (M.jn [44] as++[41]) (between as)
 | [],h,_=>absurd rfl h
 | [a],_,h=>.mk (c:=41) (by decide) (.name (h a To)) .nil
 | a::b::r,_,h=>by
  have z:=W.mk (c:=44) (by decide) (.name (h a To)) (W.Py (as:=b::r) (WN _ _) fun x hx=>h x (Tp _ hx));show W Lg (a++[44]++M.jn [44] (b::r)++[41]) _
  rw [T8,T8];exact z
noncomputable def qN (i:Im):Prop:=i.tx.length<=70/\W Lg i.tx i.tp
theorem FG.im {g:Fc} (h:FG g):qN (fI g):=by
 have hk:=bc h.k;have h1:=(ax hk).2
 have h2:=jR (sep:=[44]) fun a ha=>(ax (h.as a ha)).2
 have h3:=h.n;unfold qN fI gU cC;by_cases e:g.as=[]
 ·rw [if_pos e,if_pos e]
  exact⟨TU h1 (by decide),.name hk⟩
 ·rw [if_neg e,if_neg e]
  refine⟨?_,?_⟩
  ·simp only [Tq,Tu,T9] at h2 ⊢
   omega
  ·dsimp only
   rw [T8,T8];exact .mk (c:=40) (by decide) (.name hk) (W.Py e h.as)
theorem uV {k:Lk} (h:ah k.l=true/\ah k.r=true):qN (lI k)/\[44]∉gV k:=by
 have w:∀m,W m (mv k) (gV k):=fun m=>.sp (.name h.1) (.sp (.name (zf _).1) (.name h.2))
 have h1:=(ax h.1).2;have h2:=(ax h.2).2
 have h3:=(zf k.same).2;refine⟨⟨?_,w _⟩,(W.no (m:=[]) (by decide +kernel) (by decide) (w _)).1⟩;unfold lI mv;simp only [Tq,Tu];omega
theorem uW {k:Cs × Cs} (h:ah k.1=true/\ah k.2=true):qN (pI k)/\[44]∉gW k:=by
 have w:∀{m},61∈m->W m (mw k) (gW k):=fun z=>.sp (.name h.1) (.mk z .nil (.sp .nil (.name h.2)))
 have h1:=(ax h.1).2;have h2:=(ax h.2).2
 refine⟨⟨?_,w (by decide)⟩,(W.no (m:=[61]) (by decide +kernel) (by decide) (w (by decide))).1⟩;unfold pI mw;simp only [Tq,Tu];omega
theorem Cc {α:Type} {P:α->Prop} {a b c d e:α} (ha:P a) (hb:P b) (hc:P c) (hd:P d) (he:P e):∀x∈[a,b,c,d,e],P x:=by
 simp only [TJ,U6,or_false];rintro x (rfl|rfl|rfl|rfl|rfl) <;> assumption
section
variable {ks:List Kd} {r:Rl} (h:mS ks r)
include h
theorem mS.row:∀x∈rows r,x.1<5/\x.2.length<=2/\∀i∈x.2,qN i:=by
 obtain⟨f1,f2,f3,f4,f5⟩:=h.uu;have F:∀n<5,∀l:List Fc,l.length<=2->(∀g∈l,g∈r.take++r.keep++r.put)->n<5/\(l.map fI).length<=2/\∀i∈l.map fI,qN i:=fun n hn l hl hs=>⟨hn,by rwa [Lm9],fun i hi=>by
  obtain⟨g,hg,rfl⟩:=Tz.mp hi;exact(h.f g (hs g hg)).1.im⟩
 refine Cc (F 0 (by decide) _ f1 fun g hg=>TF _ (TF _ hg)) (F 1 (by decide) _ f2 fun g hg=>TF _ (TQ _ hg)) ⟨show 2<5 by decide,by rwa [Lm9],fun i hi=>?_⟩ (F 3 (by decide) _ f4 fun g hg=>TQ _ hg) ⟨show 4<5 by decide,by rwa [Lm9],fun i hi=>?_⟩
 ·obtain⟨g,hg,rfl⟩:=Tz.mp hi
  exact(uV (h.l g hg)).1
 ·obtain⟨g,hg,rfl⟩:=Tz.mp hi
  exact(uW (h.p g hg)).1
theorem mS.part {x:Nat × List Im} (hx:x∈rows r):W Lg (gJ x) (gK x)/\(gJ x).length<=150:=by
 obtain⟨h5,h2,hi⟩:=h.row x hx;refine⟨.sp (.name (zd h5).1) (W.join (by decide) _ fun i h=>(hi i h).2),?_⟩;have z:=jR (sep:=[44,32]) (ls:=x.2.map (·.tx)) (B:=70) fun l hl=>by
  obtain⟨i,h,rfl⟩:=Tz.mp hl;exact(hi i h).1
 have:=(zd h5).2;unfold gJ;simp only [Tq,Tu,Lm9,T9] at z ⊢;omega
theorem mS.parts:((gn r).map gJ).length<=5/\∀l∈(gn r).map gJ,l.length<=150:=by
 refine⟨by rw [Lm9];exact VU _ _,fun l hl=>?_⟩;obtain⟨x,hx,rfl⟩:=Tz.mp hl;exact(h.part (Uh.mp hx).1).2
theorem mS.line:W Di (bR r) (dW r)/\(bR r).length<=800:=by
 refine⟨.sp (.name (n:=gj) (by decide +kernel)) (.mk (by decide) (.name (bc h.t)) (.sp .nil (W.join (by decide) _ fun x hx=>(h.part (Uh.mp hx).1).1.up (by decide)))),?_⟩;have z:=jR (sep:=[59,32]) h.parts.2
 have:=h.parts.1;have:=(ax (bc h.t)).2
 unfold bR;simp only [Tq,Tu,T9] at z ⊢;omega
end
structure KG (ks:List Kd):Prop where
 len:ks.length=4
 nd:(ks.map (·.n)).Nodup
 ok:∀k∈ks,aK k.n=true/\k.c<=4
 yes:∃k∈ks,k.l=true
 no:∃k∈ks,k.l=false
theorem jS {k:Kd} (h:aK k.n=true/\k.c<=4):W Di (ar k) (qL k)/\(ar k).length<=800:=by
 have hw:ah (if k.l=true then cg else cf)=true/\(if k.l=true then cg else cf).length=7:=by cases k.l <;> decide +kernel
 have:=(ax (bc h.1)).2;refine⟨.sp (.name hw.1) (.sp (.name (bc h.1)) (.name ((by decide +kernel:∀c≤4,ah [48+c]=true) k.c h.2))),?_⟩;unfold ar;simp only [Tq,Tu,T9,hw.2];omega
theorem ju (p:Cs):(M.toS p).cps.toList=p:=by simp [M.toS]
theorem Jj (x:Str):M.toS x.cps.toList=x:=by cases x;simp [M.toS]
noncomputable def kC:Cs->List Cs
 | []=>[[]]
 | c::r=>if c=10 then []::kC r else match kC r with
  | []=>[[c]]
  | q::qs=>(c::q)::qs
theorem qO:∀(a r:Cs),10∉a->kC (a++10::r)=a::kC r
 | [],r,_=>rfl
 | c::a,r,h=>by
  have hc:c≠10:=fun e=>h (by rw [e];exact To)
  show(if c=10 then []::kC (a++10::r) else match kC (a++10::r) with|[]=>[[c]]|q::qs=>(c::q)::qs)=_;rw [if_neg hc,qO a r fun z=>h (Tp _ z)]
theorem qP:∀(a:Cs),10∉a->kC a=[a]
 | [],_=>rfl
 | c::a,h=>by
  have hc:c≠10:=fun e=>h (by rw [e];exact To)
  show(if c=10 then []::kC a else match kC a with|[]=>[[c]]|q::qs=>(c::q)::qs)=_;rw [if_neg hc,qP a fun z=>h (Tp _ z)]
theorem jT:∀(ls:List Cs),ls≠[]->(∀l∈ls,10∉l)->kC (M.jn [10] ls)=ls
 | [],h,_=>absurd rfl h
 | [a],_,h=>qP a (h a To)
 | a::b::r,_,h=>by
  show kC (a++[10]++M.jn [10] (b::r))=_;rw [T8,Ws,qO a _ (h a To),jT (b::r) (WN _ _) fun l hl=>h l (Tp _ hl)]
theorem qQ:∀(ls:List Str),(Str.join ⟨#[10]⟩ ls).cps.toList=M.jn [10] (ls.map fun s=>s.cps.toList)
 | []=>rfl
 | [a]=>rfl
 | a::b::r=>by
  show((a++(⟨#[10]⟩:Str))++Str.join ⟨#[10]⟩ (b::r)).cps.toList=_;rw [Zg,Zg,qQ (b::r)];rfl
theorem zk (x:Str):WG x ⟨#[10]⟩≠[]:=by
 unfold WG;split
 ·simp
 ·split
  ·simp
  ·intro h
   have e:=congrArg VV h;rw [PyProof.Rows.len_partsBetween] at e;simp at e
theorem qR {ls:List Cs} (h0:ls≠[]) (h:∀l∈ls,10∉l):WG (M.toS (M.jn [10] ls)) (M.toS [10])=ls.map M.toS:=by
 have e1:=StrLaws.join_split (M.toS (M.jn [10] ls)) ⟨#[10]⟩;have hf:=StrLaws.split_free (M.toS (M.jn [10] ls)) 10
 have hn:=zk (M.toS (M.jn [10] ls));show WG (M.toS (M.jn [10] ls)) ⟨#[10]⟩=_
 generalize WG (M.toS (M.jn [10] ls)) ⟨#[10]⟩=ts at e1 hf hn;have e3:=congrArg kC (show M.jn [10] (ts.map fun s=>s.cps.toList)=M.jn [10] ls by rw [<- qQ,e1,ju])
 rw [jT ls h0 h,jT _ (by simpa using hn) (by
  intro l hl;obtain⟨t,ht,rfl⟩:=Tz.mp hl;exact hf t ht)] at e3
 rw [<- e3,Ud,show(M.toS ∘ fun s:Str=>s.cps.toList)=id from funext Jj,XF]
theorem zm {c:Nat} (hc:c≠32) (p:Cs):∃q:Cs,XY (M.toS (c::p)) (M.toS [32])=M.toS (c::q)/\q.length<=p.length:=by
 have e0:(M.toS [32]).cps.contains=fun c=>c == 32:=by
  funext c;simp [M.toS,Bool.beq_eq_decide_eq]
 unfold XY;rw [e0,PyProof.Rows.stripBy_eq];have RF:stripLo (fun c=>c == 32) true (M.toS (c::p))=0:=by
  simp [stripLo,M.toS,hc]
 obtain⟨b1,b2,b3,b4⟩:=PyProof.Rows.hi_facts (fun c=>c == 32) (M.toS (c::p)) _ (Uj _);rw [RF];generalize stripHi (fun c=>c == 32) true (M.toS (c::p)) 0=hi at b1 b2 b3 b4;have hl:(M.toS (c::p)).length=p.length+1:=by simp [M.toS,Str.length]
 rw [hl] at b2 b3;obtain⟨k,rfl⟩:∃k,hi=k+1:=by
  cases hi with
  | succ k=>exact⟨k,rfl⟩
  | zero =>
   have z:=b3 0 (TK _) (XU _);exact absurd z (by simp [M.toS,hc])
 refine⟨p.take k,?_,by rw [Ur];omega⟩;rw [<- Jj (Builtin.Str.strSub (M.toS (c::p)) 0 (k+1)),StrLaws.strSub_toList,ju];rfl
abbrev jU:Cs:=[97,98,99,100,101,102,103,104]
noncomputable def nameOf (a b k:Nat):Cs:=Ui a 109++([jU.getD k 0]++Ui b 109)
theorem cH {a b k:Nat} (hk:k<8) (hab:a+b<=4):aK (nameOf a b k)=true:=(by decide +kernel:∀a<5,∀b<5,∀k<8,aK (nameOf a b k)=true) a (by omega) b (by omega) k hk
theorem mx {a b j k:Nat} (hj:j<8) (hk:k<8) (h:nameOf a b j=nameOf a b k):j=k:=by
 unfold nameOf at h;have h2:=List.append_inj_right h rfl
 have h3:jU.getD j 0=jU.getD k 0:=(Vp h2).1;exact(by decide +kernel:∀j<8,∀k<8,jU.getD j 0=jU.getD k 0->j=k) j hj k hk h3
theorem nR:∀(l m:List Cs),l.Nodup->(∀x∈l,x∈m)->l.length<=m.length
 | [],_,_,_=>Uj _
 | x::r,m,nd,h=>by
  have hx:=h x (To ..);have nr:=Uu.mp nd
  have z:=nR r (m.erase x) nr.2 fun y hy=>(List.mem_erase_of_ne (fun e=>nr.1 (by rw [<- e];exact hy))).mpr (h y (Tp _ hy))
  rw [WU hx] at z;have:1<=m.length:=Wf hx
  rw [Tu];omega
deriving instance DecidableEq for Fc
noncomputable def short (bp ts:List Fc):Bool:=ts.any fun f=>decide (bp.count f<ts.count f)
theorem ik {α:Type} [DecidableEq α]:∀(l b:List α),(∀f,l.count f<=b.count f)->l.length<=b.length
 | [],_,_=>Uj _
 | x::l,b,h=>by
  have hx:x∈b:=by
   have z:=h x;rw [List.count_cons_self] at z;exact W4.mp (by omega)
  have ih:=ik l (b.erase x) fun f=>by
   have z:=h f;rw [List.count_cons] at z;rw [List.count_erase];by_cases e:x=f
   ·subst e
    simp only [beq_self_eq_true,if_true] at z ⊢;omega
   ·have e1:(x == f)=false:=by simpa using e
    simp only [e1,TH,if_false] at z ⊢;omega
  have hp:=Wf hx;rw [WU hx] at ih;rw [Tu];omega
end Bk
namespace Un
section
variable {α:Type} [DecidableEq α] (great:α->Bool) (lt:α->α->Bool)
noncomputable def mn (a b:α):α:=if lt b a=true then b else a
noncomputable def nS (p q:α):α:=if great p=false then p else if great q=false then q else mn lt p q
variable {great lt}
theorem Jk (a b:α):mn lt a b=a\/mn lt a b=b:=by
 unfold mn;split
 ·exact .inr rfl
 ·exact .inl rfl
noncomputable def told (great:α->Bool) (lt:α->α->Bool) (ρ:α->α) (a b x:α):α:=if ρ x=ρ a\/ρ x=ρ b then nS great lt (ρ a) (ρ b) else ρ x
end
end Un
namespace Bk
open PySem kz
abbrev bz:=List (Cs × Cs)
noncomputable def iZ (st:bz) (n:Cs):Option Cs:=(st.find? fun p=>decide (p.1=n)).map (·.2)
noncomputable def bo (st:bz) (n:Cs):Cs:=(iZ st n).getD n
noncomputable def Hu (a b:Cs):Bool:=decide (a<b)
noncomputable def gN (st:bz) (n:Cs):bz:=if great n=true then (if n∈st.map (·.1) then st else st++[(n,n)]) else st
noncomputable def gO (st:bz) (ns:List Cs):bz:=ns.foldl gN st
noncomputable def nU (p q:Cs) (e:Cs × Cs):Cs × Cs:=(e.1,if e.2=p\/e.2=q then Un.nS great Hu p q else e.2)
noncomputable def gL (p q:Cs):Prop:=p≠q/\great p=false/\great q=false
noncomputable instance (p q:Cs):Decidable (gL p q):=by unfold gL;infer_instance
noncomputable def dK (st:bz) (p q:Cs):bz:=if p=q then st else st.map (nU p q)
theorem tq (p q:Cs) (st:bz):(st.map (nU p q)).map (·.1)=st.map (·.1):=by
 rw [Ud];rfl
noncomputable def wr (st:bz) (f:Fc):Fc:=⟨f.k,f.as.map (bo st)⟩
noncomputable def bA:bz->List (Cs × Cs)->Option bz
 | st,[]=>some st
 | st,(a,b)::r=>if gL (bo (gO st [a,b]) a) (bo (gO st [a,b]) b) then none else bA (dK (gO st [a,b]) (bo (gO st [a,b]) a) (bo (gO st [a,b]) b)) r
noncomputable def lw (gn:List (Cs × Cs)) (st:bz) (l:List Fc):List Fc:=if gn=[] then l else l.map (wr st)
noncomputable def iA (ks:List Kd) (ns:List Cs) (f:Fc):Prop:=(∃k∈ks,f.k=k.n/\f.as.length=k.c)/\∀a∈f.as,a∈ns
noncomputable def lq (k:Kd):Bool:=!k.l
structure wN (ks:List Kd) (os ws:List Cs) (r:Rl):Prop where
 take:∀f∈r.take,iA (ks.filter lq) (os++ws) f
 keep:∀f∈r.keep,iA ks (os++ws) f
 put:∀f∈r.put,iA (if r.take=[] then ks.filter (·.l) else ks) (opens (r.take++r.keep)++ws) f
 aH:∀k∈r.aH,k.l∈opens (r.take++r.keep)++ws/\k.r∈opens (r.take++r.keep)++ws
 tell:∀p∈r.tell,p.1∈opens (r.take++r.keep)++ws/\p.2∈opens (r.take++r.keep)++ws
 hd:1<=r.take.length+r.keep.length
 uu:zi 2 r
noncomputable def fQ (r:Rl) (t:Cs):Rl:={ r with title:=t }
section
variable {ks:List Kd} {os ws:List Cs} {r:Rl} {t:Cs}
theorem iA.sub {ks sE:List Kd} {ns ns':List Cs} {f:Fc} (h:iA sE ns f) (hs:∀k∈sE,k∈ks) (hn:∀n∈ns,n∈ns'):iA ks ns' f:=by
 obtain⟨⟨k,hk,e⟩,ha⟩:=h;exact⟨⟨k,hs k hk,e⟩,fun a h=>hn a (ha a h)⟩
theorem tu {α β:Type} {f:α->β} {l:List α} (nd:(l.map f).Nodup) {j k:α} (hj:j∈l) (hk:k∈l) (e:f j=f k):j=k:=by
 induction l with
 | nil=>cases hk
 | cons a r ih =>
  rw [TC,Uu] at nd;rcases TJ.mp hj with z|z <;> rcases TJ.mp hk with y|y
  ·rw [y,z]
  ·exact absurd (by rw [<- z,e];exact TZ y) nd.1
  ·exact absurd (by rw [<- y,<- e];exact TZ z) nd.1
  ·exact ih nd.2 z y
theorem wN.RG (hG:KG ks) (hN:∀n∈os++ws,ah n=true) (hW:∀n∈ws,great n=false) (ht:aK t=true) (d:wN ks os ws r):mS ks (fQ r t):=by
 have hd:∀f∈r.take++r.keep,iA ks (os++ws) f:=fun f hf=>(TL.mp hf).elim (fun h=>(d.take f h).sub (fun k hk=>(Uh.mp hk).1) fun _ h=>h) (d.keep f)
 have Hv:∀n∈opens (r.take++r.keep)++ws,ah n=true:=fun n hn=>(TL.mp hn).elim (fun h=>by
  obtain⟨⟨f,hf,ha⟩,_⟩:=jt h;exact hN n ((hd f hf).2 n ha)) fun h=>hN n (TQ _ h)
 have fg:∀{ns f},(∀n∈ns,ah n=true)->iA ks ns f->FG f/\ak ks f:=fun hn h=>by
  obtain⟨⟨k,hk,e1,e2⟩,ha⟩:=h;exact⟨⟨by rw [e1];exact(hG.ok k hk).1,fun a h=>hn a (ha a h),by rw [e2];exact(hG.ok k hk).2⟩,k,hk,e1.symm,e2⟩
 refine⟨ht,fun g hg=>(TL.mp hg).elim (fun h=>fg hN (hd g h)) fun h=>fg Hv ((d.put g h).sub (fun k hk=>?_) fun _ h=>h),fun k hk=>⟨Hv _ (d.aH k hk).1,Hv _ (d.aH k hk).2⟩,fun k hk=>⟨Hv _ (d.tell k hk).1,Hv _ (d.tell k hk).2⟩,fun e e2=>?_,d.uu,fun f hf h=>?_,fun e f hf=>?_,fun a ha=>?_⟩
 ·split at hk
  ·exact(Uh.mp hk).1
  ·exact hk
 ·have:=d.hd
  rw [show r.take=[] from e,show r.keep=[] from e2] at this;cases this
 ·obtain⟨⟨k,hk,e,_⟩,_⟩:=d.take f hf
  obtain⟨j,hj,e2⟩:=Tz.mp h;obtain⟨hk,hp⟩:=Uh.mp hk;obtain⟨hj,hl⟩:=Uh.mp hj;rw [tu hG.nd hj hk (e2.trans e)] at hl;unfold lq at hp;rw [hl] at hp;cases hp
 ·obtain⟨⟨k,hk,e1,_⟩,_⟩:=d.put f hf
  rw [if_pos (show r.take=[] from e)] at hk;rw [e1];exact TZ hk
 ·have z:a∈opens (r.take++r.keep)++ws:=by
   unfold bW at ha;simp only [TL,Xo,TJ,U6,or_false] at ha;rcases ha with⟨k,hk,e|e⟩|⟨f,hf,h⟩|⟨p,hp,e|e⟩
   ·rw [e];exact(d.aH k hk).1
   ·rw [e];exact(d.aH k hk).2
   ·exact(d.put f hf).2 a h
   ·rw [e];exact(d.tell p hp).1
   ·rw [e];exact(d.tell p hp).2
  exact⟨Hv a z,fun g=>(TL.mp z).elim id fun h=>by rw [hW a h] at g;cases g⟩
end
theorem KG.Cd {ks sE:List Kd} (hG:KG ks) (p:sE.Perm ks):KG sE:=by
 refine⟨by rw [p.length_eq];exact hG.len,(p.map _).nodup_iff.mpr hG.nd,fun k hk=>hG.ok k (p.mem_iff.mp hk),?_,?_⟩
 ·obtain⟨k,hk,e⟩:=hG.yes
  exact⟨k,p.mem_iff.mpr hk,e⟩
 ·obtain⟨k,hk,e⟩:=hG.no
  exact⟨k,p.mem_iff.mpr hk,e⟩
theorem qS {α:Type} (n:Nat) (l:List α):(l.drop n++l.take n).Perm l :=
 List.perm_append_comm.trans (by rw [Wo])
noncomputable def my (sm:Bool) (a b:Cs):Bool:=if sm=true then decide (a=b) else !great a && (!great b && !decide (a=b))
noncomputable def qT (st:bz) (k:Lk):Bool:=my k.same (bo st k.l) (bo st k.r)
noncomputable def d8 (st:bz) (r:Rl):List Fc:=(r.take++r.keep).map (wr st)
noncomputable def gY (ks:List Kd) (Dj Ay hs:List Fc) (h:Fc):Bool:=if h.k∈aD ks then decide (h∈Ay) else decide (hs.countP (fun a=>decide (a=h))<=Dj.countP (fun a=>decide (a=h)))
noncomputable def fA (ks:List Kd) (st:bz) (r:Rl) (Dj Ay:List Fc):Bool:=(d8 st r).all (gY ks Dj Ay (d8 st r))
noncomputable def jv (st:bz) (r:Rl) (Ay:List Fc):Bool:=(r.put.any fun f=>!decide (wr st f∈Ay)) || (r.tell.any fun p=>!decide (bo st p.1=bo st p.2))
noncomputable def iD (ks:List Kd) (st:bz) (r:Rl) (Dj Ay:List Fc) (Gm:Bool):Bool:=!Gm && (r.aH.all (qT st) && (fA ks st r Dj Ay && (!decide (r.take=[]) || jv st r Ay)))
noncomputable def au (r:Rl) (ns:List Cs):bz:=(opens (r.take++r.keep)).zip ns
noncomputable def dC (a:Cs):Prop:=ah a=true/\great a=decide (a.headD 0=78)
noncomputable def rT (i:Nat):Cs:=[114,48+i]
noncomputable def ao (rs:List Rl):List Rl:=rs.zipIdx.map fun x=>fQ x.1 (rT x.2)
structure ni (ks:List Kd) (ns ws:List Cs) (rs:List Rl):Prop where
 kg:KG ks
 n4:ns.length=4
 w2:ws.length=2
 tw:∀n∈ns++ws,dC n
 ng:∀n∈ns,great n=true
 wg:∀n∈ws,great n=false
 nd:(ns++ws).Nodup
 r2:rs.length=2
 rd:∀r∈rs,wN ks (ns.take 3) ws r
theorem nV {r:Rl} {ns:List Cs} (h:ns.length=(opens (r.take++r.keep)).length):(au r ns).map (·.1)=opens (r.take++r.keep):=by
 unfold au;rw [List.map_fst_zip (by omega)]
theorem Ce {st:bz} {n v:Cs} (h:iZ st n=some v):v∈st.map (·.2):=by
 unfold iZ at h;obtain⟨e,h1,h2⟩:=TG.mp h;rw [<- h2];exact TZ (VX h1)
theorem uX {r:Rl} {ns:List Cs} {v:Cs} (h:v∈(au r ns).map (·.2)):v∈ns:=by
 obtain⟨e,he,rfl⟩:=Tz.mp h;exact(WW (show(e.1,e.2)∈_ from he)).2
theorem pj {rs:List Rl} {i:Nat} (h:i<rs.length):(ao rs)[i]?=some (fQ rs[i] (rT i)):=by
 unfold ao;rw [TX,List.getElem?_zipIdx,Ge9 h];simp
section
variable {ks:List Kd} {ns ws:List Cs} {rs:List Rl} (h:ni ks ns ws rs)
include h
theorem ni.nm:∀n∈ns.take 3++ws,ah n=true:=fun n hn=>(TL.mp hn).elim (fun z=>(h.tw n (TF _ (Vc z))).1) fun z=>(h.tw n (TQ _ z)).1
theorem ni.rl:∀r∈rs,∀i<2,mS ks (fQ r (rT i)):=fun r hr i hi=>(h.rd r hr).RG h.kg h.nm h.wg ((by decide +kernel:∀i<2,aK (rT i)=true) i hi)
theorem ni.Nl:(ao rs).length<=2/\(∀r∈ao rs,mS ks r)/\((ao rs).map (·.title)).Nodup:=by
 have z:=h.rl
 match rs,h.r2 with
 | [a,b],_=>exact⟨TK 2,WE.mpr ⟨z a (by simp) 0 (by decide),WE.mpr ⟨z b (by simp) 1 (by decide),fun _ h=>nomatch h⟩⟩,show [rT 0,rT 1].Nodup by decide⟩
theorem ni.Gn {r:Rl} (hr:r∈rs):(opens (r.take++r.keep)).length<=3:=by
 have d:=h.rd r hr;have z:=nR _ (ns.take 3) (dJ (r.take++r.keep)) fun x hx=>by
  obtain⟨⟨g,hg,Pz⟩,gr⟩:=jt hx;have rO:x∈ns.take 3++ws:=(TL.mp hg).elim (fun z=>(d.take g z).2 x Pz) fun z=>(d.keep g z).2 x Pz
  exact(TL.mp rO).elim id fun z=>by rw [h.wg x z] at gr;cases gr
 rw [Ur] at z;omega
end
theorem uY {left bp ts:List Fc} (h:∀f,left.count f=bp.count f - ts.count f) {g:Fc} (hg:g∈left):g∈bp:=by
 have z:=h g;have z2:=W4.mpr hg
 exact W4.mp (by omega)
noncomputable def uZ (st:bz) (p:Cs × Cs):Cs × Cs:=(bo st p.1,bo st p.2)
noncomputable def mU (st:bz):Prop:=∀e∈st,dC e.1/\dC e.2
theorem mU.bo {st:bz} (h:mU st) {a:Cs} (ha:dC a):dC (bo st a):=by
 unfold Bk.bo;cases Hw:iZ st a with
 | none=>exact ha
 | some v =>
  unfold iZ at Hw;obtain⟨e,h1,h2⟩:=TG.mp Hw;rw [<- h2];exact(h e (VX h1)).2
theorem mU.tell {st:bz} (h:mU st) {p q:Cs} (hp:dC p) (hq:dC q):mU (dK st p q):=by
 unfold dK;split
 ·exact h
 ·intro e he
  obtain⟨e',he',rfl⟩:=Tz.mp he;refine⟨(h e' he').1,?_⟩;unfold nU;dsimp only;split
  ·unfold Un.nS
   split
   ·exact hp
   ·split
    ·exact hq
    ·rcases Un.Jk (lt:=Hu) p q with e|e
     ·rw [e];exact hp
     ·rw [e];exact hq
  ·exact(h e' he').2
theorem qU {ks:List Kd} {st:bz} {r:Rl} {Dj Ay:List Fc} (h:fA ks st r Dj Ay=true) (ht:∀f∈r.take,f.k∉aD ks):short Dj (r.take.map (wr st))=false:=by
 unfold short;rw [X8];intro f hf;unfold fA at h;have rO:f∈d8 st r:=by
  unfold d8;rw [TS];exact TF _ hf
 have z:=Tr.mp h f rO;unfold gY at z;have hk:f.k∉aD ks:=by
  obtain⟨g,hg,rfl⟩:=Tz.mp hf;exact ht g hg
 rw [if_neg hk] at z;have z:=of_decide_eq_true z
 have e1:∀l:List Fc,l.countP (fun a=>decide (a=f))=l.count f:=fun l=>by
  unfold List.count;congr 1
 rw [e1,e1] at z;have e2:(r.take.map (wr st)).count f<=(d8 st r).count f:=by
  unfold d8;rw [TS,Wy];omega
 rw [decide_eq_true_eq];omega
theorem Jl {st:bz} {f:Fc} (h:∀a∈f.as,bo st a=a):wr st f=f:=by
 obtain⟨k,as⟩:=f;unfold wr;have e:as.map (bo st)=as:=by
  have z:=UT (f:=bo st) (g:=id) (l:=as) h;rw [z,XF]
 show(⟨k,as.map (bo st)⟩:Fc)=_;rw [e]
theorem Gp {st:bz} {l:List Fc} (h:∀f∈l,wr st f=f):l.map (wr st)=l:=by
 have z:=UT (f:=wr st) (g:=id) (l:=l) h;rw [z,XF]
end Bk
namespace M
open PySem
open Bk (Fc Kd Lk Rl)
noncomputable def kT (k:Kd):T:=.tup [.str k.n,.int k.c,.bl k.l]
noncomputable def pq (k:Lk):T:=.tup [.str (Bk.gI k.same),.str k.l,.str k.r]
noncomputable def aO (r:Rl):T:=.obj "Rule" [("title",.str r.title),("taken",.lst (r.take.map fT)),("kept",.lst (r.keep.map fT)),("looks",.lst (r.aH.map lT)),("given",.lst (r.put.map fT)),("told",.lst (r.tell.map pT)),("names",.lst ((Bk.opens (r.take++r.keep)).map .str))]
noncomputable def jw (ks:List Kd) (rs:List Rl):T:=.obj "Book" [("kinds",.lst (ks.map kT)),("rules",.lst (rs.map aO))]
noncomputable def xT (r:Rl):T:=.tup [.lst (r.take.map fT),.lst (r.keep.map fT),.lst (r.aH.map pq),.lst (r.put.map fT),.lst (r.tell.map pT)]
noncomputable def cx (st:Bk.bz):T:=.aP (st.map fun p=>(.str p.1,.str p.2))
section
variable {L:aa} {f:Fc} {k:Kd} {p:Cs × Cs} {x y z u w:T} {r:List T}
theorem RH:ix (fT f) (.int 0) L=.ok (.str f.k) L:=rfl
theorem RI:ix (fT f) (.int 1) L=.ok (.tup (f.as.map .str)) L:=rfl
theorem RJ:ix (kT k) (.int 0) L=.ok (.str k.n) L:=rfl
theorem PB:ix (kT k) (.int 1) L=.ok (.int k.c) L:=rfl
theorem RK:ix (kT k) (.int 2) L=.ok (.bl k.l) L:=rfl
theorem RL:ix (pT p) (.int 0) L=.ok (.str p.1) L:=rfl
theorem RM:ix (pT p) (.int 1) L=.ok (.str p.2) L:=rfl
theorem RN {r:Rl}:ix (xT r) (.int 0) L=.ok (.lst (r.take.map fT)) L:=rfl
theorem RO {r:Rl}:ix (xT r) (.int 1) L=.ok (.lst (r.keep.map fT)) L:=rfl
theorem RP {r:Rl}:ix (xT r) (.int 2) L=.ok (.lst (r.aH.map pq)) L:=rfl
theorem RQ {r:Rl}:ix (xT r) (.int 3) L=.ok (.lst (r.put.map fT)) L:=rfl
theorem RR {r:Rl}:ix (xT r) (.int 4) L=.ok (.lst (r.tell.map pT)) L:=rfl
theorem RS {k:Lk}:ix (pq k) (.int 0) L=.ok (.str (Bk.gI k.same)) L:=rfl
theorem RU {k:Lk}:ix (pq k) (.int 1) L=.ok (.str k.l) L:=rfl
theorem RV {k:Lk}:ix (pq k) (.int 2) L=.ok (.str k.r) L:=rfl
theorem pv {xs:List T} {i:Nat} {x:T} (h:xs[i]?=some x):ix (.tup xs) (.int i) L=.ok x L:=by
 obtain⟨hi,e⟩:=TM.mp h;simp [ix,vw,place,hi,e,lift]
theorem zo:ix (.tup (x::r)) (.int 0) L=.ok x L:=pv (i:=0) rfl
theorem Nm:ix (.tup (x::y::r)) (.int 1) L=.ok y L:=pv (i:=1) rfl
theorem Nn:ix (.tup (x::y::z::r)) (.int 2) L=.ok z L:=pv (i:=2) rfl
theorem Gq:ix (.tup (x::y::z::u::r)) (.int 3) L=.ok u L:=pv (i:=3) rfl
theorem Gr:ix (.lst (x::r)) (.int 0) L=.ok x L:=dT (i:=0) rfl
theorem Np:ix (.lst (x::y::r)) (.int 1) L=.ok y L:=dT (i:=1) rfl
theorem Nq:ix (.lst (x::y::z::r)) (.int 2) L=.ok z L:=dT (i:=2) rfl
theorem Nr:ix (.lst (x::y::z::u::r)) (.int 3) L=.ok u L:=dT (i:=3) rfl
theorem Nt:ix (.lst (x::y::z::u::w::r)) (.int 4) L=.ok w L:=dT (i:=4) rfl
theorem Nu {v:T}:ix (.lst (x::y::z::u::w::v::r)) (.int 5) L=.ok v L:=dT (i:=5) rfl
theorem RW {r:Rl}:fld "taken" (aO r) L=.ok (.lst (r.take.map fT)) L:=rfl
theorem RX {r:Rl}:fld "kept" (aO r) L=.ok (.lst (r.keep.map fT)) L:=rfl
theorem RY {r:Rl}:fld "looks" (aO r) L=.ok (.lst (r.aH.map lT)) L:=rfl
theorem RZ {r:Rl}:fld "given" (aO r) L=.ok (.lst (r.put.map fT)) L:=rfl
theorem R0 {r:Rl}:fld "told" (aO r) L=.ok (.lst (r.tell.map pT)) L:=rfl
theorem R1 {r:Rl}:fld "names" (aO r) L=.ok (.lst ((Bk.opens (r.take++r.keep)).map .str)) L:=rfl
theorem R2 {r:Rl}:fld "title" (aO r) L=.ok (.str r.title) L:=rfl
theorem R3 {k:Lk}:fld "left" (lT k) L=.ok (.str k.l) L:=by cases h:k.same <;> simp [lT,h,fld,vw,lift,Ys]
theorem R4 {k:Lk}:fld "right" (lT k) L=.ok (.str k.r) L:=by
 have:(("right":Str) == "left")=false:=by decide
 cases h:k.same <;> simp [lT,h,fld,vw,lift,Ys,this]
theorem R5 {ks:List Kd} {rs:List Rl}:fld "kinds" (jw ks rs) L=.ok (.lst (ks.map kT)) L:=rfl
theorem flb {ks:List Kd} {rs:List Rl}:fld "rules" (jw ks rs) L=.ok (.lst (rs.map aO)) L:=rfl
theorem vf:vw L (fT f)=fT f:=rfl
theorem vk:vw L (kT k)=kT k:=rfl
theorem vp:vw L (pT p)=pT p:=rfl
theorem vx {r:Rl}:vw L (xT r)=xT r:=rfl
theorem vr {r:Rl}:vw L (aO r)=aO r:=rfl
theorem cY {c:T}:at_ (c::L) L.length=some c:=if_pos rfl
theorem mz {c d:T}:at_ (d::c::L) L.length=some c:=by simp [at_]
theorem Nv {c d e:T}:at_ (e::d::c::L) L.length=some c:=by
 unfold at_;rw [if_neg (by simp only [Tu];omega)];exact mz
theorem wq {c d:T}:at_ (d::c::L) (L.length+1)=some d:=by simp [at_]
theorem Jm {c d e:T}:at_ (e::d::c::L) (L.length+1)=some d:=by
 unfold at_;rw [if_neg (by simp only [Tu];omega)];exact wq
theorem Jn {c d e:T}:at_ (e::d::c::L) (L.length+2)=some e:=if_pos rfl
theorem tA {c d:T}:put (c::L) L.length d=d::L:=by simp [put]
theorem Jo {c d e:T}:put (d::c::L) L.length e=d::e::L:=by simp [put]
theorem Jp {c d e:T}:put (d::c::L) (L.length+1) e=e::c::L:=by simp [put]
theorem gZ {n:Nat}:vw L (.ref n)=(at_ L n).getD .cb:=rfl
theorem dX {α:Type} {a b:α}:(some a).getD b=a:=rfl
end
theorem j7 {α:Type} {n:Nat} {g:α->T} (h:∀x,lt n (g x)=true):∀l:List α,cT n (l.map g)=true
 | []=>rfl
 | x::l=>by rw [TC,cT,h x,j7 h l];rfl
theorem jx {n:Nat} (l:List Cs):cT n (l.map .str)=true:=j7 (fun _=>rfl) l
theorem bu (n:Nat) (f:Fc):lt n (fT f)=true:=by simp [fT,lt,cT,jx]
theorem qV (n:Nat) (f:Kd):lt n (kT f)=true:=by simp [kT,lt,cT]
theorem fR (n:Nat) (f:Cs × Cs):lt n (pT f)=true:=by simp [pT,lt,cT]
theorem nW (n:Nat) (f:Lk):lt n (lT f)=true:=by simp [lT,lt,mX]
theorem tB (n:Nat) (f:Lk):lt n (pq f)=true:=by simp [pq,lt,cT]
theorem lt_str (n:Nat) (x:Cs):lt n (.str x)=true:=by simp [lt]
theorem lt_int (n:Nat) (x:Int):lt n (.int x)=true:=by simp [lt]
theorem aj {α:Type} {n:Nat} {g:α->T} {l:List α} (h:∀n x,lt n (g x)=true):lt n (.lst (l.map g))=true:=by rw [lt];exact j7 (h n) l
theorem dU {α:Type} {n:Nat} {g:α->T} {l:List α} (h:∀n x,lt n (g x)=true):lt n (.tup (l.map g))=true:=by rw [lt];exact j7 (h n) l
theorem Jq (n:Nat) (r:Rl):lt n (xT r)=true:=by simp [xT,lt,cT,j7,bu,fR,tB]
theorem pz (n:Nat) (r:Rl):lt n (aO r)=true:=by simp [aO,lt,mX,j7,bu,fR,nW,jx]
theorem pA (n:Nat):∀st:Bk.bz,lt n (cx st)=true
 | []=>rfl
 | (a,b)::st=>by have:=pA n st;simp only [cx,lt,TC,Aq] at this ⊢;simp [lt,this]
theorem dY {L:aa} {c t:T} (h:lt L.length t=true):fin L t (c::L)=.ok t L:=y8 (Ln:=[c]) h
theorem fS (L:aa):old L L:=fun _ _ e=>.inl e
theorem zq {L Ln:aa} {c:T} {n:Nat} (ha:at_ (Ln++L) n=some c) (hn:L.length<=n) (h:lt L.length c=true):fin L (.ref n) (Ln++L)=.ok c L:=by
 have e:(Ln++L).drop ((Ln++L).length - L.length)=L:=by rw [Tq,XX,Xf]
 unfold fin;rw [e,if_pos (fS L)];unfold bU;have:¬ lt L.length (.ref n)=true:=by rw [lt];simp;omega
 rw [if_neg this];simp only [ha];unfold bU;rw [if_pos h];rfl
theorem eV {L:aa} {c:T} (h:lt L.length c=true):fin L (.ref L.length) (c::L)=.ok c L:=zq (Ln:=[c]) cY (TK _) h
theorem Gs {L:aa} {c d:T} (h:lt L.length d=true):fin L (.ref (L.length+1)) (d::c::L)=.ok d L:=zq (Ln:=[d,c]) wq (VJ _) h
theorem Jr {a b:Cs} {L:aa}:KP (.str a) (.str b) L=.ok (a == b) L:=rfl
theorem Js {a b:Int} {L:aa}:KP (.int a) (.int b) L=.ok (a == b) L:=rfl
theorem Jt {α:Type} {r:R α}:bT (0<=lim) r=r:=if_pos (Uj _)
theorem Ju {α:Type} {r:R α}:bT (0+1<=lim) r=r:=if_pos (by decide)
theorem Gu {α:Type} {r:R α}:bT (1<=lim) r=r:=if_pos (by decide)
theorem Jv {α:Type} {r:R α}:bT (2<=lim) r=r:=if_pos (by decide)
theorem Jw {α:Type} {r:R α}:bT (3<=lim) r=r:=if_pos (by decide)
theorem Jy {α:Type} {r:R α}:bT (4<=lim) r=r:=if_pos (by decide)
theorem Jz {α:Type} {r:R α}:bT (5<=lim) r=r:=if_pos (by decide)
theorem JA {α:Type} {r:R α}:bT (6<=lim) r=r:=if_pos (by decide)
theorem Nx (n:Nat):(n:Int)+1=((n+1:Nat):Int):=rfl
theorem Ny (n:Nat):(n:Int)+2=((n+2:Nat):Int):=rfl
theorem Nz:S ")"=[41]:=rfl
theorem NA:S "("=[40]:=rfl
theorem NB:S ","=[44]:=rfl
theorem NC:S " "=[32]:=rfl
theorem ND:S ":"=[58]:=rfl
theorem NF:S ";"=[59]:=rfl
theorem NH:S "="=[61]:=rfl
theorem NI:S ""=[]:=rfl
theorem NJ:S "#"=[35]:=rfl
theorem JB {α:Type} {r:R α} [Decidable True]:bT True r=r:=if_pos trivial
theorem NK {fz:Bool} {i j:Int} {L:aa}:aQ fz .Add (.int i) (.int j) L=.ok (.int (i+j)) L:=rfl
theorem NL {fz:Bool} {i j:Int} {L:aa}:aQ fz .Sub (.int i) (.int j) L=.ok (.int (i - j)) L:=rfl
theorem NM {fz:Bool} {i j:Int} {L:aa}:aQ fz .Mult (.int i) (.int j) L=bT (tZ i j) (.ok (.int (i * j)) L):=rfl
theorem NN {fz:Bool} {i j:Int} {L:aa}:aQ fz .FloorDiv (.int i) (.int j) L=bT (wQ j) (.ok (.int (i / j)) L):=rfl
theorem NO {fz:Bool} {i j:Int} {L:aa}:aQ fz .Mod (.int i) (.int j) L=bT (0<j) (.ok (.int (i % j)) L):=rfl
theorem JC {fz:Bool} {i j:Int} {L:aa}:aQ fz .Pow (.int i) (.int j) L=bT (wR i j) (.ok (.int (i ^ j.toNat)) L):=rfl
theorem JD {fz:Bool} {a b:Cs} {L:aa}:aQ fz .Add (.str a) (.str b) L=bT (a.length+b.length<=lim) (.ok (.str (a++b)) L):=rfl
theorem NP {fz:Bool} {ch:Nat} {j:Int} {L:aa}:aQ fz .Mult (.str [ch]) (.int j) L=bT (rQ j) (.ok (.str (Ui j.toNat ch)) L):=rfl
theorem NQ {fz:Bool} {a b:List T} {L:aa}:aQ fz .Add (.lst a) (.lst b) L=eO fz (a++b) L:=rfl
theorem u0 (a b:SE) (φ:Fr) (L:aa) {i j:Int} {L1 L2:aa} (ha:a φ L=.ok (.int i) L1) (hb:b φ L1=.ok (.int j) L2) (hi:rR i/\rR j):rS a b φ L=.ok (upTo i (j - i).toNat,fun _=>True) L2:=by
 unfold rS;rw [ha,aJ,hb,aJ];exact if_pos hi
theorem j8 {n:Nat} (h:n<=1000000):rR n:=by unfold rR;constructor <;> omega
theorem NS {y:T} {xs:List T} {L:aa}:ix (.ref L.length) y (.lst xs::L)=ix (.lst xs) y (.lst xs::L):=by unfold ix;simp only [gZ,cY,dX];rfl
theorem JE {fz:Bool} {a b:Option Int} {xs:List T} {L:aa}:iH fz (.ref L.length) a b (.lst xs::L)=iH fz (.lst xs) a b (.lst xs::L):=by unfold iH;simp only [gZ,cY,dX];rfl
theorem NT {fz:Bool} {a b:Option Int} {xs:List T} {c:T} {L:aa}:iH fz (.ref (L.length+1)) a b (.lst xs::c::L)=iH fz (.lst xs) a b (.lst xs::c::L):=JE (L:=c::L)
theorem NU {c d e f:T} {L:aa}:put (e::d::c::L) (L.length+2) f=f::d::c::L:=tA (L:=d::c::L)
theorem aC {α:Type} {c:Prop} {i:Decidable c} {r:R α} (h:c):@bT α c i r=r:=if_pos h
theorem JF {a b:Cs}:(a != b) = !(a == b):=rfl
theorem NV {ch:Nat} {b:Cs} {L:aa}:mW (.str [ch]) (.str b) L=.ok (decide (ch∈b)) L:=rfl
theorem any_eq {α:Type} [DecidableEq α] {g:α->T} (hg:∀a b,eqT (g a) (g b)=decide (a=b)) (x:α):∀ys:List α,((ys.map g).any fun y=>eqT y (g x))=decide (x∈ys)
 | []=>by simp
 | y::ys=>by
  rw [TC,List.any_cons,any_eq hg x ys,hg,<- Bool.decide_or];exact decide_eq_decide.mpr ⟨fun h=>h.elim (fun e=>by rw [e];exact To) (Tp _),fun h=>(TJ.mp h).imp Eq.symm id⟩
theorem fc {α:Type} {g:α->T} {n:Nat} (h:∀a,dat n (g a)=true) (l:List α):(l.map g).all (dat n)=true:=by simp [h]
theorem Dk (a b:Cs):eqT (.str a) (.str b)=decide (a=b):=by
 show(a == b)=_;by_cases h:a=b <;> simp [h]
theorem Dl {α:Type} [DecidableEq α] {f:T->T->Bool} {g:α->T} (h:∀a b,f (g a) (g b)=decide (a=b)):∀a b:List α,mP f (a.map g) (b.map g)=decide (a=b)
 | [],[]=>by simp [mP]
 | [],_::_=>by simp [mP]
 | _::_,[]=>by simp [mP]
 | x::a,y::b=>by
  rw [TC,TC,mP,h,Dl h a b];by_cases h1:x=y <;> by_cases h2:a=b <;> simp [h1,h2]
theorem Dm (n:Nat) (a b:Cs):vB (n+1) (.str a) (.str b)=decide (a=b):=by
 show(a == b)=_;by_cases h:a=b <;> simp [h]
theorem qW (a b:Fc):eqT (fT a) (fT b)=decide (a=b):=by
 obtain⟨k,as⟩:=a;obtain⟨k',as'⟩:=b;show(vB 7 (.str k) (.str k') && (mP (vB 6) (as.map .str) (as'.map .str) && true))=_
 rw [Dm,Dl (Dm 5)];by_cases h1:k=k' <;> by_cases h2:as=as' <;> simp [h1,h2]
theorem u3 (n:Nat) (a:Cs):dat (n+1) (.str a)=true:=rfl
theorem iE (a:Fc):dat 8 (fT a)=true:=by
 show(dat 7 (.str a.k) && ((a.as.map .str).all (dat 6) && true))=true;rw [u3,fc (u3 5)];rfl
theorem Cf {x:Cs} {ys:List Cs} {L:aa}:mW (.str x) (.lst (ys.map .str)) L=.ok (decide (x∈ys)) L:=by
 show bT _ _=_;rw [aR ⟨rfl,fc (u3 7) ys⟩,any_eq Dk];exact congrArg (R.ok · L) (decide_eq_decide.mpr Iff.rfl)
theorem JG {x:Cs} {ys:List Cs} {L:aa}:mW (.str x) (.tup (ys.map .str)) L=.ok (decide (x∈ys)) L:=by
 show bT _ _=_;rw [aR ⟨rfl,fc (u3 7) ys⟩,any_eq Dk];exact congrArg (R.ok · L) (decide_eq_decide.mpr Iff.rfl)
theorem NW {x:Cs} {t:T} {ys:List Cs} {L:aa} (h:vw L t=.lst (ys.map .str)):mW (.str x) t L=.ok (decide (x∈ys)) L:=by
 have:=Cf (x:=x) (ys:=ys) (L:=L);unfold mW at this ⊢;rw [h];exact this
theorem JH {x:Fc} {t:T} {ys:List Fc} {L:aa} (h:vw L t=.lst (ys.map fT)):mW (fT x) t L=.ok (decide (x∈ys)) L:=by
 have:mW (fT x) (.lst (ys.map fT)) L=.ok (decide (x∈ys)) L:=by
  show bT _ _=_;rw [aR ⟨iE x,fc iE ys⟩,any_eq qW]
 unfold mW at this ⊢;rw [h];exact this
theorem JI {x:Fc} {ys:List Fc} {L:aa}:mW (fT x) (.lst (ys.map fT)) L=.ok (decide (x∈ys)) L:=by
 show bT _ _=_;rw [aR ⟨iE x,fc iE ys⟩,any_eq qW]
theorem JJ {x:Fc} {ys:List Fc} {L:aa}:mW (fT x) (.tup (ys.map fT)) L=.ok (decide (x∈ys)) L:=by
 show bT _ _=_;rw [aR ⟨iE x,fc iE ys⟩,any_eq qW]
section
variable {β:Type} {s:SI} {aV:List (Option Nat)} {i:Nat} {ts:ST} {m:SE} {φ:Fr} {L:aa} {k:aa->Prop} {r:R T} {fz:Bool}
theorem cZ (hc:comp fz s aV (.one i) ts m φ L=r) (xs:List β) (enc:β->T) (p:β->Bool) (f:β->T) (hs:s φ L=.ok (xs.map enc,k) L) (hk:k L) (hl:xs.length<=lim)
  (ht:∀b∈xs,ts ((inner aV φ).set i (some (enc b))) L=.ok (p b) L) (hm:∀b∈xs,p b=true->m ((inner aV φ).set i (some (enc b))) L=.ok (f b) L):r=mk fz (.lst ((xs.filter p).map f)) L:=by
 subst hc;have key:∀(ys:List β) (acc:List T),(∀b∈ys,b∈xs)->acc.length+ys.length<=lim->compLoop k (.one i) ts m (inner aV φ) (ys.map enc) acc L=.ok (acc++(ys.filter p).map f) L:=by
  intro ys;induction ys with
  | nil=>intro acc _ _;simp [compLoop,hk]
  | cons b ys ih =>
   intro acc hb hz;have hx:=hb b To
   simp only [Tu] at hz;rw [TC,compLoop,if_pos ⟨hk,by omega⟩];simp only [Tg.set,ht b hx,aJ];cases hp:p b with
   | true=>rw [if_pos rfl,hm b hx hp,aJ,ih _ (fun c hc=>hb c (Tp _ hc)) (by simp;omega)];simp [hp]
   | false=>rw [if_neg (by simp),ih _ (fun c hc=>hb c (Tp _ hc)) (by omega)];simp [hp]
 rw [comp,hs,aJ,key xs [] (fun _ h=>h) (by simpa using hl),aJ];rfl
theorem bf (hc:comp fz s aV (.one i) yes m φ L=r) (xs:List β) (enc:β->T) (f:β->T) (hs:s φ L=.ok (xs.map enc,k) L) (hk:k L) (hl:xs.length<=lim)
  (hm:∀b∈xs,m ((inner aV φ).set i (some (enc b))) L=.ok (f b) L):r=mk fz (.lst (xs.map f)) L:=by
 have:=cZ hc xs enc (fun _=>true) f hs hk hl (fun _ _=>rfl) fun b hb _=>hm b hb
 rw [this,Zh.mpr (fun _ _=>rfl)]
end
noncomputable def sW (Q:Fr->aa->Prop) (R:T->aa->Prop) (B:Fr->aa->Prop):O->Prop
 | .nx φ L=>Q φ L
 | .ct φ L=>Q φ L
 | .rt t L=>R t L
 | .bk φ L=>B φ L
 | .bad=>False
theorem zr {Q R B φ L}:sW Q R B (.nx φ L)=Q φ L:=rfl
theorem JK {Q R B φ L}:sW Q R B (.ct φ L)=Q φ L:=rfl
theorem JL {Q R B t L}:sW Q R B (.rt t L)=R t L:=rfl
theorem JM {Q R B φ L}:sW Q R B (.bk φ L)=B φ L:=rfl
section
variable {β:Type} {k:aa->Prop} {tg:Tg} {b:SS} {φ:Fr} {L:aa} {o:O} {ts:List T}
theorem bw (ho:forL k tg b ts φ L=o) (xs:List β) (enc:β->T) (J:List β->Fr->aa->Prop) (P:O->Prop) (hx:ts=xs.map enc) (hJ:J xs φ L)
  (step:∀(J':List β->Fr->aa->Prop) (P':O->Prop),(∀{r φ L},J' r φ L=J r φ L)->(∀{o},P' o=P o)->∀x r φ L,J (x::r) φ L->k L/\∃φ1,tg.set (enc x) φ=some φ1/\sW (J' r) (fun t L=>P' (.rt t L)) (fun φ L=>P' (.nx φ L)) (b φ1 L))
  (done:∀φ L,J [] φ L->k L/\P (.nx φ L)):P o:=by
 subst ho hx
 replace step:=step J P rfl rfl
 induction xs generalizing φ L with
 | nil=>obtain⟨h1,h2⟩:=done φ L hJ;rw [UB,forL,if_pos h1];exact h2
 | cons x r ih =>
  obtain⟨h1,φ1,h2,h3⟩:=step x r φ L hJ;rw [TC,forL,if_pos h1];simp only [h2];cases e:b φ1 L with
  | nx φ2 L2=>rw [e] at h3;exact ih h3
  | ct φ2 L2=>rw [e] at h3;exact ih h3
  | rt t L2=>rw [e] at h3;exact h3
  | bk φ2 L2=>rw [e] at h3;exact h3
  | bad=>rw [e] at h3;exact h3.elim
theorem u4 {kk:ST} {fuel:Nat} (ho:pS kk b fuel φ L=o) (J:Nat->Fr->aa->Prop) (P:O->Prop) {n:Nat} (hn:n<fuel) (hJ:J n φ L)
  (step:∀(J':Nat->Fr->aa->Prop) (P':O->Prop),(∀{r φ L},J' r φ L=J r φ L)->(∀{o},P' o=P o)->∀n φ L,J n φ L->(kk φ L=.ok false L/\P' (.nx φ L))\/(kk φ L=.ok true L/\sW (fun φ L=>∃m,m<n/\J' m φ L) (fun t L=>P' (.rt t L)) (fun φ L=>P' (.nx φ L)) (b φ L))):P o:=by
 subst ho
 replace step:=step J P rfl rfl
 induction fuel generalizing n φ L with
 | zero=>omega
 | succ fuel ih =>
  rw [pS];rcases step n φ L hJ with⟨h1,h2⟩|⟨h1,h3⟩
  ·simp only [h1,of_ok];exact h2
  ·simp only [h1,of_ok,if_true]
   cases e:b φ L with
   | nx φ2 L2=>rw [e] at h3;obtain⟨m,hm,hj⟩:=h3;exact ih (by omega) hj
   | ct φ2 L2=>rw [e] at h3;obtain⟨m,hm,hj⟩:=h3;exact ih (by omega) hj
   | rt t L2=>rw [e] at h3;exact h3
   | bk φ2 L2=>rw [e] at h3;exact h3
   | bad=>rw [e] at h3;exact h3.elim
end
theorem JN (n:Nat) (k:Int) (φ:Fr) (L:aa):vi n k φ L=(lift ((φ[n]?).join) L).bind fun x L1=>ix x (.int k) L1:=rfl
theorem ite_tt {α:Type} {a b:α}:(if true=true then a else b)=a:=rfl
theorem ite_ff {α:Type} {a b:α}:(if false=true then a else b)=b:=rfl
end M
section
open M
set_option hygiene false in
local macro_rules|`(tactic| simp_arith $[$d:discharger]? [$ls,*])=>`(tactic| simp $[$d:discharger]? only [↓ite_tt,↓ite_ff,JN,l9,pf,jQ,FJ,Pw,Ng,IZ,FL,Nh,FN,I0,FO,FP,I8,FQ,I9,Ja,Dg,Jb,FU,Ni,y0,uS,Jc,FV,FW,FX,Jd,Je,Jf,y3,Jg,y6,Jh,Ji,FY,FZ,Ga,y7,B7,B8,Gb,Gd,Ca,Cb,Ge,Gf,mc,mj,Gg,Gh,Gi,CJ,VP,eO,_root_.M.mk,NK,NL,NM,NN,wQ,rQ,NO,JD,NP,NQ,_root_.M.cmp,Az,KQ,KR,KS,DJ,NV,Cf,JG,JI,JJ,_root_.M.vw,KU,aJ,of_ok,uR,B3,dA,FH,Tg.set,_root_.M.sets,bL,yZ,B4,B5,B6,FI,_root_.M.neg,ag,
 Tu,T9,TC,UB,Vq,UH,Ui,VD,W5,VQ,List.set_cons_zero,List.set_cons_succ,if_true,reduceIte,TH,Xx,Zq,Nat.zero_add,RH,RI,RJ,PB,RK,RL,RM,RN,RO,RP,RQ,RR,RS,RU,RV,zo,Nm,Nn,Gq,Gr,Np,Nq,Nr,Nt,Nu,R2,RW,RX,RY,RZ,R0,R1,R3,R4,R5,flb,vf,vk,vp,vx,vr,cY,mz,Nv,wq,Jm,Jn,tA,Jo,Jp,NU,NS,JE,NT,gZ,dX,zr,JK,JL,JM,_root_.M.inner,aG,cM,gR,kZ,oM,jO,lh,lb,gc,AE,_root_.M.items,iK,Option.map_some,VP,VC,Wb,Lm9,Jr,Js,Jt,Ju,Gu,Jv,Jw,Jy,Jz,JA,Nx,Ny,Nz,NA,NB,NC,ND,NF,NH,NI,NJ,JF,List.cons_beq_cons,Nat.reduceBEq,Yx,YD,XZ,Xe,beq_self_eq_true,JB,Int.reduceLT,Int.reduceLE,Int.reduceNeg,Int.reducePow,Int.reduceToNat,tZ,and_self,or_true,true_or,$ls,*])
local macro_rules|`(tactic| simp_arith)=>`(tactic| simp_arith [l9])
local macro_rules|`(tactic| simp_all_arith [$ls,*])=>`(tactic| simp_arith (disch:=first|assumption|(simp only [Tq,Tu,T9,Lm9,Ur,Uo,lim] <;> omega)|omega) [aC,$ls,*])
local macro_rules|`(tactic| simp_all_arith)=>`(tactic| simp_all_arith [l9])
namespace dn
open PySem M
noncomputable def jy:T:=.str (S "abcdefghijklmnopqrstuvwxyz")
noncomputable def jz:T:=.str (S "ABCDEFGHIJKLMNOPQRSTUVWXYZ")
noncomputable def jV:T:=.str (S "0123456789")
noncomputable def jW:T:=.int 12
noncomputable def dM:T:=.tup [.tup [],.tup [],.tup [],.bl true]
noncomputable def gq:T:=.str (S "(),:;=")
noncomputable def gu:T:=.tup [.str (S "passing"),.str (S "lasting")]
noncomputable def cN:T:=.str (S "rule")
noncomputable def bJ:T:=.tup [.str (S "take"),.str (S "keep"),.str (S "look"),.str (S "put"),.str (S "tell")]
noncomputable def mB:T:=.tup [.str (S "0"),.str (S "1"),.str (S "2"),.str (S "3"),.str (S "4")]
noncomputable def aZ:Fn:=run 2 2 (ab [iff (tv (b2 (v 1) (ae bL [v 0]) (cmp .Lt))) (ab [ret (b2 (v 0) (v 1) ix)]) (ab []),ret (c (.int 0))])
noncomputable def av:Fn:=run 2 5 (ab [asg (.one 2) (b2 (b2 (b2 (v 0) (c (.int 2147483647)) (aQ true .Mod)) (c (.int 48271)) (aQ true .Mult)) (c (.int 2147483647)) (aQ true .Mod)),asg (.one 3) (lst false []),bS (src (v 1)) (.one 4) (ab [fF (aS (aG) (v 3) [b2 (v 2) (v 4) (aQ true .Mod)]),asg (.one 2) (b2 (v 2) (v 4) (aQ true .FloorDiv))]),ret (v 3)])
noncomputable def a8:Fn:=run 2 4 (ab [asg (.one 2) (b2 (c (.int 1)) (b2 (v 0) (c (.int 5)) (aQ true .Mod)) (aQ true .Add)),asg (.one 3) (b2 (b2 (v 0) (c (.int 5)) (aQ true .FloorDiv)) (v 2) (aQ true .Mod)),ret (b2 (b2 (b2 (c (.str (S "m"))) (v 3) (aQ true .Mult)) (b2 (c (.str (S "abcdefgh"))) (v 1) ix) (aQ true .Add)) (b2 (c (.str (S "m"))) (b2 (b2 (v 2) (c (.int 1)) (aQ true .Sub)) (v 3) (aQ true .Sub)) (aQ true .Mult)) (aQ true .Add))])
noncomputable def d9:Fn:=run 1 3 (ab [asg (.one 1) (ae av [v 0,lst true [c (.int 25),c (.int 2),c (.int 4),c (.int 2),c (.int 4)]]),asg (.one 2) (lst true [tup [ae a8 [vi 1 0,c (.int 0)],vi 1 1,c (.bl false)],tup [ae a8 [vi 1 0,c (.int 1)],b2 (tup [c (.int 0),c (.int 1),c (.int 2),c (.int 4)]) (vi 1 2) ix,c (.bl false)]]),asg (.one 2) (b2 (v 2) (lst true [tup [ae a8 [vi 1 0,c (.int 2)],c (.int 2),c (.bl true)],tup [ae a8 [vi 1 0,c (.int 3)],vi 1 3,c (.bl true)]]) (aQ true .Add)),ret (b2 (sl true (v 2) (some (vi 1 4)) none) (sl true (v 2) none (some (vi 1 4))) (aQ true .Add))])
noncomputable def aE:Fn:=run 3 6 (ab [asg (.one 3) (b2 (v 0) (b2 (v 1) (ae bL [v 0]) (aQ true .Mod)) ix),asg (.one 1) (b2 (v 1) (ae bL [v 0]) (aQ true .FloorDiv)),asg (.one 4) (lst false []),bS (rS (c (.int 0)) (vi 3 1)) (.one 5) (ab [fF (aS (aG) (v 4) [b2 (v 2) (b2 (v 1) (ae bL [v 2]) (aQ true .Mod)) ix]),asg (.one 1) (b2 (v 1) (ae bL [v 2]) (aQ true .FloorDiv))]),ret (tup [vi 3 0,ae iK [v 4]])])
noncomputable def c7:Fn:=run 3 8 (ab [asg (.one 3) (comp true (src (v 0)) [none,none] (.one 1) (eR (tv (vi 1 2))) (v 1)),asg (.one 4) (ae av [v 1,lst true [c (.int 3),c (.int 3),c (.int 512),c (.int 512)]]),asg (.one 5) (ae av [b2 (b2 (b2 (v 1) (c (.int 2147483629)) (aQ true .Mod)) (c (.int 69621)) (aQ true .Mult)) (c (.int 2147483629)) (aQ true .Mod),lst true [c (.int 1024),c (.int 1024)]]),asg (.one 6) (sl true (lst true [ae aE [v 3,vi 4 2,v 2],ae aE [v 3,vi 4 3,v 2]]) none (some (vi 4 0))),asg (.one 7) (sl true (lst true [ae aE [v 0,vi 5 0,v 2],ae aE [v 0,vi 5 1,v 2]]) none (some (vi 4 1))),iff (tv (b2 (b2 (ae bL [v 6]) (ae bL [v 7]) (aQ true .Add)) (c (.int 0)) (cmp .Eq))) (ab [asg (.one 7) (lst true [ae aE [v 0,vi 5 0,v 2]])]) (ab []),ret (tup [v 6,v 7])])
noncomputable def eg:Fn:=run 2 4 (ab [asg (.one 2) (ae av [v 1,lst true [c (.int 3),c (.int 5),c (.int 5),c (.int 5),c (.int 5),c (.int 5)]]),asg (.one 3) (lst false [tup [c (.str (S "same")),b2 (v 0) (b2 (vi 2 1) (ae bL [v 0]) (aQ true .Mod)) ix,b2 (v 0) (b2 (vi 2 2) (ae bL [v 0]) (aQ true .Mod)) ix]]),iff (tv (b2 (vi 2 0) (c (.int 2)) (cmp .Lt))) (ab [asg (.one 3) (sl false (lst false [tup [c (.str (S "unlike")),b2 (vi 3 0) (c (.int 1)) ix,b2 (vi 3 0) (c (.int 2)) ix]]) none (some (vi 2 0)))]) (ab []),iff (tv (b2 (vi 2 3) (c (.int 2)) (cmp .Lt))) (ab [fF (aS (aG) (v 3) [tup [b2 (tup [c (.str (S "same")),c (.str (S "unlike"))]) (vi 2 3) ix,b2 (v 0) (b2 (vi 2 4) (ae bL [v 0]) (aQ true .Mod)) ix,b2 (v 0) (b2 (vi 2 5) (ae bL [v 0]) (aQ true .Mod)) ix]])]) (ab []),ret (v 3)])
noncomputable def cm:Fn:=run 1 4 (ab [asg (.one 1) (lst false []),bS (src (v 0)) (.one 2) (ab [bS (src (vi 2 1)) (.one 3) (ab [iff (kj [tv (b2 (vi 3 0) (c (.str (S "N"))) (cmp .Eq)),tv (b2 (v 3) (v 1) (cmp .NotIn))]) (ab [fF (aS (aG) (v 1) [v 3])]) (ab [])])]),ret (v 1)])
noncomputable def fe:Fn:=run 5 11 (ab [asg (.one 5) (ae c7 [v 0,v 1,v 3]),asg (.one 6) (b2 (ae cm [b2 (vi 5 0) (vi 5 1) (aQ true .Add)]) (v 4) (aQ true .Add)),iff (tv (b2 (ae bL [vi 5 0]) (c (.int 0)) (cmp .Eq))) (ab [asg (.one 0) (comp true (src (v 0)) [none,none] (.one 1) (tv (vi 1 2)) (v 1))]) (ab []),asg (.one 7) (ae av [v 2,lst true [c (.int 3),c (.int 2500),c (.int 2500)]]),asg (.one 8) (sl true (lst true [ae aE [v 0,vi 7 1,v 6],ae aE [v 0,vi 7 2,v 6]]) none (some (vi 7 0))),asg (.one 9) (ae eg [v 6,b2 (b2 (b2 (v 2) (c (.int 2147483629)) (aQ true .Mod)) (c (.int 69621)) (aQ true .Mult)) (c (.int 2147483629)) (aQ true .Mod)]),asg (.one 7) (ae av [b2 (b2 (b2 (v 2) (c (.int 2147483629)) (aQ true .Mod)) (c (.int 40692)) (aQ true .Mult)) (c (.int 2147483629)) (aQ true .Mod),lst true [c (.int 2),c (.int 5),c (.int 5),c (.int 3),c (.int 5),c (.int 5)]]),asg (.one 10) (sl false (lst false [tup [b2 (v 6) (b2 (vi 7 1) (ae bL [v 6]) (aQ true .Mod)) ix,b2 (v 6) (b2 (vi 7 2) (ae bL [v 6]) (aQ true .Mod)) ix]]) none (some (vi 7 0))),iff (tv (b2 (vi 7 3) (c (.int 1)) (cmp .Eq))) (ab [fF (aS (aG) (v 10) [tup [b2 (v 6) (b2 (vi 7 4) (ae bL [v 6]) (aQ true .Mod)) ix,b2 (v 6) (b2 (vi 7 5) (ae bL [v 6]) (aQ true .Mod)) ix]])]) (ab []),ret (tup [vi 5 0,vi 5 1,v 9,v 8,v 10])])
noncomputable def dN:Fn:=run 1 9 (ab [asg (.one 1) (ae d9 [ae aZ [v 0,c (.int 0)]]),asg (.one 2) (b2 (ae aZ [v 0,c (.int 1)]) (c (.int 25)) (aQ true .Mod)),asg (.one 3) (comp true (rS (c (.int 0)) (c (.int 4))) [none,none,some 2] (.one 1) yes (b2 (c (.str (S "N"))) (ae a8 [v 2,v 1]) (aQ true .Add))),asg (.one 4) (lst true [ae a8 [v 2,c (.int 4)],ae a8 [v 2,c (.int 5)]]),asg (.one 5) (lst false []),bS (src (tup [c (.int 2),c (.int 4)])) (.one 6) (ab [asg (.one 7) (ae aZ [v 0,v 6]),asg (.one 8) (ae aZ [v 0,b2 (v 6) (c (.int 1)) (aQ true .Add)]),fF (aS (aG) (v 5) [ae fe [v 1,v 7,v 8,b2 (sl true (v 3) none (some (c (.int 3)))) (sl true (v 4) none (some (c (.int 1)))) (aQ true .Add),v 4]])]),ret (tup [v 1,v 3,v 4,v 5])])
noncomputable def eB:Fn:=run 2 2 (ab [ret (ae bL [comp true (src (v 1)) [none,none,some 0] (.one 1) (tv (b2 (vi 1 0) (v 2) (cmp .Eq))) (v 1)])])
noncomputable def cJ:Fn:=run 3 6 (ab [asg (.one 3) (comp true (src (v 0)) [none,none] (.one 1) (eR (tv (vi 1 2))) (vi 1 0)),asg (.one 4) (c (.int 0)),bS (rS (c (.int 0)) (c (.int 2))) (.one 5) (ab [asg (.one 4) (b2 (v 4) (b2 (b2 (v 1) (v 5) ix) (ae eB [b2 (v 3) (v 5) ix,v 2]) (aQ true .Mult)) (aQ true .Add))]),ret (v 4)])
noncomputable def il:Fn:=run 2 2 (ab [ret (tup [vi 0 0,ae iK [comp true (src (vi 0 1)) [none,none,some 1] (.one 1) yes (aS (cM) (v 2) [v 1,v 1])]])])
noncomputable def bN:Fn:=vU 2 2 (ab [ret (comp false (src (b2 (vi 0 0) (vi 0 1) (aQ true .Add))) [none,none,some 1] (.one 1) yes (ae il [v 1,v 2]))])
noncomputable def cO:Fn:=run 3 7 (ab [asg (.one 3) (comp true (src (v 0)) [none,none] (.one 1) (tv (vi 1 2)) (vi 1 0)),asg (.one 4) (lst false []),bS (src (v 1)) (.one 5) (ab [iff (kj [tv (b2 (vi 5 0) (v 3) (cmp .In)),tv (b2 (v 5) (v 4) (cmp .NotIn))]) (ab [fF (aS (aG) (v 4) [v 5])]) (ab [])]),asg (.one 6) (ae (gQ true) [comp true (src (v 1)) [none,none,some 3] (.one 1) (tv (b2 (vi 1 0) (v 2) (cmp .NotIn))) (v 1)]),ret (tup [ae iK [v 6],ae iK [ae (gQ true) [v 4]],ae iK [ae (gQ true) [v 2]],c (.bl false)])])
noncomputable def dO:Fn:=run 2 2 (ab [ret (lst true [tup [vi 0 1,vi 0 1],tup [vi 0 2,vi 0 2],tup [vi 0 3,vi 1 0]])])
noncomputable def dP:Fn:=run 3 4 (ab [asg (.one 3) (b2 (v 0) (v 1) ix),ret (tup [v 1,ae iK [comp true (src (ae cm [b2 (vi 3 0) (vi 3 1) (aQ true .Add)])) [none,none,some 2] (.one 1) yes (b2 (v 2) (v 1) ix)]])])
noncomputable def bY:Fn:=run 1 1 (ab [iff (tv (b2 (ae bL [vi 0 1]) (c (.int 0)) (cmp .Eq))) (ab [ret (vi 0 0)]) (ab []),ret (b2 (b2 (b2 (vi 0 0) (c (.str (S "("))) (aQ true .Add)) (aS (jO) (c (.str (S ","))) [ae (cL true) [vi 0 1]]) (aQ true .Add)) (c (.str (S ")"))) (aQ true .Add))])
noncomputable def aM:Fn:=run 2 2 (ab [iff (tv (b2 (ae bL [v 1]) (c (.int 0)) (cmp .Eq))) (ab [ret (lst true [])]) (ab []),ret (lst true [b2 (b2 (v 0) (c (.str (S " "))) (aQ true .Add)) (aS (jO) (c (.str (S ", "))) [v 1]) (aQ true .Add)])])
noncomputable def dQ:Fn:=run 2 8 (ab [asg (.one 2) (lst false []),bS (src (v 0)) (.one 3) (ab [asg (.one 4) (c (.str (S "passing "))),iff (tv (vi 3 2)) (ab [asg (.one 4) (c (.str (S "lasting ")))]) (ab []),fF (aS (aG) (v 2) [b2 (b2 (b2 (v 4) (vi 3 0) (aQ true .Add)) (c (.str (S " "))) (aQ true .Add)) (ae rV [vi 3 1]) (aQ true .Add)])]),bS (KY (v 1)) (.many [5,6]) (ab [asg (.one 7) (ae aM [c (.str (S "take")),comp true (src (vi 6 0)) [none,none] (.one 1) yes (ae bY [v 1])]),asg (.one 7) (b2 (v 7) (ae aM [c (.str (S "keep")),comp true (src (vi 6 1)) [none,none] (.one 1) yes (ae bY [v 1])]) (aQ true .Add)),asg (.one 7) (b2 (v 7) (ae aM [c (.str (S "look")),comp true (src (vi 6 2)) [none,none] (.one 1) yes (b2 (b2 (b2 (b2 (vi 1 1) (c (.str (S " "))) (aQ true .Add)) (vi 1 0) (aQ true .Add)) (c (.str (S " "))) (aQ true .Add)) (vi 1 2) (aQ true .Add))]) (aQ true .Add)),asg (.one 7) (b2 (v 7) (ae aM [c (.str (S "put")),comp true (src (vi 6 3)) [none,none] (.one 1) yes (ae bY [v 1])]) (aQ true .Add)),asg (.one 7) (b2 (v 7) (ae aM [c (.str (S "tell")),comp true (src (vi 6 4)) [none,none] (.one 1) yes (b2 (b2 (vi 1 0) (c (.str (S " = "))) (aQ true .Add)) (vi 1 1) (aQ true .Add))]) (aQ true .Add)),fF (aS (aG) (v 2) [b2 (b2 (b2 (c (.str (S "rule r"))) (ae rV [v 5]) (aQ true .Add)) (c (.str (S ": "))) (aQ true .Add)) (aS (jO) (c (.str (S "; "))) [v 7]) (aQ true .Add)])]),ret (aS (jO) (c (.str (S "\n"))) [v 2])])
noncomputable def cD:Fn:=run 3 4 (ab [asg (.one 3) (ae cm [b2 (vi 0 0) (vi 0 1) (aQ true .Add)]),ret (ae fK [v 3,comp true (src (sl true (v 1) none (some (ae bL [v 3])))) [none,none,some 2] (.one 1) yes (b2 (v 2) (v 1) ix)])])
noncomputable def bP:Fn:=run 2 4 (ab [asg (.one 2) (ae lC [comp true (src (v 0)) [none,none] (.one 1) yes (tup [vi 1 0,vi 1 1])]),bS (src (v 1)) (.one 3) (ab [iff (tv (b2 (vi 3 0) (v 2) (cmp .NotIn))) (ab [fE]) (ab []),iff (tv (b2 (ae bL [vi 3 1]) (b2 (v 2) (vi 3 0) ix) (cmp .NotEq))) (ab [fE]) (ab [])])])
noncomputable def bQ:Fn:=run 2 3 (ab [bS (src (v 1)) (.one 2) (ab [iff (tv (b2 (vi 2 0) (v 0) (cmp .In))) (ab [fE]) (ab [])])])
noncomputable def aW:Fn:=run 1 1 (ab [ret (b2 (vi 0 0) (c jz) (cmp .In))])
noncomputable def mC:Fn:=run 2 3 (ab [bS (src (v 1)) (.one 2) (ab [iff (tv (ae aW [v 2])) (ab [fF (aS (gc) (v 0) [v 2,v 2])]) (ab [])])])
noncomputable def cP:Fn:=run 2 5 (ab [iff (tv (b2 (ae bL [v 1]) (c (.int 0)) (cmp .Eq))) (ab [ret (ae (cL true) [v 0])]) (ab []),asg (.one 2) (vE false),bS (src (v 1)) (.one 3) (ab [pZ (v 2) (v 3) (b2 (aS (cM) (v 2) [v 3,c (.int 0)]) (c (.int 1)) (aQ true .Add))]),asg (.one 4) (lst false []),bS (src (v 0)) (.one 3) (ab [iff (tv (b2 (aS (cM) (v 2) [v 3,c (.int 0)]) (c (.int 0)) (cmp .Gt))) (ab [wU .Sub (v 2) (v 3) (c (.int 1))]) (ab [fF (aS (aG) (v 4) [v 3])])]),bS (src (v 1)) (.one 3) (ab [iff (tv (b2 (b2 (v 2) (v 3) ix) (c (.int 0)) (cmp .Gt))) (ab [fE]) (ab [])]),ret (v 4)])
noncomputable def jA:Fn:=run 2 2 (ab [iff (eR (tv (ae aW [v 0]))) (ab [ret (v 0)]) (ab []),iff (eR (tv (ae aW [v 1]))) (ab [ret (v 1)]) (ab []),ret (ae wX [v 0,v 1])])
noncomputable def fh:Fn:=run 3 7 (ab [asg (.one 3) (aS (cM) (v 0) [v 1,v 1]),asg (.one 4) (aS (cM) (v 0) [v 2,v 2]),iff (tv (b2 (v 3) (v 4) (cmp .Eq))) (ab [ret (c (.bl true))]) (ab []),iff (kj [eR (tv (ae aW [v 3])),eR (tv (ae aW [v 4]))]) (ab [ret (c (.bl false))]) (ab []),asg (.one 5) (ae jA [v 3,v 4]),bS (src (ae (cL true) [v 0])) (.one 6) (ab [iff (tv (b2 (b2 (v 0) (v 6) ix) (tup [v 3,v 4]) (cmp .In))) (ab [pZ (v 0) (v 6) (v 5)]) (ab [])]),ret (c (.bl true))])
noncomputable def bq:Fn:=run 2 2 (ab [ret (tup [vi 1 0,ae iK [comp true (src (vi 1 1)) [none,none,some 0] (.one 1) yes (aS (cM) (v 2) [v 1,v 1])]])])
noncomputable def lr:Fn:=run 5 13 (ab [fF (ae bP [v 0,v 2]),fF (ae bP [v 0,v 3]),asg (.one 5) (comp true (src (v 0)) [none,none] (.one 1) (tv (vi 1 2)) (vi 1 0)),fF (ae bQ [v 5,v 2]),iff (tv (vi 1 3)) (ab [ret (c dM)]) (ab []),asg (.one 6) (ae lC [vi 1 2]),asg (.one 8) (ae cP [vi 1 0,comp true (src (v 2)) [none,none,some 6] (.one 1) yes (ae bq [v 2,v 1])]),bS (src (v 3)) (.one 7) (ab [fF (ae mC [v 6,vi 7 1])]),bS (src (v 4)) (.one 9) (ab [fF (ae mC [v 6,v 9]),iff (eR (tv (ae fh [v 6,vi 9 0,vi 9 1]))) (ab [ret (c dM)]) (ab [])]),asg (.one 10) (ae (cL true) [vi 1 1]),iff (tv (b2 (ae bL [v 4]) (c (.int 0)) (cmp .Gt))) (ab [asg (.one 8) (comp true (src (v 8)) [none,none,some 6] (.one 1) yes (ae bq [v 2,v 1])),asg (.one 10) (comp true (src (v 10)) [none,none,some 6] (.one 1) yes (ae bq [v 2,v 1]))]) (ab []),asg (.one 11) (comp true (src (v 3)) [none,none,some 6] (.one 1) yes (ae bq [v 2,v 1])),asg (.one 12) (b2 (v 8) (comp true (src (v 11)) [none,none,some 5] (.one 1) (tv (b2 (vi 1 0) (v 2) (cmp .NotIn))) (v 1)) (aQ true .Add)),asg (.one 10) (b2 (v 10) (comp true (src (v 11)) [none,none,some 5] (.one 1) (tv (b2 (vi 1 0) (v 2) (cmp .In))) (v 1)) (aQ true .Add)),ret (tup [ae iK [ae (gQ true) [v 12]],ae iK [ae (lP true) [v 10]],ae iK [ae (jN true) [v 6]],c (.bl false)])])
noncomputable def bZ:Fn:=run 2 2 (ab [ret (tup [aS (cM) (v 0) [vi 1 0,vi 1 0],aS (cM) (v 0) [vi 1 1,vi 1 1]])])
noncomputable def jB:Fn:=run 3 7 (ab [asg (.one 3) (b2 (b1 (v 0) (fld "rules")) (vi 2 0) ix),asg (.one 4) (ae fK [b1 (v 3) (fld "names"),vi 2 1]),asg (.one 5) (comp true (src (b1 (v 3) (fld "taken"))) [none,none,some 4] (.one 1) yes (ae bq [v 2,v 1])),asg (.one 6) (comp true (src (b1 (v 3) (fld "given"))) [none,none,some 4] (.one 1) yes (ae bq [v 2,v 1])),ret (ae lr [b1 (v 0) (fld "kinds"),v 1,v 5,v 6,comp true (src (b1 (v 3) (fld "told"))) [none,none,some 4] (.one 1) yes (ae bZ [v 2,v 1])])])
noncomputable def ip:Fn:=run 3 4 (ab [iff (tv (ae vF [comp true (src (b1 (v 0) (fld "given"))) [none,none,some 2,some 1] (.one 1) yes (b2 (ae bq [v 3,v 1]) (v 2) (cmp .NotIn))])) (ab [ret (c (.bl true))]) (ab []),asg (.one 3) (comp true (src (b1 (v 0) (fld "told"))) [none,none,some 1] (.one 1) yes (ae bZ [v 2,v 1])),ret (ae vF [comp true (src (v 3)) [none,none] (.one 1) yes (b2 (vi 1 0) (vi 1 1) (cmp .NotEq))])])
noncomputable def eC:Fn:=run 2 2 (ab [iff (vV [tv (b2 (vi 1 0) (c (.int 0)) (cmp .Lt)),tv (b2 (vi 1 0) (ae bL [b1 (v 0) (fld "rules")]) (cmp .GtE))]) (ab [fE]) (ab []),iff (tv (b2 (ae bL [vi 1 1]) (ae bL [b1 (b2 (b1 (v 0) (fld "rules")) (vi 1 0) ix) (fld "names")]) (cmp .NotEq))) (ab [fE]) (ab [])])
noncomputable def dF:Fn:=run 4 7 (ab [asg (.one 4) (comp true (src (v 0)) [none,none] (.one 1) (tv (vi 1 2)) (vi 1 0)),asg (.one 5) (comp true (src (b2 (b1 (v 1) (fld "taken")) (b1 (v 1) (fld "kept")) (aQ true .Add))) [none,none,some 2] (.one 1) yes (ae bq [v 2,v 1])),bS (src (v 5)) (.one 6) (ab [iff (tv (b2 (vi 6 0) (v 4) (cmp .In))) (ab [iff (tv (b2 (v 6) (vi 3 1) (cmp .NotIn))) (ab [ret (c (.bl false))]) (ab [])]) (ab [iff (tv (b2 (aS (kZ) (vi 3 0) [v 6]) (aS (kZ) (v 5) [v 6]) (cmp .Lt))) (ab [ret (c (.bl false))]) (ab [])])]),ret (c (.bl true))])
noncomputable def cq:Fn:=run 3 3 (ab [ret (b2 (v 1) (v 2) (cmp .Eq))])
noncomputable def bB:Fn:=run 3 3 (ab [ret (m7 [vD (ae aW [v 1]),vD (ae aW [v 2]),b2 (v 1) (v 2) (cmp .NotEq)])])
noncomputable def eD:Fn:=run 2 2 (ab [ret (ae p4 [comp true (src (b1 (v 0) (fld "looks"))) [none,none,some 1] (.one 1) yes (oh "holds" (fun y=>([("Unlike",bB),("Same",cq)]:List (Str × Fn)).lookup y) (v 1) [aS (cM) (v 2) [b1 (v 1) (fld "left"),b1 (v 1) (fld "left")],aS (cM) (v 2) [b1 (v 1) (fld "right"),b1 (v 1) (fld "right")]])])])
noncomputable def bK:Fn:=run 1 1 (ab [ret (b2 (ae bL [b1 (v 0) (fld "taken")]) (c (.int 0)) (cmp .Eq))])
noncomputable def iV:Fn:=run 3 5 (ab [fF (ae eC [v 0,v 2]),iff (tv (vi 1 3)) (ab [ret (c (.bl false))]) (ab []),asg (.one 3) (b2 (b1 (v 0) (fld "rules")) (vi 2 0) ix),asg (.one 4) (ae fK [b1 (v 3) (fld "names"),vi 2 1]),iff (vV [eR (tv (ae eD [v 3,v 4])),eR (tv (ae dF [b1 (v 0) (fld "kinds"),v 3,v 4,v 1]))]) (ab [ret (c (.bl false))]) (ab []),ret (CU [vD (oh "calls" (fun y=>([("Rule",bK)]:List (Str × Fn)).lookup y) (v 3) []),ae ip [v 3,v 4,vi 1 1]])])
noncomputable def ir:Fn:=run 3 3 (ab [iff (eR (tv (ae iV [v 0,v 1,v 2]))) (ab [fE]) (ab []),ret (ae jB [v 0,v 1,v 2])])
noncomputable def eE:Fn:=run 1 4 (ab [asg (.one 1) (vE false),bS (src (v 0)) (.one 2) (ab [bS (src (vi 2 1)) (.one 3) (ab [iff (tv (ae aW [v 3])) (ab [pZ (v 1) (v 3) (c (.bl true))]) (ab [])])]),ret (ae (cL true) [v 1])])
noncomputable def g6:Fn:=run 3 3 (ab [iJ (v 0) "title" (v 1),iJ (v 0) "taken" (aS (cM) (v 2) [c (.str (S "take")),lst true []]),iJ (v 0) "kept" (aS (cM) (v 2) [c (.str (S "keep")),lst true []]),iJ (v 0) "looks" (aS (cM) (v 2) [c (.str (S "look")),lst true []]),iJ (v 0) "given" (aS (cM) (v 2) [c (.str (S "put")),lst true []]),iJ (v 0) "told" (aS (cM) (v 2) [c (.str (S "tell")),lst true []]),iJ (v 0) "names" (ae eE [b2 (b1 (v 0) (fld "taken")) (b1 (v 0) (fld "kept")) (aQ true .Add)])])
noncomputable def tC:Fn:=make "Rule" g6
noncomputable def b6:Fn:=run 1 1 (ab [ret (CU [b2 (v 0) (c jy) (cmp .In),b2 (v 0) (c jz) (cmp .In),b2 (v 0) (c jV) (cmp .In)])])
noncomputable def gv:Fn:=run 2 3 (ab [asg (.one 2) (v 1),pS (kj [tv (b2 (v 2) (ae bL [v 0]) (cmp .Lt)),tv (ae b6 [b2 (v 0) (v 2) ix])]) (ab [aug .Add 2 (c (.int 1))]) lim,ret (v 2)])
noncomputable def jC:Fn:=run 2 6 (ab [asg (.one 2) (lst false []),asg (.one 3) (c (.int 0)),pS (tv (b2 (v 3) (ae bL [v 0]) (cmp .Lt))) (ab [asg (.one 4) (ae gv [v 0,v 3]),iff (tv (b2 (v 4) (v 3) (cmp .Gt))) (ab [fF (aS (aG) (v 2) [sl true (v 0) (some (v 3)) (some (v 4))]),asg (.one 3) (v 4),cnt]) (ab []),asg (.one 5) (b2 (v 0) (v 3) ix),iff (tv (b2 (v 5) (v 1) (cmp .In))) (ab [fF (aS (aG) (v 2) [v 5])]) (ab [iff (tv (b2 (v 5) (c (.str (S " "))) (cmp .NotEq))) (ab [fE]) (ab [])]),aug .Add 3 (c (.int 1))]) lim,ret (v 2)])
noncomputable def dG:Fn:=run 1 1 (ab [ret (ae jC [v 0,c gq])])
noncomputable def dD:Fn:=run 1 1 (ab [ret (m7 [vC .LtE .LtE (c (.int 1)) (ae bL [v 0]) (c jW),ae p4 [comp true (src (v 0)) [none,none] (.one 1) yes (ae b6 [v 1])]])])
noncomputable def bt:Fn:=run 1 1 (ab [ret (m7 [ae dD [v 0],b2 (vi 0 0) (c jy) (cmp .In)])])
noncomputable def fj:Fn:=run 1 1 (ab [iff (vV [tv (b2 (ae bL [v 0]) (c (.int 3)) (cmp .NotEq)),tv (b2 (vi 0 0) (c gu) (cmp .NotIn))]) (ab [fE]) (ab []),iff (eR (tv (ae bt [vi 0 1]))) (ab [fE]) (ab []),iff (tv (b2 (vi 0 2) (c mB) (cmp .NotIn))) (ab [fE]) (ab []),ret (tup [vi 0 1,ae vG [vi 0 2],b2 (vi 0 0) (c (.str (S "lasting"))) (cmp .Eq)])])
noncomputable def eW:Fn:=run 2 4 (ab [asg (.one 2) (lst false [lst false []]),bS (src (v 0)) (.one 3) (ab [iff (tv (b2 (v 3) (v 1) (cmp .Eq))) (ab [fF (aS (aG) (v 2) [lst false []])]) (ab [fF (aS (aG) (b2 (v 2) (b1 (c (.int 1)) neg) ix) [v 3])])]),ret (v 2)])
noncomputable def aI:Fn:=run 2 2 (ab [iff (tv (b2 (v 1) (ae bL [v 0]) (cmp .Lt))) (ab [ret (b2 (v 0) (v 1) ix)]) (ab []),ret (c (.str (S "")))])
noncomputable def cQ:Fn:=run 3 3 (ab [iJ (v 0) "left" (v 1),iJ (v 0) "right" (v 2)])
noncomputable def zu:Fn:=make "Same" cQ
noncomputable def qX:Fn:=make "Unlike" cQ
noncomputable def bx:Fn:=run 1 1 (ab [iff (vV [tv (b2 (ae bL [v 0]) (c (.int 3)) (cmp .NotEq)),eR (tv (ae dD [vi 0 0])),eR (tv (ae dD [vi 0 2]))]) (ab [fE]) (ab [])])
noncomputable def fk:Fn:=run 1 1 (ab [fF (ae bx [v 0]),iff (tv (b2 (vi 0 1) (c (.str (S "same"))) (cmp .Eq))) (ab [ret (ae zu [vi 0 0,vi 0 2])]) (ab []),iff (tv (b2 (vi 0 1) (c (.str (S "unlike"))) (cmp .Eq))) (ab [ret (ae qX [vi 0 0,vi 0 2])]) (ab []),fE])
noncomputable def da:Fn:=run 1 1 (ab [ret (comp true (src (ae eW [v 0,c (.str (S ","))])) [none,none] (.one 1) yes (ae fk [v 1]))])
noncomputable def fm:Fn:=run 1 1 (ab [fF (ae bx [v 0]),iff (tv (b2 (vi 0 1) (c (.str (S "="))) (cmp .NotEq))) (ab [fE]) (ab []),ret (tup [vi 0 0,vi 0 2])])
noncomputable def de:Fn:=run 1 1 (ab [ret (comp true (src (ae eW [v 0,c (.str (S ","))])) [none,none] (.one 1) yes (ae fm [v 1]))])
noncomputable def df:Fn:=run 2 5 (ab [asg (.one 2) (lst false []),iff (tv (b2 (ae aI [v 0,v 1]) (c (.str (S ")"))) (cmp .Eq))) (ab [ret (tup [tup [],b2 (v 1) (c (.int 1)) (aQ true .Add)])]) (ab []),pS (tv (c (.bl true))) (ab [asg (.one 3) (ae aI [v 0,v 1]),iff (eR (tv (ae dD [v 3]))) (ab [fE]) (ab []),fF (aS (aG) (v 2) [v 3]),asg (.one 4) (ae aI [v 0,b2 (v 1) (c (.int 1)) (aQ true .Add)]),aug .Add 1 (c (.int 2)),iff (tv (b2 (v 4) (c (.str (S ")"))) (cmp .Eq))) (ab [ret (tup [ae iK [v 2],v 1])]) (ab []),iff (tv (b2 (v 4) (c (.str (S ","))) (cmp .NotEq))) (ab [fE]) (ab [])]) lim])
noncomputable def iu:Fn:=run 2 4 (ab [asg (.one 2) (ae aI [v 0,v 1]),iff (eR (tv (ae bt [v 2]))) (ab [fE]) (ab []),iff (tv (b2 (ae aI [v 0,b2 (v 1) (c (.int 1)) (aQ true .Add)]) (c (.str (S "("))) (cmp .NotEq))) (ab [ret (tup [tup [v 2,tup []],b2 (v 1) (c (.int 1)) (aQ true .Add)])]) (ab []),asg (.one 3) (ae df [v 0,b2 (v 1) (c (.int 2)) (aQ true .Add)]),ret (tup [tup [v 2,vi 3 0],vi 3 1])])
noncomputable def dh:Fn:=run 1 4 (ab [asg (.one 1) (lst false []),asg (.one 2) (c (.int 0)),pS (tv (c (.bl true))) (ab [asg (.one 3) (ae iu [v 0,v 2]),fF (aS (aG) (v 1) [vi 3 0]),asg (.one 2) (vi 3 1),iff (tv (b2 (v 2) (ae bL [v 0]) (cmp .Eq))) (ab [ret (v 1)]) (ab []),iff (tv (b2 (b2 (v 0) (v 2) ix) (c (.str (S ","))) (cmp .NotEq))) (ab [fE]) (ab []),aug .Add 2 (c (.int 1))]) lim])
noncomputable def b7:Fn:=run 2 2 (ab [iff (tv (b2 (v 0) (c (.str (S "look"))) (cmp .Eq))) (ab [ret (ae da [v 1])]) (ab []),iff (tv (b2 (v 0) (c (.str (S "tell"))) (cmp .Eq))) (ab [ret (ae de [v 1])]) (ab []),ret (ae dh [v 1])])
noncomputable def fo:Fn:=run 1 6 (ab [asg (.one 1) (ae aI [v 0,c (.int 1)]),iff (vV [tv (b2 (ae aI [v 0,c (.int 0)]) (c cN) (cmp .NotEq)),eR (tv (ae bt [v 1])),tv (b2 (ae aI [v 0,c (.int 2)]) (c (.str (S ":"))) (cmp .NotEq))]) (ab [fE]) (ab []),asg (.one 2) (vE false),asg (.one 3) (c (.int 0)),bS (src (ae eW [sl true (v 0) (some (c (.int 3))) none,c (.str (S ";"))])) (.one 4) (ab [asg (.one 5) (ae aI [v 4,c (.int 0)]),iff (tv (b2 (v 5) (sl true (c bJ) (some (v 3)) none) (cmp .NotIn))) (ab [fE]) (ab []),asg (.one 3) (b2 (aS (oM) (c bJ) [v 5]) (c (.int 1)) (aQ true .Add)),pZ (v 2) (v 5) (ae b7 [v 5,sl true (v 4) (some (c (.int 1))) none])]),iff (kj [tv (b2 (c (.str (S "take"))) (v 2) (cmp .NotIn)),tv (b2 (c (.str (S "keep"))) (v 2) (cmp .NotIn))]) (ab [fE]) (ab []),ret (tup [v 1,v 2])])
noncomputable def cR:Fn:=run 3 6 (ab [asg (.one 3) (ae dG [v 2]),iff (tv (b2 (vi 3 0) (c cN) (cmp .Eq))) (ab [asg (.one 4) (ae fo [v 3]),iff (tv (b2 (vi 4 0) (comp true (src (v 1)) [none,none] (.one 1) yes (b1 (v 1) (fld "title"))) (cmp .In))) (ab [fE]) (ab []),fF (aS (aG) (v 1) [ae tC [vi 4 0,vi 4 1]])]) (ab [asg (.one 5) (ae fj [v 3]),iff (tv (b2 (vi 5 0) (comp true (src (v 0)) [none,none] (.one 1) yes (vi 1 0)) (cmp .In))) (ab [fE]) (ab []),fF (aS (aG) (v 0) [v 5])])])
noncomputable def iw:Fn:=run 1 2 (ab [asg (.one 1) (aS (lh) (v 0) [c (.str (S " "))]),ret (m7 [b2 (v 1) (c (.str (S ""))) (cmp .NotEq),b2 (vi 1 0) (c (.str (S "#"))) (cmp .NotEq)])])
noncomputable def eF:Fn:=run 1 1 (ab [ret (comp true (src (aS (lb true) (v 0) [c (.str (S "\n"))])) [none,none] (.one 1) (tv (ae iw [v 1])) (v 1))])
noncomputable def g9:Fn:=run 3 3 (ab [iJ (v 0) "kinds" (v 1),iJ (v 0) "rules" (v 2)])
noncomputable def tD:Fn:=make "Book" g9
noncomputable def di:Fn:=run 2 3 (ab [iff (eR (tv (oh "calls" (fun y=>([("Rule",bK)]:List (Str × Fn)).lookup y) (v 1) []))) (ab [ret (c .cb)]) (ab []),bS (src (b1 (v 1) (fld "given"))) (.one 2) (ab [iff (tv (b2 (vi 2 0) (v 0) (cmp .NotIn))) (ab [fE]) (ab [])])])
noncomputable def eG:Fn:=run 1 5 (ab [asg (.one 1) (lst false []),bS (src (b1 (v 0) (fld "looks"))) (.one 2) (ab [fF (aS (gR) (v 1) [lst true [b1 (v 2) (fld "left"),b1 (v 2) (fld "right")]])]),bS (src (b1 (v 0) (fld "given"))) (.one 3) (ab [fF (aS (gR) (v 1) [vi 3 1])]),bS (src (b1 (v 0) (fld "told"))) (.one 4) (ab [fF (aS (gR) (v 1) [v 4])]),ret (v 1)])
noncomputable def dH:Fn:=run 1 2 (ab [bS (src (ae eG [v 0])) (.one 1) (ab [iff (kj [tv (ae aW [v 1]),tv (b2 (v 1) (b1 (v 0) (fld "names")) (cmp .NotIn))]) (ab [fE]) (ab [])])])
noncomputable def eH:Fn:=run 2 4 (ab [asg (.one 2) (comp true (src (v 0)) [none,none] (.one 1) (tv (vi 1 2)) (vi 1 0)),bS (src (v 1)) (.one 3) (ab [fF (ae bP [v 0,b2 (b2 (b1 (v 3) (fld "taken")) (b1 (v 3) (fld "kept")) (aQ true .Add)) (b1 (v 3) (fld "given")) (aQ true .Add)]),fF (ae bQ [v 2,b1 (v 3) (fld "taken")]),fF (ae di [v 2,v 3]),fF (ae dH [v 3])]),ret (ae tD [v 0,v 1])])
noncomputable def dR:Fn:=run 1 4 (ab [asg (.one 1) (lst false []),asg (.one 2) (lst false []),bS (src (ae eF [v 0])) (.one 3) (ab [fF (ae cR [v 1,v 2,v 3])]),ret (ae eH [v 1,v 2])])
noncomputable def cF:Fn:=run 1 1 (ab [ret (comp true (src (b1 (v 0) (fld "kinds"))) [none,none] (.one 1) (eR (tv (vi 1 2))) (vi 1 0))])
noncomputable def gx:Fn:=run 3 4 (ab [asg (.one 3) (ae fK [ae cF [v 0],v 1]),ret (ae wW [comp true (src (vi 2 0)) [none,none,some 3] (.one 1) yes (b2 (v 2) (vi 1 0) ix)])])
noncomputable def qY:Fn:=run 1 18 (ab [asg (.many [1,2,3,4]) (ae dN [v 0]),asg (.one 5) (ae av [ae aZ [v 0,c (.int 6)],lst true [c (.int 2),c (.int 4),c (.int 4),c (.int 4)]]),asg (.one 6) (ae dR [ae dQ [v 1,v 4]]),asg (.one 7) (b2 (v 3) (sl true (v 2) (some (c (.int 1))) (some (c (.int 3)))) (aQ true .Add)),asg (.one 8) (b2 (v 4) (vi 5 0) ix),asg (.one 9) (ae cD [v 8,sl true (v 5) (some (c (.int 1))) none,v 7]),asg (.one 10) (comp true (rS (c (.int 7)) (c (.int 9))) [none,none,some 0] (.one 1) yes (b2 (b2 (ae aZ [v 2,v 1]) (b2 (c (.int 10)) (c (.int 60)) (aQ true .Pow)) (aQ true .Mod)) (b2 (c (.int 5)) (b2 (c (.int 10)) (c (.int 59)) (aQ true .Pow)) (aQ true .Mult)) (aQ true .Sub))),asg (.one 11) (ae bN [v 8,v 9]),bS (src (sl true (v 0) (some (c (.int 9))) (some (c (.int 40))))) (.one 12) (ab [fF (aS (aG) (v 11) [ae aE [v 1,b2 (ae av [v 12,lst true [c (.int 1024)]]) (c (.int 0)) ix,v 7]])]),asg (.one 13) (ae cO [v 1,v 11,ae dO [v 2,v 3]]),asg (.one 14) (ae dP [v 4,vi 5 0,v 9]),asg (.one 15) (ae gx [v 6,ae (cL true) [v 10],v 13]),iff (vV [tv (ae He [v 15,c (.cl (.type "bool"))]),tv (b2 (v 15) (ae cJ [v 1,v 10,v 11]) (cmp .NotEq))]) (ab [ret (c (.bl false))]) (ab []),iff (tv (b2 (ae gx [v 6,v 10,tup [tup [],tup [],tup [],c (.bl true)]]) (c (.int 0)) (cmp .NotEq))) (ab [ret (c (.bl false))]) (ab []),iff (eR (tv (ae iV [v 6,v 13,v 14]))) (ab [ret (c (.bl true))]) (ab []),asg (.one 16) (ae ir [v 6,v 13,v 14]),asg (.one 17) (b2 (ae cJ [v 1,v 10,vi 8 3]) (ae cJ [v 1,v 10,vi 8 0]) (aQ true .Sub)),iff (tv (vi 16 3)) (ab [asg (.one 17) (b1 (v 15) neg)]) (ab []),ret (b2 (ae gx [v 6,ae (cL true) [v 10],v 16]) (b2 (v 15) (v 17) (aQ true .Add)) (cmp .Eq))])
end dn
namespace dn
open PySem M
open kz (bH ah aN)
open Bk (Fc Kd Lk Rl aK great ax)
theorem tE (ch:Nat) (L:aa):b6 [.str [ch]] L=.ok (.bl (bH ch)) L:=by
 unfold b6 jy jz jV bH;show _=R.ok (T.bl (decide (ch∈S "abcdefghijklmnopqrstuvwxyz") || (decide (ch∈S "ABCDEFGHIJKLMNOPQRSTUVWXYZ") || decide (ch∈S "0123456789")))) L
 simp_arith;cases decide (ch∈S "abcdefghijklmnopqrstuvwxyz") <;> cases decide (ch∈S "ABCDEFGHIJKLMNOPQRSTUVWXYZ") <;> simp [yZ]
theorem mD (s:Cs) (hs:s.length<=100000) (L:aa):dD [.str s] L=.ok (.bl (ah s)) L:=by
 have hb:p4 [.lst (s.map fun ch=>.bl (bH ch))] L=.ok (.bl (s.all bH)) L:=by
  have:=mapM_map (f:=Hc) (g:=fun ch=>T.bl (bH ch)) (h:=bH) (fun _=>rfl) s;simp [p4,AD,vw,this,lift,YY,Vm]
 unfold dD jW ah;by_cases h1:1<=s.length
 ·by_cases h2:s.length<=12
  ·simp_arith [show(1:Int)<=s.length by omega,show(s.length:Int)<=12 by omega,h1,h2,decide_true]
   rw [bf rfl s (fun ch=>.str [ch]) (fun ch=>.bl (bH ch)) (by exact rfl) (by exact ai) (by exact TU hs (by decide)) (by exact fun b _=>by simp_arith [tE])];simp_arith [hb]
  ·simp_arith [show(1:Int)<=s.length by omega,show ¬ (s.length:Int)<=12 by omega,h1,h2,decide_true,decide_false]
 ·simp_arith [show ¬ (1:Int)<=s.length by omega,h1,decide_false]
theorem u5 {s:Cs} (h:1<=s.length) (L:aa):ix (.str s) (.int 0) L=.ok (.str [s.headD 0]) L:=by
 cases s with
 | nil=>cases h
 | cons a r=>simp [ix,vw,place,lift]
theorem lx (s:Cs) (hs:s.length<=100000) (L:aa):bt [.str s] L=.ok (.bl (aK s)) L:=by
 unfold bt jy aK;simp_arith [mD s hs];cases h:ah s with
 | false=>simp_arith
 | true=>simp_arith [u5 (ax h).1];rfl
theorem eI (s:Cs) (hs:1<=s.length) (L:aa):aW [.str s] L=.ok (.bl (great s)) L:=by
 unfold aW jz great;simp_arith [u5 hs];rfl
theorem eK (ps:List Cs) (n:Nat) (L:aa):aI [.lst (ps.map .str),.int n] L=.ok (.str (ps.getD n [])) L:=by
 unfold aI;simp_arith;by_cases h:n<ps.length
 ·have e:(ps.map T.str)[n]?=some (.str (ps.getD n [])):=by simp [Gd9,h]
  simp only [show(n:Int)<ps.length by omega,decide_true];simp_arith [dT e]
 ·simp only [show ¬ (n:Int)<ps.length by omega,decide_false];simp_arith;simp [Gd9,h]
theorem gy (c:Nat) (r:Cs):aN (c::r)=if bH c=true then aN r+1 else 0:=by
 unfold aN;rw [Zi];split <;> simp
theorem JO (p:Cs) (s:Nat) (L:aa) (hs:s<=p.length) (hl:p.length<=100000):gv [.str p,.int s] L=.ok (.int ((s+aN (p.drop s):Nat):Int)) L:=by
 unfold gv;simp_arith;generalize ho:pS _ _ _ _ _=o;have h:=u4 ho (fun n φ L'=>L'=L/\∃e:Nat,n=p.length - e/\e<=p.length/\e+aN (p.drop e)=s+aN (p.drop s)/\φ=[some (.str p),some (.int s),some (.int e)])
  (fun o=>o=.nx [some (.str p),some (.int s),some (.int ((s+aN (p.drop s):Nat):Int))] L) (n:=p.length - s) (by unfold lim;omega) ⟨rfl,s,rfl,hs,rfl,rfl⟩ fun _ _ eJ eP n φ L' h=>by
   obtain⟨rfl,e,rfl,he,e1,rfl⟩:=h;by_cases bD:e<p.length
   ·have hd:p.drop e=p[e]::p.drop (e+1):=Vf bD
    rw [hd,gy] at e1;have hx:ix (.str p) (.int e) L'=.ok (.str [p[e]]) L':=by rw [tj (by omega) (by omega)];simp [bD]
    cases hg:bH p[e] with
    | true =>
     rw [hg,if_pos rfl] at e1;refine .inr ⟨?_,?_⟩
     ·simp_arith [eJ,eP,hx,tE,show(e:Int)<p.length by omega,decide_true,hg]
     ·simp_arith [eJ,eP];exact⟨p.length - (e+1),by omega,trivial,e+1,rfl,by omega,by omega,by simp⟩
    | false =>
     rw [hg,if_neg (by simp)] at e1;refine .inl ⟨?_,?_⟩
     ·simp_arith [eJ,eP,hx,tE,show(e:Int)<p.length by omega,decide_true,hg]
     ·rw [eP,<- e1];rfl
   ·refine .inl ⟨?_,?_⟩
    ·simp_arith [eJ,eP,show ¬ (e:Int)<p.length by omega,decide_false]
    ·rw [We (by omega)] at e1;rw [eP,<- e1];rfl
 subst h;simp_arith
end dn
namespace dn
open PySem M
open kz (bH ah aN)
open Bk (Fc Kd Lk Rl aK great ax W Tk Di between cC glue FG)
theorem bg {α β:Type} (f:α->β) (l:List α) (x:α):l.map f++[f x]=(l++[x]).map f:=by simp
theorem Cg {p:Cs} {a n:Nat} (h:a+n<=p.length) (L:aa):iH true (.str p) (some (a:Int)) (some ((a+n:Nat):Int)) L=.ok (.str ((p.drop a).take n)) L:=by
 unfold iH vw;simp only [];rw [aR ⟨by omega,by omega,by omega⟩,show((a:Int)).toNat=a by omega,show(((a+n:Nat):Int) - (a:Int)).toNat=n by omega]
theorem zw {p:Cs} {ts:List Cs} (L:aa) (hp:p.length<=20000) (hk:Tk Di p ts):jC [.str p,.str (S "(),:;=")] L=.ok (.lst (ts.map .str)) L:=by
 have Mm:=hk.len;unfold jC;simp_arith;generalize ho:pS _ _ _ _ _=o;have h:=u4 ho (fun n φ L'=>∃(e:Nat) (done rest:List Cs) (o4 o5:Option T),n=p.length - e/\e<=p.length/\Tk Di (p.drop e) rest/\done++rest=ts/\φ=[some (.str p),some (.str (S "(),:;=")),some (.ref L.length),some (.int e),o4,o5]/\L'=.lst (done.map .str)::L)
  (fun o=>∃o3 o4 o5,o=.nx [some (.str p),some (.str (S "(),:;=")),some (.ref L.length),o3,o4,o5] (.lst (ts.map .str)::L)) (n:=p.length) (by unfold lim;omega) ⟨0,[],ts,none,none,rfl,Uj _,hk,rfl,rfl,rfl⟩ fun _ _ eJ eP n φ L' h=>by
   obtain⟨e,done,rest,o4,o5,rfl,he,ht,rfl,rfl,rfl⟩:=h;have hlen:done.length<lim:=by
    rw [Tq] at Mm;unfold lim;omega
   have ee:=JO p e (.lst (done.map .str)::L) he (by omega);have sg:∀{c r},p.drop e=c::r->e<p.length/\p.drop (e+1)=r/\ix (.str p) (.int e) (.lst (done.map .str)::L)=.ok (.str [c]) (.lst (done.map .str)::L):=fun {c r} hd=>by
    have bD:e<p.length:=by have:=congrArg VV hd;simp at this;omega
    have h2:=(Vf bD).symm.trans hd;refine⟨bD,(Vp h2).2,?_⟩;rw [tj (by omega) (by omega)];simp [bD,(Vp h2).1]
   generalize hd:p.drop e=d at ht ee;cases ht with
   | nil =>
    have:=congrArg VV hd;rw [Uo] at this;refine .inl ⟨by simp_arith [eJ,eP,show ¬ (e:Int)<p.length by simp at this;omega,decide_false],?_⟩;rw [eP,T4];exact⟨_,_,_,rfl⟩
   | sp t =>
    obtain⟨bD,hr,hx⟩:=sg hd;rw [gy,Bk.qK] at ee;refine .inr ⟨by simp_arith [eJ,eP,show(e:Int)<p.length by omega,decide_true],?_⟩;simp_arith [eJ,eP,ee,TH,if_false,XT,Yw,decide_false,hx,show(32∈S "(),:;=")=False from eq_false (by decide)];exact⟨p.length - (e+1),by omega,e+1,done,rest,_,_,rfl,bD,hr ▸ t,rfl,rfl,rfl⟩
   | @mk c _ q hc t =>
    obtain⟨bD,hr,hx⟩:=sg hd;rw [gy,show bH c=false from(by decide +kernel:∀c∈Di,bH c=false) c hc] at ee;refine .inr ⟨by simp_arith [eJ,eP,show(e:Int)<p.length by omega,decide_true],?_⟩;simp_arith [eJ,eP,ee,TH,if_false,XT,Yw,decide_false,hx,show(c∈S "(),:;=")=True from eq_true hc,decide_true,aR hlen,bg];exact⟨p.length - (e+1),by omega,e+1,done++[[c]],q,_,_,rfl,bD,hr ▸ t,by simp,rfl,rfl⟩
   | @name nm r q hn hs t =>
    have h1:=ax hn;have hl:=congrArg VV hd
    rw [Uo,Tq] at hl;have en:aN (nm++r)=nm.length:=by
     unfold aN;rw [List.takeWhile_append_of_pos (Bk.Dh hn)];cases r with
     | nil=>simp
     | cons c r=>rw [Zi,hs c rfl];simp
    rw [en] at ee;refine .inr ⟨by simp_arith [eJ,eP,show(e:Int)<p.length by omega,decide_true],?_⟩;simp_arith [eJ,eP,ee,show((e:Nat):Int)<((e+nm.length:Nat):Int) by omega,decide_true,Cg (p:=p) (a:=e) (n:=nm.length) (by omega),hd,List.take_left,aR hlen,bg];exact⟨p.length - (e+nm.length),by omega,e+nm.length,done++[nm],q,_,_,rfl,by omega,by rw [<- Xg,hd,Xf];exact t,by simp,rfl,rfl⟩
 obtain⟨o3,o4,o5,rfl⟩:=h;simp_arith;exact eV (aj fun _ _=>rfl)
theorem gD {ps:List Cs} {q i:Nat} {d:List Cs} (h:ps.drop q=d):ps.getD (q+i) []=d.getD i []:=by
 rw [<- h,Gd9,Gd9,List.getElem?_drop]
theorem u6:∀as:List Cs,as.length<=(between as).length
 | []=>TK _
 | [_]=>VJ _
 | _::b::t=>YF (Nat.le_succ_of_le (u6 (b::t)))
theorem Gv (ps as:List Cs) (p:Nat) (r:List Cs) (L:aa) (hl:ps.length<=20000) (h0:as≠[]) (hn:∀a∈as,ah a=true) (hd:ps.drop p=between as++r) :
  df [.lst (ps.map .str),.int p] L=.ok (.tup [.tup (as.map .str),.int ((p+(between as).length:Nat):Int)]) L:=by
 have R6:(ps.getD p [] == [41])=false:=by
  obtain⟨a,t,rfl⟩:=WB h0;rw [show ps.getD p []=a from(gD (i:=0) hd).trans (by cases t <;> rfl)];exact beq_eq_false_iff_ne.mpr fun e=>absurd (hn a To) (by rw [e];decide +kernel)
 have ha:as.length<lim:=by
  have z:=congrArg VV hd;have:=u6 as
  rw [Uo,Tq] at z;unfold lim;omega
 unfold df;simp_arith [eK,R6];generalize ho:pS _ _ _ _ _=o;have h:=u4 ho (fun m φ L'=>∃(q:Nat) (done as':List Cs) (o3 o4:Option T),m=as'.length/\as'≠[]/\ps.drop q=between as'++r/\done++as'=as/\q+(between as').length=p+(between as).length/\φ=[some (.lst (ps.map .str)),some (.int q),some (.ref L.length),o3,o4]/\L'=.lst (done.map .str)::L)
  (fun o=>o=.rt (.tup [.tup (as.map .str),.int ((p+(between as).length:Nat):Int)]) (.lst (as.map .str)::L)) (n:=as.length) ha ⟨p,[],as,none,none,rfl,h0,hd,rfl,rfl,rfl,rfl⟩ fun _ _ eJ eP m φ L' h=>by
   obtain⟨q,done,as',o3,o4,rfl,h0,hd,e1,e2,rfl,rfl⟩:=h;obtain⟨nm,t,rfl⟩:=WB h0;have hm:=hn nm (by rw [<- e1];simp)
   have u7:=eK ps q (.lst (done.map .str)::L);have zx:=eK ps (q+1) (.lst ((done++[nm]).map .str)::L)
   rw [show ps.getD q []=nm from(gD (i:=0) hd).trans (by cases t <;> rfl)] at u7;have hb:done.length<lim:=by
    rw [<- e1,Tq] at ha;omega
   refine .inr ⟨rfl,?_⟩;cases t with
   | nil =>
    rw [show ps.getD (q+1) []=[41] from gD (i:=1) hd] at zx;simp_arith [eJ,eP,u7,mD nm (TU (ax hm).2 (by decide)),hm,aR hb,bg,zx];rw [e1,<- e2];rfl
   | cons b t =>
    rw [show ps.getD (q+1) []=[44] from gD (i:=1) hd] at zx;simp_arith [eJ,eP,u7,mD nm (TU (ax hm).2 (by decide)),hm,aR hb,bg,zx];exact⟨(b::t).length,by simp,q+2,done++[nm],b::t,_,_,rfl,WN _ _,by rw [<- Xg,hd];rfl,by simpa using e1,by rw [<- e2];show q+2+_=q+(_+2);omega,rfl,rfl⟩
 subst h;simp_arith;exact dY (by simp [lt,cT,jx])
theorem nY (ps:List Cs) (f:Fc) (p:Nat) (r:List Cs) (L:aa) (hl:ps.length<=20000) (hf:FG f) (hr:r.getD 0 []≠[40]) (hd:ps.drop p=cC f++r) :
  iu [.lst (ps.map .str),.int p] L=.ok (.tup [fT f,.int ((p+(cC f).length:Nat):Int)]) L:=by
 have u7:=eK ps p L;have zx:=eK ps (p+1) L
 have hk:=ax (Bk.bc hf.k);unfold cC at hd;unfold iu cC;by_cases h0:f.as=[]
 ·rw [if_pos h0] at hd ⊢
  rw [show ps.getD p []=f.k from gD (i:=0) hd] at u7;rw [show ps.getD (p+1) []=r.getD 0 [] from gD (i:=1) hd] at zx;simp_arith [u7,lx f.k (TU hk.2 (by decide)),hf.k,zx,beq_eq_false_iff_ne.mpr hr,show fT f=.tup [.str f.k,.tup []] by unfold fT;rw [h0];rfl];exact fin_same (by simp [lt,cT])
 ·rw [if_neg h0] at hd ⊢
  rw [show ps.getD p []=f.k from gD (i:=0) hd] at u7;rw [show ps.getD (p+1) []=[40] from gD (i:=1) hd] at zx;simp_arith [u7,lx f.k (TU hk.2 (by decide)),hf.k,zx,Gv ps f.as (p+2) r L hl h0 hf.as (by rw [<- Xg,hd];rfl)];rw [show p+2+(between f.as).length=p+(f.k::[40]::between f.as).length by simp only [Tu];omega];exact fin_same (by simp [fT,lt,cT,jx])
end dn
namespace dn
open PySem M
open kz (bH ah aN)
open Bk (Fc Kd Lk Rl aK great ax cC glue FG)
theorem Ci {α:Type} {m:Cs} (l:List α) (g:α->List Cs) (hg:∀x,g x≠[]):l.length<=(glue m (l.map g)).length:=by
 induction l with
 | nil=>exact TK _
 | cons a t ih =>
  have:=Zj.mpr (hg a);cases t with
  | nil=>exact this
  | cons b t =>
   show _<=(g a++m::glue m ((b::t).map g)).length;rw [Tq,Tu,Tu (as:=glue _ _)];omega
theorem JP (fs:List Fc) (L:aa) (h0:fs≠[]) (hl:(glue [44] (fs.map cC)).length<=20000) (hf:∀f∈fs,FG f):dh [.lst ((glue [44] (fs.map cC)).map .str)] L=.ok (.lst (fs.map fT)) L:=by
 generalize Bp:glue [44] (fs.map cC)=ps at hl;have hn:fs.length<lim:=by
  have:=Ci (m:=[44]) fs cC fun f=>by unfold cC;split <;> exact WN _ _
  rw [Bp] at this;unfold lim;omega
 unfold dh;simp_arith;generalize ho:pS _ _ _ _ _=o;have h:=u4 ho (fun m φ L'=>∃(q:Nat) (done rest:List Fc) (o3:Option T),m=rest.length/\rest≠[]/\ps.drop q=glue [44] (rest.map cC)/\done++rest=fs/\φ=[some (.lst (ps.map .str)),some (.ref L.length),some (.int q),o3]/\L'=.lst (done.map fT)::L)
  (fun o=>o=.rt (.ref L.length) (.lst (fs.map fT)::L)) (n:=fs.length) hn ⟨0,[],fs,none,rfl,h0,Bp.symm,rfl,rfl,rfl⟩ fun _ _ eJ eP m φ L' h=>by
   obtain⟨q,done,rest,o3,rfl,h0,hd,e1,rfl,rfl⟩:=h;obtain⟨f,t,rfl⟩:=WB h0;have hF:=hf f (by rw [<- e1];simp)
   have hb:done.length<lim:=by rw [<- e1,Tq] at hn;omega
   have hq:=congrArg VV hd;rw [Uo] at hq;have vX:1<=(cC f).length:=by unfold cC;split <;> simp
   refine .inr ⟨rfl,?_⟩;cases t with
   | nil =>
    have hq:ps.length - q=(cC f).length:=hq;simp_arith [eJ,eP,nY ps f q [] _ hl hF (by simp) (by rw [hd,T4];rfl),aR hb,bg,show(((q+(cC f).length:Nat):Int) == (ps.length:Int))=true from by simp;omega,e1]
   | cons g t =>
    have hq:ps.length - q=(cC f++[44]::glue [44] ((g::t).map cC)).length:=hq;have hd:ps.drop q=cC f++[44]::glue [44] ((g::t).map cC):=hd
    rw [Tq,Tu] at hq;have hr:ps.drop (q+(cC f).length)=[44]::glue [44] ((g::t).map cC):=by rw [<- Xg,hd,Xf]
    have hg:(ps.map T.str)[q+(cC f).length]?=some (.str [44]):=by
     rw [TX,<- XT (q+(cC f).length),<- List.getElem?_drop,hr];rfl
    simp_arith [eJ,eP,nY ps f q _ _ hl hF (by simp) hd,aR hb,bg,show(((q+(cC f).length:Nat):Int) == (ps.length:Int))=false from by simp;omega,dT hg];exact⟨(g::t).length,by simp,q+(cC f).length+1,done++[f],g::t,_,rfl,WN _ _,by rw [<- Xg,hr];rfl,by simpa using e1,rfl,rfl⟩
 subst h;simp_arith;exact eV (aj bu)
noncomputable def bj (m:Cs):List Cs->List (List Cs)->List (List Cs)
 | [],rows=>rows
 | p::r,rows=>bj m r (if p=m then rows++[[]] else rows.dropLast++[rows.getLastD []++[p]])
theorem hK {m:Cs}:∀(q rest:List Cs) (done:List (List Cs)) (cur:List Cs),m∉q->bj m (q++rest) (done++[cur])=bj m rest (done++[cur++q])
 | [],rest,done,cur,_=>by rw [UH,T4]
 | p::q,rest,done,cur,h=>by
  have hp:p≠m:=fun e=>h (by rw [e];exact To)
  have hq:m∉q:=fun z=>h (Tp _ z)
  show bj m (q++rest) (if p=m then _ else (done++[cur]).dropLast++[(done++[cur]).getLastD []++[p]])=_;rw [if_neg hp,Y7,show(done++[cur]).getLastD []=cur by simp,hK q rest done (cur++[p]) hq,T8,Ws]
theorem jD {m:Cs}:∀(qs:List (List Cs)) (done:List (List Cs)),qs≠[]->(∀q∈qs,m∉q)->bj m (glue m qs) (done++[[]])=done++qs
 | [],_,h,_=>absurd rfl h
 | [q],done,_,h=>by
  have e:=hK q [] done [] (h q (by simp));rw [T4] at e;show bj m q _=_
  rw [e];rfl
 | q::q2::r,done,_,h=>by
  have e:=hK q (m::glue m (q2::r)) done [] (h q (by simp));show bj m (q++m::glue m (q2::r)) _=_
  rw [e];show bj m (glue m (q2::r)) (if m=m then (done++[[]++q])++[[]] else _)=_
  rw [if_pos rfl,jD (q2::r) (done++[[]++q]) (by simp) fun x hx=>h x (Tp _ hx),UH,T8,Ws]
noncomputable def bh (r:List Cs):T:=.lst (r.map .str)
theorem Gw (n:Nat) (r:List Cs):lt n (bh r)=true:=by simp [bh,lt,jx]
noncomputable def cv (n k:Nat):List T:=.ref n::(UE k).map fun i=>.ref (n+2+i)
noncomputable def dj (L:aa) (r0:List Cs) (rest:List (List Cs)):aa:=(rest.map bh).reverse++(.lst (cv L.length rest.length)::bh r0::L)
theorem pB {α:Type} {L:List α}:∀(A:List α) {n:Nat},n<L.length->at_ (A++L) n=at_ L n
 | [],n,h=>rfl
 | a::A,n,h=>by rw [Vq,at_,if_neg (by simp;omega),pB A h]
theorem u9 {α:Type} {L:List α} {d:α}:∀(A:List α) {n:Nat},n<L.length->put (A++L) n d=A++put L n d
 | [],n,h=>rfl
 | a::A,n,h=>by rw [Vq,put,if_neg (by simp;omega),u9 A h];rfl
section
variable {L:aa} {r0:List Cs} {rest:List (List Cs)}
theorem mE:(dj L r0 rest).length=L.length+2+rest.length:=by unfold dj;simp;omega
theorem nZ {n k:Nat}:(cv n k).length=k+1:=by simp [cv]
theorem ly:at_ (dj L r0 rest) (L.length+1)=some (.lst (cv L.length rest.length)):=by
 unfold dj;rw [pB _ (by simp)];exact wq
theorem tF {n k:Nat}:cv n k++[.ref (n+2+k)]=cv n (k+1):=by simp [cv,List.range_succ]
theorem wt:put (.lst []::dj L r0 rest) (L.length+1) (.lst (cv L.length rest.length++[.ref (dj L r0 rest).length]))=dj L r0 (rest++[[]]):=by
 rw [mE,tF];show put ((T.lst []::(rest.map bh).reverse)++(.lst (cv L.length rest.length)::bh r0::L)) (L.length+1) _=_
 rw [u9 _ (by simp),Jp];simp [dj,bh]
theorem tG {n:Nat}:place (n+1) (-1)=some n:=by
 unfold place;rw [if_neg (by decide),if_pos (by omega)];congr 1;omega
theorem wu (q:Cs):∃n last JQ n6,ix (.ref (L.length+1)) (.int (-1)) (dj L r0 rest)=.ok (.ref n) (dj L r0 rest)/\at_ (dj L r0 rest) n=some (bh last)/\put (dj L r0 rest) n (bh (last++[q]))=dj L JQ n6 /\
  (∀mk qs,q≠mk->bj mk (q::qs) (r0::rest)=bj mk qs (JQ::n6))/\(JQ::n6).flatten.length=(r0::rest).flatten.length+1/\last.length<=(r0::rest).flatten.length/\n6.length=rest.length:=by
 have Lh:∀n,(cv L.length rest.length)[rest.length]?=some (.ref n)->ix (.ref (L.length+1)) (.int (-1)) (dj L r0 rest)=.ok (.ref n) (dj L r0 rest):=fun n h=>by
  simp only [ix,vw,ly,VM,nZ,tG,VP,h,lift]
 rcases List.eq_nil_or_concat rest with rfl|⟨pre,last,e⟩
 ·refine⟨L.length,r0,r0++[q],[],Lh _ rfl,?_,?_,fun mk qs h=>?_,by simp,by simp,rfl⟩
  ·exact mz
  ·show put (T.lst (cv L.length 0)::bh r0::L) L.length _=_
   rw [Jo];rfl
  ·show bj mk qs (if q=mk then _ else _)=_
   rw [if_neg h];rfl
 ·rw [List.concat_eq_append] at e
  subst e;have ec:∀z:List Cs,dj L r0 (pre++[z])=bh z::((pre.map bh).reverse++(.lst (cv L.length (pre.length+1))::bh r0::L)):=fun z=>by simp [dj]
  have el:((pre.map bh).reverse++(T.lst (cv L.length (pre.length+1))::bh r0::L)).length=L.length+2+pre.length:=by simp;omega
  refine⟨L.length+2+pre.length,last,r0,pre++[last++[q]],Lh _ ?_,?_,?_,fun mk qs h=>?_,by simp;omega,by simp;omega,by simp⟩
  ·simp [cv]
  ·rw [ec,<- el];exact cY
  ·rw [ec,ec,<- el];exact tA
  ·show bj mk qs (if q=mk then _ else _)=_
   rw [if_neg h,show r0::(pre++[last])=(r0::pre)++[last] from rfl,Y7,List.getLastD_concat];rfl
end
theorem qZ {L L':aa}:∀(ns:List Nat) (rows:List (List Cs)),ns.length=rows.length->(∀i (h:i<ns.length) (h':i<rows.length),L.length<=ns[i]/\at_ L' ns[i]=some (bh rows[i]))->(ns.map T.ref).mapM (bU L.length L' 7)=some (rows.map bh)
 | [],[],_,_=>rfl
 | n::ns,r::rows,hl,h=>by
  obtain⟨h1,h2⟩:=h 0 (by simp) (by simp);have h1:L.length<=n:=h1
  have h2:at_ L' n=some (bh r):=h2
  have e:bU L.length L' 7 (.ref n)=some (bh r):=by
   unfold bU;rw [if_neg (by rw [lt];simp;omega)];simp only [h2];unfold bU;rw [if_pos (Gw _ _)]
  rw [TC,VF,e,qZ ns rows (by simpa using hl) fun i a b=>h (i+1) (by simpa using a) (by simpa using b)];rfl
theorem zy {L:aa} {r0:List Cs} {rest:List (List Cs)}:fin L (.ref (L.length+1)) (dj L r0 rest)=.ok (.lst ((r0::rest).map bh)) L:=by
 have hd:(dj L r0 rest).drop ((dj L r0 rest).length - L.length)=L:=by
  rw [mE,show dj L r0 rest=((rest.map bh).reverse++[.lst (cv L.length rest.length),bh r0])++L by simp [dj],List.drop_left' (by simp;omega)]
 unfold fin;rw [hd,if_pos (fS L)];unfold bU;rw [if_neg (by rw [lt];simp)];simp only [ly];unfold bU;rw [if_neg (by rw [lt,cv,cT,lt];simp)];have e:cv L.length rest.length=(L.length::(UE rest.length).map fun i=>L.length+2+i).map T.ref:=by simp [cv]
 rw [e];simp only [];rw [qZ _ (r0::rest) (by simp)]
 ·rfl
 ·intro i h h'
  cases i with
  | zero =>
   refine⟨TK _,?_⟩;show at_ (dj L r0 rest) L.length=some (bh r0)
   unfold dj;rw [pB _ (by simp only [Tu];omega)];exact mz
  | succ i =>
   simp only [List.getElem_cons_succ,VO,List.getElem_range];refine⟨by omega,?_⟩;have hi:i<rest.length:=by simpa using h'
   have e:dj L r0 rest=((rest.drop (i+1)).map bh).reverse++(bh rest[i]::(((rest.take i).map bh).reverse++(.lst (cv L.length rest.length)::bh r0::L))):=by
    have e0:rest.map bh=(rest.take i).map bh++(bh rest[i]::(rest.drop (i+1)).map bh):=by rw [<- TC,<- Vf hi,<- TS,Wo]
    unfold dj;rw [e0,List.reverse_append,List.reverse_cons,T8,T8];rfl
   rw [e,pB _ (by simp;omega),show L.length+2+i=(((rest.take i).map bh).reverse++(T.lst (cv L.length rest.length)::bh r0::L)).length by simp;omega];exact cY
theorem zA (ps:List Cs) (mk:Cs) (L:aa) (hl:ps.length<=20000):eW [.lst (ps.map .str),.str mk] L=.ok (.lst ((bj mk ps [[]]).map bh)) L:=by
 unfold eW;simp_arith;generalize ho:forL _ _ _ _ _ _=o;have h:=bw ho ps T.str (fun qs φ L'=>∃r0 rest o3,bj mk qs (r0::rest)=bj mk ps [[]]/\(r0::rest).flatten.length+qs.length<=20000/\rest.length+qs.length<=20000/\φ=[some (.lst (ps.map .str)),some (.str mk),some (.ref (L.length+1)),o3]/\L'=dj L r0 rest)
  (fun o=>∃r0 rest o3,r0::rest=bj mk ps [[]]/\o=.nx [some (.lst (ps.map .str)),some (.str mk),some (.ref (L.length+1)),o3] (dj L r0 rest)) rfl ⟨[],[],none,rfl,by simpa using hl,by simpa using hl,rfl,rfl⟩ (fun _ _ eJ eP q qs φ L' h=>by
   obtain⟨r0,rest,o3,e1,e2,e3,rfl,rfl⟩:=h;refine⟨sv,_,rfl,?_⟩;simp only [Tu] at e2 e3;by_cases hq:q=mk
   ·subst hq
    simp_arith [eJ,eP];have ha:at_ (.lst []::dj L r0 rest) (L.length+1)=some (.lst (cv L.length rest.length)):=by rw [at_,if_neg (by rw [mE];omega)];exact ly
    simp_arith [eJ,eP,ly,ha,aR (show(cv L.length rest.length).length<lim by rw [nZ];unfold lim;omega),wt];refine⟨r0,rest++[[]],_,?_,by simp at e2 ⊢;omega,by simp;omega,rfl,rfl⟩;rw [<- e1];show _=bj q qs (if q=q then _ else _)
    rw [if_pos rfl];rfl
   ·obtain⟨n,last,JQ,n6,i1,i2,i3,i4,i5,i6,i7⟩:=wu (L:=L) (r0:=r0) (rest:=rest) q
    simp_arith [eJ,eP,show(q == mk)=false from beq_eq_false_iff_ne.mpr hq,i1,i2,bh,aR (show last.length<lim by unfold lim;omega),bg];refine⟨JQ,n6,_,by rw [<- i4 mk qs hq];exact e1,by omega,by omega,rfl,i3⟩)
  fun φ L' h=>by
   obtain⟨r0,rest,o3,e1,e2,e3,rfl,rfl⟩:=h;exact⟨sv,r0,rest,o3,e1,rfl⟩
 obtain⟨r0,rest,o3,e,rfl⟩:=h;simp_arith;rw [zy,e]
end dn
namespace dn
open PySem M
open kz (bH ah aN)
open Bk (Fc Kd Lk Rl aK great ax cC glue gV gW wordAt gI rows gn gK mS FG Im fI lI pI)
theorem Dp {L Ln L':aa} {t:T} (hl:L'.length=L.length) (ho:old L L') (ht:lt L.length t=true):fin L t (Ln++L')=.ok t L':=by
 have e:(Ln++L').drop ((Ln++L').length - L.length)=L':=by rw [Tq,hl,XX,Xf]
 unfold fin;rw [e,if_pos ho];unfold bU;rw [if_pos ht];rfl
theorem JR {L:aa} {c c':T} (h:lt (L.length+1) c'=true):old (c::L) (c'::L):=fun n d e=>by
 unfold at_ at e ⊢
 split at e
 ·cases e;exact .inr h
 ·rename_i z;rw [if_neg z];exact .inl e
theorem JS {L:aa} {c c' d d':T} (h:lt (L.length+2) c'=true) (h':lt (L.length+2) d'=true):old (d::c::L) (d'::c'::L):=fun n e q=>by
 unfold at_ at q ⊢
 split at q
 ·cases q;exact .inr h'
 ·rename_i z
  rw [if_neg (show ¬ n=(c::L).length from z)];unfold at_ at q ⊢
  split at q
  ·cases q;exact .inr h
  ·rename_i z;rw [if_neg z];exact .inl q
theorem mF {L:aa} {c c' t:T} (h:lt (L.length+1) c'=true) (ht:lt (L.length+1) t=true):fin (c::L) t (c'::L)=.ok t (c'::L):=Dp (Ln:=[]) rfl (JR h) ht
theorem bO {f:Str} {t:T}:∀{fs:List (Str × T)},(fs.map (·.1)).contains f=false->i0 fs f t=fs++[(f,t)]
 | [],_=>rfl
 | (g,u)::r,h=>by
  simp only [TC,List.contains_cons,Bool.or_eq_false_iff] at h;have:g≠f:=fun e=>by rw [e] at h;simp at h
  rw [i0,if_neg this,bO h.2];rfl
theorem zB (cn:Str) (a b:Cs) (L:aa):make cn cQ [.str a,.str b] L=.ok (.obj cn [("left",.str a),("right",.str b)]) L:=by
 unfold make cQ;simp_arith [rU,bO (fs:=[]) (f:="left") rfl,UH,Vg,show(0:Nat)<200 by decide];simp_arith [bO (fs:=[("left",.str a)]) (f:="right") (by rfl),show(0+1:Nat)<200 by decide,show(1:Nat)<200 by decide];rw [mF (by simp [lt,mX]) rfl];simp_arith;exact eV (by simp [lt,mX])
theorem R7 {x y z:Cs}:(([x,y,z].map T.str).length:Int)=3:=rfl
theorem Dq (x y z:Cs) (hx:ah x=true) (hz:ah z=true) (L:aa):bx [.lst [.str x,.str y,.str z]] L=.ok .cb L:=by
 unfold bx;simp_arith [show(((0+1+1+1:Nat):Int) != 3)=false from rfl,show(((3:Nat):Int) != 3)=false from rfl];simp_arith [mD x (TU (ax hx).2 (by decide)),mD z (TU (ax hz).2 (by decide)),hx,hz]
theorem q8 (k:Lk) (h:ah k.l=true/\ah k.r=true) (L:aa):fk [bh (gV k)] L=.ok (lT k) L:=by
 unfold fk bh gV lT;simp_arith [Dq _ _ _ h.1 h.2];cases k.same with
 | true =>
  simp_arith [show(gI true == S "same")=true from rfl,zu,zB];exact fin_same (by simp [lt,mX])
 | false =>
  simp_arith [show(gI false == S "same")=false from rfl,show(gI false == S "unlike")=true from rfl,qX,zB];exact fin_same (by simp [lt,mX])
theorem q9 (p:Cs × Cs) (h:ah p.1=true/\ah p.2=true) (L:aa):fm [bh (gW p)] L=.ok (pT p) L:=by
 unfold fm bh gW;simp_arith [Dq _ _ _ h.1 h.2];exact fin_same (by simp [lt,cT])
theorem jX {α:Type} {mk:Cs} {g:α->List Cs} {l:List α} {L:aa} (h0:l≠[]) (hq:∀x∈l,mk∉g x) (hl:(glue mk (l.map g)).length<=20000):eW [.lst ((glue mk (l.map g)).map .str),.str mk] L=.ok (.lst (l.map fun x=>bh (g x))) L:=by
 rw [zA _ _ _ hl,show bj mk (glue mk (l.map g)) [[]]=l.map g from jD (l.map g) [] (by simpa using h0) fun q h=>by obtain⟨x,hx,rfl⟩:=Tz.mp h;exact hq x hx,Ud];rfl
theorem pC (l:List Lk) (h0:l≠[]) (hl:(glue [44] (l.map gV)).length<=20000) (hn:l.length<=2) (h:∀k∈l,ah k.l=true/\ah k.r=true) (L:aa):da [.lst ((glue [44] (l.map gV)).map .str)] L=.ok (.lst (l.map lT)) L:=by
 unfold da;simp_arith;rw [bf (k:=stays (.lst (l.map fun k=>bh (gV k))) L) rfl l (fun k=>bh (gV k)) lT (by simp_arith [jX h0 (fun k hk=>(Bk.uV (h k hk)).2) hl]) (by exact ai) (by exact TU hn (by decide)) (by exact fun k hk=>by simp_arith [q8 k (h k hk)])];simp_arith;exact fin_same (aj nW)
theorem pD (l:List (Cs × Cs)) (h0:l≠[]) (hl:(glue [44] (l.map gW)).length<=20000) (hn:l.length<=2) (h:∀k∈l,ah k.1=true/\ah k.2=true) (L:aa):de [.lst ((glue [44] (l.map gW)).map .str)] L=.ok (.lst (l.map pT)) L:=by
 unfold de;simp_arith;rw [bf (k:=stays (.lst (l.map fun k=>bh (gW k))) L) rfl l (fun k=>bh (gW k)) pT (by simp_arith [jX h0 (fun k hk=>(Bk.uW (h k hk)).2) hl]) (by exact ai) (by exact TU hn (by decide)) (by exact fun k hk=>by simp_arith [q9 k (h k hk)])];simp_arith;exact fin_same (aj fR)
noncomputable def wO (x:Nat × List Im):T:=.lst (x.2.map (·.t))
theorem Dr {r:Rl} (n:Nat):∀x∈rows r,lt n (wO x)=true:=by
 refine Bk.Cc ?_ ?_ ?_ ?_ ?_ <;> (show lt n (T.lst (List.map _ (List.map _ _)))=true;rw [Ud])
 ·exact aj bu
 ·exact aj bu
 ·exact aj nW
 ·exact aj bu
 ·exact aj fR
theorem mG {w:Cs} (hw:(w == S "look")=false/\(w == S "tell")=false) {l:List Fc} (hf:∀f∈l,FG f) (h0:l≠[]) (hl:(glue [44] (l.map cC)).length<=20000) (L:aa):b7 [.str w,.lst ((glue [44] (l.map cC)).map .str)] L=.ok (.lst (l.map fT)) L:=by
 unfold b7;simp_arith [hw.1,hw.2,JP l L h0 hl hf];exact fin_same (aj bu)
theorem Gx {ks:List Kd} {r:Rl} (h:mS ks r):∀x∈rows r,x.2≠[]->(glue [44] (x.2.map (·.tp))).length<=20000->∀L,b7 [.str (wordAt x.1),.lst ((glue [44] (x.2.map (·.tp))).map .str)] L=.ok (wO x) L:=by
 obtain⟨_,_,f3,_,f5⟩:=h.uu;have hf:=fun g hg=>(h.f g hg).1
 unfold wO;refine Bk.Cc ?_ ?_ ?_ ?_ ?_ <;> (intro h0 hl L;rw [Ud] at hl ⊢;rw [Ud];have h0:=fun e=>h0 (VK.mpr e))
 ·exact mG ⟨rfl,rfl⟩ (fun g hg=>hf g (TF _ (TF _ hg))) h0 hl L
 ·exact mG ⟨rfl,rfl⟩ (fun g hg=>hf g (TF _ (TQ _ hg))) h0 hl L
 ·unfold b7
  simp_arith [show(wordAt 2 == S "look")=true from rfl,show da [.lst ((glue [44] (r.aH.map ((·.tp) ∘ lI))).map .str)] L=_ from pC _ h0 hl f3 h.l L];exact fin_same (aj nW)
 ·exact mG ⟨rfl,rfl⟩ (fun g hg=>hf g (TQ _ hg)) h0 hl L
 ·unfold b7
  simp_arith [show(wordAt 4 == S "look")=false from rfl,show(wordAt 4 == S "tell")=true from rfl,show de [.lst ((glue [44] (r.tell.map ((·.tp) ∘ pI))).map .str)] L=_ from pD _ h0 hl f5 h.p L];exact fin_same (aj fR)
theorem Gy (k:Kd) (h:aK k.n=true/\k.c<=4) (L:aa):fj [.lst ((Bk.qL k).map .str)] L=.ok (kT k) L:=by
 obtain⟨nm,c,la⟩:=k;obtain⟨h1,h2⟩:=h;have h1:aK nm=true:=h1
 have h2:c<=4:=h2;have hn:=ax (Bk.bc h1)
 unfold fj Bk.qL gu mB;have hc:∀c≤4,(mW (.str [48+c]) (.tup [.str (S "0"),.str (S "1"),.str (S "2"),.str (S "3"),.str (S "4")]) L=.ok true L)/\vG [.str [48+c]] L=.ok (.int c) L:=fun c h=>by
  have z:∀c≤4,PySem.intText? ⟨#[48+c]⟩=some (c:Int):=by decide +kernel
  refine⟨by rcases(by omega:c=0\/c=1\/c=2\/c=3\/c=4) with rfl|rfl|rfl|rfl|rfl <;> rfl,?_⟩;unfold vG;simp only [z c h,Xj];exact aR (by simp)
 have hw:mW (.str (if la=true then Bk.cg else Bk.cf)) (.tup [.str (S "passing"),.str (S "lasting")]) L=.ok true L/\((if la=true then Bk.cg else Bk.cf) == S "lasting")=la:=by cases la <;> exact⟨rfl,rfl⟩
 simp_arith [hw.1,hw.2,lx nm (TU hn.2 (by decide)),h1,(hc c h2).1,(hc c h2).2,show(((3:Nat):Int) != 3)=false from rfl];exact fin_same (by simp [lt,cT])
end dn
namespace dn
open PySem M
open kz (bH ah aN)
open Bk (Fc Kd Lk Rl aK great ax cB aw dB opens)
theorem JT {k:T}:dm [] k=none:=rfl
theorem fU {a b k:T} {ks:List (T × T)}:dm ((a,b)::ks) k=(open Classical in if a=k then some b else dm ks k):=by
 unfold dm;rw [Vx];by_cases h:a=k <;> simp [h]
theorem Gz {α:Type} {g:α->Cs} (l:List α) (y:Cs):fW (.str y::l.map fun x=>.str (g x))=true:=by
 unfold fW;rw [Wk];refine .inl (Tr.mpr fun x hx=>?_);rcases TJ.mp hx with rfl|hx
 ·rfl
 ·obtain⟨z,_,rfl⟩:=Tz.mp hx;rfl
theorem rf {α:Type} {g:α->Cs} {h:α->T} (l:List α) (y:Cs):dq (l.map fun x=>(.str (g x),h x)) (.str y):=by
 unfold dq;rw [Ud];exact Gz l y
theorem eT {ks:List (T × T)} {k t:T} (h:∀p∈ks,p.1≠k):dput ks k t=ks++[(k,t)]:=by
 unfold dput;rw [if_neg];intro z;obtain⟨p,hp,e⟩:=Vk.mp z;exact h p hp (by simpa using e)
theorem wx (p:Cs) (hp:p.length<=20000) (hc:∃c r,p=c::r/\c≠32/\c≠35) (L:aa):iw [.str p] L=.ok (.bl true) L:=by
 obtain⟨c,p,rfl,h1,h2⟩:=hc;obtain⟨q,e,hl⟩:=Bk.zm h1 p;have hs:lB (.str (c::p)) [.str [32]] L=.ok (.str (c::q)) L:=by
  unfold lB;simp only [];rw [e,Bk.ju,aR (by simp only [Tu] at hp ⊢;unfold lim;omega)]
 unfold iw;simp_arith [lh,hs,show((c::q:Cs) == [])=false from rfl,u5 (s:=c::q) (by simp),List.headD_cons,show(([c]:Cs) == [35])=false from beq_eq_false_iff_ne.mpr fun z=>h2 (Vp z).1]
theorem Cj (ls:List Cs) (h0:ls≠[]) (hn:ls.length<=6) (h:∀l∈ls,10∉l/\l.length<=20000/\∃c r,l=c::r/\c≠32/\c≠35) (L:aa):eF [.str (jn [10] ls)] L=.ok (.lst (ls.map .str)) L:=by
 have hs:lA true (.str (jn [10] ls)) [.str (S "\n")] L=.ok (.lst (ls.map .str)) L:=by
  unfold lA;simp only [];have hd:((ls.map toS).all fun s=>decide (s.cps.toList.length<=lim))=true:=by
   rw [YY];refine Tr.mpr fun l hl=>?_
   simp only [Vm,Bk.ju,decide_eq_true_eq];exact TU (h l hl).2.1 (by decide)
  rw [show WG (toS (jn [10] ls)) (toS (S "\n"))=ls.map toS from Bk.qR h0 fun l hl=>(h l hl).1,aR ⟨by decide,hd⟩,eO,aR (by simp;unfold lim;omega),Ud];simp [mk,Vm,Bk.ju]
 unfold eF;simp_arith;rw [cZ (k:=stays (.lst (ls.map .str)) L) rfl ls T.str (fun _=>true) T.str (by simp_arith [lb,hs]) (by exact ai) (by unfold lim;omega) (by exact fun b hb=>by simp_arith [wx b (h b hb).2.1 (h b hb).2.2]) (by exact fun b _ _=>by simp_arith),Zh.mpr fun _ _=>rfl];simp_arith;exact fin_same (aj fun _ _=>rfl)
noncomputable def j9 (acc:List Cs):T:=.aP (acc.map fun x=>(.str x,.bl true))
theorem zC (acc:List Cs) (x:Cs):dput (acc.map fun x=>(T.str x,T.bl true)) (.str x) (.bl true)=(if x∈acc then acc else acc++[x]).map fun x=>(T.str x,T.bl true):=by
 by_cases h:x∈acc
 ·rw [if_pos h]
  unfold dput;rw [if_pos (Vk.mpr ⟨(.str x,.bl true),Tz.mpr ⟨x,h,rfl⟩,by simp⟩)]
  conv=>rhs;rw [<- XF (acc.map _)]
  refine UT fun p hp=>?_
  obtain⟨y,_,rfl⟩:=Tz.mp hp;by_cases e:T.str y=T.str x
  ·rw [if_pos e];rfl
  ·rw [if_neg e];rfl
 ·rw [if_neg h,eT]
  ·simp
  ·intro p hp
   obtain⟨y,hy,rfl⟩:=Tz.mp hp;exact fun e=>h (by cases e;exact hy)
theorem Ck (fs:List Fc) (hf:∀f∈fs,∀a∈f.as,ah a=true) (hl:(fs.flatMap (·.as)).length<=20000) (L:aa):eE [.lst (fs.map fT)] L=.ok (.lst ((opens fs).map .str)) L:=by
 unfold eE;simp_arith;generalize ho:forL _ _ _ _ _ _=o;have h:=bw ho fs fT (fun r φ L'=>∃done acc o2 o3,done++r=fs/\acc=aw (done.flatMap (·.as)) []/\φ=[some (.lst (fs.map fT)),some (.ref L.length),o2,o3]/\L'=j9 acc::L)
  (fun o=>∃o2 o3,o=.nx [some (.lst (fs.map fT)),some (.ref L.length),o2,o3] (j9 (opens fs)::L)) rfl ⟨[],[],none,none,rfl,rfl,rfl,rfl⟩ (fun _ _ eJ eP f r φ L' h=>by
   obtain⟨done,acc,o2,o3,e1,rfl,rfl,rfl⟩:=h;refine⟨sv,_,rfl,?_⟩;have Ds:f∈fs:=by rw [<- e1];simp
   have hb:(done.flatMap (·.as)).length+f.as.length<=20000:=by rw [<- e1] at hl;simp at hl ⊢;omega
   simp_arith [eJ,eP];generalize ho:forL _ _ _ _ _ _=o;have h:=bw ho f.as T.str (fun r φ L'=>∃d2 o3,d2++r=f.as/\φ=[some (.lst (fs.map fT)),some (.ref L.length),some (fT f),o3]/\L'=j9 (aw d2 (aw (done.flatMap (·.as)) []))::L)
    (fun o=>∃o3,o=.nx [some (.lst (fs.map fT)),some (.ref L.length),some (fT f),o3] (j9 (aw ((done++[f]).flatMap (·.as)) [])::L)) rfl ⟨[],o3,rfl,rfl,rfl⟩ (fun _ _ eJ eP a r φ L' h=>by
     obtain⟨d2,o3,e2,rfl,rfl⟩:=h;refine⟨sv,_,rfl,?_⟩;have hn:=hf f Ds a (by rw [<- e2];simp)
     have e3:aw (d2++[a]) (aw (done.flatMap (·.as)) [])=cB a (aw d2 (aw (done.flatMap (·.as)) [])):=by simp [aw]
     have vK:(aw d2 (aw (done.flatMap (·.as)) [])).length<lim:=by
      have z1:=dB d2 (aw (done.flatMap (·.as)) []);have z2:=dB (done.flatMap (·.as)) []
      have z3:d2.length<=f.as.length:=by rw [<- e2];simp
      simp only [T9] at z2;unfold lim;omega
     simp_arith [eJ,eP,eI a (ax hn).1];cases hg:great a with
     | false =>
      simp_arith [eJ,eP];exact⟨d2++[a],_,by simpa using e2,rfl,by rw [e3];unfold cB;rw [hg];rfl⟩
     | true =>
      have R8:dq ((aw d2 (aw (done.flatMap (·.as)) [])).map fun x=>(T.str x,T.bl true)) (.str a):=rf (g:=id) _ a;simp_arith [eJ,eP,i8,j9,vK,R8,and_self,zC];exact⟨d2++[a],_,by simpa using e2,rfl,by rw [e3];unfold cB;rw [hg];rfl⟩)
    fun φ L' h=>by
     obtain⟨d2,o3,e2,rfl,rfl⟩:=h;refine⟨sv,o3,?_⟩;rw [T4] at e2;subst e2;rw [Zk,show aw (done.flatMap (·.as)++[f].flatMap (·.as)) []=aw ([f].flatMap (·.as)) (aw (done.flatMap (·.as)) []) from Yh];simp
   obtain⟨o3,rfl⟩:=h;simp_arith [eJ,eP];exact⟨done++[f],_,_,_,by simpa using e1,rfl,rfl,rfl⟩)
  fun φ L' h=>by
   obtain⟨done,acc,o2,o3,e1,rfl,rfl,rfl⟩:=h;rw [T4] at e1;subst e1;exact⟨sv,o2,o3,rfl⟩
 obtain⟨o2,o3,rfl⟩:=h;have hz:(opens fs).length<=lim:=by
  have:(opens fs).length<=_:=dB (fs.flatMap (·.as)) [];simp only [T9] at this;unfold lim;omega
 have hb:cL true [.ref L.length] (j9 (opens fs)::L)=.ok (.lst ((opens fs).map .str)) (j9 (opens fs)::L):=by
  have e:((opens fs).map fun x=>(T.str x,T.bl true)).map (·.1)=(opens fs).map .str:=by simp
  unfold cL j9;simp only [gZ,cY,dX];rw [e,aR (by simp [jI]),eO,aR (by simpa using hz)];rfl
 simp_arith [hb];exact dY (aj fun _ _=>rfl)
end dn
namespace dn
open PySem M
open kz (bH ah aN)
open Bk (Fc Kd Lk Rl aK great ax cC glue gV gW wordAt rows gn gK dW mS Im fI lI pI opens)
noncomputable def eL (x:Nat × List Im):T × T:=(.str (wordAt x.1),wO x)
theorem tH (n:Nat):∀l:List (Nat × List Im),(∀x∈l,lt n (wO x)=true)->lt n (.aP (l.map eL))=true
 | [],_=>rfl
 | x::l,h=>by
  have:=tH n l fun y hy=>h y (Tp _ hy)
  simp only [lt,TC,Aq,eL] at this ⊢;simp [h x To,lt_str,this]
theorem tJ {x:T} {r:List T} {L:aa} (h:r.length<=lim):iH true (.lst (x::r)) (some 1) none L=.ok (.lst r) L:=by
 unfold iH vw cut clip;simp [eO,aR h,mk]
theorem JU {x y z:T} {r:List T} {L:aa} (h:r.length<=lim):iH true (.lst (x::y::z::r)) (some 3) none L=.ok (.lst r) L:=by
 have e:cut (x::y::z::r) (some 3) none=r:=by
  unfold cut clip;simp only [Tu];rw [if_neg (by decide),show min (3:Int).toNat (r.length+1+1+1)=3 by omega];simp
 unfold iH vw;simp [e,eO,aR h,mk]
noncomputable def NY:List T:=[.str (S "take"),.str (S "keep"),.str (S "look"),.str (S "put"),.str (S "tell")]
theorem JV {m n:Nat} {L:aa} (h:m<=n) (hn:n<5):∃t,iH true bJ (some (m:Int)) none L=.ok t L/\mW (.str (wordAt n)) t L=.ok true L:=by
 obtain⟨a,b,c⟩:=(by decide +kernel:∀n<5,∀m≤n,dat 8 (.str (wordAt n))=true/\(cut NY (some (m:Int)) none).all (dat 8)=true/\((cut NY (some (m:Int)) none).any fun y=>eqT y (.str (wordAt n)))=true) n hn m h;refine⟨_,rfl,?_⟩;show bT _ (R.ok ((cut NY (some (m:Int)) none).any fun y=>eqT y (.str (wordAt n))) L)=_
 rw [aR ⟨a,b⟩,c]
theorem JW {n:Nat} {L:aa} (hn:n<5):AF bJ [.str (wordAt n)] L=.ok (.int n) L:=by
 rcases(by omega:n=0\/n=1\/n=2\/n=3\/n=4) with rfl|rfl|rfl|rfl|rfl <;> rfl
theorem zD {L:aa} {a c:T} (ha:lt L.length a=true) (hc:lt L.length c=true):fin L (.tup [a,.ref L.length]) (c::L)=.ok (.tup [a,c]) L:=by
 unfold fin;have e:(c::L).drop ((c::L).length - L.length)=L:=by simp
 rw [e,if_pos (fS L)];unfold bU;rw [if_neg (by simp [lt,cT,ha])];have e1:bU L.length (c::L) 8 a=some a:=by unfold bU;rw [if_pos ha]
 have e2:bU L.length (c::L) 8 (.ref L.length)=some c:=by
  unfold bU;rw [if_neg (by simp [lt])];simp only [cY];unfold bU;rw [if_pos hc]
 simp [VF,e1,e2,lift]
theorem GA {α:Type} {g:α->Cs} {l:List α} (h:(l.map g).Nodup):(l.map fun x=>T.str (g x)).Nodup:=by
 rw [show(l.map fun x=>T.str (g x))=(l.map g).map T.str by simp];exact List.Pairwise.map T.str (fun a b hab e=>hab (T.str.inj e)) h
theorem zE {α:Type} {g:α->Cs} {h:α->T} {l:List α} {x:α} (hn:(l.map g).Nodup) (hx:x∈l):dm (l.map fun x=>(.str (g x),h x)) (.str (g x))=some (h x):=by
 induction l with
 | nil=>cases hx
 | cons y l ih =>
  rw [TC,Uu] at hn;rw [TC,fU];rcases TJ.mp hx with rfl|hx
  ·rw [if_pos rfl]
  ·rw [if_neg (fun e=>hn.1 (by rw [T.str.inj e];exact TZ hx)),ih hn.2 hx]
theorem Cm {l:List (T × T)} {k:T} (h:∀p∈l,p.1≠k):dm l k=none:=by
 induction l with
 | nil=>rfl
 | cons p l ih=>rw [fU,if_neg (h p To),ih fun q hq=>h q (Tp _ hq)]
theorem pE (l:List (Nat × List Im)) (y:Cs):dq (l.map eL) (.str y):=rf (g:=fun x:Nat × List Im=>wordAt x.1) (h:=wO) l y
theorem zF {r:Rl}:∀x∈rows r,x.1<5:=Bk.Cc (show 0<5 by decide) (show 1<5 by decide) (show 2<5 by decide) (show 3<5 by decide) (show 4<5 by decide)
theorem hO {r:Rl} {x:Nat × List Im} (h:x∈gn r):x∈rows r/\x.1<5/\x.2≠[]:=by
 obtain⟨h1,h2⟩:=Uh.mp h;exact⟨h1,zF x h1,fun e=>by unfold Bk.ne at h2;rw [e] at h2;cases h2⟩
theorem zG (r:Rl):((gn r).map (·.1)).Pairwise (· < ·):=Xl (XG.map _) (show [0,1,2,3,4].Pairwise (· < ·) by decide)
theorem rg {r:Rl} {x:Nat × List Im} (hx:x∈rows r):dm ((gn r).map eL) (.str (wordAt x.1))=if x.2=[] then none else some (wO x):=by
 by_cases h0:x.2=[]
 ·rw [if_pos h0]
  refine Cm fun p hp e=>?_
  obtain⟨y,hy,rfl⟩:=Tz.mp hp;obtain⟨h1,h2,h3⟩:=hO hy;have e:=Bk.tu (f:=fun z:Nat × List Im=>z.1) (show((rows r).map (·.1)).Nodup from(by decide:[0,1,2,3,4].Nodup)) h1 hx (Bk.iU h2 (zF x hx) (T.str.inj (show T.str (wordAt y.1)=T.str (wordAt x.1) from e)))
  exact h3 (e ▸ h0)
 ·rw [if_neg h0]
  refine zE (g:=fun x:Nat × List Im=>wordAt x.1) (h:=wO) (l:=gn r) ?_ (Uh.mpr ⟨hx,?_⟩)
  ·refine Ww.mpr ((Ww.mp (zG r)).imp_of_mem fun ha hb h e=>?_)
   exact Vg _ (Bk.iU (hO ha).2.1 (hO hb).2.1 e ▸ h)
  ·unfold Bk.ne
   simpa using h0
theorem zH {r:Rl} {x:Nat × List Im} (hx:x∈rows r) (L:aa):mW (.str (wordAt x.1)) (.ref L.length) (.aP ((gn r).map eL)::L)=.ok (!decide (x.2=[])) (.aP ((gn r).map eL)::L):=by
 unfold mW;simp only [gZ,cY,dX];rw [aR (pE _ _),rg hx];by_cases h:x.2=[] <;> simp [h]
theorem mH {r:Rl} {x:Nat × List Im} (hx:x∈rows r) (L:aa):iz (.aP ((gn r).map eL)) [.str (wordAt x.1),.lst []] L=.ok (wO x) L:=by
 unfold iz vw;simp only [];rw [aR (pE _ _),rg hx];by_cases h:x.2=[]
 ·rw [if_pos h];unfold wO;rw [h];rfl
 ·rw [if_neg h];rfl
theorem tL {ks:List Kd} {r:Rl} (h:mS ks r) (L:aa):tC [.str r.title,.aP ((gn r).map eL)] L=.ok (aO r) L:=by
 have m:∀{α:Type} (i:α->Im) (l:List α),(l.map i).map (·.t)=l.map fun a=>(i a).t:=fun i l=>by rw [Ud];rfl
 have g0:=mH (r:=r) (x:=(0,r.take.map fI)) (by simp [rows]);have g1:=mH (r:=r) (x:=(1,r.keep.map fI)) (by simp [rows])
 have g2:=mH (r:=r) (x:=(2,r.aH.map lI)) (by simp [rows]);have g3:=mH (r:=r) (x:=(3,r.put.map fI)) (by simp [rows])
 have g4:=mH (r:=r) (x:=(4,r.tell.map pI)) (by simp [rows]);unfold wO at g0 g1 g2 g3 g4;rw [m] at g0 g1 g2 g3 g4;have g0:∀L,iz (.aP ((gn r).map eL)) [.str (wordAt 0),.lst []] L=.ok (.lst (r.take.map fT)) L:=g0
 have g1:∀L,iz (.aP ((gn r).map eL)) [.str (wordAt 1),.lst []] L=.ok (.lst (r.keep.map fT)) L:=g1;have g2:∀L,iz (.aP ((gn r).map eL)) [.str (wordAt 2),.lst []] L=.ok (.lst (r.aH.map lT)) L:=g2
 have g3:∀L,iz (.aP ((gn r).map eL)) [.str (wordAt 3),.lst []] L=.ok (.lst (r.put.map fT)) L:=g3;have g4:∀L,iz (.aP ((gn r).map eL)) [.str (wordAt 4),.lst []] L=.ok (.lst (r.tell.map pT)) L:=g4
 obtain⟨f1,f2,_⟩:=h.uu;have hl:r.take.length+r.keep.length<=lim:=by unfold lim;omega
 have hf:=fun f hf=>(h.f f (TF r.put hf)).1
 have ho:=Ck (r.take++r.keep) (fun f h=>(hf f h).as) (by
  have:=Bk.fP (l:=r.take++r.keep) (g:=(·.as)) (B:=4) fun f h=>(hf f h).n
  rw [Tq] at this;omega)
 rw [TS] at ho;unfold tC make g6 aO;simp_arith [rU,show S "take"=wordAt 0 from rfl,show S "keep"=wordAt 1 from rfl,show S "look"=wordAt 2 from rfl,show S "put"=wordAt 3 from rfl,show S "tell"=wordAt 4 from rfl,g0,g1,g2,g3,g4,UH,Nat.reduceLT,bO (fs:=[]) (f:="title") (by rfl),bO (fs:=[("title",.str r.title)]) (f:="taken") (by rfl),bO (fs:=[("title",.str r.title),("taken",.lst (r.take.map fT))]) (f:="kept") (by rfl),bO (fs:=[("title",.str r.title),("taken",.lst (r.take.map fT)),("kept",.lst (r.keep.map fT))]) (f:="looks") (by rfl),bO (fs:=[("title",.str r.title),("taken",.lst (r.take.map fT)),("kept",.lst (r.keep.map fT)),("looks",.lst (r.aH.map lT))]) (f:="given") (by rfl),bO (fs:=[("title",.str r.title),("taken",.lst (r.take.map fT)),("kept",.lst (r.keep.map fT)),("looks",.lst (r.aH.map lT)),("given",.lst (r.put.map fT))]) (f:="told") (by rfl),bO (fs:=[("title",.str r.title),("taken",.lst (r.take.map fT)),("kept",.lst (r.keep.map fT)),("looks",.lst (r.aH.map lT)),("given",.lst (r.put.map fT)),("told",.lst (r.tell.map pT))]) (f:="names") (by rfl),Vq,fld,T6,show(("taken":Str) == "title")=false by decide,show(("kept":Str) == "title")=false by decide,show(("kept":Str) == "taken")=false by decide,Tq,aR hl,ho];rw [mF]
 ·simp_arith
  refine(eV ?_).trans ?_
  ·simp [lt,mX,j7,bu,fR,nW,jx]
  ·rfl
 ·simp [lt,mX,j7,bu,fR,nW,jx]
 ·rfl
end dn
namespace dn
open PySem M
open kz (bH ah aN)
open Bk (Fc Kd Lk Rl aK great ax glue wordAt rows gn gK dW mS Im fI W Di qL)
theorem rh {m:Cs}:∀(qs:List (List Cs)) (q:List Cs),q∈qs->q.length<=(glue m qs).length
 | [a],q,h=>by rw [TY.mp h];exact TK _
 | a::b::r,q,h=>by
  show q.length<=(a++m::glue m (b::r)).length;rw [Tq,Tu];rcases TJ.mp h with e|h
  ·rw [e];omega
  ·have:=rh (m:=m) (b::r) q h;omega
theorem rm {ks:List Kd} {r:Rl} (h:mS ks r) (hl:(dW r).length<=20000) (L:aa) :
  fo [.lst ((dW r).map .str)] L=.ok (.tup [.str r.title,.aP ((gn r).map eL)]) L:=by
 have ht:=ax (Bk.bc h.t);have u7:∀L,aI [.lst ((dW r).map .str),.int 0] L=.ok (.str Bk.gj) L:=fun L=>eK (dW r) 0 L
 have zx:∀L,aI [.lst ((dW r).map .str),.int 1] L=.ok (.str r.title) L:=fun L=>eK (dW r) 1 L
 have v8:∀L,aI [.lst ((dW r).map .str),.int 2] L=.ok (.str [58]) L:=fun L=>eK (dW r) 2 L
 have PC:(glue [59] ((gn r).map gK)).length<=20000:=TU (Nat.le_add_right _ 3) hl;have hne:gn r≠[]:=fun e=>by
  have z:∀x∈rows r,x.2=[]:=fun x hx=>by
   have:=List.filter_eq_nil_iff.mp e x hx;unfold Bk.ne at this;simpa using this
  have z0:=z (0,r.take.map fI) (by simp [rows]);have z1:=z (1,r.keep.map fI) (by simp [rows])
  exact h.hd (VK.mp z0) (VK.mp z1)
 have LW:=fun L=>jX (L:=L) (mk:=[59]) hne (fun x hx=>(W.no (by decide +kernel) (by decide) (h.part (hO hx).1).1).1) PC
 unfold fo bJ;simp_arith [u7,zx,v8,cN,show S "rule"=Bk.gj from rfl,lx r.title (TU ht.2 (by decide)),h.t];rw [show iH true (.lst ((dW r).map .str)) (some 3) none (.aP []::L)=.ok (.lst ((glue [59] ((gn r).map gK)).map .str)) (.aP []::L) from JU (by simp;unfold lim;omega)];simp_arith [LW];generalize ho:forL _ _ _ _ _ _=o;have h2:=bw ho (gn r) (fun x=>bh (gK x)) (fun q φ L'=>∃done m o4 o5,done++q=gn r/\(∀y∈q,m<=y.1)/\φ=[some (.lst ((dW r).map .str)),some (.str r.title),some (.ref L.length),some (.int (m:Nat)),o4,o5]/\L'=.aP (done.map eL)::L)
  (fun o=>∃o3 o4 o5,o=.nx [some (.lst ((dW r).map .str)),some (.str r.title),some (.ref L.length),o3,o4,o5] (.aP ((gn r).map eL)::L)) rfl ⟨[],0,none,none,rfl,fun _ _=>Uj _,rfl,rfl⟩ (fun _ _ eJ eP x q φ L' hh=>by
   obtain⟨done,m,o4,o5,e1,hm,rfl,rfl⟩:=hh;refine⟨sv,_,rfl,?_⟩;have PD:x∈gn r:=by rw [<- e1];simp
   obtain⟨x1,x2,x3⟩:=hO PD;have hs:=zG r
   rw [<- e1,TS,TC,List.pairwise_append,Vy] at hs;obtain⟨_,⟨hq,_⟩,hd⟩:=hs;obtain⟨t,w1,w2⟩:=JV (L:=.aP (done.map eL)::L) (hm x To) x2;have w3:=JW (L:=.aP (done.map eL)::L) x2
   unfold bJ at w1 w3;have R9:aI [bh (gK x),.int 0] (.aP (done.map eL)::L)=.ok (.str (wordAt x.1)) (.aP (done.map eL)::L):=eK (gK x) 0 _
   have hlen:=TU (rh (m:=[59]) ((gn r).map gK) _ (Tz.mpr ⟨x,PD,rfl⟩)) PC;have hlen:(glue [44] (x.2.map (·.tp))).length<=20000:=Nat.le_of_succ_le hlen
   have CL:iH true (bh (gK x)) (some 1) none (.aP (done.map eL)::L)=.ok (.lst ((glue [44] (x.2.map (·.tp))).map .str)) (.aP (done.map eL)::L):=tJ (by simp;unfold lim;omega);have Mn:done.length<lim:=by
    have z:done.length<=(gn r).length:=by rw [<- e1];simp
    have:(gn r).length<=5:=VU _ _;unfold lim;omega
   have sG:dput (done.map eL) (.str (wordAt x.1)) (wO x)=(done++[x]).map eL:=by
    rw [eT,TS];rfl;intro p hp e;obtain⟨y,hy,rfl⟩:=Tz.mp hp;have:=Bk.iU (hO (by rw [<- e1];exact TF _ hy)).2.1 x2 (T.str.inj (show T.str (wordAt y.1)=T.str (wordAt x.1) from e))
    have:=hd y.1 (TZ hy) x.1 To;omega
   simp_arith [eJ,eP,R9,w1,w2,w3,CL,Gx h x x1 x3 hlen,i8,Mn,pE,and_self,sG];exact⟨done++[x],x.1+1,_,_,by simpa using e1,fun y hy=>hq y.1 (TZ hy),rfl,rfl⟩)
  fun φ L' hh=>by
   obtain⟨done,m,o4,o5,e1,hm,rfl,rfl⟩:=hh;rw [T4] at e1;rw [e1];exact⟨sv,_,_,_,rfl⟩
 obtain⟨o3,o4,o5,rfl⟩:=h2;have n0:=zH (r:=r) (x:=(0,r.take.map fI)) (by simp [rows]) L
 have n1:=zH (r:=r) (x:=(1,r.keep.map fI)) (by simp [rows]) L;simp only [VK] at n0 n1;simp_arith [show S "take"=wordAt 0 from rfl,show S "keep"=wordAt 1 from rfl,n0,n1];by_cases h0:r.take=[]
 ·simp_arith [h0,h.hd h0,decide_true,decide_false,VC,Wb,if_true,if_false]
  exact zD rfl (tH _ _ fun x hx=>Dr _ x (hO hx).1)
 ·simp_arith [h0,decide_false,VC,Wb,if_true,if_false]
  exact zD rfl (tH _ _ fun x hx=>Dr _ x (hO hx).1)
theorem iF {p:Cs} {ts:List Cs} (h:W Di p ts) (L:aa) (hp:p.length<=20000):dG [.str p] L=.ok (.lst (ts.map .str)) L:=by
 have z:=h.tk (by decide +kernel) (r:=[]) (fun c h=>nomatch h) .nil;rw [T4,T4] at z;unfold dG gq;simp_arith [zw L hp z];exact fin_same (aj fun _ _=>rfl)
theorem zI {L:aa} {c c' d d' t:T} (h:lt (L.length+2) c'=true) (h':lt (L.length+2) d'=true) (ht:lt (L.length+2) t=true):fin (d::c::L) t (d'::c'::L)=.ok t (d'::c'::L):=Dp (Ln:=[]) rfl (JS h h') ht
theorem ro (ks:List Kd) (rs:List Rl) (k:Kd) (ok:aK k.n=true/\k.c<=4) (hn:k.n∉ks.map (·.n)) (hz:ks.length<20000) (L:aa) :
  cR [.ref L.length,.ref (L.length+1),.str (Bk.ar k)] (.lst (rs.map aO) :: .lst (ks.map kT)::L)=.ok .cb (.lst (rs.map aO) :: .lst ((ks++[k]).map kT)::L):=by
 obtain⟨w,hl⟩:=Bk.jS ok;have h0:((if k.l=true then Bk.cg else Bk.cf) == Bk.gj)=false:=by cases k.l <;> rfl
 unfold cR cN;simp_arith [iF w _ (TU hl (by decide)),show ∀L,ix (.lst ((qL k).map .str)) (.int 0) L=.ok (.str (if k.l=true then Bk.cg else Bk.cf)) L from fun _=>Gr,show S "rule"=Bk.gj from rfl,h0,Gy k ok];rw [bf (k:=stays (.ref L.length) (.lst (rs.map aO) :: .lst (ks.map kT)::L)) rfl ks kT (fun k=>.str k.n) (by simp_arith) (by exact ai) (by unfold lim;omega) (by exact fun b _=>by simp_arith)];have rO:=Cf (x:=k.n) (ys:=ks.map (·.n)) (L:=.lst (rs.map aO) :: .lst (ks.map kT)::L)
 rw [Ud,decide_eq_false hn] at rO;simp_arith [show(T.lst (ks.map fun k=>.str k.n))=.lst (ks.map (T.str ∘ fun k=>k.n)) from rfl,rO,aR (show ks.length<lim by unfold lim;omega),bg];exact zI (aj qV) (aj pz) rfl
theorem rp (ks:List Kd) (rs:List Rl) {r:Rl} (h:mS ks r) (hn:r.title∉rs.map (·.title)) (hz:rs.length<20000) (L:aa) :
  cR [.ref L.length,.ref (L.length+1),.str (Bk.bR r)] (.lst (rs.map aO) :: .lst (ks.map kT)::L)=.ok .cb (.lst ((rs++[r]).map aO) :: .lst (ks.map kT)::L):=by
 obtain⟨w,hl⟩:=h.line;have jH:(dW r).length<=20000:=by
  have z:=(w.tk (by decide +kernel) (r:=[]) (fun c h=>nomatch h) .nil).len;rw [T4,T4] at z;omega
 unfold cR cN;simp_arith [iF w _ (TU hl (by decide)),show ∀L,ix (.lst ((dW r).map .str)) (.int 0) L=.ok (.str Bk.gj) L from fun _=>Gr,show S "rule"=Bk.gj from rfl,rm h jH];rw [bf (k:=stays (.ref (L.length+1)) (.lst (rs.map aO) :: .lst (ks.map kT)::L)) rfl rs aO (fun k=>.str k.title) (by simp_arith) (by exact ai) (by unfold lim;omega) (by exact fun b _=>by simp_arith)];have rO:=Cf (x:=r.title) (ys:=rs.map (·.title)) (L:=.lst (rs.map aO) :: .lst (ks.map kT)::L)
 rw [Ud,decide_eq_false hn] at rO;simp_arith [show(T.lst (rs.map fun k=>.str k.title))=.lst (rs.map (T.str ∘ fun k=>k.title)) from rfl,rO,tL h,aR (show rs.length<lim by unfold lim;omega),bg];exact zI (aj qV) (aj pz) rfl
end dn
namespace dn
open PySem M
open kz (bH ah aN)
open Bk (Fc Kd Lk Rl aK great ax opens bW ak mS KG aD ar bR)
theorem GB {ps:List (T × T)} (h:(ps.map (·.1)).Nodup):pU ps=ps:=by
 have key:∀(r d:List (T × T)),((d++r).map (·.1)).Nodup->r.foldl (fun acc p=>dput acc p.1 p.2) d=d++r:=by
  intro r;induction r with
  | nil=>intro d _;simp
  | cons p r ih =>
   intro d hn;rw [XA,eT,ih,T8];rfl
   ·rw [T8];exact hn
   ·intro q hq e
    rw [TS,UX] at hn;exact hn.2.2 _ (TZ hq) _ (TZ To) e
 exact key ps [] h
theorem JX {α:Type} {g h:α->T} (l:List α):prsOf (l.map fun x=>.tup [g x,h x])=some (l.map fun x=>(g x,h x)):=by
 induction l with
 | nil=>rfl
 | cons x l ih=>simp only [TC,prsOf,ih]
theorem tM {α:Type} {g:α->Cs} {h:α->T} (l:List α) (hn:(l.map g).Nodup) (hl:l.length<=100000) (L:aa):w4 (l.map fun x=>.tup [.str (g x),h x]) L=.ok (.ref L.length) (.aP (l.map fun x=>(.str (g x),h x))::L):=by
 have e:(l.map fun x=>(T.str (g x),h x)).map (·.1)=l.map fun x=>T.str (g x):=by simp
 have hm:fW (l.map fun x=>T.str (g x))=true:=by
  unfold fW;rw [Wk];exact .inl (by simp [jI])
 unfold w4;rw [JX];simp only [];rw [GB (by rw [e];exact GA hn),e,aR ⟨hm,by simpa using hl⟩]
theorem fB (ks:List Kd) (fs:List Fc) (x:T) (L:aa) (hx:vw L x=.lst (ks.map kT)) (hn:(ks.map (·.n)).Nodup) (hk:ks.length<=20000) (hf:∀f∈fs,ak ks f) :
  bP [x,.lst (fs.map fT)] L=.ok .cb L:=by
 unfold bP;simp_arith;rw [bf (k:=stays x L) rfl ks kT (fun k=>.tup [.str k.n,.int k.c]) (by simp only [uS,FJ,VD,VQ,dA,aJ,items,hx]) (by exact ai) (by unfold lim;omega) (by exact fun b _=>by simp_arith)];simp_arith [lC,tM (g:=fun k:Kd=>k.n) (h:=fun k=>.int k.c) ks hn (by omega)];generalize ho:forL _ _ _ _ _ _=o;have h2:=bw ho fs fT (fun r φ L'=>∃o3,(∀f∈r,ak ks f)/\φ=[some x,some (.lst (fs.map fT)),some (.ref L.length),o3]/\L'=.aP (ks.map fun k=>(.str k.n,.int k.c))::L)
  (fun o=>∃φ,o=.nx φ (.aP (ks.map fun k=>(.str k.n,.int k.c))::L)) rfl ⟨none,hf,rfl,rfl⟩ (fun _ _ eJ eP f r φ L' hh=>by
   obtain⟨o3,hr,rfl,rfl⟩:=hh;obtain⟨k,hk,e1,e2⟩:=hr f To;refine⟨sv,_,rfl,?_⟩;have hg:=zE (g:=fun k:Kd=>k.n) (h:=fun k=>T.int k.c) hn hk
   rw [e1] at hg;have hfit:dq (ks.map fun k=>(T.str k.n,T.int k.c)) (.str f.k):=rf (g:=fun k:Kd=>k.n) (h:=fun k=>T.int k.c) ks f.k
   have i1:mW (.str f.k) (.ref L.length) (.aP (ks.map fun k=>(.str k.n,.int k.c))::L)=.ok true (.aP (ks.map fun k=>(.str k.n,.int k.c))::L):=by
    unfold mW;simp only [gZ,cY,dX];rw [aR hfit,hg];rfl
   have i2:ix (.ref L.length) (.str f.k) (.aP (ks.map fun k=>(.str k.n,.int k.c))::L)=.ok (.int k.c) (.aP (ks.map fun k=>(.str k.n,.int k.c))::L):=by
    unfold ix;simp only [gZ,cY,dX];rw [aR hfit,hg];rfl
   simp_arith [eJ,eP,i1,i2,show((f.as.length:Int) != (k.c:Int))=false by simp;omega];exact⟨_,fun g hg=>hr g (Tp _ hg),rfl,by trivial⟩)
  fun φ L' hh=>by
   obtain⟨o3,hr,rfl,rfl⟩:=hh;exact⟨sv,_,rfl⟩
 obtain⟨φ,rfl⟩:=h2;simp_arith;exact dY rfl
theorem iG (ls:List Cs) (fs:List Fc) (hf:∀f∈fs,f.k∉ls) (L:aa):bQ [.lst (ls.map .str),.lst (fs.map fT)] L=.ok .cb L:=by
 unfold bQ;simp_arith;generalize ho:forL _ _ _ _ _ _=o;have h2:=bw ho fs fT (fun r φ L'=>∃o3,(∀f∈r,f.k∉ls)/\φ=[some (.lst (ls.map .str)),some (.lst (fs.map fT)),o3]/\L'=L)
  (fun o=>∃φ,o=.nx φ L) rfl ⟨none,hf,rfl,rfl⟩ (fun _ _ eJ eP f r φ L' hh=>by
   obtain⟨o3,hr,rfl,rfl⟩:=hh;refine⟨sv,_,rfl,?_⟩;simp_arith [eJ,eP,decide_eq_false (hr f To)];exact⟨_,fun g hg=>hr g (Tp _ hg),rfl,by trivial⟩)
  fun φ L' hh=>by
   obtain⟨o3,hr,rfl,rfl⟩:=hh;exact⟨sv,_,rfl⟩
 obtain⟨φ,rfl⟩:=h2;simp_arith
theorem rq {f:Str->Option Fn} {F:Fn} {a:SE} {φ:Fr} {L:aa} {r:Rl} (ha:a φ L=.ok (aO r) L) (hf:f "Rule"=some F):oh "calls" f a [] φ L=F [aO r] L:=by
 unfold oh;rw [ha,aJ,vr];unfold aO;simp only [hf];rfl
theorem va (r:Rl) (L:aa):bK [aO r] L=.ok (.bl (decide (r.take=[]))) L:=by
 unfold bK;simp_arith;cases r.take with
 | nil=>rfl
 | cons a l=>rw [show(((a::l).length:Int) == 0)=false by simp;omega];simp
theorem pF (ls:List Cs) (r:Rl) (hc:r.take=[]->∀f∈r.put,f.k∈ls) (L:aa):di [.lst (ls.map .str),aO r] L=.ok .cb L:=by
 unfold di;simp only [l9,Tu,T9,Xx,if_true];simp_arith;rw [rq (r:=r) (F:=bK) rfl rfl];simp_arith [va];cases ht:r.take with
 | cons a l=>simp only [reduceCtorEq,decide_false];simp_arith
 | nil =>
  simp only [decide_true];simp_arith;generalize ho:forL _ _ _ _ _ _=o;have h2:=bw ho r.put fT (fun q φ L'=>∃o3,(∀f∈q,f.k∈ls)/\φ=[some (.lst (ls.map .str)),some (aO r),o3]/\L'=L)
   (fun o=>∃φ,o=.nx φ L) rfl ⟨none,hc ht,rfl,rfl⟩ (fun _ _ eJ eP f q φ L' hh=>by
    obtain⟨o3,hr,rfl,rfl⟩:=hh;refine⟨sv,_,rfl,?_⟩;simp_arith [eJ,eP,decide_eq_true (hr f To)];exact⟨_,fun g hg=>hr g (Tp _ hg),rfl,by trivial⟩)
   fun φ L' hh=>by
    obtain⟨o3,hr,rfl,rfl⟩:=hh;exact⟨sv,_,rfl⟩
  obtain⟨φ,rfl⟩:=h2;simp_arith
theorem zJ {L:aa} {xs ys:List T} {t:T} (ht:vw (.lst xs::L) t=.lst ys\/vw (.lst xs::L) t=.tup ys) (h:xs.length+ys.length<=lim):wY (.ref L.length) [t] (.lst xs::L)=.ok .cb (.lst (xs++ys)::L):=by
 unfold wY;simp only [cY];rcases ht with ht|ht <;> · simp only [ht];rw [aR h,tA]
theorem pG {α:Type} {k:aa->Prop} {b:SS} {o:O} {L:aa} {acc:List Cs} (xs:List α) (enc:α->T) (g:α->List Cs) (i:Nat) (F:Option T->Fr) (z:Option T)
  (ho:forL k (.one i) b (xs.map enc) (F z) (.lst (acc.map .str)::L)=o) (hl:acc.length+(xs.flatMap g).length<=20000) (hk:∀L',k L') (hF:∀z x,(F z).set i (some x)=F (some x))
  (hb:∀x∈xs,∀acc:List Cs,acc.length+(g x).length<=20000->b (F (some (enc x))) (.lst (acc.map .str)::L)=.nx (F (some (enc x))) (.lst ((acc++g x).map .str)::L)) :
  ∃z,o=.nx (F z) (.lst ((acc++xs.flatMap g).map .str)::L) :=
 bw ho xs enc (fun r φ L'=>∃z dZ,φ=F z/\L'=.lst (dZ.map .str)::L/\dZ++r.flatMap g=acc++xs.flatMap g/\∀x∈r,x∈xs) (fun o=>∃z,o=.nx (F z) (.lst ((acc++xs.flatMap g).map .str)::L)) rfl ⟨z,acc,rfl,rfl,rfl,fun _ h=>h⟩ (fun _ _ eJ eP x r φ L' hh=>by
  obtain⟨z,dZ,rfl,rfl,e,hx⟩:=hh;refine⟨hk _,_,rfl,?_⟩;rw [hF,hb x (hx x To) dZ (by have:=congrArg VV e;simp at this hl ⊢;omega),zr,eJ];exact⟨_,dZ++g x,rfl,rfl,by rw [<- e];simp,fun y hy=>hx y (Tp _ hy)⟩)
 fun φ L' hh=>by
  obtain⟨z,dZ,rfl,rfl,e,_⟩:=hh;exact⟨hk _,z,by simp at e;rw [<- e]⟩
theorem GC (r:Rl) (hl:(bW r).length<=20000) (L:aa):eG [aO r] L=.ok (.lst ((bW r).map .str)) L:=by
 have hs:bW r=(r.aH.flatMap fun k=>[k.l,k.r])++((r.put.flatMap (·.as))++(r.tell.flatMap fun p=>[p.1,p.2])):=rfl;rw [hs] at hl;simp only [Tq] at hl;unfold eG;simp_arith;generalize ho:forL _ _ _ _ _ _=o;obtain⟨z1,rfl⟩:=pG (acc:=[]) r.aH lT (fun k=>[k.l,k.r]) 2 (fun z=>[some (aO r),some (.ref L.length),z,none,none]) none ho (by simp only [T9,UH,Tq];omega) (fun _=>sv) (fun _ _=>rfl) (fun k _ acc h=>by
  simp_arith [show vw (.lst (acc.map .str)::L) (.lst [.str k.l,.str k.r])=.lst ([k.l,k.r].map .str) from rfl,zJ (L:=L) (xs:=acc.map .str) (t:=.lst [.str k.l,.str k.r]) (ys:=[k.l,k.r].map .str) (.inl rfl) (by simp at h ⊢;unfold lim;omega)];rw [TS];rfl)
 simp_arith;generalize ho:forL _ _ _ _ _ _=o;obtain⟨z2,rfl⟩:=pG (acc:=[]++r.aH.flatMap fun k=>[k.l,k.r]) r.put fT (·.as) 3 (fun z=>[some (aO r),some (.ref L.length),z1,z,none]) none ho (by simp only [T9,UH,Tq];omega) (fun _=>sv) (fun _ _=>rfl) (fun f _ acc h=>by
  simp_arith [zJ (L:=L) (xs:=acc.map .str) (t:=.tup (f.as.map .str)) (.inr rfl) (by simp at h ⊢;unfold lim;omega),<- TS])
 simp_arith;generalize ho:forL _ _ _ _ _ _=o;obtain⟨z3,rfl⟩:=pG (acc:=([]++r.aH.flatMap fun k=>[k.l,k.r])++r.put.flatMap (·.as)) r.tell pT (fun p=>[p.1,p.2]) 4 (fun z=>[some (aO r),some (.ref L.length),z1,z2,z]) none ho (by simp only [T9,UH,Tq];omega) (fun _=>sv) (fun _ _=>rfl) (fun p _ acc h=>by
  simp_arith [zJ (L:=L) (xs:=acc.map .str) (t:=pT p) (ys:=[p.1,p.2].map .str) (.inr rfl) (by simp at h ⊢;unfold lim;omega)];rw [TS];rfl)
 simp_arith;rw [hs];simp only [UH,T8];exact eV (aj fun _ _=>rfl)
theorem nj (r:Rl) (hl:(bW r).length<=20000) (hs:∀a∈bW r,ah a=true/\(great a=true->a∈opens (r.take++r.keep))) (L:aa):dH [aO r] L=.ok .cb L:=by
 unfold dH;simp_arith [GC r hl];generalize ho:forL _ _ _ _ _ _=o;have h2:=bw ho (bW r) T.str (fun q φ L'=>∃o3,(∀a∈q,a∈bW r)/\φ=[some (aO r),o3]/\L'=L)
  (fun o=>∃φ,o=.nx φ L) rfl ⟨none,fun _ h=>h,rfl,rfl⟩ (fun _ _ eJ eP f q φ L' hh=>by
   obtain⟨o3,hr,rfl,rfl⟩:=hh;have hm:=hr f To
   refine⟨sv,_,rfl,?_⟩;simp_arith [eJ,eP,eI f (ax (hs f hm).1).1];cases hg:great f with
   | true=>simp_arith [eJ,eP,decide_eq_true ((hs f hm).2 hg)];exact⟨_,fun g hg=>hr g (Tp _ hg),rfl,by trivial⟩
   | false=>simp_arith [eJ,eP];exact⟨_,fun g hg=>hr g (Tp _ hg),rfl,by trivial⟩)
  fun φ L' hh=>by
   obtain⟨o3,hr,rfl,rfl⟩:=hh;exact⟨sv,_,rfl⟩
 obtain⟨φ,rfl⟩:=h2;simp_arith
mutual
theorem rz {n m:Nat} (h:n<=m):∀{t:T},lt n t=true->lt m t=true
 | .ref k,e=>by rw [lt] at e ⊢;exact decide_eq_true (by have:=of_decide_eq_true e;omega)
 | .tup xs,e=>by rw [lt] at e ⊢;exact tN h e
 | .lst xs,e=>by rw [lt] at e ⊢;exact tN h e
 | .aP ks,e=>by rw [lt] at e ⊢;exact zK h e
 | .obj _ fs,e=>by rw [lt] at e ⊢;exact zL h e
 | .cb,_=>rfl
 | .bl _,_=>rfl
 | .int _,_=>rfl
 | .str _,_=>rfl
 | .cl _,_=>rfl
theorem tN {n m:Nat} (h:n<=m):∀{t:List T},cT n t=true->cT m t=true
 | [],_=>rfl
 | x::xs,e=>by rw [cT,Tw] at e ⊢;exact⟨rz h e.1,tN h e.2⟩
theorem zK {n m:Nat} (h:n<=m):∀{t:List (T × T)},Aq n t=true->Aq m t=true
 | [],_=>rfl
 | (x,y)::xs,e=>by rw [Aq,Tw,Tw] at e ⊢;exact⟨⟨rz h e.1.1,rz h e.1.2⟩,zK h e.2⟩
theorem zL {n m:Nat} (h:n<=m):∀{t:List (Str × T)},mX n t=true->mX m t=true
 | [],_=>rfl
 | (x,y)::xs,e=>by rw [mX,Tw] at e ⊢;exact⟨rz h e.1,zL h e.2⟩
end
theorem tQ (a b:T) (L:aa) (ha:lt L.length a=true) (hb:lt L.length b=true):tD [a,b] L=.ok (.obj "Book" [("kinds",a),("rules",b)]) L:=by
 have up:∀{t:T},lt L.length t=true->lt (L.length+1) t=true:=rz (VJ _);unfold tD make g9;simp_arith [rU,bO (fs:=[]) (f:="kinds") (by rfl),bO (fs:=[("kinds",a)]) (f:="rules") (by rfl),UH,Nat.reduceLT];rw [mF (by simp [lt,mX,up ha,up hb]) rfl];simp_arith;exact eV (by simp [lt,mX,ha,hb])
theorem Cn {ks:List Kd} {rs:List Rl} (hG:KG ks) (hg:∀r∈rs,mS ks r) (L:aa) :
  eH [.ref L.length,.ref (L.length+1)] (.lst (rs.map aO) :: .lst (ks.map kT)::L)=.ok (.obj "Book" [("kinds",.ref L.length),("rules",.ref (L.length+1))]) (.lst (rs.map aO) :: .lst (ks.map kT)::L):=by
 have hk:ks.length<=20000:=by rw [hG.len];decide
 unfold eH;simp_arith;rw [cZ (k:=stays (.ref L.length) (.lst (rs.map aO) :: .lst (ks.map kT)::L)) rfl ks kT (·.l) (fun k=>.str k.n) (by simp_arith) (by exact ai) (by unfold lim;omega) (by exact fun b _=>by simp_arith) (by exact fun b _ _=>by simp_arith)];simp_arith;generalize ho:forL _ _ _ _ _ _=o;have Co:((ks.filter (·.l)).map fun k=>T.str k.n)=((ks.filter (·.l)).map (·.n)).map T.str:=by simp
 rw [Co] at ho;have h2:=bw ho rs aO (fun q φ L'=>∃o3,(∀r∈q,r∈rs)/\φ=[some (.ref L.length),some (.ref (L.length+1)),some (.lst (((ks.filter (·.l)).map (·.n)).map T.str)),o3]/\L'=.lst (rs.map aO) :: .lst (ks.map kT)::L)
  (fun o=>∃o2 o3,o=.nx [some (.ref L.length),some (.ref (L.length+1)),o2,o3] (.lst (rs.map aO) :: .lst (ks.map kT)::L)) rfl ⟨none,fun _ h=>h,rfl,rfl⟩ (fun _ _ eJ eP r q φ L' hh=>by
   obtain⟨o3,hq,rfl,rfl⟩:=hh;have g:=hg r (hq r To)
   refine⟨ai,_,rfl,?_⟩;obtain⟨f1,f2,f3,f4,f5⟩:=g.uu;have hs:(bW r).length<=20000:=by
    have z1:=Bk.fP (l:=r.aH) (g:=fun k=>[k.l,k.r]) (B:=2) fun _ _=>TK 2
    have z2:=Bk.fP (l:=r.put) (g:=(·.as)) (B:=4) fun f hf=>(g.f f (TQ _ hf)).1.n
    have z3:=Bk.fP (l:=r.tell) (g:=fun p=>[p.1,p.2]) (B:=2) fun _ _=>TK 2
    unfold bW;rw [Tq,Tq];omega
   have ct:∀L,bQ [.lst (((ks.filter (·.l)).map (·.n)).map T.str),_] L=_:=iG _ _ g.takes;have cc:∀L,di [.lst (((ks.filter (·.l)).map (·.n)).map T.str),_] L=_:=pF _ r g.calls
   have PF:=fB ks (r.take++r.keep++r.put) (.ref L.length) (.lst (rs.map aO) :: .lst (ks.map kT)::L) (by simp_arith [eJ,eP]) hG.nd hk fun f hf=>(g.f f hf).2
   rw [TS,TS] at PF;simp_arith [eJ,eP,Tq,aR (show r.take.length+r.keep.length<=lim by unfold lim;omega),aR (show r.take.length+r.keep.length+r.put.length<=lim by unfold lim;omega),PF,ct,cc,nj r hs g.Nk];exact⟨_,fun r hr=>hq r (Tp _ hr),rfl,by trivial⟩)
  fun φ L' hh=>by
   obtain⟨o3,hq,rfl,rfl⟩:=hh;exact⟨ai,_,_,rfl⟩
 obtain⟨o2,o3,rfl⟩:=h2;simp_arith [tQ (.ref L.length) (.ref (L.length+1)) (.lst (rs.map aO) :: .lst (ks.map kT)::L) (by simp [lt];omega) (by simp [lt])];exact fin_same (by simp [lt,mX];omega)
theorem zM {ks:List Kd} {rs:List Rl} {L:aa}:fin L (.obj "Book" [("kinds",.ref L.length),("rules",.ref (L.length+1))]) (.lst (rs.map aO) :: .lst (ks.map kT)::L)=.ok (jw ks rs) L:=by
 unfold fin;have e:(T.lst (rs.map aO) :: .lst (ks.map kT)::L).drop ((T.lst (rs.map aO) :: .lst (ks.map kT)::L).length - L.length)=L:=by
  rw [show(T.lst (rs.map aO) :: .lst (ks.map kT)::L).length - L.length=2 by simp only [Tu];omega];rfl
 rw [e,if_pos (fS L)];unfold bU;rw [if_neg (by simp [lt,mX])];have e1:bU L.length (.lst (rs.map aO) :: .lst (ks.map kT)::L) 8 (.ref L.length)=some (.lst (ks.map kT)):=by
  unfold bU;rw [if_neg (by simp [lt])];simp only [mz];unfold bU;rw [if_pos (aj qV)]
 have e2:bU L.length (.lst (rs.map aO) :: .lst (ks.map kT)::L) 8 (.ref (L.length+1))=some (.lst (rs.map aO)):=by
  unfold bU;rw [if_neg (by simp [lt])];simp only [wq];unfold bU;rw [if_pos (aj pz)]
 simp [VF,e1,e2,lift,jw]
theorem rA {ks:List Kd} {rs:List Rl} (hG:KG ks) (hr:rs.length<=2) (hg:∀r∈rs,mS ks r) (hn:(rs.map (·.title)).Nodup) (L:aa) :
  dR [.str (jn [10] (ks.map ar++rs.map bR))] L=.ok (jw ks rs) L:=by
 have h4:=hG.len;have hl:∀l∈ks.map ar++rs.map bR,10∉l/\l.length<=20000/\∃c r,l=c::r/\c≠32/\c≠35:=fun l hl=>by
  rcases TL.mp hl with h|h
  ·obtain⟨k,hk,rfl⟩:=Tz.mp h
   obtain⟨w,hz⟩:=Bk.jS (hG.ok k hk);refine⟨(w.no (by decide +kernel) (by decide)).2 (by decide),TU hz (by decide),?_⟩;unfold ar;cases k.l
   ·exact⟨112,_,rfl,by decide,by decide⟩
   ·exact⟨108,_,rfl,by decide,by decide⟩
  ·obtain⟨r,hr,rfl⟩:=Tz.mp h
   obtain⟨w,hz⟩:=(hg r hr).line;exact⟨(w.no (by decide +kernel) (by decide)).2 (by decide),TU hz (by decide),114,_,rfl,by decide,by decide⟩
 have ne:ks.map ar++rs.map bR≠[]:=fun e=>by
  have:=congrArg VV e;simp [h4] at this
 have en:(ks.map ar++rs.map bR).map T.str=(ks.map Sum.inl++rs.map Sum.inr).map fun x:Kd ⊕ Rl=>.str (x.elim ar bR):=by
  rw [TS,TS,Ud,Ud,Ud,Ud];rfl
 unfold dR;simp_arith [Cj _ ne (by rw [Tq,Lm9,Lm9];omega) hl,en];generalize hT:jn [10] (ks.map ar++rs.map bR)=tx;generalize ho:forL _ _ _ _ _ _=o;have h2:=bw ho (ks.map Sum.inl++rs.map Sum.inr) _ (fun q φ L'=>∃dk k' dr r' o3,q=k'.map Sum.inl++r'.map Sum.inr/\dk++k'=ks/\dr++r'=rs/\φ=[some (.str tx),some (.ref L.length),some (.ref (L.length+1)),o3]/\L'=.lst (dr.map aO) :: .lst (dk.map kT)::L)
  (fun o=>∃o3,o=.nx [some (.str tx),some (.ref L.length),some (.ref (L.length+1)),o3] (.lst (rs.map aO) :: .lst (ks.map kT)::L)) rfl ⟨[],ks,[],rs,none,rfl,rfl,rfl,rfl,rfl⟩ (fun _ _ eJ eP x q φ L' hh=>by
   obtain⟨dk,k',dr,r',o3,e0,e1,e2,rfl,rfl⟩:=hh;refine⟨sv,_,rfl,?_⟩;cases k' with
   | cons k k' =>
    obtain⟨rfl,e9⟩:=Vp e0;have nn:=hG.nd
    rw [<- e1,TS,TC,UX] at nn;rw [<- e1,Tq] at h4;simp_arith [eJ,eP,Sum.elim_inl,ro dk dr k (hG.ok k (by rw [<- e1];simp)) (fun z=>nn.2.2 _ z _ To rfl) (by omega) L];exact⟨dk++[k],k',dr,r',_,e9,by simpa using e1,e2,rfl,rfl⟩
   | nil =>
    cases r' with
    | nil=>cases e0
    | cons r r' =>
     obtain⟨rfl,e9⟩:=Vp e0;rw [T4] at e1;subst e1;rw [<- e2,TS,TC,UX] at hn;rw [<- e2,Tq] at hr;simp_arith [eJ,eP,Sum.elim_inr,rp dk dr (hg r (by rw [<- e2];simp)) (fun z=>hn.2.2 _ z _ To rfl) (by omega) L];exact⟨dk,[],dr++[r],r',_,e9,T4 _,by simpa using e2,rfl,rfl⟩)
  fun φ L' hh=>by
   obtain⟨dk,k',dr,r',o3,e0,e1,e2,rfl,rfl⟩:=hh;obtain⟨z1,z2⟩:=List.append_eq_nil_iff.mp e0.symm;rw [VK.mp z1,T4] at e1;rw [VK.mp z2,T4] at e2;rw [e1,e2];exact⟨sv,_,rfl⟩
 obtain⟨o3,rfl⟩:=h2;simp_arith [Cn hG hg L];exact zM
end dn
namespace dn
open PySem M
open kz (bH ah aN)
open Bk (Fc Kd Lk Rl aK great opens bW ak aD KG iA nameOf lq wN zi dC)
theorem pH (ns:List Int) (k:Int) (hk:0<=k) (L:aa):aZ [.lst (ns.map .int),.int k] L=.ok (.int (ns.getD k.toNat 0)) L:=by
 unfold aZ;simp_arith;by_cases h:k<ns.length
 ·have e:(ns.map T.int)[k.toNat]?=some (.int (ns.getD k.toNat 0)):=by
   have:k.toNat<ns.length:=by omega
   simp [Gd9,this]
  simp_arith [h,decide_true,uT hk e]
 ·simp_arith [h,decide_false]
  simp [Gd9,Vv (show ns.length<=k.toNat by omega)]
noncomputable def dg:Int->List Int->List Nat
 | _,[]=>[]
 | n,m::ms=>(n % m).toNat::dg (n / m) ms
theorem n7:∀(n:Int) (ms:List Int),(∀m∈ms,0<m/\m<1073741824)->Paired (fun(m:Int) (d:Nat)=>(d:Int)<m) ms (dg n ms)
 | _,[],_=>.nil
 | n,m::ms,h=>.cons (by
   have:=h m To;have h1:=V3 n (show m≠0 by omega)
   have h2:=VT n this.1;omega) (n7 (n / m) ms fun x hx=>h x (Tp _ hx))
theorem kh (c:Int) (ms:List Int) (hm:∀m∈ms,0<m/\m<1073741824) (hl:ms.length<=100):∃ds:List Nat,Paired (fun(m:Int) (d:Nat)=>(d:Int)<m) ms ds/\∀L,av [.int c,.lst (ms.map .int)] L=.ok (.lst (ds.map fun d=>.int (d:Nat))) L:=by
 refine⟨dg (c % 2147483647 * 48271 % 2147483647) ms,n7 _ _ hm,fun L=>?_⟩;unfold av;simp_arith;generalize ho:forL _ _ _ _ _ _=o;have h:=bw ho ms T.int (fun r φ L'=>∃(n:Int) (done:List Nat) (o4:Option T),done++dg n r=dg (c % 2147483647 * 48271 % 2147483647) ms/\(∀m∈r,0<m/\m<1073741824)/\done.length+r.length<=100/\φ=[some (.int c),some (.lst (ms.map .int)),some (.int n),some (.ref L.length),o4]/\L'=.lst (done.map fun d=>.int (d:Nat))::L)
  (fun o=>∃o2 o4,o=.nx [some (.int c),some (.lst (ms.map .int)),o2,some (.ref L.length),o4] (.lst ((dg (c % 2147483647 * 48271 % 2147483647) ms).map fun d=>.int (d:Nat))::L)) rfl ⟨_,[],none,rfl,hm,by simpa using hl,rfl,rfl⟩ (fun _ _ eJ eP m r φ L' hh=>by
   obtain⟨n,done,o4,e1,h1,h2,rfl,rfl⟩:=hh;obtain⟨m1,m2⟩:=h1 m To;have h0:=V3 n (show m≠0 by omega)
   refine⟨sv,_,rfl,?_⟩;simp only [Tu] at h2;simp_arith [eJ,eP,m1,m2,aR (show done.length<lim by unfold lim;omega),show T.int (n % m)=(fun d:Nat=>T.int (d:Int)) (n % m).toNat by simp only [Int.toNat_of_nonneg h0],bg (fun d:Nat=>T.int (d:Int))];exact⟨n / m,done++[(n % m).toNat],_,by rw [<- e1];simp [dg],fun x hx=>h1 x (Tp _ hx),by simp;omega,rfl,rfl⟩)
  fun φ L' hh=>by
   obtain⟨n,done,o4,e1,h1,h2,rfl,rfl⟩:=hh;have e:dg (c % 2147483647 * 48271 % 2147483647) ms=done:=by rw [<- e1];simp [dg]
   rw [e];exact⟨sv,_,_,rfl⟩
 obtain⟨o2,o4,rfl⟩:=h;simp_arith;exact eV (aj fun _ _=>rfl)
theorem JY (s:Int):∃a b:Nat,a+b<=4/\∀k:Int,0<=k->k<8->∀L,a8 [.int s,.int k] L=.ok (.str (nameOf a b k.toNat)) L:=by
 have h1:=V3 s (show(5:Int)≠0 by decide);have h2:=VT s (show(0:Int)<5 by decide)
 have h3:=V3 (s / 5) (show 1+s % 5≠0 by omega);have h4:=VT (s / 5) (show 0<1+s % 5 by omega)
 refine⟨(s / 5 % (1+s % 5)).toNat,(1+s % 5 - 1 - s / 5 % (1+s % 5)).toNat,by omega,fun k k1 k2 L=>?_⟩;have hx:ix (.str (S "abcdefgh")) (.int k) L=.ok (.str [Bk.jU.getD k.toNat 0]) L:=by
  rw [tj k1 (show k<((S "abcdefgh").length:Int) from k2)];rfl
 unfold a8;simp_arith [show 0<1+s % 5 by omega,hx,show S "m"=[109] from rfl];generalize s / 5 % (1+s % 5)=a at *
 generalize s % 5=q at *
 simp_arith [hx,show(-4611686018427387904:Int)<=a by omega,show a<=1000000 by omega,show(-4611686018427387904:Int)<=1+q - 1 - a by omega,show 1+q - 1 - a<=1000000 by omega];rw [aC (by simp;unfold lim;omega)];simp_arith;rw [aC (by simp;unfold lim;omega)];simp_arith;simp [nameOf]
noncomputable def dw:Int->Nat->List Cs->List Cs
 | _,0,_=>[]
 | n,m+1,as=>as.getD (n % as.length).toNat []::dw (n / as.length) m as
theorem zN:∀(m:Nat) (n:Int) (as:List Cs),(dw n m as).length=m
 | 0,_,_=>rfl
 | m+1,n,as=>by simp [dw,zN m]
theorem md {n:Int} {l:Nat} (h:1<=l):0<=n % (l:Int)/\(n % (l:Int)).toNat<l:=by
 have h1:=V3 n (show(l:Int)≠0 by omega);have h2:=VT n (show(0:Int)<l by omega)
 omega
theorem Dt:∀(m:Nat) (n:Int) (as:List Cs),1<=as.length->∀a∈dw n m as,a∈as
 | 0,_,_,_,a,h=>by cases h
 | m+1,n,as,hl,a,h=>by
  rcases TJ.mp h with rfl|h
  ·have:=(md (n:=n) hl).2
   rw [Gd9,Ge9 this];exact TN _
  ·exact Dt m _ as hl a h
theorem zO {α:Type} {g:α->T} {l:List α} {n:Int} {d:α} (h:1<=l.length) (L:aa):ix (.lst (l.map g)) (.int (n % (l.length:Int))) L=.ok (g (l.getD (n % l.length).toNat d)) L:=by
 have:=md (n:=n) h;exact uT this.1 (by rw [TX,Gd9,Ge9 this.2];rfl)
theorem gz (ks:List Kd) (as:List Cs) (n:Int) (hk:1<=ks.length) (pV:ks.length<=100) (hc:∀k∈ks,k.c<=4) (ha:1<=as.length) (Hx:as.length<=100) :
  ∃f,iA ks as f/\∀L,aE [.lst (ks.map kT),.int n,.lst (as.map .str)] L=.ok (fT f) L:=by
 have hi:=(md (n:=n) hk).2;have NZ:ks.getD (n % ks.length).toNat ⟨[],0,false⟩∈ks:=by
  rw [Gd9,Ge9 hi];exact TN _
 have hx:=fun L=>zO (g:=kT) (n:=n) (d:=⟨[],0,false⟩) hk L
 generalize ks.getD (n % ks.length).toNat ⟨[],0,false⟩=k at NZ hx;refine⟨⟨k.n,dw (n / ks.length) k.c as⟩,⟨⟨k,NZ,rfl,zN _ _ _⟩,Dt _ _ _ ha⟩,fun L=>?_⟩;have Sa:=hc k NZ
 have Sb:rR 0/\rR (k.c:Int):=⟨j8 (n:=0) (by decide),j8 (by omega)⟩;have hr:∀(φ:Fr) (L':aa),φ[3]?=some (some (kT k))->rS (c (.int 0)) (vi 3 1) φ L'=.ok (M.upTo 0 ((k.c:Int) - 0).toNat,fun _=>True) L':=fun φ L' h=>u0 _ _ _ _ rfl (by simp only [JN,IZ,FJ,h,VQ,dA,aJ,Pw,PB]) Sb
 have hy:=fun n' L=>zO (g:=T.str) (l:=as) (n:=n') (d:=[]) ha L
 have Sd:∀n' m,dw n' (m+1) as=as.getD (n' % as.length).toNat []::dw (n' / as.length) m as:=fun _ _=>rfl
 unfold aE;simp_arith [show(0:Int)<ks.length by omega,show(ks.length:Int)<1073741824 by omega,hx,hr];generalize ho:forL _ _ _ _ _ _=o;have h:=bw ho (UE k.c) (fun j:Nat=>T.int (0+(j:Int))) (fun r φ L'=>∃(n':Int) (done:List Cs) (o5:Option T),done++dw n' r.length as=dw (n / ks.length) k.c as/\done.length+r.length<=4/\φ=[some (.lst (ks.map kT)),some (.int n'),some (.lst (as.map .str)),some (kT k),some (.ref L.length),o5]/\L'=.lst (done.map .str)::L)
  (fun o=>∃o1 o5,o=.nx [some (.lst (ks.map kT)),o1,some (.lst (as.map .str)),some (kT k),some (.ref L.length),o5] (.lst ((dw (n / ks.length) k.c as).map .str)::L)) (by simp [M.upTo]) ⟨n / ks.length,[],none,by simp,by simpa using Sa,rfl,rfl⟩ (fun _ _ eJ eP j r φ L' hh=>by
   obtain⟨n',done,o5,e1,e2,rfl,rfl⟩:=hh;refine⟨trivial,_,rfl,?_⟩;simp only [Tu] at e1 e2;simp_arith [eJ,eP,show(0:Int)<as.length by omega,show(as.length:Int)<1073741824 by omega,hy,aR (show done.length<lim by unfold lim;omega),bg];exact⟨n' / as.length,done++[as.getD (n' % as.length).toNat []],_,by rw [<- e1,Sd];simp,by simp;omega,rfl,rfl⟩)
  fun φ L' hh=>by
   obtain⟨n',done,o5,e1,e2,rfl,rfl⟩:=hh;have e:dw (n / ks.length) k.c as=done:=by rw [<- e1];simp [dw]
   rw [e];exact⟨trivial,_,_,rfl⟩
 obtain⟨o1,o5,rfl⟩:=h;simp_arith;exact dY (by simp [lt,cT,jx])
theorem JZ {α:Type} {xs:List α} {n:Nat}:cut xs (some (n:Int)) none=xs.drop n:=by
 unfold cut clip;simp only [];rw [if_neg (by omega),show((n:Int)).toNat=n by omega];by_cases h:n<=xs.length
 ·rw [Nat.min_eq_left h,UA (by simp)]
 ·rw [Nat.min_eq_right (by omega),We (TK _),We (show xs.length<=n by omega)];simp
theorem Du {α:Type} {xs:List α} {n:Nat}:cut xs none (some (n:Int))=xs.take n:=by
 unfold cut clip;simp only [Y8,Nat.sub_zero];rw [if_neg (by omega),show((n:Int)).toNat=n by omega];by_cases h:n<=xs.length
 ·rw [Nat.min_eq_left h]
 ·rw [Nat.min_eq_right (by omega),UA (TK _),UA (by omega)]
theorem Ka {xs:List T} {n:Nat} {L:aa} (h:xs.length<=lim):iH true (.lst xs) (some (n:Int)) none L=.ok (.lst (xs.drop n)) L:=by
 show eO true (cut xs (some (n:Int)) none) L=_;rw [JZ,eO,aC (by simp;omega)];rfl
theorem mI {xs:List T} {n:Nat} {L:aa} (h:xs.length<=lim):iH true (.lst xs) none (some (n:Int)) L=.ok (.lst (xs.take n)) L:=by
 show eO true (cut xs none (some (n:Int))) L=_;rw [Du,eO,aC (by simp;omega)];rfl
theorem pJ {xs:List T} {n:Nat} {L:aa} (h:xs.length<=lim):iH false (.lst xs) none (some (n:Int)) L=.ok (.ref L.length) (.lst (xs.take n)::L):=by
 show eO false (cut xs none (some (n:Int))) L=_;rw [Du,eO,aC (by simp;omega)];rfl
theorem P0 {α β:Type} {R:α->β->Prop} {ds:List β} (h:Paired R [] ds):ds=[]:=by cases h;rfl
theorem P1 {α β:Type} {R:α->β->Prop} {m:α} {ms:List α} {ds:List β} (h:Paired R (m::ms) ds):∃d r,ds=d::r/\R m d/\Paired R ms r:=by cases h with|cons a b=>exact⟨_,_,rfl,a,b⟩
theorem Kb:∀d:Nat,d<4->∃c:Nat,c<=4/\∀L,ix (.tup [.int 0,.int 1,.int 2,.int 4]) (.int (d:Nat)) L=.ok (.int (c:Nat)) L
 | 0,_=>⟨0,by decide,fun _=>rfl⟩
 | 1,_=>⟨1,by decide,fun _=>rfl⟩
 | 2,_=>⟨2,by decide,fun _=>rfl⟩
 | 3,_=>⟨4,by decide,fun _=>rfl⟩
theorem Cp (c:Int):∃ks,KG ks/\(ks.filter lq).length=2/\∀L,d9 [.int c] L=.ok (.lst (ks.map kT)) L:=by
 refine rK fun G n9=>?_
 obtain⟨_,p,e⟩:=kh c [25,2,4,2,4] (by decide) (by decide);obtain⟨d0,_,rfl,h0,p⟩:=P1 p;obtain⟨d1,_,rfl,h1,p⟩:=P1 p;obtain⟨d2,_,rfl,h2,p⟩:=P1 p;obtain⟨d3,_,rfl,h3,p⟩:=P1 p;obtain⟨d4,_,rfl,h4,p⟩:=P1 p;obtain rfl:=P0 p;simp only [TC,UB] at e;obtain⟨a,b,hab,hn⟩:=JY (d0:Int);have n0:=hn 0 (by decide) (by decide)
 have n1:=hn 1 (by decide) (by decide);have n2:=hn 2 (by decide) (by decide)
 have n3:=hn 3 (by decide) (by decide);obtain⟨c2,CS,Se⟩:=Kb d2 (by omega);have G:KG [⟨nameOf a b 0,d1,false⟩,⟨nameOf a b 1,c2,false⟩,⟨nameOf a b 2,2,true⟩,⟨nameOf a b 3,d3,true⟩]:=by
  refine⟨rfl,?_,?_,⟨_,Tp _ (Tp _ To),rfl⟩,⟨_,To,rfl⟩⟩
  ·simp only [TC,UB,Uu,TJ,U6,or_false,not_or,not_false_eq_true,and_true,Wa]
   have ne:∀i j,i<8->j<8->i≠j->nameOf a b i≠nameOf a b j:=fun i j h1 h2 h e=>h (Bk.mx h1 h2 e)
   exact⟨⟨ne 0 1 (by decide) (by decide) (by decide),ne 0 2 (by decide) (by decide) (by decide),ne 0 3 (by decide) (by decide) (by decide)⟩,⟨ne 1 2 (by decide) (by decide) (by decide),ne 1 3 (by decide) (by decide) (by decide)⟩,ne 2 3 (by decide) (by decide) (by decide)⟩
  ·intro k hk
   simp only [TJ,U6,or_false] at hk;rcases hk with rfl|rfl|rfl|rfl
   ·exact⟨Bk.cH (by decide) hab,by show d1<=4;omega⟩
   ·exact⟨Bk.cH (by decide) hab,CS⟩
   ·exact⟨Bk.cH (by decide) hab,by show 2<=4;omega⟩
   ·exact⟨Bk.cH (by decide) hab,by show d3<=4;omega⟩
 refine n9 ?_;clear n9;refine⟨_,G.Cd (Bk.qS d4 _),?_,fun L=>?_⟩
 ·rw [((Bk.qS d4 _).filter lq).length_eq];rfl
 ·unfold d9
  simp_arith [e,n0,n1,n2,n3,Se];rw [Ka (by simp;decide),aJ,mI (by simp;decide)];simp_arith;rw [aC (by rw [Tq,Uo,Ur];simp only [Tu,T9];unfold lim;omega)];simp_arith;rw [TS,List.map_drop,VE];refine fin_same ?_;rw [lt,fY];intro i x hx;have hm:=Ul hx
  have:x∈[kT ⟨nameOf a b 0,d1,false⟩,kT ⟨nameOf a b 1,c2,false⟩,kT ⟨nameOf a b 2,2,true⟩,kT ⟨nameOf a b 3,d3,true⟩]:=by
   rcases TL.mp hm with h|h
   ·exact List.mem_of_mem_drop h
   ·exact Vc h
  simp only [TJ,U6,or_false] at this;rcases this with rfl|rfl|rfl|rfl <;> exact qV _ _
end dn
namespace dn
open PySem M
open kz (bH ah aN)
open Bk (Fc Kd Lk Rl aK great opens bW ak aD KG iA nameOf lq wN zi dC aw cB ax)
theorem Cq {α β:Type} (f:α->β) (a b:α):[f a,f b]=[a,b].map f:=rfl
theorem N1 {α β:Type} (f:α->β) (a:α):[f a]=[a].map f:=rfl
theorem KG.pass {ks:List Kd} (h:KG ks):1<=(ks.filter lq).length:=by
 obtain⟨k,hk,e⟩:=h.no;exact Wf (Uh.mpr ⟨hk,by simp [lq,e]⟩)
theorem KG.last {ks:List Kd} (h:KG ks):1<=(ks.filter (·.l)).length:=by
 obtain⟨k,hk,e⟩:=h.yes;exact Wf (Uh.mpr ⟨hk,by simp [e]⟩)
theorem eM {α:Type} {p:α->Bool} {l:List α} {n:Nat} (h:l.length<=n):(l.filter p).length<=n:=TU (VU _ _) h
theorem all2 {α:Type} {P:α->Prop} {a b f:α} (ha:P a) (hb:P b) (h:f∈[a,b]):P f:=by
 rcases TJ.mp h with rfl|h
 ·exact ha
 ·rw [TY.mp h];exact hb
theorem GD {α:Type} {P:α->Prop} {a b f:α} {n:Nat} (ha:P a) (hb:P b) (h:f∈[a,b].take n):P f:=all2 ha hb (Vc h)
theorem Cr (ks:List Kd) (hG:KG ks) (c:Int) (as:List Cs) (ha:1<=as.length) (Hx:as.length<=100) :
  ∃tk kp:List Fc,tk.length<=2/\kp.length<=2/\1<=tk.length+kp.length/\(∀f∈tk,iA (ks.filter lq) as f)/\(∀f∈kp,iA ks as f)/\∀L,c7 [.lst (ks.map kT),.int c,.lst (as.map .str)] L=.ok (.tup [.lst (tk.map fT),.lst (kp.map fT)]) L:=by
 have h4:ks.length<=100:=by rw [hG.len];decide
 have GF:∀k∈ks,k.c<=4:=fun k hk=>(hG.ok k hk).2
 have PH:∀k∈ks.filter lq,k.c<=4:=fun k hk=>GF k (Uh.mp hk).1
 refine rK fun G n9=>?_
 obtain⟨_,p,e⟩:=kh c [3,3,512,512] (by decide) (by decide);obtain⟨d0,_,rfl,h0,p⟩:=P1 p;obtain⟨d1,_,rfl,h1,p⟩:=P1 p;obtain⟨d2,_,rfl,h2,p⟩:=P1 p;obtain⟨d3,_,rfl,h3,p⟩:=P1 p;obtain rfl:=P0 p;obtain⟨_,p,e'⟩:=kh (c % 2147483629 * 69621 % 2147483629) [1024,1024] (by decide) (by decide);obtain⟨e0,_,rfl,_,p⟩:=P1 p;obtain⟨e1,_,rfl,_,p⟩:=P1 p;obtain rfl:=P0 p;simp only [TC,UB] at e e';obtain⟨f1,F1,x1⟩:=gz (ks.filter lq) as d2 (KG.pass hG) (eM h4) PH ha Hx;obtain⟨f2,F2,x2⟩:=gz (ks.filter lq) as d3 (KG.pass hG) (eM h4) PH ha Hx;obtain⟨g1,G1,y1⟩:=gz ks as e0 (by rw [hG.len];decide) h4 GF ha Hx;obtain⟨g2,G2,y2⟩:=gz ks as e1 (by rw [hG.len];decide) h4 GF ha Hx;have mT:∀f∈[f1,f2].take d0,iA (ks.filter lq) as f:=fun f hf=>GD F1 F2 hf
 have mK:∀f∈[g1,g2].take d1,iA ks as f:=fun f hf=>GD G1 G2 hf
 have run:∀L,c7 [.lst (ks.map kT),.int c,.lst (as.map .str)] L=.ok (.tup [.lst (([f1,f2].take d0).map fT),.lst ((if ([f1,f2].take d0).length+([g1,g2].take d1).length=0 then [g1] else [g1,g2].take d1).map fT)]) L:=fun L=>by
  unfold c7;simp_arith;rw [cZ rfl ks kT lq kT (by exact rfl) (by exact ai) (by exact TU h4 (by decide)) (by exact fun b _=>by simp_arith;rfl) (by exact fun b _ _=>by simp_arith)];simp_arith [e,e',x1,x2,y1,y2];rw [Cq fT,mI (by simp;decide)];simp_arith [y1,y2];rw [Cq fT,mI (by simp;decide),<- VE,Cq fT f1 f2,<- VE];simp_arith [<- Int.natCast_add];by_cases hz:([f1,f2].take d0).length+([g1,g2].take d1).length=0
  ·rw [if_pos hz,hz]
   simp_arith [show(((0:Nat):Int) == 0)=true from rfl,y1];exact fin_same (by rw [lt,cT,cT,cT,aj bu,N1 fT,aj bu];rfl)
  ·rw [if_neg hz,show((((([f1,f2].take d0).length+([g1,g2].take d1).length:Nat)):Int) == 0)=false by simp only [beq_eq_false_iff_ne];omega]
   simp_arith;exact fin_same (by rw [lt,cT,cT,cT,aj bu,aj bu];rfl)
 have t2:([f1,f2].take d0).length<=2:=by simp [Ur];omega
 have k2:([g1,g2].take d1).length<=2:=by simp [Ur];omega
 refine n9 ?_;clear n9;by_cases hz:([f1,f2].take d0).length+([g1,g2].take d1).length=0
 ·rw [if_pos hz] at run
  exact⟨_,_,t2,by simp,by simp,mT,fun f hf=>by rw [TY.mp hf];exact G1,run⟩
 ·rw [if_neg hz] at run
  exact⟨_,_,t2,k2,by omega,mT,mK,run⟩
theorem hV {a:Cs} (h:dC a):1<=a.length/\a.length<=12:=ax h.1
theorem Kc {a:Cs} (h:dC a):([a.headD 0] == [78])=great a:=by
 rw [h.2];by_cases e:a.headD 0=78
 ·rw [e];rfl
 ·rw [decide_eq_false e];simpa using e
theorem pK (fs:List Fc) (hf:∀f∈fs,∀a∈f.as,dC a) (hl:(fs.flatMap (·.as)).length<=32) (L:aa):cm [.lst (fs.map fT)] L=.ok (.lst ((opens fs).map .str)) L:=by
 unfold cm;simp_arith;generalize ho:forL _ _ _ _ _ _=o;have h:=bw ho fs fT (fun r φ L'=>∃done acc o2 o3,done++r=fs/\acc=aw (done.flatMap (·.as)) []/\φ=[some (.lst (fs.map fT)),some (.ref L.length),o2,o3]/\L'=.lst (acc.map .str)::L)
  (fun o=>∃o2 o3,o=.nx [some (.lst (fs.map fT)),some (.ref L.length),o2,o3] (.lst ((opens fs).map .str)::L)) rfl ⟨[],[],none,none,rfl,rfl,rfl,rfl⟩ (fun _ _ eJ eP f r φ L' h=>by
   obtain⟨done,acc,o2,o3,e1,rfl,rfl,rfl⟩:=h;refine⟨sv,_,rfl,?_⟩;have Ds:f∈fs:=by rw [<- e1];simp
   have hb:(done.flatMap (·.as)).length+f.as.length<=20000:=by rw [<- e1] at hl;simp at hl ⊢;omega
   simp_arith [eJ,eP];generalize ho:forL _ _ _ _ _ _=o;have h:=bw ho f.as T.str (fun r φ L'=>∃d2 o3,d2++r=f.as/\φ=[some (.lst (fs.map fT)),some (.ref L.length),some (fT f),o3]/\L'=.lst ((aw d2 (aw (done.flatMap (·.as)) [])).map .str)::L)
    (fun o=>∃o3,o=.nx [some (.lst (fs.map fT)),some (.ref L.length),some (fT f),o3] (.lst ((aw ((done++[f]).flatMap (·.as)) []).map .str)::L)) rfl ⟨[],o3,rfl,rfl,rfl⟩ (fun _ _ eJ eP a r φ L' h=>by
     obtain⟨d2,o3,e2,rfl,rfl⟩:=h;refine⟨sv,_,rfl,?_⟩;have hn:=hf f Ds a (by rw [<- e2];simp)
     have e3:aw (d2++[a]) (aw (done.flatMap (·.as)) [])=cB a (aw d2 (aw (done.flatMap (·.as)) [])):=by simp [aw]
     have vK:(aw d2 (aw (done.flatMap (·.as)) [])).length<lim:=by
      have z1:=Bk.dB d2 (aw (done.flatMap (·.as)) []);have z2:=Bk.dB (done.flatMap (·.as)) []
      have z3:d2.length<=f.as.length:=by rw [<- e2];simp
      simp only [T9] at z2;unfold lim;omega
     simp_arith [eJ,eP,u5 (hV hn).1,show S "N"=[78] from rfl,Kc hn];cases hg:great a with
     | false =>
      simp_arith [eJ,eP];exact⟨d2++[a],_,by simpa using e2,rfl,by rw [e3];unfold cB;rw [hg];rfl⟩
     | true =>
      simp_arith [eJ,eP,NW (x:=a) (t:=.ref L.length) (ys:=aw d2 (aw (done.flatMap (·.as)) [])) (L:=.lst ((aw d2 (aw (done.flatMap (·.as)) [])).map .str)::L) (by simp_arith [eJ,eP])];by_cases hm:a∈aw d2 (aw (done.flatMap (·.as)) [])
      ·simp_arith [eJ,eP,hm,decide_true]
       exact⟨d2++[a],_,by simpa using e2,rfl,by rw [e3];unfold cB;rw [hg,if_pos rfl,if_pos hm]⟩
      ·simp_arith [eJ,eP,hm,decide_false,aR vK,bg]
       exact⟨d2++[a],_,by simpa using e2,rfl,by rw [e3];unfold cB;rw [hg,if_pos rfl,if_neg hm]⟩)
    fun φ L' h=>by
     obtain⟨d2,o3,e2,rfl,rfl⟩:=h;refine⟨sv,o3,?_⟩;rw [T4] at e2;subst e2;rw [Zk,show aw (done.flatMap (·.as)++[f].flatMap (·.as)) []=aw ([f].flatMap (·.as)) (aw (done.flatMap (·.as)) []) from Yh];simp
   obtain⟨o3,rfl⟩:=h;simp_arith [eJ,eP];exact⟨done++[f],_,_,_,by simpa using e1,rfl,rfl,rfl⟩)
  fun φ L' h=>by
   obtain⟨done,acc,o2,o3,e1,rfl,rfl,rfl⟩:=h;rw [T4] at e1;subst e1;exact⟨sv,o2,o3,rfl⟩
 obtain⟨o2,o3,rfl⟩:=h;simp_arith;exact eV (aj fun _ _=>rfl)
end dn
namespace dn
open PySem M
open kz (bH ah aN)
open Bk (Fc Kd Lk Rl aK great opens bW ak aD KG iA nameOf lq wN zi dC aw cB)
theorem PJ {x:T} {xs:List T} {n:Nat} {L:aa} (hx:vw L x=.lst xs) (h:xs.length<=lim):iH false x none (some (n:Int)) L=.ok (.ref L.length) (.lst (xs.take n)::L):=by
 unfold iH;rw [hx];exact pJ h
theorem ki (ns:List Cs) (h:1<=ns.length) (d:Nat):∃a∈ns,∀L,ix (.lst (ns.map .str)) (.int ((d:Int) % (ns.length:Int))) L=.ok (.str a) L:=by
 have:=md (n:=(d:Int)) h;refine⟨ns.getD ((d:Int) % ns.length).toNat [],?_,fun L=>zO h L⟩;rw [Gd9,Ge9 this.2];exact TN _
theorem zP {L:aa} {a b c:T} (h:lt L.length c=true):fin L (.ref (L.length+2)) (c::b::a::L)=.ok c L:=zq (Ln:=[c,b,a]) Jn (by omega) h
theorem Ke:∀d:Nat,∃b:Bool,d<2->∀L,ix (.tup [.str (S "same"),.str (S "unlike")]) (.int (d:Nat)) L=.ok (.str (Bk.gI b)) L
 | 0=>⟨true,fun _ _=>rfl⟩
 | 1=>⟨false,fun _ _=>rfl⟩
 | d+2=>⟨true,fun z=>absurd z (by omega)⟩
theorem Cu (ns:List Cs) (hn:1<=ns.length) (vL:ns.length<=100) (c:Int):∃ks:List Lk,ks.length<=2/\(∀k∈ks,k.l∈ns/\k.r∈ns)/\∀L,eg [.lst (ns.map .str),.int c] L=.ok (.lst (ks.map pq)) L:=by
 refine rK fun G n9=>?_
 obtain⟨_,p,e⟩:=kh c [3,5,5,5,5,5] (by decide) (by decide);obtain⟨d0,_,rfl,h0,p⟩:=P1 p;obtain⟨d1,_,rfl,h1,p⟩:=P1 p;obtain⟨d2,_,rfl,h2,p⟩:=P1 p;obtain⟨d3,_,rfl,h3,p⟩:=P1 p;obtain⟨d4,_,rfl,h4,p⟩:=P1 p;obtain⟨d5,_,rfl,h5,p⟩:=P1 p;obtain rfl:=P0 p;simp only [TC,UB] at e;obtain⟨a1,A1,x1⟩:=ki ns hn d1;obtain⟨a2,A2,x2⟩:=ki ns hn d2;obtain⟨a4,A4,x4⟩:=ki ns hn d4;obtain⟨a5,A5,x5⟩:=ki ns hn d5;have l1:pq ⟨true,a1,a2⟩=.tup [.str (S "same"),.str a1,.str a2]:=rfl
 have l2:pq ⟨false,a1,a2⟩=.tup [.str (S "unlike"),.str a1,.str a2]:=rfl;obtain⟨b3,PK⟩:=Ke d3;have l3:pq ⟨b3,a4,a5⟩=.tup [.str (Bk.gI b3),.str a4,.str a5]:=rfl
 refine n9 ?_;clear n9;refine⟨(if d0<2 then [(⟨false,a1,a2⟩:Lk)].take d0 else [⟨true,a1,a2⟩])++(if d3<2 then [⟨b3,a4,a5⟩] else []),?_,?_,fun L=>?_⟩
 ·have:([(⟨false,a1,a2⟩:Lk)].take d0).length<=1:=by rw [Ur];exact Xm _ _
  split <;> split <;> simp at this ⊢ <;> omega
 ·intro k hk
  rcases TL.mp hk with hk|hk
  ·split at hk
   ·have:=Vc hk
    rw [TY.mp this];exact⟨A1,A2⟩
   ·rw [TY.mp hk];exact⟨A1,A2⟩
  ·split at hk
   ·rw [TY.mp hk];exact⟨A4,A5⟩
   ·cases hk
 ·have hp:(0:Int)<ns.length:=by omega
  have tl:∀ks:List Lk,lt L.length (.lst (ks.map pq))=true:=fun ks=>aj tB
  unfold eg;simp_arith [e,hp,x1,x2,<- l1];by_cases z0:d0<2
  ·simp_arith [show((d0:Nat):Int)<2 by omega,decide_true,l1,<- l2]
   rw [pJ (by simp;decide)];simp_arith;rw [if_pos z0];by_cases z3:d3<2
   ·simp_arith [show((d3:Nat):Int)<2 by omega,decide_true,PK z3,x4,x5,<- l3,hp]
    rw [aC (show _<_ by rw [Ur];simp;unfold lim;omega),if_pos z3];simp_arith;rw [show [pq ⟨false,a1,a2⟩].take d0++[pq ⟨b3,a4,a5⟩]=([(⟨false,a1,a2⟩:Lk)].take d0++[(⟨b3,a4,a5⟩:Lk)]).map pq by rw [TS,VE];rfl];exact zP (tl _)
   ·simp_arith [show ¬ ((d3:Nat):Int)<2 by omega,decide_false]
    rw [if_neg z3,T4,show [pq ⟨false,a1,a2⟩].take d0=([(⟨false,a1,a2⟩:Lk)].take d0).map pq by rw [VE];rfl];exact zP (tl _)
  ·simp_arith [show ¬ ((d0:Nat):Int)<2 by omega,decide_false]
   rw [if_neg z0];by_cases z3:d3<2
   ·simp_arith [show((d3:Nat):Int)<2 by omega,decide_true,PK z3,x4,x5,<- l3,hp]
    rw [aC (show _<_ by decide),if_pos z3];simp_arith;exact eV (tl [⟨true,a1,a2⟩,⟨b3,a4,a5⟩])
   ·simp_arith [show ¬ ((d3:Nat):Int)<2 by omega,decide_false]
    rw [if_neg z3];exact eV (tl [⟨true,a1,a2⟩])
theorem n8 {fs:List Fc} {ks:List Kd} {as:List Cs} (hc:∀k∈ks,k.c<=4) (h:∀f∈fs,iA ks as f) (hl:fs.length<=8):(fs.flatMap (·.as)).length<=32:=by
 have:=Bk.fP (l:=fs) (g:=(·.as)) (B:=4) fun f hf=>by
  obtain⟨⟨k,hk,_,e⟩,_⟩:=h f hf;rw [e];exact hc k hk
 omega
theorem Li {xs:List T} {n:Nat} {L:aa} (h:xs.length<=lim):iH false (.lst xs) none (some (n:Int)) L=.ok (.ref L.length) (.lst (xs.take n)::L):=pJ h
theorem GG {L:aa} {a b c d:T} {x y:T} (h:lt L.length a=true/\lt L.length b=true/\lt L.length c=true/\lt L.length d=true) (hy:lt L.length y=true):fin L (.tup [a,b,c,d,.ref (L.length+1)]) (y::x::L)=.ok (.tup [a,b,c,d,y]) L:=by
 unfold fin;have e:(y::x::L).drop ((y::x::L).length - L.length)=L:=by
  rw [show(y::x::L).length - L.length=2 by simp only [Tu];omega];rfl
 rw [e,if_pos (fS L)];unfold bU;rw [if_neg (by simp [lt,cT,h])];have f:∀{t:T},lt L.length t=true->bU L.length (y::x::L) 8 t=some t:=fun h=>by unfold bU;rw [if_pos h]
 have e2:bU L.length (y::x::L) 8 (.ref (L.length+1))=some y:=by
  unfold bU;rw [if_neg (by simp [lt])];simp only [wq];unfold bU;rw [if_pos hy]
 simp [VF,f h.1,f h.2.1,f h.2.2.1,f h.2.2.2,e2,lift]
theorem twice {T g:Prop} (a:T->g) (b:T):g:=a b
theorem zQ (ks:List Kd) (hG:KG ks) (c1 c2:Int) (as os ws:List Cs) (ha:1<=as.length) (Hx:as.length<=10) (hw:1<=ws.length) (S9:ws.length<=10) (rO:∀a∈as,a∈os++ws) (hok:∀a∈as,dC a) :
  ∃r:Rl,wN ks os ws r/\∀L,fe [.lst (ks.map kT),.int c1,.int c2,.lst (as.map .str),.lst (ws.map .str)] L=.ok (xT r) L:=by
 refine rK fun G n9=>?_
 obtain⟨tk,kp,t2,k2,Bq,FT,FK,eh⟩:=Cr ks hG c1 as ha (by omega);have GF:∀k∈ks,k.c<=4:=fun k hk=>(hG.ok k hk).2
 have FA:∀f∈tk++kp,iA ks as f:=fun f hf=>by
  rcases TL.mp hf with h|h
  ·obtain⟨⟨k,hk,e⟩,h2⟩:=FT f h
   exact⟨⟨k,(Uh.mp hk).1,e⟩,h2⟩
  ·exact FK f h
 have HQ:=n8 GF FA (by simp;omega);have en:=fun L=>pK (tk++kp) (fun f hf a h=>hok a ((FA f hf).2 a h)) HQ L
 have ho:(opens (tk++kp)).length<=0+_:=Bk.dB _ [];obtain⟨ns,Dd⟩:∃ns,ns=opens (tk++kp)++ws:=⟨_,rfl⟩;have GH:1<=ns.length:=by rw [Dd,Tq];omega
 have vL:ns.length<=100:=by rw [Dd,Tq];omega
 obtain⟨kk,Bo⟩:∃kk,kk=if tk=[] then ks.filter (·.l) else ks:=⟨_,rfl⟩
 have sd:1<=kk.length:=by rw [Bo];split;exact KG.last hG;rw [hG.len];decide
 have pV:kk.length<=100:=by rw [Bo];split;exact eM (by rw [hG.len];decide);rw [hG.len];decide
 have Hr:∀k∈kk,k.c<=4:=fun k hk=>by
  rw [Bo] at hk;split at hk
  ·exact GF k (Uh.mp hk).1
  ·exact GF k hk
 obtain⟨_,p,e⟩:=kh c2 [3,2500,2500] (by decide) (by decide);obtain⟨d0,_,rfl,h0,p⟩:=P1 p;obtain⟨d1,_,rfl,h1,p⟩:=P1 p;obtain⟨d2,_,rfl,h2,p⟩:=P1 p;obtain rfl:=P0 p;obtain⟨_,p,e'⟩:=kh (c2 % 2147483629 * 40692 % 2147483629) [2,5,5,3,5,5] (by decide) (by decide);obtain⟨b0,_,rfl,q0,p⟩:=P1 p;obtain⟨b1,_,rfl,_,p⟩:=P1 p;obtain⟨b2,_,rfl,_,p⟩:=P1 p;obtain⟨b3,_,rfl,_,p⟩:=P1 p;obtain⟨b4,_,rfl,_,p⟩:=P1 p;obtain⟨b5,_,rfl,_,p⟩:=P1 p;obtain rfl:=P0 p;simp only [TC,UB] at e e';obtain⟨f1,F1,x1⟩:=gz kk ns d1 sd pV Hr GH vL;obtain⟨f2,F2,x2⟩:=gz kk ns d2 sd pV Hr GH vL;obtain⟨lk,l2,Sf,el⟩:=Cu ns GH vL (c2 % 2147483629 * 69621 % 2147483629);obtain⟨a1,A1,y1⟩:=ki ns GH b1;obtain⟨a2,A2,y2⟩:=ki ns GH b2;obtain⟨a4,A4,y4⟩:=ki ns GH b4;obtain⟨a5,A5,y5⟩:=ki ns GH b5;have hp:(0:Int)<ns.length:=by omega
 have tT:∀f∈tk,iA (ks.filter lq) (os++ws) f:=fun f hf=>⟨(FT f hf).1,fun a h=>rO a ((FT f hf).2 a h)⟩
 have tK:∀f∈kp,iA ks (os++ws) f:=fun f hf=>⟨(FK f hf).1,fun a h=>rO a ((FK f hf).2 a h)⟩
 have tP:∀f∈[f1,f2].take d0,iA kk ns f:=fun f hf=>GD F1 F2 hf
 obtain⟨tl,Sh,N2,tell⟩:∃tl:List (Cs × Cs),(∀p∈tl,p.1∈ns/\p.2∈ns)/\tl.length<=2/\tl=[(a1,a2)].take b0++(if b3=1 then [(a4,a5)] else []):=by
  refine⟨_,fun p hp=>?_,?_,rfl⟩
  ·rcases TL.mp hp with h|h
   ·rw [TY.mp (Vc h)];exact⟨A1,A2⟩
   ·split at h
    ·rw [TY.mp h];exact⟨A4,A5⟩
    ·cases h
  ·have:([(a1,a2)].take b0).length<=1:=by rw [Ur];exact Xm _ _
   rw [Tq];split <;> simp at this ⊢ <;> omega
 have p2:([f1,f2].take d0).length<=2:=by rw [Ur];exact Xm _ _
 refine n9 ?_;clear n9;refine⟨⟨[],tk,kp,lk,[f1,f2].take d0,tl⟩,⟨tT,tK,?_,?_,?_,Bq,t2,k2,l2,p2,N2⟩,fun L=>?_⟩
 ·rw [<- Bo,<- Dd];exact tP
 ·rw [<- Dd];exact Sf
 ·rw [<- Dd];exact Sh
 ·unfold fe
  simp_arith [eh,Tq,aC (show tk.length+kp.length<=lim by unfold lim;omega),en,aC (show(opens (tk++kp)).length+ws.length<=lim by unfold lim;omega),<- TS,<- Dd,aC (show ns.length<=lim by unfold lim;omega)];have fin:∀L,fin L (.tup [.lst (tk.map fT),.lst (kp.map fT),.lst (lk.map pq),.lst (([f1,f2].take d0).map fT),.ref (L.length+1)]) (.lst (tl.map pT) :: .lst [pT (a1,a2)]::L)=.ok (xT ⟨[],tk,kp,lk,[f1,f2].take d0,tl⟩) L:=fun L=>GG ⟨aj bu,aj bu,aj tB,aj bu⟩ (aj fR)
  apply twice
  ·intro key
   by_cases ht:tk=[]
   ·rw [if_pos ht] at Bo
    simp_arith [show((tk.length:Int) == 0)=true by rw [ht];rfl];rw [cZ rfl ks kT (·.l) kT (by exact rfl) (by exact ai) (by rw [hG.len];decide) (by exact fun b _=>by simp_arith) (by exact fun b _ _=>by simp_arith)];simp_arith [<- Bo];exact key
   ·rw [if_neg ht] at Bo
    simp_arith [show((tk.length:Int) == 0)=false by simpa using ht,<- Bo];exact key
  simp_arith [e,x1,x2];rw [Cq fT f1 f2,mI (by simp;decide),<- VE];simp_arith [el,e',hp,y1,y2];rw [show T.tup [.str a1,.str a2]=pT (a1,a2) from rfl,pJ (by simp;decide)];simp_arith;by_cases h3:b3=1
  ·rw [if_pos h3] at tell
   simp_arith [show((b3:Int) == 1)=true by rw [h3];rfl,hp,y4,y5];rw [aC (show _<_ by rw [Ur];simp;unfold lim;omega)];simp_arith;rw [show [pT (a1,a2)].take b0++[.tup [.str a4,.str a5]]=tl.map pT by rw [tell,TS,VE];rfl];exact fin L
  ·rw [if_neg h3,T4] at tell
   simp_arith [show((b3:Int) == 1)=false by simp;omega];rw [show [pT (a1,a2)].take b0=tl.map pT by rw [tell,VE];rfl];exact fin L
end dn
namespace dn
open PySem M
open kz (bH ah aN)
open Bk (Im qN wordAt gJ gn rows fI lI pI FG mS Fc Kd Lk Rl aK great opens bW ak aD KG iA nameOf lq wN zi dC aw cB gU nQ bR ar ao mv mw FG mS ni ax)
theorem zR {B:Nat}:∀{ls:List Cs},(∀l∈ls,l.length<=B)->(ls.map (·.length)).sum<=ls.length * B
 | [],_=>by simp
 | a::r,h=>by
  have h1:=zR (fun l hl=>h l (Tp _ hl));have h2:=h a To
  rw [TC,List.sum_cons,Tu,Zu];have h1:(r.map (·.length)).sum<=r.length * B:=h1
  omega
theorem pL {sep:Cs} {zs:List Cs} {t:T} {L:aa} {n B:Nat} (ht:t=.lst (zs.map .str)) (hz:zs.length<=n) (hB:∀z∈zs,z.length<=B) (h:n * B+n * sep.length<=16777216):j0 (.str sep) [t] L=.ok (.str (jn sep zs)) L:=by
 subst ht;refine Gj ?_;have:=zR hB
 have h1:=Xs B hz;have h2:=Xs sep.length hz
 omega
theorem zS (f:Fc):gU f=if f.as=[] then f.k else ((f.k++[40])++jn [44] f.as)++[41]:=rfl
theorem Cv (f:Fc) (h:FG f) (L:aa):bY [fT f] L=.ok (.str (gU f)) L:=by
 have ha:∀a∈f.as,a.length<=12:=fun a h2=>(ax (h.as a h2)).2
 have hn:=h.n;have hf:(gU f).length<=70:=h.im.1
 unfold bY;simp_arith;by_cases h0:f.as=[]
 ·simp_arith [show((f.as.length:Int) == 0)=true by rw [h0];rfl]
  rw [zS,if_pos h0]
 ·have hb:cL true [.tup (f.as.map .str)] L=.ok (.lst (f.as.map .str)) L:=by
   show eO true (f.as.map .str) L=_;rw [eO,aC (by rw [Lm9];unfold lim;omega)];rfl
  rw [zS,if_neg h0] at hf;simp only [Tq,UQ] at hf;simp_arith [show((f.as.length:Int) == 0)=false by simpa using h0,UQ];rw [aC (by unfold lim;omega)];simp_arith [hb,pL (sep:=[44]) rfl hn ha (by decide)];simp only [Tq,Tu,T9];rw [aC (by unfold lim;omega)];simp_arith;rw [aC (by simp only [Tq,Tu,T9];unfold lim;omega),zS,if_neg h0];simp_arith
theorem jE {α:Type} (n:Nat) (l:List α) (g:α->Im) (h:n<5/\(l.map g).length<=2/\∀i∈l.map g,qN i) (L:aa):aM [.str (wordAt n),.lst (l.map fun a=>.str (g a).tx)] L=.ok (.lst ((nQ (wordAt n) ((l.map g).map (·.tx))).map .str)) L:=by
 have hw:=(Bk.zd h.1).2;have hl:∀m∈(l.map g).map (·.tx),m.length<=70:=fun m hm=>by
  obtain⟨i,hi,rfl⟩:=Tz.mp hm;exact(h.2.2 i hi).1
 have hr:=Bk.jR (sep:=[44,32]) hl;have hm:((l.map g).map (·.tx)).length<=2:=by rw [Lm9];exact h.2.1
 rw [show(l.map fun a=>T.str (g a).tx)=((l.map g).map (·.tx)).map .str by rw [Ud,Ud];rfl];generalize (l.map g).map (·.tx)=ms at hr hm hl;unfold aM nQ;simp_arith;by_cases h0:ms=[]
 ·simp_arith [show((ms.length:Int) == 0)=true by rw [h0];rfl]
  rw [if_pos h0];exact fin_same rfl
 ·simp_arith [show((ms.length:Int) == 0)=false by simpa using h0,UQ]
  rw [aC (by unfold lim;omega)];simp_arith [show S ", "=[44,32] from rfl,pL (sep:=[44,32]) rfl hm hl (by decide)];rw [aC (by simp only [Tq,Tu,T9] at hr ⊢;unfold lim;omega)];simp_arith;rw [if_neg h0,T8];exact fin_same rfl
theorem vb {α:Type} {g:α->T}:∀(l:List α) (n:Nat),num n (l.map g)=(l.zipIdx n).map fun p=>.tup [.int (p.2:Nat),g p.1]
 | [],_=>rfl
 | a::l,n=>by rw [TC,num,vb l (n+1)];rfl
theorem vc:∀c≤4,(Vd (toString ((c:Nat):Int))).cps.toList=[48+c]/\((c:Nat):Int).natAbs.log2<1920:=by decide +kernel
theorem vd (c:Nat) (h:c<=4) (L:aa):rV [.int (c:Nat)] L=.ok (.str [48+c]) L:=by
 unfold rV;simp only [(vc c h).1];exact aC ⟨(vc c h).2,by simp;decide⟩
theorem pM (fs:List Fc) (h:∀f∈fs,FG f) (hl:fs.length<=10) {s:SI} {aV:List (Option Nat)} {φ:Fr} {L:aa} {k:aa->Prop} {r:R T} (hc:comp true s aV (.one 1) yes (ae bY [v 1]) φ L=r) (hs:s φ L=.ok (fs.map fT,k) L) (hk:k L) (hv:∀x,((inner aV φ).set 1 (some x))[1]?=some (some x)) :
  r=.ok (.lst (fs.map fun f=>.str (gU f))) L:=by
 rw [bf hc fs fT (fun f=>.str (gU f)) hs hk (by unfold lim;omega) fun f hf=>by simp only [y0,mj,mc,FJ,hv,VQ,dA,aJ];exact Cv f (h f hf) L];rfl
theorem N3 {a b:Cs} {L:aa} (h:a.length+b.length<=lim):aQ true .Add (.str a) (.str b) L=.ok (.str (a++b)) L:=JD.trans (if_pos h)
theorem h8 (w:Cs) (m:List Cs):(nQ w m).length<=1:=by
 unfold nQ;split <;> simp
theorem GI (ks:List Kd) (hG:KG ks) (rs:List Rl) (h2:rs.length=2) (hT:∀r∈rs,∀i<2,mS ks (Bk.fQ r (Bk.rT i))) (L:aa) :
  dQ [.lst (ks.map kT),.lst (rs.map xT)] L=.ok (.str (jn [10] (ks.map ar++(ao rs).map bR))) L:=by
 unfold dQ;simp_arith;generalize ho:forL _ _ _ _ _ _=o;have h:=bw ho ks kT (fun r φ L'=>∃done o3 o4,done++r=ks/\φ=[some (.lst (ks.map kT)),some (.lst (rs.map xT)),some (.ref L.length),o3,o4,none,none,none]/\L'=.lst ((done.map ar).map .str)::L)
  (fun o=>∃o3 o4,o=.nx [some (.lst (ks.map kT)),some (.lst (rs.map xT)),some (.ref L.length),o3,o4,none,none,none] (.lst ((ks.map ar).map .str)::L)) rfl ⟨[],none,none,rfl,rfl,rfl⟩ (fun _ _ eJ eP k r φ L' hh=>by
   obtain⟨done,o3,o4,e1,rfl,rfl⟩:=hh;have hk:=hG.ok k (by rw [<- e1];simp)
   have hl:=(ax (Bk.bc hk.1)).2;have hd:done.length<lim:=by
    have h4:=hG.len;rw [<- e1] at h4;simp at h4;unfold lim;omega
   refine⟨sv,_,rfl,?_⟩;simp_all_arith [eJ,eP,vd k.c hk.2,show S "lasting "=Bk.cg++[32] from rfl,show S "passing "=Bk.cf++[32] from rfl];cases PL:k.l with
   | true =>
    simp_all_arith [eJ,eP,vd k.c hk.2];exact⟨done++[k],_,_,by simpa using e1,rfl,by simp [ar,PL]⟩
   | false =>
    simp_all_arith [eJ,eP,vd k.c hk.2];exact⟨done++[k],_,_,by simpa using e1,rfl,by simp [ar,PL]⟩)
  fun φ L' hh=>by
   obtain⟨done,o3,o4,e1,rfl,rfl⟩:=hh;rw [T4] at e1;subst e1;exact⟨sv,_,_,rfl⟩
 obtain⟨o3,o4,rfl⟩:=h;simp_arith;rw [vb rs 0];generalize ho:forL _ _ _ _ _ _=o;have h:=bw ho rs.zipIdx (fun p=>.tup [.int (p.2:Nat),xT p.1]) (fun q φ L'=>∃done o5 o6 o7,done++q=rs.zipIdx/\φ=[some (.lst (ks.map kT)),some (.lst (rs.map xT)),some (.ref L.length),o3,o4,o5,o6,o7]/\L'=.lst ((ks.map ar++done.map fun p=>bR (Bk.fQ p.1 (Bk.rT p.2))).map .str)::L)
  (fun o=>∃φ,o=.nx (some (.lst (ks.map kT))::some (.lst (rs.map xT))::some (.ref L.length)::φ) (.lst ((ks.map ar++(ao rs).map bR).map .str)::L)) rfl ⟨[],none,none,none,rfl,rfl,by simp⟩ (fun _ _ eJ eP p q φ L' hh=>by
   obtain⟨done,o5,o6,o7,e1,rfl,rfl⟩:=hh;obtain⟨r,i⟩:=p;have hm:(r,i)∈rs.zipIdx:=by rw [<- e1];simp
   have hi:i<2:=by have:=List.mem_zipIdx hm;omega
   have hr:r∈rs:=(List.mem_zipIdx' hm).2 ▸ TN _;refine rK fun G n9=>?_
   have H:=hT r hr i hi;have hf:∀f∈r.take++r.keep++r.put,FG f:=fun f hf=>(H.f f hf).1
   have gt:∀f∈r.take,FG f:=fun f h=>hf f (TF _ (TF _ h))
   have gk:∀f∈r.keep,FG f:=fun f h=>hf f (TF _ (TQ _ h))
   have gp:∀f∈r.put,FG f:=fun f h=>hf f (TQ _ h)
   have g2:∀k∈r.aH,ah k.l=true/\ah k.r=true:=H.l;have g3:∀k∈r.tell,ah k.1=true/\ah k.2=true:=H.p
   obtain⟨f1,f2,f3,f4,f5⟩:zi 2 r:=H.uu;have c1:=h8 (wordAt 0) ((r.take.map fI).map (·.tx))
   have c2:=h8 (wordAt 1) ((r.keep.map fI).map (·.tx));have c3:=h8 (wordAt 2) ((r.aH.map lI).map (·.tx))
   have c4:=h8 (wordAt 3) ((r.put.map fI).map (·.tx));have c5:=h8 (wordAt 4) ((r.tell.map pI).map (·.tx))
   have row:=H.row;have q0:∀L,aM [.str (wordAt 0),.lst (r.take.map fun f=>.str (gU f))] L=_:=jE 0 r.take fI (row _ (.head _))
   have q1:∀L,aM [.str (wordAt 1),.lst (r.keep.map fun f=>.str (gU f))] L=_:=jE 1 r.keep fI (row _ (.tail _ (.head _)));have q2:∀L,aM [.str (wordAt 2),.lst (r.aH.map fun f=>.str (mv f))] L=_:=jE 2 r.aH lI (row _ (.tail _ (.tail _ (.head _))))
   have q3:∀L,aM [.str (wordAt 3),.lst (r.put.map fun f=>.str (gU f))] L=_:=jE 3 r.put fI (row _ (.tail _ (.tail _ (.tail _ (.head _)))));have q4:∀L,aM [.str (wordAt 4),.lst (r.tell.map fun f=>.str (mw f))] L=_:=jE 4 r.tell pI (row _ (.tail _ (.tail _ (.tail _ (.tail _ (.head _))))))
   have hdn:done.length<=2:=by
    have:=congrArg VV e1;simp [h2] at this;omega
   have h4:=hG.len;refine n9 ?_;clear n9;refine⟨sv,_,rfl,?_⟩;simp_arith [eJ,eP];rw [pM r.take gt (by omega) rfl (by exact rfl) (by exact sv) (by exact fun _=>rfl)];simp_arith [eJ,eP,show S "take"=wordAt 0 from rfl,q0];rw [pM r.keep gk (by omega) rfl (by exact rfl) (by exact sv) (by exact fun _=>rfl)];simp_all_arith [eJ,eP,show S "keep"=wordAt 1 from rfl,q1];rw [bf rfl r.aH pq (fun k=>.str (mv k)) (by exact rfl) (by exact sv) (by unfold lim;omega) (fun k hk=>by
    have z:=g2 k hk;have z1:=(ax z.1).2
    have z2:=(ax z.2).2;have z3:=(Bk.zf k.same).2
    simp_all_arith [eJ,eP];simp [mv])]
   simp_all_arith [eJ,eP,show S "look"=wordAt 2 from rfl,q2];rw [pM r.put gp (by omega) rfl (by exact rfl) (by exact sv) (by exact fun _=>rfl)];simp_all_arith [eJ,eP,show S "put"=wordAt 3 from rfl,q3];rw [bf rfl r.tell pT (fun k=>.str (mw k)) (by exact rfl) (by exact sv) (by unfold lim;omega) (fun k hk=>by
    have z:=g3 k hk;have z1:=(ax z.1).2
    have z2:=(ax z.2).2;simp_all_arith [eJ,eP,show S " = "=[32,61,32] from rfl];simp [mw])]
   simp_all_arith [eJ,eP,show S "tell"=wordAt 4 from rfl,q4];have hz:_++(_++(_++(_++(_++[]))))=(gn r).map gJ:=Bk.qM (rows r)
   obtain⟨zl,zb⟩:((gn r).map gJ).length<=5/\∀l∈(gn r).map gJ,l.length<=150:=H.parts;have zj:=TU (Bk.jR (sep:=[59,32]) zb) (Xs 152 zl)
   have hj:=fun L=>pL (sep:=S "; ") (zs:=(gn r).map gJ) (L:=L) rfl zl zb (by decide)
   rw [<- hz] at hj;simp only [T4,TS,<- T8] at hj;simp only [T4,<- T8] at hz;rw [hz,show S "; "=[59,32] from rfl] at hj;simp_all_arith [eJ,eP,vd i (by omega),show S "rule r"=[114,117,108,101,32,114] from rfl,show S ": "=[58,32] from rfl,show S "; "=[59,32] from rfl,hj];exact⟨done++[(r,i)],_,_,_,by simpa using e1,rfl,by simp [bR,Bk.fQ,Bk.rT,gn,rows]⟩)
  fun φ L' hh=>by
   obtain⟨done,o5,o6,o7,e1,rfl,rfl⟩:=hh;rw [T4] at e1;subst e1;rw [show(ao rs).map bR=rs.zipIdx.map fun p=>bR (Bk.fQ p.1 (Bk.rT p.2)) by unfold ao;rw [Ud];rfl];exact⟨sv,_,rfl⟩
 obtain⟨φ,rfl⟩:=h;have Si:(ks.map ar++(ao rs).map bR).length<=6:=by simp [ao,hG.len,h2]
 have Sj:j0 (.str (S "\n")) [.ref L.length] (.lst ((ks.map ar++(ao rs).map bR).map .str)::L)=.ok (.str (jn [10] (ks.map ar++(ao rs).map bR))) (.lst ((ks.map ar++(ao rs).map bR).map .str)::L):=by
  have:=pL (sep:=S "\n") (zs:=ks.map ar++(ao rs).map bR) (L:=.lst ((ks.map ar++(ao rs).map bR).map .str)::L) (B:=800) rfl Si (fun l h=>by
   rcases TL.mp h with h|h
   ·obtain⟨k,hk,rfl⟩:=Tz.mp h
    exact(Bk.jS (hG.ok k hk)).2
   ·obtain⟨r,hr,rfl⟩:=Tz.mp h
    obtain⟨x,hx,rfl⟩:=Tz.mp hr;have:=List.mem_zipIdx hx
    exact(hT x.1 ((List.mem_zipIdx' hx).2 ▸ TN _) x.2 (by omega)).line.2) (by decide)
  rw [show S "\n"=[10] from rfl] at this ⊢;rw [<- this];unfold j0;simp only [items,gZ,cY,dX];rfl
 simp_arith [Sj];exact dY rfl
end dn
namespace dn
open PySem M
open kz (bH ah aN)
open Bk (Fc Kd Lk Rl aK great opens KG iA nameOf lq wN zi dC ao mS ni)
noncomputable def oN (a b k:Nat):Cs:=78::nameOf a b k
theorem GJ {a b k:Nat} (hk:k<8) (hab:a+b<=4):(nameOf a b k).all bH=true:=by
 have h:=Bk.bc (Bk.cH hk hab);unfold ah at h;simp only [Tw] at h;exact h.2.2
theorem Dv (a b k:Nat):(nameOf a b k).length=a+b+1:=by simp [nameOf];omega
theorem fV (a b k:Nat):great (oN a b k)=true:=by
 show decide ((78:Nat)∈kz.ph.cps.toList)=true;decide +kernel
theorem ia {a b k:Nat} (hk:k<8) (hab:a+b<=4):great (nameOf a b k)=false:=by
 have h:=Bk.cH hk hab;unfold aK at h;rw [Tw] at h;have h:=of_decide_eq_true h.2
 unfold great;refine decide_eq_false fun z=>?_
 generalize (nameOf a b k).headD 0=c at h z;exact(by decide +kernel:∀c∈kz.tm.cps.toList,c∉kz.ph.cps.toList) c h z
theorem iW {a b k:Nat} (hk:k<8) (hab:a+b<=4):dC (oN a b k):=by
 refine⟨?_,by rw [fV];rfl⟩;unfold ah oN;rw [UG,GJ hk hab,show bH 78=true by decide +kernel,Tu,Dv,decide_eq_true (by omega),decide_eq_true (by omega)];rfl
theorem tR {a b k:Nat} (hk:k<8) (hab:a+b<=4):dC (nameOf a b k):=by
 refine⟨Bk.bc (Bk.cH hk hab),?_⟩;rw [ia hk hab];refine(decide_eq_false fun z=>?_).symm;have:great (nameOf a b k)=true:=by unfold great;rw [z];decide +kernel
 rw [ia hk hab] at this;cases this
theorem GK {L:aa} {a b c x:T} (ha:lt L.length a=true) (hb:lt L.length b=true) (hc:lt L.length c=true) (hx:lt L.length x=true):fin L (.tup [a,b,c,.ref L.length]) (x::L)=.ok (.tup [a,b,c,x]) L:=by
 unfold fin;have e:(x::L).drop ((x::L).length - L.length)=L:=by simp
 rw [e,if_pos (fS L)];unfold bU;rw [if_neg (by simp [lt,cT,ha,hb,hc])];have f:∀{t:T},lt L.length t=true->bU L.length (x::L) 8 t=some t:=fun h=>by unfold bU;rw [if_pos h]
 have e2:bU L.length (x::L) 8 (.ref L.length)=some x:=by
  unfold bU;rw [if_neg (by simp [lt])];simp only [cY];unfold bU;rw [if_pos hx]
 simp [VF,f ha,f hb,f hc,e2,lift]
theorem al {α:Type} {p:α->Prop} {a:α} {l:List α} (h:p a) (t:∀x∈l,p x):∀x∈a::l,p x:=WE.mpr ⟨h,t⟩
theorem zT {α:Type} {p:α->Prop}:∀x∈([]:List α),p x:=fun _ h=>nomatch h
theorem N4 (cs:List Int):∃ks ns ws rs,ni ks ns ws rs/\(ks.filter lq).length=2/\∀L,dN [.lst (cs.map .int)] L=.ok (.tup [.lst (ks.map kT),.lst (ns.map .str),.lst (ws.map .str),.lst (rs.map xT)]) L:=by
 refine rK fun G n9=>?_
 obtain⟨ks,hG,hP,ek⟩:=Cp (cs.getD 0 0);obtain⟨a,b,hab,hn⟩:=JY (cs.getD 1 0 % 25);have n4:=hn 4 (by decide) (by decide)
 have n5:=hn 5 (by decide) (by decide);have PM:∀x∈[oN a b 0,oN a b 1,oN a b 2,nameOf a b 4],dC x:=al (iW (by decide) hab) (al (iW (by decide) hab) (al (iW (by decide) hab) (al (tR (by decide) hab) zT)))
 have PN:∀x∈[oN a b 0,oN a b 1,oN a b 2,nameOf a b 4],x∈[oN a b 0,oN a b 1,oN a b 2]++[nameOf a b 4,nameOf a b 5]:=fun x hx=>(TL.mp (show x∈[oN a b 0,oN a b 1,oN a b 2]++[nameOf a b 4] from hx)).elim (TF _) fun h=>TQ _ (TF [nameOf a b 5] h)
 obtain⟨r1,D1,x1⟩:=zQ ks hG (cs.getD 2 0) (cs.getD 3 0) [oN a b 0,oN a b 1,oN a b 2,nameOf a b 4] [oN a b 0,oN a b 1,oN a b 2] [nameOf a b 4,nameOf a b 5] (by simp) (by simp) (by simp) (by simp) PN PM;obtain⟨r2,D2,x2⟩:=zQ ks hG (cs.getD 4 0) (cs.getD 5 0) [oN a b 0,oN a b 1,oN a b 2,nameOf a b 4] [oN a b 0,oN a b 1,oN a b 2] [nameOf a b 4,nameOf a b 5] (by simp) (by simp) (by simp) (by simp) PN PM;have neN:∀i j,i<8->j<8->i≠j->oN a b i≠oN a b j:=fun i j h1 h2 h e=>h (Bk.mx h1 h2 (Vp e).2)
 have Sk:nameOf a b 4≠nameOf a b 5:=fun e=>absurd (Bk.mx (by decide) (by decide) e) (by decide)
 have Dw:∀i j,j<8->oN a b i≠nameOf a b j:=fun i j h e=>by have:=fV a b i;rw [e,ia h hab] at this;cases this
 refine n9 ?_;clear n9;refine⟨ks,[oN a b 0,oN a b 1,oN a b 2,oN a b 3],[nameOf a b 4,nameOf a b 5],[r1,r2],⟨hG,rfl,rfl,?_,?_,?_,?_,rfl,?_⟩,hP,fun L=>?_⟩
 ·exact al (iW (by decide) hab) (al (iW (by decide) hab) (al (iW (by decide) hab) (al (iW (by decide) hab) (al (tR (by decide) hab) (al (tR (by decide) hab) zT)))))
 ·exact al (fV _ _ _) (al (fV _ _ _) (al (fV _ _ _) (al (fV _ _ _) zT)))
 ·exact al (ia (by decide) hab) (al (ia (by decide) hab) zT)
 ·exact .cons (al (neN 0 1 (by decide) (by decide) (by decide)) (al (neN 0 2 (by decide) (by decide) (by decide)) (al (neN 0 3 (by decide) (by decide) (by decide)) (al (Dw 0 4 (by decide)) (al (Dw 0 5 (by decide)) zT))))) (.cons (al (neN 1 2 (by decide) (by decide) (by decide)) (al (neN 1 3 (by decide) (by decide) (by decide)) (al (Dw 1 4 (by decide)) (al (Dw 1 5 (by decide)) zT)))) (.cons (al (neN 2 3 (by decide) (by decide) (by decide)) (al (Dw 2 4 (by decide)) (al (Dw 2 5 (by decide)) zT))) (.cons (al (Dw 3 4 (by decide)) (al (Dw 3 5 (by decide)) zT)) (.cons (al Sk zT) (.cons zT .nil)))))
 ·exact al (by assumption) (al (by assumption) zT)
 ·have Sl:∀k,k<8->(nameOf a b k).length<=5:=fun k _=>by rw [Dv];omega
  unfold dN;simp_all_arith [pH,ek];rw [bf rfl (UE 4) (fun j:Nat=>T.int (0+(j:Int))) (fun j=>.str (oN a b j)) (by exact u0 _ _ _ _ rfl rfl ⟨j8 (n:=0) (by decide),j8 (n:=4) (by decide)⟩) (by exact trivial) (by decide) (fun j hj=>by
   have hj:j<4:=UC.mp hj;have:=Sl j (by omega)
   have e:=fun L=>hn (0+(j:Int)) (by omega) (by omega) L
   simp only [show(0+(j:Int)).toNat=j by omega] at e;simp_all_arith [e,show S "N"=[78] from rfl];rfl)]
  simp_all_arith [n4,n5];rw [show(UE 4).map (fun j=>T.str (oN a b j))=[.str (oN a b 0),.str (oN a b 1),.str (oN a b 2),.str (oN a b 3)] from rfl];simp only [TC,UB] at x1 x2;have s3:∀L,iH true (.lst [.str (oN a b 0),.str (oN a b 1),.str (oN a b 2),.str (oN a b 3)]) none (some 3) L=.ok (.lst [.str (oN a b 0),.str (oN a b 1),.str (oN a b 2)]) L:=fun L=>mI (n:=3) (by simp;decide)
  have s1:∀L,iH true (.lst [.str (nameOf a b 4),.str (nameOf a b 5)]) none (some 1) L=.ok (.lst [.str (nameOf a b 4)]) L:=fun L=>mI (n:=1) (by simp;decide)
  generalize ho:forL _ _ _ _ _ _=o;have h:=bw ho [2,4] T.int (fun q φ L'=>∃done o6 o7 o8,φ=[some (.lst (cs.map .int)),some (.lst (ks.map kT)),some (.int (cs.getD 1 0 % 25)),some (.lst [.str (oN a b 0),.str (oN a b 1),.str (oN a b 2),.str (oN a b 3)]),some (.lst [.str (nameOf a b 4),.str (nameOf a b 5)]),some (.ref L.length),o6,o7,o8]/\L'=.lst done::L/\((q=[2,4]/\done=[])\/(q=[4]/\done=[xT r1])\/(q=[]/\done=[xT r1,xT r2])))
   (fun o=>∃o2 o6 o7 o8,o=.nx [some (.lst (cs.map .int)),some (.lst (ks.map kT)),o2,some (.lst [.str (oN a b 0),.str (oN a b 1),.str (oN a b 2),.str (oN a b 3)]),some (.lst [.str (nameOf a b 4),.str (nameOf a b 5)]),some (.ref L.length),o6,o7,o8] (.lst [xT r1,xT r2]::L)) rfl ⟨[],none,none,none,rfl,rfl,.inl ⟨rfl,rfl⟩⟩ (fun _ _ eJ eP x q φ L' hh=>by
    obtain⟨done,o6,o7,o8,rfl,rfl,hh⟩:=hh;refine⟨sv,_,rfl,?_⟩;rcases hh with⟨hq,rfl⟩|⟨hq,rfl⟩|⟨hq,_⟩
    ·obtain⟨rfl,rfl⟩:=Vp hq
     simp_all_arith [eJ,eP,pH,s3,s1,Int.reduceAdd,x1];exact⟨_,_,_,_,rfl,rfl,.inr (.inl ⟨by trivial,by trivial⟩)⟩
    ·obtain⟨rfl,rfl⟩:=Vp hq
     simp_all_arith [eJ,eP,pH,s3,s1,Int.reduceAdd,x2];exact⟨_,_,_,_,rfl,rfl,.inr (.inr ⟨by trivial,by trivial⟩)⟩
    ·cases hq)
   fun φ L' hh=>by
    obtain⟨done,o6,o7,o8,rfl,rfl,hh⟩:=hh;rcases hh with⟨hq,_⟩|⟨hq,_⟩|⟨_,rfl⟩
    ·cases hq
    ·cases hq
    ·exact⟨sv,_,_,_,_,rfl⟩
  obtain⟨o2,o6,o7,o8,rfl⟩:=h;simp_arith;refine(GK (aj qV) ?_ ?_ ?_).trans rfl
  ·exact aj (g:=T.str) (l:=[oN a b 0,oN a b 1,oN a b 2,oN a b 3]) fun _ _=>rfl
  ·exact aj (g:=T.str) (l:=[nameOf a b 4,nameOf a b 5]) fun _ _=>rfl
  ·exact aj (g:=xT) (l:=[r1,r2]) Jq
end dn
namespace dn
open PySem M
open kz (bH ah)
open Bk (Fc Kd Lk Rl aK great opens KG dC bo iZ wr gO gN dK nU gL bz)
theorem jF:∀(st:bz) (n:Cs),dm (st.map fun p=>(T.str p.1,T.str p.2)) (.str n)=(iZ st n).map .str
 | [],n=>rfl
 | (a,b)::st,n=>by
  rw [TC,fU,jF st n];unfold iZ;rw [Vx];by_cases h:a=n
  ·rw [if_pos (by rw [h]),decide_eq_true h];rfl
  ·rw [if_neg (fun e=>h (T.str.inj e)),decide_eq_false h]
theorem mJ (st:bz) (n:Cs):dq (st.map fun p=>(T.str p.1,T.str p.2)) (.str n):=rf (g:=fun p:Cs × Cs=>p.1) (h:=fun p=>T.str p.2) st n
theorem Dx (st:bz) (n:Cs) (L:aa):iz (.aP (st.map fun p=>(T.str p.1,T.str p.2))) [.str n,.str n] L=.ok (.str (bo st n)) L:=by
 unfold iz vw;simp only [];rw [aC (mJ st n),jF];unfold bo;cases iZ st n <;> rfl
theorem Kf {st:bz} {m:Nat} {n:Cs} {L:aa} (h:at_ L m=some (cx st)):iz (.ref m) [.str n,.str n] L=.ok (.str (bo st n)) L:=by
 have:=Dx st n L;unfold iz at this ⊢;rw [gZ,h];exact this
noncomputable def kE (L:aa) (x:T) (st:bz):Prop:=x=cx st\/∃n,x=.ref n/\at_ L n=some (cx st)
theorem rB {L:aa} {x:T} {st:bz} (h:kE L x st) {a:SE} {ms:List SE} {φ:Fr} {n:Cs} (ha:a φ L=.ok x L) (hm:ib ms φ L=.ok [.str n,.str n] L):aS cM a ms φ L=.ok (.str (bo st n)) L:=by
 unfold aS;rw [ha,aJ];rcases h with rfl|⟨m,rfl,h⟩
 ·simp only [CJ,vw,cx,VP,cM,hm,aJ,Dx]
 ·simp only [CJ,gZ,h,dX,cx,VP,cM,hm,aJ]
  exact Kf h
theorem og {L:aa} {x:T} {st:bz} (h:kE L x st) (f:Fc) (hf:f.as.length<=1000):bq [x,fT f] L=.ok (fT (wr st f)) L:=by
 unfold bq;simp_arith;rw [bf rfl f.as T.str (fun n=>.str (bo st n)) (by exact rfl) (by exact ai) (by unfold lim;omega) (by exact fun b _=>rB h rfl rfl)];simp_arith;rw [show((f.as.map fun n=>T.str (bo st n)))=(f.as.map (bo st)).map .str by simp];exact fin_same (bu _ (wr st f))
theorem N5 {L:aa} {x:T} {st:bz} (h:kE L x st) (f:Fc) (hf:f.as.length<=1000):il [fT f,x] L=.ok (fT (wr st f)) L:=by
 unfold il;simp_arith;rw [bf rfl f.as T.str (fun n=>.str (bo st n)) (by exact rfl) (by exact ai) (by unfold lim;omega) (by exact fun b _=>rB h rfl rfl)];simp_arith;rw [show((f.as.map fun n=>T.str (bo st n)))=(f.as.map (bo st)).map .str by simp];exact fin_same (bu _ (wr st f))
theorem ve {L:aa} {x:T} {st:bz} (h:kE L x st) (p:Cs × Cs):bZ [x,pT p] L=.ok (pT (bo st p.1,bo st p.2)) L:=by
 unfold bZ;simp only [l9,Tu,T9,Xx,if_true,jQ,pf,y6,Dg,mj,mc,TC,UB,Vq,UH];rw [rB (n:=p.1) h rfl rfl];simp only [aJ];rw [rB (n:=p.2) h rfl rfl];simp_arith;exact fin_same (fR _ (bo st p.1,bo st p.2))
theorem vg (st:bz) (n v:Cs):dput (st.map fun p=>(T.str p.1,T.str p.2)) (.str n) (.str v)=(if n∈st.map (·.1) then st.map (fun e=>if e.1=n then (e.1,v) else e) else st++[(n,v)]).map fun p=>(T.str p.1,T.str p.2):=by
 by_cases h:n∈st.map (·.1)
 ·obtain⟨e,he,rfl⟩:=Tz.mp h
  rw [if_pos h];unfold dput;rw [if_pos (Vk.mpr ⟨(.str e.1,.str e.2),Tz.mpr ⟨e,he,rfl⟩,by simp⟩),Ud,Ud];refine UT fun p hp=>?_
  simp only [Vm];by_cases z:p.1=e.1
  ·rw [if_pos (by rw [z]),if_pos z]
  ·rw [if_neg (fun q=>z (T.str.inj q)),if_neg z]
 ·rw [if_neg h,eT]
  ·simp
  ·intro p hp
   obtain⟨y,hy,rfl⟩:=Tz.mp hp;exact fun e=>h (by rw [<- T.str.inj e];exact TZ hy)
theorem GL {st:bz} {n:Cs} {L:aa} (hl:st.length<lim) (hg:great n=true):∃t,wZ (.ref L.length) [.str n,.str n] (cx st::L)=.ok t (cx (gN st n)::L):=by
 unfold wZ;simp only [cY,cx];rw [aC ⟨by simpa using hl,mJ st n⟩,jF];cases e:iZ st n with
 | some v =>
  refine⟨.str v,?_⟩;have hm:n∈st.map (·.1):=by
   unfold iZ at e;obtain⟨p,hp,_⟩:=TG.mp e;have:=List.find?_some hp
   exact Tz.mpr ⟨p,VX hp,by simpa using this⟩
  unfold gN;rw [if_pos hg,if_pos hm];rfl
 | none =>
  refine⟨.str n,?_⟩;have hm:n∉st.map (·.1):=fun h=>by
   obtain⟨p,hp,rfl⟩:=Tz.mp h;unfold iZ at e;have:=Ve.mp (YW.mp e) p hp
   simp at this
  unfold gN;rw [if_pos hg,if_neg hm];simp only [Option.map_none];rw [vg,if_neg hm,tA]
theorem zU (st:bz) (n:Cs):(gN st n).length<=st.length+1:=by unfold gN;split <;> (try split) <;> simp
theorem jG (ns:List Cs):∀st:bz,(gO st ns).length<=st.length+ns.length:=by
 induction ns with
 | nil=>intro st;simp [gO]
 | cons n ns ih =>
  intro st;have h1:=ih (gN st n)
  have h2:=zU st n;have:gO st (n::ns)=gO (gN st n) ns:=rfl
  rw [this,Tu];omega
theorem zV (st:bz) (ns:List Cs) (x:T) (hx:items x (cx st::L)=some (ns.map .str)) (hv:∀k,x≠.ref k) (hn:∀n∈ns,1<=n.length) (hl:st.length+ns.length<1000):mC [.ref L.length,x] (cx st::L)=.ok .cb (cx (gO st ns)::L):=by
 have hs:src (v 1) [some (.ref L.length),some x,none] (cx st::L)=.ok (ns.map .str,stays x (cx st::L)) (cx st::L):=by
  simp only [uS,FJ,W5,VD,VQ,dA,aJ,hx]
 unfold mC;simp only [l9,Tu,T9,Xx,if_true,jQ,pf,TC,UB,Vq,UH,Zq,Ui,y7,hs,of_ok];generalize ho:forL _ _ _ _ _ _=o;have h:=bw ho ns T.str (fun r φ L'=>∃done o2,done++r=ns/\φ=[some (.ref L.length),some x,o2]/\L'=cx (gO st done)::L)
  (fun o=>∃φ,o=.nx φ (cx (gO st ns)::L)) rfl ⟨[],none,rfl,rfl,rfl⟩ (fun _ _ eJ eP n r φ L' hh=>by
   obtain⟨done,o2,e1,rfl,rfl⟩:=hh;refine⟨uU hv _,_,rfl,?_⟩;have hk:=jG done st
   have hd:done.length<=ns.length:=by rw [<- e1];simp
   have e3:gO st (done++[n])=gN (gO st done) n:=by simp [gO]
   simp_arith [eJ,eP,eI n (hn n (by rw [<- e1];simp))];cases hg:great n with
   | false=>simp_arith [eJ,eP];exact⟨done++[n],_,by simpa using e1,rfl,by rw [e3];unfold gN;rw [hg];rfl⟩
   | true =>
    obtain⟨t,ht⟩:=GL (L:=L) (st:=gO st done) (n:=n) (by unfold lim;omega) hg;simp only [cx] at ht ⊢;simp_arith [eJ,eP,ht];exact⟨done++[n],_,by simpa using e1,rfl,by rw [e3];rfl⟩)
  fun φ L' hh=>by
   obtain⟨done,o2,e1,rfl,rfl⟩:=hh;rw [T4] at e1;subst e1;exact⟨uU hv _,_,rfl⟩
 obtain⟨φ,rfl⟩:=h;simp_arith;exact mF (pA _ _) rfl
end dn
namespace dn
open PySem M
open kz (bH ah)
open Bk (Fc Kd Lk Rl aK great opens KG dC bo iZ wr gO gN dK nU gL bz Hu)
theorem Kg (a b:Cs):Hu a b=decide (a<b):=rfl
theorem zW (p q:Cs) (hp:1<=p.length) (hq:1<=q.length) (L:aa):jA [.str p,.str q] L=.ok (.str (Un.nS great Hu p q)) L:=by
 unfold jA Un.nS;simp_arith [eI p hp];cases h1:great p with
 | false=>simp_arith
 | true =>
  simp_arith [eI q hq];cases h2:great q with
  | false=>simp_arith;simp
  | true=>simp_arith [wX,Un.mn,Kg,decide_eq_true_eq];simp
theorem wy {k:aa->Prop} {b:SS} {o:O} {L:aa} {st:bz} {ch:Cs} (g:Cs->Bool) (i:Nat) (F:Option T->Fr) (z:Option T) (nd:(st.map (·.1)).Nodup) (hl:st.length<=1000)
  (ho:forL k (.one i) b ((st.map (·.1)).map .str) (F z) (cx st::L)=o) (hk:∀L',k L') (hF:∀z x,(F z).set i (some x)=F (some x))
  (hb:∀(D D':bz) (x:Cs × Cs),ix (.ref L.length) (.str x.1) (cx D::L)=.ok (.str x.2) (cx D::L)->i8 (.ref L.length) (.str x.1) (.str ch) (cx D::L)=some (cx D'::L)->b (F (some (.str x.1))) (cx D::L)=.nx (F (some (.str x.1))) (cx (if g x.2=true then D' else D)::L)) :
  ∃z,o=.nx (F z) (cx (st.map fun e=>(e.1,if g e.2=true then ch else e.2))::L):=by
 generalize hG:(fun e:Cs × Cs=>(e.1,if g e.2=true then ch else e.2))=G;have gk:∀l:bz,(l.map G).map (·.1)=l.map (·.1):=fun l=>by rw [Ud,<- hG];rfl
 refine bw ho st (fun e=>T.str e.1) (fun r φ L'=>∃done z,done++r=st/\φ=F z/\L'=cx (done.map G++r)::L) (fun o=>∃z,o=.nx (F z) (cx (st.map G)::L)) (by simp) ⟨[],z,rfl,rfl,rfl⟩ (fun _ _ eJ eP x r φ L' hh=>?_) fun φ L' hh=>?_
 ·obtain⟨done,z,e1,rfl,rfl⟩:=hh
  refine⟨hk _,_,rfl,?_⟩;have nk:((done.map G++x::r).map (·.1)).Nodup:=by
   rw [TS,gk,<- TS,e1];exact nd
  have hlen:(done.map G++x::r).length<=1000:=by rw [Tq,Lm9,<- Tq,e1];exact hl
  rw [TS,UX,TC,Uu] at nk;have hx:iZ (done.map G++x::r) x.1=some x.2:=by
   unfold iZ;rw [List.find?_append,Ve.mpr,Option.none_or,Vx,decide_eq_true rfl];rfl;exact fun y hy z=>nk.2.2 _ (TZ hy) _ To (by simpa using z)
  rw [hF,hb (done.map G++x::r) (done.map G++(x.1,ch)::r) x ?_ ?_,zr,eJ]
  ·refine⟨done++[x],_,by simpa using e1,rfl,?_⟩
   rw [TS,TC,UB,T8,Ws,<- hG];by_cases h:g x.2=true <;> simp only [h,if_true,if_false,TH]
  ·unfold ix
   simp only [gZ,cY,dX,cx];rw [aC (mJ _ _),jF,hx];rfl
  ·have PQ:∀l:List (Cs × Cs),(∀e∈l,e.1≠x.1)->l.map (fun e=>if e.1=x.1 then (e.1,ch) else e)=l:=fun l h=>by
    conv=>rhs;rw [<- XF l]
    exact UT fun e he=>by rw [if_neg (h e he)];rfl
   unfold i8 cx;simp only [cY];rw [if_pos ⟨by rw [Lm9];unfold lim;omega,mJ _ _⟩,vg,if_pos (by simp),tA];congr 4;rw [TS,TC,if_pos rfl,PQ _ fun e he z=>nk.2.2 _ (TZ he) _ To z,PQ r fun e he z=>nk.2.1.1 (by rw [<- z];exact TZ he)]
 ·obtain⟨done,z,e1,rfl,rfl⟩:=hh
  rw [T4] at e1;rw [e1,T4];exact⟨hk _,_,rfl⟩
theorem list_st {st:bz} {L:aa} (hl:st.length<=1000):cL true [.ref L.length] (cx st::L)=.ok (.lst ((st.map (·.1)).map .str)) (cx st::L):=by
 have e:(st.map fun p=>(T.str p.1,T.str p.2)).map (·.1)=(st.map (·.1)).map .str:=by simp
 unfold cL cx;simp only [gZ,cY,dX];rw [e,aC (by simp [jI]),eO,aC (by simp;unfold lim;omega)];rfl
theorem GN (st:bz) (a b:Cs) (nd:(st.map (·.1)).Nodup) (hl:st.length<=1000) (hp:1<=(bo st a).length) (hq:1<=(bo st b).length) (L:aa) :
  fh [.ref L.length,.str a,.str b] (cx st::L)=if gL (bo st a) (bo st b) then .ok (.bl false) (cx st::L) else .ok (.bl true) (cx (dK st (bo st a) (bo st b))::L):=by
 have mQ:kE (cx st::L) (.ref L.length) st:=.inr ⟨_,rfl,cY⟩;unfold fh;simp only [l9,Tu,T9,Xx,if_true,jQ,TC,UB,Vq,UH,Zq,Ui,y3];rw [rB (n:=a) mQ rfl rfl];simp only [of_ok,Tg.set,uR,List.set_cons_succ,List.set_cons_zero,jQ,y3];rw [rB (n:=b) mQ rfl rfl];generalize bo st a=p at *
 generalize bo st b=q at *
 simp_arith;by_cases e:p=q
 ·subst e
  rw [if_neg (show ¬ gL p p from fun z=>z.1 rfl),show dK st p p=st by unfold dK;rw [if_pos rfl]];simp_arith
 ·simp_arith [show(p == q)=false from beq_eq_false_iff_ne.mpr e,eI p hp,eI q hq]
  by_cases ht:gL p q
  ·rw [if_pos ht]
   simp_arith [ht.2.1,ht.2.2]
  ·rw [if_neg ht]
   have hg:(if (!great p)=true then !great q else false)=false:=by
    cases h1:great p with
    | true=>rfl
    | false =>
     cases h2:great q with
     | true=>rfl
     | false=>exact absurd ⟨e,h1,h2⟩ ht
   simp_arith [hg,zW p q hp hq,list_st hl];generalize wC:Un.nS great Hu p q=ch;generalize ho:forL _ _ _ _ _ _=o;obtain⟨z,rfl⟩:=wy (ch:=ch) (fun v=>decide (v∈[p,q])) 6 (fun z=>[some (.ref L.length),some (.str a),some (.str b),some (.str p),some (.str q),some (.str ch),z]) none nd hl ho (fun _=>sv) (fun _ _=>rfl) (fun D D' x Lh N6=>by
    have rO:=JG (x:=x.2) (ys:=[p,q]) (L:=cx D::L);simp only [TC,UB] at rO;simp_arith [Lh,rO];by_cases hm:x.2∈[p,q]
    ·simp_arith [hm,decide_true,N6]
    ·simp only [hm,decide_false,TH,if_false];simp_arith)
   simp_arith;rw [show dK st p q=st.map fun e=>(e.1,if decide (e.2∈[p,q])=true then ch else e.2) by unfold dK;rw [if_neg e,<- wC];exact UT fun e _=>by simp [nU]];exact mF (pA _ _) rfl
end dn
namespace dn
open PySem M
open Bk (Fc Kd Lk Rl great opens KG dC bo iZ wr bz)
theorem pN {f g:Fc} (h:fT f=fT g):f=g:=by
 have:=congrArg (fun t=>eqT t (fT g)) h;simp only [qW,decide_true,decide_eq_true_eq] at this;exact this
abbrev Wn:=List (Fc × Int)
noncomputable def wD (W:Wn):List (T × T):=W.map fun p=>(fT p.1,.int p.2)
noncomputable def wV (W:Wn) (f:Fc):Int:=((W.find? fun p=>decide (p.1=f)).map (·.2)).getD 0
noncomputable def wS (W:Wn) (f:Fc) (n:Int):Wn:=if f∈W.map (·.1) then W.map (fun p=>if p.1=f then (p.1,n) else p) else W++[(f,n)]
theorem GO (n:Nat) (l:List Cs):(l.map T.str).all (kd (n+1))=true:=by simp [kd,jI]
theorem zX (f:Fc):DI (fT f)=true:=by
 show(kd 6 (.str f.k) && (kd 6 (.tup (f.as.map .str)) && true))=true;rw [show kd 6 (.tup (f.as.map .str))=(f.as.map T.str).all (kd 5) from rfl,GO 4];rfl
theorem zY (W:Wn) (f:Fc):dq (wD W) (fT f):=by
 unfold dq fW wD;rw [Wk];refine .inr (Tr.mpr fun x hx=>?_);rcases TJ.mp hx with rfl|hx
 ·exact zX f
 ·obtain⟨p,hp,rfl⟩:=Tz.mp hx
  obtain⟨q,_,rfl⟩:=Tz.mp hp;exact zX q.1
theorem tS:∀(W:Wn) (f:Fc),dm (wD W) (fT f)=(W.find? fun p=>decide (p.1=f)).map fun p=>.int p.2
 | [],f=>rfl
 | (a,b)::W,f=>by
  have ih:=tS W f;unfold wD at ih ⊢;rw [TC,fU,ih,Vx];by_cases h:a=f
  ·rw [if_pos (by rw [h]),decide_eq_true h];rfl
  ·rw [if_neg (fun e=>h (pN e)),decide_eq_false h]
theorem GP (W:Wn) (f:Fc) (n:Int):dput (wD W) (fT f) (.int n)=wD (wS W f n):=by
 unfold wS;by_cases h:f∈W.map (·.1)
 ·obtain⟨e,he,rfl⟩:=Tz.mp h
  rw [if_pos h];unfold dput wD;rw [if_pos (Vk.mpr ⟨(fT e.1,.int e.2),Tz.mpr ⟨e,he,rfl⟩,by simp⟩),Ud,Ud];refine UT fun p hp=>?_
  simp only [Vm];by_cases z:p.1=e.1
  ·rw [if_pos (by rw [z]),if_pos z]
  ·rw [if_neg (fun q=>z (pN q)),if_neg z]
 ·rw [if_neg h,eT]
  ·simp [wD]
  ·intro p hp
   obtain⟨y,hy,rfl⟩:=Tz.mp hp;exact fun e=>h (by rw [<- pN e];exact TZ hy)
theorem Kh (W:Wn) (f g:Fc) (n:Int):wV (wS W f n) g=if g=f then n else wV W g:=by
 unfold wV wS;by_cases h:f∈W.map (·.1)
 ·rw [if_pos h]
  induction W with
  | nil=>cases h
  | cons p W ih =>
   rw [TC,Vx,Vx];by_cases e:p.1=f
   ·rw [if_pos e]
    by_cases q:g=f
    ·rw [if_pos q,decide_eq_true (by rw [e,q])];rfl
    ·rw [if_neg q,decide_eq_false (by rw [e];exact U7 q)]
     simp only [];by_cases h':f∈W.map (·.1)
     ·rw [ih h',if_neg q]
     ·rw [show W.map (fun p=>if p.1=f then (p.1,n) else p)=W from ?_]
      conv=>rhs;rw [<- XF W]
      refine UT fun y hy=>?_
      rw [if_neg (fun z=>h' (by rw [<- z];exact TZ hy))];rfl
   ·rw [if_neg e]
    have h':f∈W.map (·.1):=(TJ.mp h).resolve_left (U7 e);by_cases z:p.1=g
    ·rw [decide_eq_true z]
     simp only [];rw [if_neg (fun q=>e (z.trans q))]
    ·rw [decide_eq_false z]
     exact ih h'
 ·rw [if_neg h,List.find?_append]
  by_cases q:g=f
  ·subst q
   rw [Ve.mpr]
   ·simp
   ·intro y hy z
    exact h (Tz.mpr ⟨y,hy,by simpa using z⟩)
  ·rw [if_neg q]
   cases W.find? fun p=>decide (p.1=g) with
   | some y=>rfl
   | none=>simp [U7 q]
theorem tU {W:Wn} {f:Fc} {n:Int}:f∈(wS W f n).map (·.1)/\∀g∈W.map (·.1),g∈(wS W f n).map (·.1):=by
 unfold wS;by_cases h:f∈W.map (·.1)
 ·have e:(W.map fun p=>if p.1=f then (p.1,n) else p).map (·.1)=W.map (·.1):=by
   rw [Ud];refine UT fun p _=>?_
   simp only [Vm];split <;> rfl
  rw [if_pos h,e];exact⟨h,fun _ z=>z⟩
 ·rw [if_neg h]
  exact⟨by simp,fun g hg=>by rw [TS];exact TF _ hg⟩
theorem GQ {W:Wn} {f:Fc} (h:f∈W.map (·.1)):∃p,W.find? (fun p=>decide (p.1=f))=some p/\p.2=wV W f:=by
 obtain⟨q,hq,rfl⟩:=Tz.mp h;unfold wV;cases e:W.find? fun p=>decide (p.1=q.1) with
 | none=>exact absurd (Ve.mp e q hq) (by simp)
 | some p=>exact⟨p,rfl,rfl⟩
theorem zZ (W:Wn) (f:Fc) (n:Int):(wS W f n).length<=W.length+1:=by unfold wS;split <;> simp
section
variable {L:aa} {W:Wn} {c:T} {f:Fc}
theorem Ki (h:at_ L n=some (.aP (wD W))):iz (.ref n) [fT f,.int 0] L=.ok (.int (wV W f)) L:=by
 unfold iz;simp only [gZ,h,dX];rw [aC (zY W f),tS];unfold wV;cases W.find? fun p=>decide (p.1=f) <;> rfl
theorem Kj (h:at_ L n=some (.aP (wD W))) (hl:W.length<lim) (i:Int):i8 (.ref n) (fT f) (.int i) L=some (put L n (.aP (wD (wS W f i)))):=by
 unfold i8;simp only [h];rw [if_pos ⟨by unfold wD;simpa using hl,zY W f⟩,GP]
end
theorem PR {L:aa} {W:Wn} {f:Fc} {n:Nat} (h:at_ L n=some (.aP (wD W))) (hf:f∈W.map (·.1)):ix (.ref n) (fT f) L=.ok (.int (wV W f)) L/\Hz (.ref n) (fT f) L=.ok (.int (wV W f)) L:=by
 obtain⟨p,hp,e⟩:=GQ hf;unfold ix Hz;simp only [gZ,h,dX];rw [aC (zY W f),tS,hp,<- e];exact⟨rfl,rfl⟩
theorem Kk (bp ts:List Fc) (hb:bp.length<=1000) (ht:ts.length<=1000) (hs:∀f,ts.count f<=bp.count f) (L:aa):∃left:List Fc,(∀f,left.count f=bp.count f - ts.count f)/\cP [.tup (bp.map fT),.lst (ts.map fT)] L=.ok (.lst (left.map fT)) L:=by
 by_cases h0:ts=[]
 ·subst h0
  refine⟨bp,fun f=>by simp,?_⟩;have GR:cL true [.tup (bp.map fT)] L=.ok (.lst (bp.map fT)) L:=by
   show eO true (bp.map fT) L=_;rw [eO,aC (by simp;unfold lim;omega)];rfl
  unfold cP;simp_arith [show(((([]:List Fc).map fT).length:Int) == 0)=true from rfl,GR];exact fin_same (aj bu)
 have main:∃left:List Fc,(∀f,left.count f=bp.count f - ts.count f)/\∃W,cP [.tup (bp.map fT),.lst (ts.map fT)] L=fin L (.ref (L.length+1)) (.lst (left.map fT) :: .aP (wD W)::L):=by
  unfold cP;simp_arith [show((ts.length:Int) == 0)=false by simpa using h0];generalize ho:forL _ _ _ _ _ _=o;have h:=bw ho ts fT (fun r φ L'=>∃(done:List Fc) (W:Wn) (o3:Option T),done++r=ts/\(∀f,wV W f=done.count f)/\W.length<=done.length/\(∀f∈done,f∈W.map (·.1))/\φ=[some (.tup (bp.map fT)),some (.lst (ts.map fT)),some (.ref L.length),o3,none]/\L'=.aP (wD W)::L)
   (fun o=>∃(W:Wn) (o3:Option T),(∀f,wV W f=ts.count f)/\W.length<=ts.length/\(∀f∈ts,f∈W.map (·.1))/\o=.nx [some (.tup (bp.map fT)),some (.lst (ts.map fT)),some (.ref L.length),o3,none] (.aP (wD W)::L)) rfl ⟨[],[],none,rfl,fun f=>rfl,TK _,(by simp),rfl,rfl⟩ (fun _ _ eJ eP f r φ L' hh=>by
    obtain⟨done,W,o3,e1,h1,h2,h3,rfl,rfl⟩:=hh;have hd:done.length<=ts.length:=by rw [<- e1];simp
    refine⟨sv,_,rfl,?_⟩;simp_arith [eJ,eP,Ki (f:=f) (W:=W) (L:=.aP (wD W)::L) cY,Kj (f:=f) (W:=W) (L:=.aP (wD W)::L) cY (by unfold lim;omega)];refine⟨done++[f],wS W f (wV W f+1),_,by simpa using e1,fun g=>?_,?_,fun g hg=>?_,rfl,rfl⟩
    ·rw [Kh,h1,Wy,Xt]
     by_cases z:g=f
     ·subst z;simp [h1]
     ·rw [if_neg z,if_neg (by simpa using U7 z),h1];simp
    ·have:=zZ W f (wV W f+1);simp;omega
    ·rcases TL.mp hg with hg|hg
     ·exact tU.2 g (h3 g hg)
     ·rw [TY.mp hg];exact tU.1)
   fun φ L' hh=>by
    obtain⟨done,W,o3,e1,h1,h2,h3,rfl,rfl⟩:=hh;rw [T4] at e1;subst e1;exact⟨sv,W,o3,h1,h2,h3,rfl⟩
  obtain⟨W0,o3,PU,Sm,Sn,rfl⟩:=h;simp_arith;generalize ho:forL _ _ _ _ _ _=o;have h:=bw ho bp fT (fun r φ L'=>∃(done:List Fc) (W:Wn) (left:List Fc) (o3:Option T),done++r=bp/\W.length<=ts.length+done.length/\left.length<=done.length/\(∀f∈ts,f∈W.map (·.1))/\(∀f,0<=wV W f/\(left.count f:Int)+(ts.count f - wV W f)=done.count f/\(0<wV W f->left.count f=0))/\φ=[some (.tup (bp.map fT)),some (.lst (ts.map fT)),some (.ref L.length),o3,some (.ref (L.length+1))]/\L'=.lst (left.map fT) :: .aP (wD W)::L)
   (fun o=>∃(W:Wn) (left:List Fc) (o3:Option T),(∀f∈ts,f∈W.map (·.1))/\(∀f,wV W f=0/\left.count f=bp.count f - ts.count f)/\o=.nx [some (.tup (bp.map fT)),some (.lst (ts.map fT)),some (.ref L.length),o3,some (.ref (L.length+1))] (.lst (left.map fT) :: .aP (wD W)::L)) rfl
   ⟨[],W0,[],o3,rfl,by simpa using Sm,TK _,Sn,fun f=>⟨by rw [PU];omega,by rw [PU];simp,fun _=>rfl⟩,rfl,rfl⟩ (fun _ _ eJ eP f r φ L' hh=>by
    obtain⟨done,W,left,o3,e1,h1,h2,h3,h4,rfl,rfl⟩:=hh;have hd:done.length<=bp.length:=by rw [<- e1];simp
    refine⟨sv,_,rfl,?_⟩;have Hw:at_ (.lst (left.map fT) :: .aP (wD W)::L) L.length=some (.aP (wD W)):=mz
    simp_arith [eJ,eP,Ki (f:=f) Hw];have cd:∀g:Fc,(done++[f]).count g=done.count g+if g=f then 1 else 0:=fun g=>by
     rw [Wy,Xt];by_cases z:g=f
     ·subst z;simp
     ·rw [if_neg (by simpa using U7 z),if_neg z]
    by_cases hp:0<wV W f
    ·have hmem:f∈W.map (·.1):=by
      refine Decidable.byContradiction fun z=>?_
      have:wV W f=0:=by
       unfold wV;rw [Ve.mpr fun p hp q=>z (Tz.mpr ⟨p,hp,by simpa using q⟩)];rfl
      omega
     simp_arith [eJ,eP,hp,decide_true,(PR Hw hmem).2,Kj (f:=f) Hw (by unfold lim;omega)];refine⟨done++[f],wS W f (wV W f - 1),left,_,by simpa using e1,?_,?_,fun g hg=>tU.2 g (h3 g hg),fun g=>?_,rfl,rfl⟩
     ·have:=zZ W f (wV W f - 1);simp;omega
     ·simp;omega
     ·rw [Kh,cd]
      obtain⟨a1,a2,a3⟩:=h4 g;by_cases z:g=f
      ·subst z
       rw [if_pos rfl,if_pos rfl];exact⟨by omega,by omega,fun _=>a3 hp⟩
      ·rw [if_neg z,if_neg z]
       exact⟨a1,by omega,a3⟩
    ·simp_arith [eJ,eP,hp,decide_false,aC (show left.length<lim by unfold lim;omega),bg]
     refine⟨done++[f],W,left++[f],_,by simpa using e1,?_,by simp;omega,h3,fun g=>?_,rfl,rfl⟩
     ·simp;omega
     ·rw [cd]
      obtain⟨a1,a2,a3⟩:=h4 g;have cl:(left++[f]).count g=left.count g+if g=f then 1 else 0:=by
       rw [Wy,Xt];by_cases z:g=f
       ·subst z;simp
       ·rw [if_neg (by simpa using U7 z),if_neg z]
      rw [cl];by_cases z:g=f
      ·subst z
       rw [if_pos rfl];exact⟨a1,by omega,fun q=>absurd q hp⟩
      ·rw [if_neg z]
       exact⟨a1,by omega,fun q=>by have:=a3 q;omega⟩)
   fun φ L' hh=>by
    obtain⟨done,W,left,o3,e1,h1,h2,h3,h4,rfl,rfl⟩:=hh;rw [T4] at e1;subst e1;refine⟨sv,W,left,o3,h3,fun f=>?_,rfl⟩;obtain⟨a1,a2,a3⟩:=h4 f;have:=hs f
    by_cases q:0<wV W f
    ·have:=a3 q;omega
    ·omega
  obtain⟨W,left,o3,hm,hw,rfl⟩:=h;simp_arith;generalize ho:forL _ _ _ _ _ _=o;have h:=bw ho ts fT (fun r φ L'=>∃o3,(∀f∈r,f∈ts)/\φ=[some (.tup (bp.map fT)),some (.lst (ts.map fT)),some (.ref L.length),o3,some (.ref (L.length+1))]/\L'=.lst (left.map fT) :: .aP (wD W)::L)
   (fun o=>∃o3,o=.nx [some (.tup (bp.map fT)),some (.lst (ts.map fT)),some (.ref L.length),o3,some (.ref (L.length+1))] (.lst (left.map fT) :: .aP (wD W)::L)) rfl ⟨o3,fun _ h=>h,rfl,rfl⟩ (fun _ _ eJ eP f r φ L' hh=>by
    obtain⟨o3,h1,rfl,rfl⟩:=hh;refine⟨sv,_,rfl,?_⟩;simp_arith [eJ,eP,(PR (L:=.lst (left.map fT) :: .aP (wD W)::L) mz (hm f (h1 f To))).1,(hw f).1,Yw,decide_false];exact⟨_,fun g hg=>h1 g (Tp _ hg),rfl,by trivial⟩)
   fun φ L' hh=>by
    obtain⟨o3,h1,rfl,rfl⟩:=hh;exact⟨sv,_,rfl⟩
  obtain⟨o3,rfl⟩:=h;simp_arith;exact⟨left,fun f=>(hw f).2,W,rfl⟩
 obtain⟨left,hc,W,e⟩:=main;exact⟨left,hc,e.trans (Gs (aj bu))⟩
end dn
namespace dn
open PySem M
open Bk (Fc Kd Lk Rl great opens KG dC bo iZ wr bz gO gN dK gL bA mU ak aD lw)
theorem GS {x y:T} (hx:kd 8 x=true) (hy:kd 8 y=true) (h:ltN 8 y x=false):x=y\/ltN 8 x y=true:=by
 by_cases e:x=y
 ·exact .inl e
 ·rcases jl 8 _ _ hx hy e with q|q
  ·exact .inr q
  ·rw [h] at q;cases q
theorem rC (x:T) (hx:kd 8 x=true):∀l:List T,(∀y∈l,kd 8 y=true)->iR l->∃l',l'.Perm (x::l)/\iR l'
 | [],_,_=>⟨[x],.refl _,by simp [iR]⟩
 | y::l,hk,hr=>by
  have hy:=hk y To;have hr':=Vy.mp hr
  cases e:ltN 8 y x with
  | false =>
   refine⟨x::y::l,.refl _,Vy.mpr ⟨fun z hz=>?_,hr⟩⟩;rcases TJ.mp hz with rfl|hz
   ·exact e
   ·have h1:=hr'.1 z hz
    rcases GS hx hy e with rfl|q
    ·exact h1
    ·cases e2:ltN 8 z x with
     | false=>rfl
     | true=>rw [dy 8 _ _ _ e2 q] at h1;cases h1
  | true =>
   obtain⟨l',p,r⟩:=rC x hx l (fun z hz=>hk z (Tp _ hz)) hr'.2;refine⟨y::l',(p.cons y).trans (.swap _ _ _),Vy.mpr ⟨fun z hz=>?_,r⟩⟩;rcases TJ.mp (p.mem_iff.mp hz) with rfl|hz
   ·cases e2:ltN 8 z y with
    | false=>rfl
    | true=>have:=dy 8 _ _ _ e e2;rw [kY] at this;cases this
   ·exact hr'.1 z hz
theorem vh:∀l:List T,(∀y∈l,kd 8 y=true)->∃l',l'.Perm l/\iR l'
 | [],_=>⟨[],.refl _,Yp⟩
 | x::l,h=>by
  obtain⟨l1,p1,r1⟩:=vh l fun y hy=>h y (Tp _ hy)
  obtain⟨l2,p2,r2⟩:=rC x (h x To) l1 (fun y hy=>h y (Tp _ (p1.mem_iff.mp hy))) r1;exact⟨l2,p2.trans (p1.cons x),r2⟩
theorem mL {l:List T} (h:∀y∈l,kd 8 y=true):(jm l).Perm l/\iR (jm l):=by
 obtain⟨l',p,r⟩:=vh l h;rw [oL (Tr.mpr h) p r];exact⟨p,r⟩
theorem rD {α:Type} {g:α->T} {l l2:List T} (p:l.Perm l2):∀fs:List α,l2=fs.map g->∃gs:List α,gs.Perm fs/\l=gs.map g:=by
 induction p with
 | nil =>
  intro fs e;cases fs with
  | nil=>exact⟨[],.refl _,rfl⟩
  | cons f fs=>cases e
 | cons x p ih =>
  intro fs e;cases fs with
  | nil=>cases e
  | cons f fs =>
   cases e;obtain⟨gs,q,e⟩:=ih fs rfl;exact⟨f::gs,q.cons f,by rw [e];rfl⟩
 | swap x y l =>
  intro fs e
  match fs,e with
  | a::b::fs,e=>cases e;exact⟨b::a::fs,.swap _ _ _,rfl⟩
 | trans p q ML MM =>
  intro fs e;obtain⟨gs,r1,e1⟩:=MM fs e;obtain⟨hs,r2,e2⟩:=ML gs e1;exact⟨hs,r2.trans r1,e2⟩
theorem Kl (f:Fc):kd 8 (fT f)=true:=by
 show(kd 7 (.str f.k) && (kd 7 (.tup (f.as.map .str)) && true))=true;rw [show kd 7 (.tup (f.as.map .str))=(f.as.map T.str).all (kd 6) from rfl,GO 5];rfl
theorem Km (f:Fc):kd 6 (fT f)=true:=by
 show(kd 5 (.str f.k) && (kd 5 (.tup (f.as.map .str)) && true))=true;rw [show kd 5 (.tup (f.as.map .str))=(f.as.map T.str).all (kd 4) from rfl,GO 3];rfl
theorem Kn (n:Nat):∀a b:List Cs,shl (qk (n+1)) (a.map .str) (b.map .str)=true
 | [],_=>by simp [shl]
 | _::_,[]=>by simp [shl]
 | x::a,y::b=>by rw [TC,TC,shl,Kn n a b];rfl
theorem N7 (f g:Fc):qk 8 (fT f) (fT g)=true:=by
 show(qk 7 (.str f.k) (.str g.k) && (shl (qk 6) (f.as.map .str) (g.as.map .str) && true))=true;rw [Kn 5];rfl
theorem wm {fs:List Fc} (h:fs.length<64):cw (fs.map fT) :=
 ⟨by simpa using h,by simp [Kl],.inl (by simp [pW,fT]),by simp [N7]⟩
theorem kd_p (p:Cs × Cs):kd 8 (pT p)=true:=rfl
theorem Ko {fs:List (Cs × Cs)} (h:fs.length<64):cw (fs.map pT) :=
 ⟨by simpa using h,by simp [kd_p],.inl (by simp [pW,pT]),by simp [show ∀a b,qk 8 (pT a) (pT b)=true from fun _ _=>rfl]⟩
theorem vm (fs:List Fc):∃gs:List Fc,gs.Perm fs/\jm (fs.map fT)=gs.map fT :=
 rD (mL fun y hy=>by obtain⟨f,_,rfl⟩:=Tz.mp hy;exact Kl f).1 fs rfl
theorem Dy (fs:List (Cs × Cs)):∃gs:List (Cs × Cs),gs.Perm fs/\jm (fs.map pT)=gs.map pT :=
 rD (mL fun y hy=>by obtain⟨f,_,rfl⟩:=Tz.mp hy;exact kd_p f).1 fs rfl
theorem GU {x:T} {ys:List T} {L:aa} (hx:vw L x=.lst ys) (h:cw ys) (hl:(jm ys).length<=lim):gQ true [x] L=.ok (.lst (jm ys)) L:=by
 unfold gQ;simp only [hx];unfold cw at h;rw [aC h,eO,aC hl];rfl
theorem Cw {ys:List T} (h:cw ys):(jm ys).length<=lim:=by
 rw [(mL (Tr.mp h.2.1)).1.length_eq];have:=h.1;unfold lim;omega
theorem pO {x:T} {ys:List T} {L:aa} (hx:vw L x=.lst ys) (h:cw ys):gQ true [x] L=.ok (.lst (jm ys)) L:=GU hx h (Cw h)
theorem Kp (fs:List Fc):∃gs:List Fc,gs.Nodup/\(∀f,f∈gs↔f∈fs)/\gs.length<=fs.length/\qm (fs.map fT)=gs.map fT:=by
 induction fs with
 | nil=>exact⟨[],Wa,fun _=>Iff.rfl,TK _,rfl⟩
 | cons f fs ih =>
  obtain⟨gs,h1,h2,h3,h4⟩:=ih;rw [TC,qm];by_cases h:f∈fs
  ·rw [if_pos (TZ h)]
   exact⟨gs,h1,fun g=>by rw [h2,TJ];exact⟨.inr,fun z=>z.elim (fun e=>by rw [e];exact h) id⟩,by simp;omega,h4⟩
  ·rw [if_neg fun z=>by obtain⟨g,hg,e⟩:=Tz.mp z;exact h (by rw [<- pN e];exact hg)]
   exact⟨f::gs,Uu.mpr ⟨fun z=>h ((h2 f).mp z),h1⟩,fun g=>by rw [TJ,TJ,h2],by simp;omega,by rw [h4];rfl⟩
theorem Cy (fs:List Fc) (h:fs.length<64) (L:aa):∃gs:List Fc,gs.Nodup/\(∀f,f∈gs↔f∈fs)/\jm (qm (fs.map fT))=gs.map fT/\lP true [.lst (fs.map fT)] L=.ok (.lst (gs.map fT)) L:=by
 refine rK fun G n9=>?_
 obtain⟨g1,a1,a2,a3,a4⟩:=Kp fs;obtain⟨g2,b1,b2⟩:=vm g1;refine n9 ?_;clear n9;refine⟨g2,b1.nodup_iff.mpr a1,fun f=>(b1.mem_iff).trans (a2 f),by rw [a4];exact b2,?_⟩;show bT _ _=_
 rw [aC ⟨wm h,by simp [Km],Tr.mpr fun x hx=>by obtain⟨f,_,rfl⟩:=Tz.mp hx;rfl⟩,a4,b2,eO,aC (by rw [Lm9,b1.length_eq];unfold lim;omega)];rfl
theorem Cz (st:bz) (h:st.length<64) (L:aa):∃gs:List (Cs × Cs),gs.Perm st/\jm (st.map pT)=gs.map pT/\jN true [.ref L.length] (cx st::L)=.ok (.lst (gs.map pT)) (cx st::L):=by
 obtain⟨gs,b1,b2⟩:=Dy st;refine⟨gs,b1,b2,?_⟩;have e:dE (st.map fun p=>(T.str p.1,T.str p.2))=st.map pT:=by unfold dE;rw [Ud];rfl
 unfold jN cx;simp only [gZ,cY,dX];rw [e,aC (Ko h),b2,eO,aC (by rw [Lm9,b1.length_eq];unfold lim;omega)];rfl
theorem GV {st:bz} {n:Cs} (h:(st.map (·.1)).Nodup):((gN st n).map (·.1)).Nodup:=by
 unfold gN;split
 ·split
  ·exact h
  ·rename_i hn
   rw [TS,UX];exact⟨h,by simp,fun a ha b hb e=>hn (by simp at hb;rw [<- hb,<- e];exact ha)⟩
 ·exact h
theorem z6:∀(ns:List Cs) {st:bz},(st.map (·.1)).Nodup->((gO st ns).map (·.1)).Nodup
 | [],_,h=>h
 | n::ns,_,h=>z6 ns (GV h)
theorem CA {st:bz} {p q:Cs} (h:(st.map (·.1)).Nodup):((dK st p q).map (·.1)).Nodup:=by
 unfold dK;split
 ·exact h
 ·rw [Bk.tq];exact h
theorem GW {st:bz} {n:Cs} (h:mU st) (hn:dC n):mU (gN st n):=by
 unfold gN;split
 ·split
  ·exact h
  ·intro e he
   rcases TL.mp he with he|he
   ·exact h e he
   ·rw [TY.mp he];exact⟨hn,hn⟩
 ·exact h
theorem z7:∀(ns:List Cs) {st:bz},mU st->(∀n∈ns,dC n)->mU (gO st ns)
 | [],_,h,_=>h
 | n::ns,_,h,hn=>z7 ns (GW h (hn n To)) fun m hm=>hn m (Tp _ hm)
theorem rE (st:bz) (p q:Cs):(dK st p q).length=st.length:=by unfold dK;split <;> simp
theorem z8:∀(dE:List (Cs × Cs)) {st b8:bz},bA st dE=some b8->b8.length<=st.length+2 * dE.length
 | [],st,b8,h=>by cases h;simp
 | (a,b)::r,st,b8,h=>by
  unfold bA at h;split at h
  ·cases h
  ·have:=z8 r h
   rw [rE] at this;have z:=jG [a,b] st
   simp at z ⊢;omega
noncomputable def cE (bp bl:List Fc) (st:bz):T:=.tup [.tup (bp.map fT),.tup (bl.map fT),.tup (st.map pT),.bl false]
theorem iY {st:bz} {x:T} {L:aa} (hx:kE L x st) {fs:List Fc} (hf:∀f∈fs,f.as.length<=1000) (hl:fs.length<=1000) {s:SI} {aV:List (Option Nat)} {φ:Fr} {k:aa->Prop} {r:R T} (hc:comp true s aV (.one 1) yes (ae bq [v 2,v 1]) φ L=r) (hs:s φ L=.ok (fs.map fT,k) L) (hk:k L)
  (h1:∀y,((inner aV φ).set 1 (some y))[1]?=some (some y)) (h2:∀y,((inner aV φ).set 1 (some y))[2]?=some (some x)):r=.ok (.lst ((fs.map (wr st)).map fT)) L:=by
 rw [bf hc fs fT (fun f=>fT (wr st f)) hs hk (by unfold lim;omega) fun f Ds=>by
  simp only [y0,mj,mc,FJ,h1,h2,VQ,dA,aJ];exact og hx f (hf f Ds),Ud]
 rfl
noncomputable def mM (ks:List Kd) (fs:List Fc):List Fc:=fs.filter fun f=>!decide (f.k∈(ks.filter (·.l)).map (·.n))
noncomputable def z9 (ks:List Kd) (fs:List Fc):List Fc:=fs.filter fun f=>decide (f.k∈(ks.filter (·.l)).map (·.n))
structure Mv (ks:List Kd) (bp bl:List Fc) (st:bz) (ts fs:List Fc) (dE:List (Cs × Cs)):Prop where
 hn:(ks.map (·.n)).Nodup
 hk:ks.length<=100
 ft:∀f∈ts,ak ks f
 ff:∀f∈fs,ak ks f
 tl:∀f∈ts,f.k∉(ks.filter (·.l)).map (·.n)
 nd:(st.map (·.1)).Nodup
 sm:mU st
 So:st.length<=10
 z1:bp.length+fs.length<64
 z2:bl.length+fs.length<64
 z3:ts.length<=10
 z4:fs.length<=4
 z5:dE.length<=4
 a4:∀f∈(bp++bl)++(ts++fs),f.as.length<=4
 nf:∀f∈fs,∀a∈f.as,dC a
 np:∀p∈dE,dC p.1/\dC p.2
 cnt:∀f,(ts.map (wr st)).count f<=bp.count f
noncomputable def rF (ks:List Kd) (bp bl:List Fc) (st:bz) (ts fs:List Fc) (dE:List (Cs × Cs)) (r:T):Prop :=
 (bA (gO st (fs.flatMap (·.as))) dE=none/\r=dM) \/
 ∃b8 left P Q S,bA (gO st (fs.flatMap (·.as))) dE=some b8/\(∀f,left.count f=bp.count f - (ts.map (wr st)).count f)/\P.Perm (lw dE b8 left++mM ks (fs.map (wr b8)))/\jm ((lw dE b8 left++mM ks (fs.map (wr b8))).map fT)=P.map fT /\
  Q.Nodup/\(∀f,f∈Q↔f∈lw dE b8 bl++z9 ks (fs.map (wr b8)))/\jm (qm ((lw dE b8 bl++z9 ks (fs.map (wr b8))).map fT))=Q.map fT/\S.Perm b8/\jm (b8.map pT)=S.map pT/\r=cE P Q S
theorem Dz {l:List Fc} (h:∀g∈l,g.as.length<=4):(l.flatMap (·.as)).length<=4 * l.length:=by
 induction l with
 | nil=>exact TK _
 | cons a l ih =>
  have h1:=h a To;have h2:=ih fun g hg=>h g (Tp _ hg)
  rw [Yr,Tq,Tu];omega
theorem Aa {dE:List (Cs × Cs)} {st:bz} {l:List Fc}:(lw dE st l).length=l.length:=by
 unfold lw;split
 ·rfl
 ·rw [Lm9]
theorem CB (ks:List Kd) (bp bl:List Fc) (st:bz) (ts fs:List Fc) (dE:List (Cs × Cs)) (M:Mv ks bp bl st ts fs dE) (L:aa) :
  ∃r,rF ks bp bl st ts fs dE r/\lr [.lst (ks.map kT),cE bp bl st,.lst (ts.map fT),.lst (fs.map fT),.lst (dE.map pT)] L=.ok r L:=by
 have hk':=M.hk;have h3:=M.z3
 have h4:=M.z4;have h5:=M.z5
 have Ta:=M.So;have aB:∀f∈bp,f.as.length<=4:=fun f hf=>M.a4 f (TF _ (TF _ hf))
 have aL:∀f∈bl,f.as.length<=4:=fun f hf=>M.a4 f (TF _ (TQ _ hf))
 have aT:∀f∈ts,f.as.length<=4:=fun f hf=>M.a4 f (TQ _ (TF _ hf))
 have aF:∀f∈fs,f.as.length<=4:=fun f hf=>M.a4 f (TQ _ (TQ _ hf))
 have z1:=M.z1;have z2:=M.z2
 unfold lr cE;simp_arith [fB ks ts (.lst (ks.map kT)) L rfl M.hn (by omega) M.ft,fB ks fs (.lst (ks.map kT)) L rfl M.hn (by omega) M.ff];rw [cZ rfl ks kT (·.l) (fun k=>.str k.n) (by exact rfl) (by exact ai) (by unfold lim;omega) (by exact fun b _=>by simp_arith) (by exact fun b _ _=>by simp_arith)];have Co:((ks.filter (·.l)).map fun k=>T.str k.n)=((ks.filter (·.l)).map (·.n)).map T.str:=by simp
 have hd:lC [.tup (st.map pT)] L=.ok (.ref L.length) (cx st::L):=tM (g:=fun p:Cs × Cs=>p.1) (h:=fun p=>.str p.2) st M.nd (by omega) L;simp_arith [Co,iG _ ts M.tl,hd];rw [iY (fs:=ts) (st:=st) (x:=.ref L.length) (.inr ⟨_,rfl,cY⟩) (fun f hf=>TU (aT f hf) (by decide)) (by omega) rfl (by exact rfl) (by exact ai) (by exact fun _=>rfl) (by exact fun _=>rfl)];obtain⟨left,N8,ho⟩:=Kk bp (ts.map (wr st)) (by omega) (by rw [Lm9];omega) M.cnt (cx st::L);have Sp:left.length<=bp.length:=Bk.ik left bp fun f=>by rw [N8];exact Nat.sub_le _ _
 have hle:∀f∈left,f.as.length<=4:=fun f hf=>aB f (Bk.uY N8 hf)
 simp_arith [ho];generalize ho:forL _ _ _ _ _ _=o;have h:=bw ho fs fT (fun q φ L'=>∃done o7,done++q=fs/\φ=[some (.lst (ks.map kT)),some (.tup [.tup (bp.map fT),.tup (bl.map fT),.tup (st.map pT),.bl false]),some (.lst (ts.map fT)),some (.lst (fs.map fT)),some (.lst (dE.map pT)),some (.lst (((ks.filter (·.l)).map (·.n)).map T.str)),some (.ref L.length),o7,some (.lst (left.map fT)),none,none,none,none]/\L'=cx (gO st (done.flatMap (·.as)))::L)
  (fun o=>∃o7,o=.nx [some (.lst (ks.map kT)),some (.tup [.tup (bp.map fT),.tup (bl.map fT),.tup (st.map pT),.bl false]),some (.lst (ts.map fT)),some (.lst (fs.map fT)),some (.lst (dE.map pT)),some (.lst (((ks.filter (·.l)).map (·.n)).map T.str)),some (.ref L.length),o7,some (.lst (left.map fT)),none,none,none,none] (cx (gO st (fs.flatMap (·.as)))::L)) rfl ⟨[],none,rfl,rfl,rfl⟩ (fun _ _ eJ eP f q φ L' hh=>by
   obtain⟨done,o7,e1,rfl,rfl⟩:=hh;refine⟨sv,_,rfl,?_⟩;have Ds:f∈fs:=e1 ▸ TQ _ To
   have hle:=jG (done.flatMap (·.as)) st;have h1:=Dz (l:=done) fun g hg=>aF g (e1 ▸ TF _ hg)
   have h2:done.length<=fs.length:=by rw [<- e1,Tq];exact Nat.le_add_right _ _
   have h3:=aF f Ds;simp_arith [eJ,eP,zV (L:=L) (gO st (done.flatMap (·.as))) f.as (.tup (f.as.map .str)) rfl (fun _ z=>by cases z) (fun n hn=>(hV (M.nf f Ds n hn)).1) (by omega)];exact⟨done++[f],_,by rw [T8];exact e1,rfl,by simp [gO]⟩)
  fun φ L' hh=>by
   obtain⟨done,o7,e1,rfl,rfl⟩:=hh;rw [T4] at e1;subst e1;exact⟨sv,_,rfl⟩
 obtain⟨o7,rfl⟩:=h;have hz:=Dz aF
 have K3:=jG (fs.flatMap (·.as)) st;have n0:=z6 (fs.flatMap (·.as)) M.nd
 have m0:=z7 (fs.flatMap (·.as)) M.sm fun n hn=>by obtain⟨f,hf,h⟩:=Xo.mp hn;exact M.nf f hf n h
 unfold rF;generalize gO st (fs.flatMap (·.as))=S0 at *
 simp_arith;generalize ho:forL _ _ _ _ _ _=o;have h:=bw ho dE pT (fun q φ L'=>∃done fX o9,done++q=dE/\bA fX q=bA S0 dE/\(fX.map (·.1)).Nodup/\mU fX/\fX.length<=26+2 * done.length/\φ=[some (.lst (ks.map kT)),some (.tup [.tup (bp.map fT),.tup (bl.map fT),.tup (st.map pT),.bl false]),some (.lst (ts.map fT)),some (.lst (fs.map fT)),some (.lst (dE.map pT)),some (.lst (((ks.filter (·.l)).map (·.n)).map T.str)),some (.ref L.length),o7,some (.lst (left.map fT)),o9,none,none,none]/\L'=cx fX::L)
  (fun o=>(bA S0 dE=none/\∃c,o=.rt dM (c::L))\/∃b8 o9,bA S0 dE=some b8/\(b8.map (·.1)).Nodup/\mU b8/\b8.length<=40/\o=.nx [some (.lst (ks.map kT)),some (.tup [.tup (bp.map fT),.tup (bl.map fT),.tup (st.map pT),.bl false]),some (.lst (ts.map fT)),some (.lst (fs.map fT)),some (.lst (dE.map pT)),some (.lst (((ks.filter (·.l)).map (·.n)).map T.str)),some (.ref L.length),o7,some (.lst (left.map fT)),o9,none,none,none] (cx b8::L)) rfl ⟨[],S0,none,rfl,rfl,n0,m0,by omega,rfl,rfl⟩ (fun _ _ eJ eP p q φ L' hh=>by
   obtain⟨done,fX,o9,e1,e2,n1,m1,l1,rfl,rfl⟩:=hh;obtain⟨pa,pb⟩:=p;refine⟨sv,_,rfl,?_⟩;have hp:=M.np (pa,pb) (e1 ▸ TQ _ To)
   have hd:done.length+1<=dE.length:=by rw [<- e1,Tq,Tu];omega
   have n2:=z6 [pa,pb] n1;have m2:=z7 [pa,pb] m1 fun n hn=>all2 (P:=dC) hp.1 hp.2 hn
   have l2:=jG [pa,pb] fX;simp only [Tu,T9] at l2;have k1:=zV (L:=L) fX [pa,pb] (pT (pa,pb)) rfl (fun _ z=>by cases z) (fun n hn=>all2 (P:=fun n=>1<=n.length) (hV hp.1).1 (hV hp.2).1 hn) (by simp only [Tu,T9];omega)
   have k2:=GN (gO fX [pa,pb]) pa pb n2 (by omega) (hV (m2.bo hp.1)).1 (hV (m2.bo hp.2)).1 L;have e3:bA fX ((pa,pb)::q)=if gL (bo (gO fX [pa,pb]) pa) (bo (gO fX [pa,pb]) pb) then none else bA (dK (gO fX [pa,pb]) (bo (gO fX [pa,pb]) pa) (bo (gO fX [pa,pb]) pb)) q:=rfl
   rw [e3] at e2;by_cases ht:gL (bo (gO fX [pa,pb]) pa) (bo (gO fX [pa,pb]) pb)
   ·rw [if_pos ht] at k2 e2
    simp_arith [eJ,eP,k1,k2];exact .inl ⟨e2.symm,_,rfl⟩
   ·rw [if_neg ht] at k2 e2
    simp_arith [eJ,eP,k1,k2];exact⟨done++[(pa,pb)],_,_,by rw [T8];exact e1,e2,CA n2,m2.tell (m2.bo hp.1) (m2.bo hp.2),by rw [rE,Tq,UQ];omega,rfl,rfl⟩)
  fun φ L' hh=>by
   obtain⟨done,fX,o9,e1,e2,n1,m1,l1,rfl,rfl⟩:=hh;rw [T4] at e1;subst e1;exact⟨sv,.inr ⟨fX,o9,e2.symm,n1,m1,by omega,rfl⟩⟩
 rcases h with⟨hN,c,rfl⟩|⟨b8,o9,hS,n2,m2,l2,rfl⟩
 ·simp_arith
  exact⟨dM,.inl ⟨hN,rfl⟩,dY rfl⟩
 have GR:cL true [.tup (bl.map fT)] (cx b8::L)=.ok (.lst (bl.map fT)) (cx b8::L):=by
  show eO true (bl.map fT) _=_;rw [eO,aC (by simp;unfold lim;omega)];rfl
 have mQ:kE (cx b8::L) (.ref L.length) b8:=.inr ⟨_,rfl,cY⟩;refine rK fun G n9=>?_
 obtain⟨rG,jH⟩:∃x,x=lw dE b8 left:=⟨_,rfl⟩;obtain⟨N9,vK⟩:∃x,x=lw dE b8 bl:=⟨_,rfl⟩;have w1:rG.length=left.length:=jH ▸ Aa
 have w2:N9.length=bl.length:=vK ▸ Aa;have Tc:=eM (p:=fun f:Fc=>!decide (f.k∈(ks.filter (·.l)).map (·.n))) (l:=fs.map (wr b8)) (n:=fs.length) (by simp)
 have Td:=eM (p:=fun f:Fc=>decide (f.k∈(ks.filter (·.l)).map (·.n))) (l:=fs.map (wr b8)) (n:=fs.length) (by simp);obtain⟨P,DA,Kq⟩:=vm (rG++mM ks (fs.map (wr b8)));obtain⟨Q,Oa,Lj,Sr,PV⟩:=Cy (N9++z9 ks (fs.map (wr b8))) (by rw [Tq];unfold z9;omega) (cx b8::L);obtain⟨S,hS1,hS2,Ss⟩:=Cz b8 (by omega) L;have PW:gQ true [.lst ((rG++mM ks (fs.map (wr b8))).map fT)] (cx b8::L)=.ok (.lst (P.map fT)) (cx b8::L):=by
  rw [pO (ys:=(rG++mM ks (fs.map (wr b8))).map fT) rfl (wm (by rw [Tq];unfold mM;omega)),Kq]
 refine n9 ?_;clear n9;refine⟨cE P Q S,.inr ⟨b8,left,P,Q,S,hS,N8,jH ▸ DA,jH ▸ Kq,Oa,vK ▸ Lj,vK ▸ Sr,hS1,hS2,rfl⟩,?_⟩;have fin:fin L (cE P Q S) (cx b8::L)=.ok (cE P Q S) L:=dY (by unfold cE;rw [lt,cT,cT,cT,cT,cT,dU bu,dU bu,dU fR];rfl)
 simp_arith [GR];apply twice
 ·intro key
  by_cases Hy:dE=[]
  ·have e1:lw dE b8 left=left:=if_pos Hy
   have e2:lw dE b8 bl=bl:=if_pos Hy;simp_arith [show decide ((0:Int)<(dE.length:Int))=false by rw [Hy];rfl];rw [show T.lst (left.map fT)=.lst (rG.map fT) by rw [jH,e1],show T.lst (bl.map fT)=.lst (N9.map fT) by rw [vK,e2]];exact key
  ·have e1:lw dE b8 left=left.map (wr b8):=if_neg Hy
   have e2:lw dE b8 bl=bl.map (wr b8):=if_neg Hy;have hpl:(0:Int)<(dE.length:Int):=by
    have:=Zj.mpr Hy;omega
   simp_arith [hpl,decide_true];rw [iY (fs:=left) mQ (fun f hf=>TU (hle f hf) (by decide)) (by omega) rfl (by exact rfl) (by exact sv) (by exact fun _=>rfl) (by exact fun _=>rfl)];simp_arith;rw [iY (fs:=bl) mQ (fun f hf=>TU (aL f hf) (by decide)) (by omega) rfl (by exact rfl) (by exact sv) (by exact fun _=>rfl) (by exact fun _=>rfl)];simp_arith;rw [<- e1,<- e2,<- jH,<- vK];exact key
 rw [iY (fs:=fs) mQ (fun f hf=>TU (aF f hf) (by decide)) (by omega) rfl (by exact rfl) (by exact sv) (by exact fun _=>rfl) (by exact fun _=>rfl)];simp_arith;rw [cZ rfl (fs.map (wr b8)) fT (fun f=>!decide (f.k∈(ks.filter (·.l)).map (·.n))) fT (by exact rfl) (by exact sv) (by simp;unfold lim;omega) (by exact fun b _=>by simp_arith) (by exact fun b _ _=>by simp_arith)];simp_all_arith [<- TS];rw [cZ rfl (fs.map (wr b8)) fT (fun f=>decide (f.k∈(ks.filter (·.l)).map (·.n))) fT (by exact rfl) (by exact sv) (by simp;unfold lim;omega) (by exact fun b _=>by simp_arith) (by exact fun b _ _=>by simp_arith)];simp_all_arith [<- TS];unfold mM at PW;unfold z9 at PV;simp_arith [PW,PV,Ss];exact fin
end dn
namespace dn
open PySem M
open Bk (Fc Kd Lk Rl great opens KG dC bo iZ wr bz mU aD qT my d8 gY fA jv iD au)
theorem Ob {α β:Type} {g:α->T} {h:β->T} (a:List α) (b:List β):zp (a.map g) (b.map h)=(a.zip b).map fun p=>.tup [g p.1,h p.2]:=by
 unfold zp;rw [List.zip_map,Ud];rfl
theorem Ab {α β:Type} {a:List α} {b:List β} (h:a.length<=b.length):(a.zip b).map (·.1)=a:=by
 induction a generalizing b with
 | nil=>rfl
 | cons x a ih =>
  cases b with
  | nil=>simp at h
  | cons y b=>rw [U1,TC,ih (by simpa using h)]
theorem Kr {α:Type} {h:α->T} {x y:T} {ns:List Cs} {vs:List α} {L:aa} (hx:vw L x=.lst (ns.map .str)) (hy:vw L y=.lst (vs.map h)\/vw L y=.tup (vs.map h)) (hn:ns.Nodup) (hl:ns.length<=vs.length) (h1:ns.length<=1000):fK [x,y] L=.ok (.ref L.length) (.aP ((ns.zip vs).map fun p=>(.str p.1,h p.2))::L):=by
 have e:fK [x,y] L=w4 (zp (ns.map .str) (vs.map h)) L:=by
  unfold fK;rcases hy with hy|hy
  ·simp only [hx,hy]
   exact aC (by simpa using hl)
  ·simp only [hx,hy]
   exact aC (by simpa using hl)
 rw [e,Ob];exact tM (g:=fun p:Cs × α=>p.1) (h:=fun p=>h p.2) (ns.zip vs) (by rw [Ab hl];exact hn) (by rw [List.length_zip];omega) L
theorem tV {x y:T} {ns vs:List Cs} {L:aa} (hx:vw L x=.lst (ns.map .str)) (hy:vw L y=.lst (vs.map .str)\/vw L y=.tup (vs.map .str)) (hn:ns.Nodup) (hl:ns.length<=vs.length) (h1:ns.length<=1000):fK [x,y] L=.ok (.ref L.length) (cx (ns.zip vs)::L):=Kr hx hy hn hl h1
noncomputable def stepT (i:Nat) (vs:List Cs):T:=.tup [.int (i:Nat),.tup (vs.map .str)]
theorem Ac {rs:List Rl} {i:Nat} {r:Rl} (h:rs[i]?=some r) (L:aa):ix (.lst (rs.map aO)) (.int (i:Nat)) L=.ok (aO r) L:=dT (by rw [TX,h];rfl)
theorem pP (ks:List Kd) (rs:List Rl) (i:Nat) (vs:List Cs) (r:Rl) (hr:rs[i]?=some r) (hv:vs.length=(opens (r.take++r.keep)).length) (L:aa):eC [jw ks rs,stepT i vs] L=.ok .cb L:=by
 have hi:=(TM.mp hr).1;unfold eC stepT;simp_arith [show ¬ ((i:Nat):Int)<0 by omega,decide_false,show ¬ (rs.length:Int)<=(i:Nat) by omega,Ac hr,show((vs.length:Int) != ((opens (r.take++r.keep)).length:Int))=false by simp [hv]]
theorem Ad {f:Str->Option Fn} {a:SE} {ms:List SE} {φ:Fr} {L:aa} {k:Lk} (ha:a φ L=.ok (lT k) L) (h1:f "Same"=some cq) (h2:f "Unlike"=some bB):oh "holds" f a ms φ L=(ib ms φ L).bind fun ts L2=>(if k.same=true then cq else bB) (lT k::ts) L2:=by
 unfold oh;rw [ha,aJ];cases hs:k.same with
 | true =>
  have e:vw L (lT k)=.obj "Same" [("left",.str k.l),("right",.str k.r)]:=by unfold lT;rw [hs];rfl
  rw [e];simp only [h1];rfl
 | false =>
  have e:vw L (lT k)=.obj "Unlike" [("left",.str k.l),("right",.str k.r)]:=by unfold lT;rw [hs];rfl
  rw [e];simp only [h2];rfl
theorem CC (k:Lk) (a b:Cs) (ha:1<=a.length) (hb:1<=b.length) (L:aa):(if k.same=true then cq else bB) [lT k,.str a,.str b] L=.ok (.bl (my k.same a b)) L:=by
 cases hs:k.same with
 | true =>
  rw [if_pos rfl];unfold cq my;simp_arith;rw [show(a == b)=decide (a=b) by by_cases h:a=b <;> simp [h]]
 | false =>
  rw [if_neg (by simp)];unfold bB my;simp_arith [eI a ha,eI b hb,if_false];cases great a <;> cases great b <;> simp_arith;rw [show(a == b)=decide (a=b) by by_cases h:a=b <;> simp [h]]
theorem GX {α:Type} {p:α->Bool} (l:List α) (L:aa):p4 [.lst (l.map fun x=>.bl (p x))] L=.ok (.bl (l.all p)) L:=by
 have:=mapM_map (f:=Hc) (g:=fun x=>T.bl (p x)) (h:=p) (fun _=>rfl) l;simp [p4,AD,vw,this,lift,YY,Vm]
theorem Ae {α:Type} {p:α->Bool} (l:List α) (L:aa):vF [.lst (l.map fun x=>.bl (p x))] L=.ok (.bl (l.any p)) L:=by
 have:=mapM_map (f:=Hc) (g:=fun x=>T.bl (p x)) (h:=p) (fun _=>rfl) l;simp [vF,AD,vw,this,lift,List.any_map,Vm]
theorem pQ {L:aa} {x:T} {st:bz} (h:kE L x st) (r:Rl) (sm:mU st) (hn:∀k∈r.aH,dC k.l/\dC k.r) (hl:r.aH.length<=1000):eD [aO r,x] L=.ok (.bl (r.aH.all (qT st))) L:=by
 unfold eD;simp_arith;generalize hc:comp _ _ _ _ _ _ _ _=r';obtain rfl:=bf hc r.aH lT (fun k=>.bl (qT st k)) rfl sv (by unfold lim;omega) (fun k hk=>by
  obtain⟨h1,h2⟩:=hn k hk;rw [Ad (k:=k) rfl rfl rfl];simp only [mj,mc];rw [rB (n:=k.l) h rfl (by simp_arith),aJ,rB (n:=k.r) h rfl (by simp_arith),aJ,aJ,aJ,aJ];exact CC k _ _ (hV (sm.bo h1)).1 (hV (sm.bo h2)).1 L)
 simp_arith [GX]
theorem DB (ys:List Fc) (f:Fc):(ys.map fT).countP (fun y=>eqT y (fT f))=ys.countP fun a=>decide (a=f):=by
 rw [List.countP_map];exact List.countP_congr fun a _=>by simp [qW]
theorem Oc (ys:List Fc) (f:Fc) (L:aa):t5 (.tup (ys.map fT)) [fT f] L=.ok (.int (ys.countP fun a=>decide (a=f):Nat)) L:=by
 show bT _ _=_;rw [aC ⟨iE f,fc iE ys⟩,DB]
theorem Od (ys:List Fc) (f:Fc) (L:aa):t4 (.lst (ys.map fT)) [fT f] L=.ok (.int (ys.countP fun a=>decide (a=f):Nat)) L:=by
 show bT _ _=_;rw [aC ⟨iE f,fc iE ys⟩,DB]
theorem nq {L:aa} {x:T} {st:bz} (h:kE L x st) (ks:List Kd) (hk:ks.length<=1000) (r:Rl) (ha:∀f∈r.take++r.keep,f.as.length<=4) (hl:r.take.length+r.keep.length<=1000) (bp bl:List Fc) (s3:T) :
  dF [.lst (ks.map kT),aO r,x,.tup [.tup (bp.map fT),.tup (bl.map fT),s3,.bl false]] L=.ok (.bl (fA ks st r bp bl)) L:=by
 unfold dF;simp_arith;rw [cZ rfl ks kT (·.l) (fun k=>.str k.n) (by exact rfl) (by exact ai) (by unfold lim;omega) (by exact fun b _=>by simp_arith) (by exact fun b _ _=>by simp_arith)];have Co:((ks.filter (·.l)).map fun k=>T.str k.n)=(aD ks).map T.str:=by simp [aD]
 simp_arith [Co];rw [iY (fs:=r.take++r.keep) h (fun f hf=>by have:=ha f hf;omega) (by simp;omega) rfl (k:=stays (.lst ((r.take++r.keep).map fT)) L) (by simp_all_arith [<- TS]) (by exact sv) (by exact fun _=>rfl) (by exact fun _=>rfl)];rw [show(r.take++r.keep).map (wr st)=d8 st r from rfl];simp_arith;unfold fA;generalize d8 st r=hs;generalize ho:forL _ _ _ _ _ _=o;have h:=bw ho hs fT (fun q φ L'=>∃o6,q.all (gY ks bp bl hs)=hs.all (gY ks bp bl hs)/\φ=[some (.lst (ks.map kT)),some (aO r),some x,some (.tup [.tup (bp.map fT),.tup (bl.map fT),s3,.bl false]),some (.lst ((aD ks).map .str)),some (.lst (hs.map fT)),o6]/\L'=L)
  (fun o=>(hs.all (gY ks bp bl hs)=false/\o=.rt (.bl false) L)\/(hs.all (gY ks bp bl hs)=true/\∃φ,o=.nx φ L)) rfl ⟨none,rfl,rfl,rfl⟩ (fun _ _ eJ eP f q φ L' hh=>by
   obtain⟨o6,e1,rfl,rfl⟩:=hh;refine⟨sv,_,rfl,?_⟩;rw [UG] at e1;simp_arith [eJ,eP];by_cases hm:f.k∈aD ks
   ·have hb:gY ks bp bl hs f=decide (f∈bl):=by unfold gY;rw [if_pos hm]
    rw [hb] at e1;simp_arith [eJ,eP,hm,decide_true];by_cases hi:f∈bl
    ·simp_arith [eJ,eP,hi,decide_true]
     rw [decide_eq_true hi,Yx] at e1;exact⟨_,e1,rfl,by trivial⟩
    ·simp_arith [eJ,eP,hi,decide_false]
     rw [decide_eq_false hi,XZ] at e1;exact .inl ⟨e1.symm,by trivial⟩
   ·have hb:gY ks bp bl hs f=decide (hs.countP (fun a=>decide (a=f))<=bp.countP fun a=>decide (a=f)):=by unfold gY;rw [if_neg hm]
    rw [hb] at e1;simp_arith [eJ,eP,hm,decide_false,Oc,Od];by_cases hi:hs.countP (fun a=>decide (a=f))<=bp.countP fun a=>decide (a=f)
    ·rw [decide_eq_true hi,Yx] at e1
     rw [decide_eq_false (show ¬ (((bp.countP fun a=>decide (a=f):Nat)):Int)<((hs.countP fun a=>decide (a=f):Nat):Int) by omega)];simp_arith [eJ,eP];exact⟨_,e1,rfl,by trivial⟩
    ·rw [decide_eq_false hi,XZ] at e1
     rw [decide_eq_true (show(((bp.countP fun a=>decide (a=f):Nat)):Int)<((hs.countP fun a=>decide (a=f):Nat):Int) by omega)];simp_arith [eJ,eP];exact .inl ⟨e1.symm,by trivial⟩)
  fun φ L' hh=>by
   obtain⟨o6,e1,rfl,rfl⟩:=hh;exact⟨sv,.inr ⟨e1.symm,_,rfl⟩⟩
 rcases h with⟨e,rfl⟩|⟨e,φ,rfl⟩
 ·rw [e];simp_arith
 ·rw [e];simp_arith
theorem wz {L:aa} {x:T} {st:bz} (h:kE L x st) (r:Rl) (ha:∀f∈r.put,f.as.length<=4) (hl:r.put.length<=1000) (jH:r.tell.length<=1000) (bl:List Fc):ip [aO r,x,.tup (bl.map fT)] L=.ok (.bl (jv st r bl)) L:=by
 unfold ip jv;simp_arith;generalize hc:comp _ _ _ _ _ _ _ _=r';obtain rfl:=bf hc r.put fT (fun f=>.bl (!decide (wr st f∈bl))) rfl sv (by unfold lim;omega) (fun f hf=>by
  simp_arith [og h f (by have:=ha f hf;omega)])
 simp_arith [Ae];cases h1:r.put.any fun f=>!decide (wr st f∈bl) with
 | true=>simp_arith;simp
 | false =>
  simp_arith;rw [bf rfl r.tell pT (fun p=>pT (bo st p.1,bo st p.2)) (by exact rfl) (by exact sv) (by unfold lim;omega) (by exact fun p hp=>by simp_arith [ve h p])];simp_arith;generalize hc:comp _ _ _ _ _ _ _ _=r';obtain rfl:=bf (xs:=r.tell) (enc:=fun p=>pT (bo st p.1,bo st p.2)) (f:=fun p=>.bl (!decide (bo st p.1=bo st p.2))) hc rfl sv (by unfold lim;omega) (fun p hp=>by
   simp_arith;rw [show(bo st p.1 == bo st p.2)=decide (bo st p.1=bo st p.2) by by_cases h:bo st p.1=bo st p.2 <;> simp [h]])
  simp_arith [Ae];simp
theorem Af (ks:List Kd) (hk:ks.length<=1000) (rs:List Rl) (i:Nat) (vs:List Cs) (r:Rl) (hr:rs[i]?=some r) (hv:vs.length=(opens (r.take++r.keep)).length) (GY:vs.length<=100) (bp bl:List Fc) (mV:bz) (sm:mU (au r vs)) (hn:∀k∈r.aH,dC k.l/\dC k.r) (ha:∀f∈r.take++r.keep++r.put,f.as.length<=4) (uu:r.take.length<=4/\r.keep.length<=4/\r.aH.length<=4/\r.put.length<=4/\r.tell.length<=4) (L:aa) :
  iV [jw ks rs,cE bp bl mV,stepT i vs] L=.ok (.bl (iD ks (au r vs) r bp bl false)) L:=by
 have hx:=fun L=>tV (x:=.lst ((opens (r.take++r.keep)).map .str)) (y:=.tup (vs.map .str)) (L:=L) rfl (.inr rfl) (Bk.dJ _) (by omega) (by omega)
 have mQ:kE (cx (au r vs)::L) (.ref L.length) (au r vs):=.inr ⟨_,rfl,cY⟩;have hx:∀L,fK [.lst ((opens (r.take++r.keep)).map .str),.tup (vs.map .str)] L=.ok (.ref L.length) (cx (au r vs)::L):=hx
 unfold iV;simp_arith [pP ks rs i vs r hr hv];unfold cE stepT;simp_arith [Ac hr,hx,pQ mQ r sm hn (by omega),nq mQ ks hk r (fun f hf=>ha f (TF _ hf)) (by omega)];unfold iD;cases h1:r.aH.all (qT (au r vs)) with
 | false=>simp_arith;exact dY rfl
 | true =>
  simp_arith;cases h2:fA ks (au r vs) r bp bl with
  | false=>simp_arith;exact dY rfl
  | true =>
   simp_arith;rw [rq (r:=r) (F:=bK) rfl rfl];simp_arith [va];cases h3:decide (r.take=[]) with
   | false=>simp_arith;exact dY rfl
   | true =>
    simp_arith [wz mQ r (fun f hf=>ha f (TQ _ hf)) (by omega) (by omega)];exact dY rfl
open Bk (uZ ak bA)
theorem Ag (ks:List Kd) (rs:List Rl) (i:Nat) (vs:List Cs) (r:Rl) (hr:rs[i]?=some r) (hv:vs.length=(opens (r.take++r.keep)).length) (GY:vs.length<=100) (bp bl:List Fc) (mV:bz) (M:Mv ks bp bl mV (r.take.map (wr (au r vs))) (r.put.map (wr (au r vs))) (r.tell.map (uZ (au r vs)))) (ha:∀f∈r.take++r.keep++r.put,f.as.length<=4) (uu:r.take.length<=4/\r.keep.length<=4/\r.aH.length<=4/\r.put.length<=4/\r.tell.length<=4) (L:aa) :
  ∃x,rF ks bp bl mV (r.take.map (wr (au r vs))) (r.put.map (wr (au r vs))) (r.tell.map (uZ (au r vs))) x/\jB [jw ks rs,cE bp bl mV,stepT i vs] L=.ok x L:=by
 have hx:∀L,fK [.lst ((opens (r.take++r.keep)).map .str),.tup (vs.map .str)] L=.ok (.ref L.length) (cx (au r vs)::L):=fun L=>tV rfl (.inr rfl) (Bk.dJ _) (by omega) (by omega)
 have mQ:kE (cx (au r vs)::L) (.ref L.length) (au r vs):=.inr ⟨_,rfl,cY⟩;obtain⟨x,hR,he⟩:=CB ks bp bl mV _ _ _ M (cx (au r vs)::L);refine⟨x,hR,?_⟩;have bD:lt L.length x=true:=by
  rcases hR with⟨_,rfl⟩|⟨b8,left,P,Q,S,_,_,_,_,_,_,_,_,_,rfl⟩
  ·rfl
  ·unfold cE;rw [lt,cT,cT,cT,cT,cT,dU bu,dU bu,dU fR];rfl
 unfold jB;unfold stepT;simp_arith [Ac hr,hx];rw [iY mQ (fun f hf=>by have:=ha f (TF _ (TF _ hf));omega) (by omega) rfl (by exact rfl) (by exact sv) (by exact fun _=>rfl) (by exact fun _=>rfl)];simp_arith;rw [iY mQ (fun f hf=>by have:=ha f (TQ _ hf);omega) (by omega) rfl (by exact rfl) (by exact sv) (by exact fun _=>rfl) (by exact fun _=>rfl)];simp_arith;rw [bf rfl r.tell pT (fun p=>pT (uZ (au r vs) p)) (by exact rfl) (by exact sv) (by unfold lim;omega) (by exact fun p hp=>by simp_arith [ve mQ p];rfl)];rw [show(r.tell.map fun p=>pT (uZ (au r vs) p))=(r.tell.map (uZ (au r vs))).map pT by rw [Ud];rfl];simp_arith [he];exact dY bD
theorem CD (ks:List Kd) (hk:ks.length<=1000) (rs:List Rl) (i:Nat) (vs:List Cs) (r:Rl) (hr:rs[i]?=some r) (hv:vs.length=(opens (r.take++r.keep)).length) (GY:vs.length<=100) (bp bl:List Fc) (mV:bz) (sm:mU (au r vs)) (hn:∀k∈r.aH,dC k.l/\dC k.r) (M:Mv ks bp bl mV (r.take.map (wr (au r vs))) (r.put.map (wr (au r vs))) (r.tell.map (uZ (au r vs)))) (ha:∀f∈r.take++r.keep++r.put,f.as.length<=4) (uu:r.take.length<=4/\r.keep.length<=4/\r.aH.length<=4/\r.put.length<=4/\r.tell.length<=4) (hF:iD ks (au r vs) r bp bl false=true) (L:aa) :
  ∃x,rF ks bp bl mV (r.take.map (wr (au r vs))) (r.put.map (wr (au r vs))) (r.tell.map (uZ (au r vs))) x/\lt L.length x=true/\ir [jw ks rs,cE bp bl mV,stepT i vs] L=.ok x L:=by
 obtain⟨x,hR,he⟩:=Ag ks rs i vs r hr hv GY bp bl mV M ha uu L;have bD:lt L.length x=true:=by
  rcases hR with⟨_,rfl⟩|⟨b8,left,P,Q,S,_,_,_,_,_,_,_,_,_,rfl⟩
  ·rfl
  ·unfold cE;rw [lt,cT,cT,cT,cT,cT,dU bu,dU bu,dU fR];rfl
 refine⟨x,hR,bD,?_⟩;unfold ir;simp_arith [Af ks hk rs i vs r hr hv GY bp bl mV sm hn ha uu,hF,he];exact fin_same bD
noncomputable def sumK (w:Cs->Int) (fs:List Fc):Int:=(fs.map fun f=>w f.k).sum
theorem wA (ks:List Kd) (rs:List Rl) (hk:ks.length<=1000) (L:aa):cF [jw ks rs] L=.ok (.lst (((ks.filter fun k=>!k.l).map (·.n)).map .str)) L:=by
 unfold cF;simp_arith;rw [cZ rfl ks kT (fun k=>!k.l) (fun k=>.str k.n) (by exact rfl) (by exact ai) (by unfold lim;omega) (by exact fun b _=>by simp_arith) (by exact fun b _ _=>by simp_arith)];rw [show((ks.filter fun k=>!k.l).map fun k=>T.str k.n)=((ks.filter fun k=>!k.l).map (·.n)).map T.str by simp];simp_arith;exact fin_same (aj fun _ _=>rfl)
noncomputable def worth (ps:List Cs) (ns:List Int) (k:Cs):Int:=(((ps.zip ns).find? fun p=>decide (p.1=k)).map (·.2)).getD 0
theorem rH:∀{ps:List Cs} {ns:List Int} {k:Cs},ps.length<=ns.length->k∈ps->dm ((ps.zip ns).map fun p=>(T.str p.1,T.int p.2)) (.str k)=some (.int (worth ps ns k))
 | [],_,_,_,h=>by cases h
 | p::ps,[],_,hl,_=>by simp at hl
 | p::ps,n::ns,k,hl,h=>by
  rw [U1,TC,fU];unfold worth;rw [U1,Vx];by_cases e:p=k
  ·rw [if_pos (by rw [e]),decide_eq_true e];rfl
  ·rw [if_neg (fun z=>e (T.str.inj z)),decide_eq_false e]
   exact rH (by simpa using hl) ((TJ.mp h).resolve_left (U7 e))
theorem GZ {α:Type} {g:α->Int} (l:List α) (L:aa):wW [.lst (l.map fun x=>.int (g x))] L=.ok (.int (l.map g).sum) L:=by
 have:=mapM_map (f:=LC) (g:=fun x=>T.int (g x)) (h:=g) (fun _=>rfl) l;simp [wW,AD,vw,this,lift]
theorem CF (ks:List Kd) (rs:List Rl) (hk:ks.length<=1000) (hn:(ks.map (·.n)).Nodup) (ns:List Int) (hl:(ks.filter fun k=>!k.l).length<=ns.length) (bp:List Fc) (hb:bp.length<=1000) (hp:∀f∈bp,f.k∈(ks.filter fun k=>!k.l).map (·.n)) (p:T) (u7:∀L,ix p (.int 0) L=.ok (.tup (bp.map fT)) L) (L:aa) :
  gx [jw ks rs,.lst (ns.map .int),p] L=.ok (.int (sumK (worth ((ks.filter fun k=>!k.l).map (·.n)) ns) bp)) L:=by
 have nd:((ks.filter fun k=>!k.l).map (·.n)).Nodup:=Xl ((XG).map _) hn;have hx:=fun L=>Kr (h:=T.int) (x:=.lst (((ks.filter fun k=>!k.l).map (·.n)).map .str)) (y:=.lst (ns.map .int)) (L:=L) rfl (.inl rfl) nd (by simpa using hl) (by rw [Lm9];exact eM hk)
 unfold gx;simp_arith [wA ks rs hk,hx];generalize hc:comp _ _ _ _ _ _ _ _=r';obtain rfl:=bf hc bp fT (fun f=>.int (worth ((ks.filter fun k=>!k.l).map (·.n)) ns f.k)) (k:=stays (.tup (bp.map fT)) _) (by simp_arith [u7];rfl) sv (by unfold lim;omega) (fun f hf=>by
  have hg:=rH (ns:=ns) (by simpa using hl) (hp f hf);have hfit:dq ((((ks.filter fun k=>!k.l).map (·.n)).zip ns).map fun p=>(T.str p.1,T.int p.2)) (.str f.k):=rf (g:=fun p:Cs × Int=>p.1) (h:=fun p=>T.int p.2) _ f.k
  simp_arith;unfold ix;simp only [gZ,cY,dX];rw [aC hfit,hg];rfl)
 simp_arith [GZ (g:=fun f:Fc=>worth ((ks.filter fun k=>!k.l).map (·.n)) ns f.k)];exact dY rfl
end dn
namespace dn
open PySem M
open Bk (Fc Kd Lk Rl great opens KG dC bo iZ wr bz mU aD au iA lq)
theorem Ah (r:Rl) (ds:List Nat) (tW:List Cs) (hn:∀f∈r.take++r.keep,∀a∈f.as,dC a) (hf:((r.take++r.keep).flatMap (·.as)).length<=32) (hl:r.take.length+r.keep.length<=100) (ho:(opens (r.take++r.keep)).length<=ds.length) (hd:ds.length<=100) (hr:∀d∈ds,d<tW.length) :
  ∃vs:List Cs,vs.length=(opens (r.take++r.keep)).length/\(∀v∈vs,v∈tW)/\∀L,cD [xT r,.lst (ds.map fun d=>.int (d:Nat)),.lst (tW.map .str)] L=.ok (cx (au r vs)) L:=by
 refine⟨(ds.take (opens (r.take++r.keep)).length).map fun d=>tW.getD d [],by simp;omega,fun v hv=>?_,fun L=>?_⟩
 ·obtain⟨d,hm,rfl⟩:=Tz.mp hv
  have:=hr d (Vc hm);rw [Gd9,Ge9 this];exact TN _
 ·have en:=fun L=>pK (r.take++r.keep) hn hf L
  unfold cD;simp_all_arith [<- TS,en];generalize hc:comp _ _ _ _ _ _ _ _=r';obtain rfl:=bf hc (ds.take (opens (r.take++r.keep)).length) (fun d:Nat=>T.int (d:Nat)) (fun d=>.str (tW.getD d [])) (k:=stays (.lst ((ds.take (opens (r.take++r.keep)).length).map fun d=>.int (d:Nat))) L) (by
   simp_arith;rw [mI (by simp;unfold lim;omega),aJ,<- VE]) ai (by simp;unfold lim;omega) (fun d hd=>by
    have:=hr d (Vc hd);simp_arith;exact dT (by rw [TX,Gd9,Ge9 this];rfl))
  have hx:=tV (x:=.lst ((opens (r.take++r.keep)).map .str)) (y:=.lst ((ds.take (opens (r.take++r.keep)).length).map fun d=>.str (tW.getD d []))) (vs:=(ds.take (opens (r.take++r.keep)).length).map fun d=>tW.getD d []) (L:=L) rfl (.inl (by rw [Ud];rfl)) (Bk.dJ _) (by simp;omega) (by omega);simp_arith [hx];exact eV (pA _ _)
theorem vn:∀(ns vs:List Cs),ns.Nodup->vs.length=ns.length->ns.map (bo (ns.zip vs))=vs
 | [],[],_,_=>rfl
 | [],_::_,_,h=>by simp at h
 | _::_,[],_,h=>by simp at h
 | n::ns,v::vs,hn,hl=>by
  rw [Uu] at hn;have ih:=vn ns vs hn.2 (by simpa using hl)
  rw [TC,U1];have e1:bo ((n,v)::ns.zip vs) n=v:=by unfold bo iZ;rw [Vx,decide_eq_true rfl];rfl
  have e2:ns.map (bo ((n,v)::ns.zip vs))=ns.map (bo (ns.zip vs)):=UT fun m hm=>by
   unfold bo iZ;rw [Vx,decide_eq_false (fun e=>hn.1 (by have e:n=m:=e;rw [e];exact hm))]
  rw [e1,e2,ih]
theorem G3 (rs:List Rl) (i:Nat) (r:Rl) (hi:rs[i]?=some r) (vs:List Cs) (hv:vs.length=(opens (r.take++r.keep)).length) (hn:∀f∈r.take++r.keep,∀a∈f.as,dC a) (hf:((r.take++r.keep).flatMap (·.as)).length<=32) (hl:r.take.length+r.keep.length<=100) (h3:vs.length<=100) (L:aa) :
  dP [.lst (rs.map xT),.int (i:Nat),cx (au r vs)] L=.ok (stepT i vs) L:=by
 have en:=fun L=>pK (r.take++r.keep) hn hf L
 have hx:∀L,ix (.lst (rs.map xT)) (.int (i:Nat)) L=.ok (xT r) L:=fun L=>dT (by rw [TX,hi];rfl)
 unfold dP;simp_arith [hx];generalize hc:comp _ _ _ _ _ _ _ _=r';obtain rfl:=bf hc (opens (r.take++r.keep)) T.str (fun n=>.str (bo (au r vs) n)) (k:=stays (.lst ((opens (r.take++r.keep)).map .str)) L) (by simp_all_arith [<- TS,en]) ai (by unfold lim;omega) (fun n hm=>by
  simp_arith;have vo:=Bk.nV hv
  have ha:∃w,iZ (au r vs) n=some w:=by
   rw [<- vo] at hm;obtain⟨e,he,rfl⟩:=Tz.mp hm;unfold iZ;cases q:(au r vs).find? fun p=>decide (p.1=e.1) with
   | none=>exact absurd (Ve.mp q e he) (by simp)
   | some y=>exact⟨_,rfl⟩
  obtain⟨w,hw⟩:=ha;unfold ix cx vw;simp only [];rw [aC (mJ _ _),jF,hw];unfold bo;rw [hw];rfl)
 simp_arith;rw [show((opens (r.take++r.keep)).map fun n=>T.str (bo (au r vs) n))=((opens (r.take++r.keep)).map (bo (au r vs))).map .str by rw [Ud];rfl,show(opens (r.take++r.keep)).map (bo (au r vs))=vs from vn _ _ (Bk.dJ _) hv];exact fin_same (by simp [lt,cT,jx])
theorem G4 (r:Rl) (st:bz) (ha:∀f∈r.take++r.keep,f.as.length<=1000) (hl:r.take.length+r.keep.length<=100) (L:aa):bN [xT r,cx st] L=.ok (.ref L.length) (.lst (((r.take++r.keep).map (wr st)).map fT)::L):=by
 unfold bN vU;rw [if_pos (show [xT r,cx st].length=2 from rfl)];simp only [jQ,pf,y6,TC,UB,Vq,UH,Zs,Ui];rw [bf rfl (r.take++r.keep) fT (fun f=>fT (wr st f)) (k:=stays (.lst ((r.take++r.keep).map fT)) L) (by simp_all_arith [<- TS]) (by exact ai) (by simp;unfold lim;omega) (by exact fun f hf=>by simp_arith;exact N5 (.inl rfl) f (ha f hf))];rw [show((r.take++r.keep).map fun f=>fT (wr st f))=((r.take++r.keep).map (wr st)).map fT by rw [Ud];rfl];simp_arith;unfold By;simp only [cY];rw [aC (TK _),tA,dY (aj bu)];rfl
theorem G5 (n0 n1 n2 n3 w0 w1:Cs) (L:aa):dO [.lst [.str n0,.str n1,.str n2,.str n3],.lst [.str w0,.str w1]] L=.ok (.lst ([(n1,n1),(n2,n2),(n3,w0)].map pT)) L:=by
 unfold dO;simp_arith;exact fin_same (by simp [lt,cT])
theorem G6 (ks:List Kd) (hk:ks.length<=1000) (fs:List Fc) (hf:fs.length<64) (st:bz) (hs:st.length<64) (L:aa):∃P Q S,P.Perm (fs.filter fun f=>!decide (f.k∈aD ks))/\Q.Nodup/\(∀f,f∈Q↔f∈fs/\f.k∈aD ks)/\S.Perm st/\jm ((fs.filter fun f=>!decide (f.k∈aD ks)).map fT)=P.map fT/\jm (st.map pT)=S.map pT /\
  cO [.lst (ks.map kT),.ref L.length,.lst (st.map pT)] (.lst (fs.map fT)::L)=.ok (cE P Q S) (.lst (fs.map fT)::L):=by
 have Co:((ks.filter (·.l)).map fun k=>T.str k.n)=(aD ks).map T.str:=by simp [aD]
 refine rK fun G n9=>?_
 obtain⟨P,DA,Kq⟩:=vm (fs.filter fun f=>!decide (f.k∈aD ks));obtain⟨S,hS1,hS2⟩:=Dy st;have main:∃kp:List Fc,kp.Nodup/\(∀f,f∈kp↔f∈fs/\f.k∈aD ks)/\∀Q,jm (kp.map fT)=Q.map fT->cO [.lst (ks.map kT),.ref L.length,.lst (st.map pT)] (.lst (fs.map fT)::L)=.ok (cE P Q S) (.lst (fs.map fT)::L):=by
  unfold cO;simp_arith;rw [cZ rfl ks kT (·.l) (fun k=>.str k.n) (by exact rfl) (by exact sv) (by unfold lim;omega) (by exact fun b _=>by simp_arith) (by exact fun b _ _=>by simp_arith)];simp_arith [Co];generalize ho:forL _ _ _ _ _ _=o;have h:=bw ho fs fT (fun q φ L'=>∃(done kp:List Fc) (o5:Option T),done++q=fs/\kp.Nodup/\kp.length<=done.length/\(∀f,f∈kp↔f∈done/\f.k∈aD ks)/\φ=[some (.lst (ks.map kT)),some (.ref L.length),some (.lst (st.map pT)),some (.lst ((aD ks).map .str)),some (.ref (L.length+1)),o5,none]/\L'=.lst (kp.map fT) :: .lst (fs.map fT)::L)
   (fun o=>∃(kp:List Fc) (o5:Option T),kp.Nodup/\kp.length<=fs.length/\(∀f,f∈kp↔f∈fs/\f.k∈aD ks)/\o=.nx [some (.lst (ks.map kT)),some (.ref L.length),some (.lst (st.map pT)),some (.lst ((aD ks).map .str)),some (.ref (L.length+1)),o5,none] (.lst (kp.map fT) :: .lst (fs.map fT)::L)) rfl
   ⟨[],[],none,rfl,Wa,TK _,(by simp),rfl,rfl⟩ (fun _ _ eJ eP f q φ L' hh=>by
    obtain⟨done,kp,o5,e1,h1,h2,h3,rfl,rfl⟩:=hh;refine⟨fun n e=>by cases e;rw [mz];exact mz.symm,_,rfl,?_⟩;have hd:done.length<=fs.length:=by rw [<- e1];simp
    simp_arith [eJ,eP];have DC:(f.k∉aD ks\/f∈kp)->(∀g,g∈kp↔g∈done++[f]/\g.k∈aD ks):=fun hz g=>by
     rw [h3,TL,TY];refine⟨fun z=>⟨.inl z.1,z.2⟩,fun z=>⟨z.1.elim id fun e=>?_,z.2⟩⟩;subst e;rcases hz with hz|hz
     ·exact absurd z.2 hz
     ·exact((h3 g).mp hz).1
    by_cases hm:f.k∈aD ks
    ·simp_arith [eJ,eP,hm,decide_true,JH (x:=f) (t:=.ref (L.length+1)) (ys:=kp) (L:=.lst (kp.map fT) :: .lst (fs.map fT)::L) (by simp_arith [eJ,eP])]
     by_cases hi:f∈kp
     ·simp_arith [eJ,eP,hi,decide_true]
      exact⟨done++[f],kp,_,by simpa using e1,h1,by simp;omega,DC (.inr hi),rfl,rfl⟩
     ·simp_arith [eJ,eP,hi,decide_false,aC (show kp.length<lim by unfold lim;omega),bg]
      refine⟨done++[f],kp++[f],_,by simpa using e1,?_,by simp;omega,fun g=>?_,rfl,rfl⟩
      ·rw [UX]
       exact⟨h1,by simp,fun a ha b hb e=>hi (by simp at hb;rw [<- hb,<- e];exact ha)⟩
      ·rw [TL,TY,TL,TY,h3]
       refine⟨fun z=>z.elim (fun z=>⟨.inl z.1,z.2⟩) fun e=>⟨.inr e,by rw [e];exact hm⟩,fun z=>z.1.elim (fun y=>.inl ⟨y,z.2⟩) .inr⟩
    ·simp_arith [eJ,eP,hm,decide_false]
     exact⟨done++[f],kp,_,by simpa using e1,h1,by simp;omega,DC (.inl hm),rfl,rfl⟩)
   fun φ L' hh=>by
    obtain⟨done,kp,o5,e1,h1,h2,h3,rfl,rfl⟩:=hh;rw [T4] at e1;subst e1;exact⟨fun n e=>by cases e;rw [mz];exact mz.symm,kp,o5,h1,h2,h3,rfl⟩
  obtain⟨kp,o5,k1,k2,k3,rfl⟩:=h;refine⟨kp,k1,k3,fun Q hQ=>?_⟩;simp_arith;rw [cZ rfl fs fT (fun f=>!decide (f.k∈aD ks)) fT (k:=stays (.ref L.length) (.lst (kp.map fT) :: .lst (fs.map fT)::L)) (by simp_arith) (by exact ai) (by unfold lim;omega) (by exact fun b _=>by simp_arith) (by exact fun b _ _=>by simp_arith)];have s1:=pO (x:=.lst ((fs.filter fun f=>!decide (f.k∈aD ks)).map fT)) (L:=.lst (kp.map fT) :: .lst (fs.map fT)::L) rfl (wm (by have:=eM (p:=fun f:Fc=>!decide (f.k∈aD ks)) (l:=fs) (n:=63) (by omega);omega))
  have s2:=pO (x:=.ref (L.length+1)) (ys:=kp.map fT) (L:=.lst (kp.map fT) :: .lst (fs.map fT)::L) (by simp_arith) (wm (by omega));have s3:=pO (x:=.lst (st.map pT)) (L:=.lst (kp.map fT) :: .lst (fs.map fT)::L) rfl (Ko hs)
  rw [Kq] at s1;rw [hQ] at s2;rw [hS2] at s3;simp_arith [s1,s2,s3];exact dY (L:=.lst (fs.map fT)::L) (by rw [lt,cT,cT,cT,cT,cT,dU bu,dU bu,dU fR];rfl)
 obtain⟨kp,k1,k2,k3⟩:=main;obtain⟨Q,q1,q2⟩:=vm kp;refine n9 ?_;clear n9;exact⟨P,Q,S,DA,q1.nodup_iff.mpr k1,fun f=>(q1.mem_iff).trans (k2 f),hS1,Kq,hS2,k3 Q q2⟩
noncomputable def cK (fs:List Fc) (p:Cs):Nat:=(fs.filter fun f=>decide (f.k=p)).length
theorem vq (p:Cs) (fs:List Fc) (hf:fs.length<=1000) (x:T) (L:aa) (hx:items x L=some (fs.map fT)):eB [.str p,x] L=.ok (.int (cK fs p:Nat)) L:=by
 unfold eB;simp_arith;generalize hc:comp _ _ _ _ _ _ _ _=r';obtain rfl:=cZ hc fs fT (fun f=>decide (f.k=p)) fT (k:=stays x L) (by simp only [uS,FJ,W5,VD,VQ,dA,aJ,hx]) ai (by unfold lim;omega) (fun b _=>by
  simp_arith;rw [show(b.k == p)=decide (b.k=p) by by_cases h:b.k=p <;> simp [h]]) fun b _ _=>by simp_arith
 simp_arith;rfl
theorem Ks (ks:List Kd) (p0 p1:Cs) (hp:(ks.filter fun k=>!k.l).map (·.n)=[p0,p1]) (hk:ks.length<=1000) (a b:Int) (fs:List Fc) (hf:fs.length<=1000) (x:T) (L:aa) (hx:items x L=some (fs.map fT)):cJ [.lst (ks.map kT),.lst [.int a,.int b],x] L=.ok (.int (a * cK fs p0+b * cK fs p1)) L:=by
 have Co:((ks.filter fun k=>!k.l).map fun k=>T.str k.n)=[.str p0,.str p1]:=by
  rw [show((ks.filter fun k=>!k.l).map fun k=>T.str k.n)=((ks.filter fun k=>!k.l).map (·.n)).map T.str by simp,hp];rfl
 have h0:cK fs p0<=1000:=TU (VU _ _) hf;have h1:cK fs p1<=1000:=TU (VU _ _) hf
 unfold cJ;simp_arith;rw [cZ rfl ks kT (fun k=>!k.l) (fun k=>.str k.n) (by exact rfl) (by exact ai) (by unfold lim;omega) (by exact fun b _=>by simp_arith) (by exact fun b _ _=>by simp_arith)];have hr:∀φ L',rS (c (.int 0)) (c (.int 2)) φ L'=.ok (M.upTo 0 2,fun _=>True) L':=fun φ L'=>u0 _ _ _ _ rfl rfl ⟨j8 (n:=0) (by decide),j8 (n:=2) (by decide)⟩
 simp_arith [Co,hr];generalize ho:forL _ _ _ _ _ _=o;have h:=bw ho [0,1] T.int (fun q φ L'=>∃(t:Int) (o5:Option T),φ=[some (.lst (ks.map kT)),some (.lst [.int a,.int b]),some x,some (.lst [.str p0,.str p1]),some (.int t),o5]/\L'=L/\((q=[0,1]/\t=0)\/(q=[1]/\t=a * cK fs p0)\/(q=[]/\t=a * cK fs p0+b * cK fs p1)))
  (fun o=>∃o5,o=.nx [some (.lst (ks.map kT)),some (.lst [.int a,.int b]),some x,some (.lst [.str p0,.str p1]),some (.int (a * cK fs p0+b * cK fs p1)),o5] L) rfl ⟨0,none,rfl,rfl,.inl ⟨rfl,rfl⟩⟩ (fun _ _ eJ eP i q φ L' hh=>by
   obtain⟨t,o5,rfl,rfl,hh⟩:=hh;refine⟨trivial,_,rfl,?_⟩;rcases hh with⟨hq,rfl⟩|⟨hq,rfl⟩|⟨hq,_⟩
   ·obtain⟨rfl,rfl⟩:=Vp hq
    simp_arith [eJ,eP,vq p0 fs hf x _ hx,show(-18446744073709551616:Int)<(cK fs p0:Nat) by omega,show((cK fs p0:Nat):Int)<18446744073709551616 by omega];exact⟨_,_,rfl,by trivial,.inr (.inl ⟨by trivial,by omega⟩)⟩
   ·obtain⟨rfl,rfl⟩:=Vp hq
    simp_arith [eJ,eP,vq p1 fs hf x _ hx,show(-18446744073709551616:Int)<(cK fs p1:Nat) by omega,show((cK fs p1:Nat):Int)<18446744073709551616 by omega];exact⟨_,_,rfl,by trivial,.inr (.inr ⟨by trivial,rfl⟩)⟩
   ·cases hq)
  fun φ L' hh=>by
   obtain⟨t,o5,rfl,rfl,hh⟩:=hh;rcases hh with⟨hq,_⟩|⟨hq,_⟩|⟨_,rfl⟩
   ·cases hq
   ·cases hq
   ·exact⟨trivial,_,rfl⟩
 obtain⟨o5,rfl⟩:=h;simp_arith
end dn
namespace dn
open PySem M
open kz (bH ah)
open Bk (Fc Kd Lk Rl great opens KG dC bo iZ wr bz mU aD au iA lq ak lw wN zi ni ao fQ rT iD fA uZ bA)
theorem rI (w:Cs->Int) (a b:List Fc):sumK w (a++b)=sumK w a+sumK w b:=by simp [sumK]
theorem eQ (w:Cs->Int) (f:Fc) (l:List Fc):sumK w (f::l)=w f.k+sumK w l:=by simp [sumK]
theorem jY {w:Cs->Int} {a b:List Fc} (p:a.Perm b):sumK w a=sumK w b:=by
 induction p with
 | nil=>rfl
 | cons x _ ih=>rw [eQ,eQ,ih]
 | swap x y l=>rw [eQ,eQ,eQ,eQ];omega
 | trans _ _ h1 h2=>exact h1.trans h2
theorem pR (w:Cs->Int) (st:bz) (l:List Fc):sumK w (l.map (wr st))=sumK w l:=by unfold sumK;rw [Ud];rfl
theorem CG (w:Cs->Int) (dE:List (Cs × Cs)) (st:bz) (l:List Fc):sumK w (lw dE st l)=sumK w l:=by
 unfold lw;split
 ·rfl
 ·exact pR w st l
theorem gA (f:Fc) (fs:List Fc) (p:Cs):cK (f::fs) p=(if f.k=p then 1 else 0)+cK fs p:=by
 unfold cK;rw [YI];by_cases h:f.k=p <;> simp [h];omega
theorem lz {p0 p1:Cs} (hne:p0≠p1) (a b:Int):∀fs:List Fc,(∀f∈fs,f.k∈[p0,p1])->sumK (worth [p0,p1] [a,b]) fs=a * cK fs p0+b * cK fs p1
 | [],_=>by simp [sumK,cK]
 | f::fs,h=>by
  have ih:=lz hne a b fs fun g hg=>h g (Tp _ hg)
  have w0:worth [p0,p1] [a,b] p0=a:=by simp [worth]
  have w1:worth [p0,p1] [a,b] p1=b:=by simp [worth,hne]
  have e:sumK (worth [p0,p1] [a,b]) (f::fs)=worth [p0,p1] [a,b] f.k+sumK (worth [p0,p1] [a,b]) fs:=by simp [sumK]
  rw [e,ih,gA,gA];have hf:=h f To
  simp only [TJ,U6,or_false] at hf;rcases hf with hf|hf
  ·rw [hf,w0,if_pos rfl,if_neg hne]
   push_cast
   rw [Int.mul_add,Int.mul_one,Int.zero_add];omega
  ·rw [hf,w1,if_neg (U7 hne),if_pos rfl]
   push_cast
   rw [Int.mul_add b,Int.mul_one,Int.zero_add];omega
theorem iy {q:Fc->Bool} {p:Cs}:∀fs:List Fc,(∀f∈fs,f.k=p->q f=true)->cK (fs.filter q) p=cK fs p
 | [],_=>rfl
 | f::fs,h=>by
  have ih:=iy fs fun g hg=>h g (Tp _ hg)
  rw [YI,gA];by_cases e:f.k=p
  ·rw [if_pos (h f To e),gA,ih]
  ·rw [if_neg e]
   split
   ·rw [gA,ih,if_neg e]
   ·rw [ih];omega
theorem tX (st:bz) (p:Cs):∀fs:List Fc,cK (fs.map (wr st)) p=cK fs p
 | []=>rfl
 | f::fs=>by rw [TC,gA,gA,tX st p fs];rfl
theorem Kt {ks:List Kd} {k:Kd} (hk:k∈ks):k.n∈aD ks\/k.n∈(ks.filter fun k=>!k.l).map (·.n):=by
 cases h:k.l with
 | true=>exact .inl (Tz.mpr ⟨k,Uh.mpr ⟨hk,h⟩,rfl⟩)
 | false=>exact .inr (Tz.mpr ⟨k,Uh.mpr ⟨hk,by simp [h]⟩,rfl⟩)
theorem Ai {ks:List Kd} (nd:(ks.map (·.n)).Nodup) {n:Cs} (h1:n∈aD ks) (h2:n∈(ks.filter fun k=>!k.l).map (·.n)):False:=by
 obtain⟨j,hj,e1⟩:=Tz.mp h1;obtain⟨k,hk,e2⟩:=Tz.mp h2;obtain⟨j1,j2⟩:=Uh.mp hj;obtain⟨k1,k2⟩:=Uh.mp hk;have:=Bk.tu nd j1 k1 (e1.trans e2.symm)
 subst this;rw [j2] at k2;cases k2
theorem iA.ff {ks sE:List Kd} {ns:List Cs} {f:Fc} (hs:∀k∈sE,k∈ks) (h:iA sE ns f):ak ks f:=by
 obtain⟨⟨k,hk,e1,e2⟩,_⟩:=h;exact⟨k,hs k hk,e1.symm,e2⟩
theorem mN {ks:List Kd} {st:bz} {f:Fc} (h:ak ks f):ak ks (wr st f):=by
 obtain⟨k,hk,e1,e2⟩:=h;exact⟨k,hk,e1,by show(f.as.map _).length=_;rw [Lm9];exact e2⟩
theorem wB {ks:List Kd} (hG:KG ks) {f:Fc} (h:ak ks f):f.as.length<=4:=by
 obtain⟨k,hk,_,e⟩:=h;have:=(hG.ok k hk).2;omega
theorem Ku (cs:List Int) (L:aa) (h:cs.length<=63):∃Ll:List Int,Ll.length<=31/\iH true (.lst (cs.map .int)) (some 9) (some 40) L=.ok (.lst (Ll.map .int)) L:=by
 have e:cut (cs.map T.int) (some 9) (some 40)=(cut cs (some 9) (some 40)).map T.int:=by
  unfold cut;rw [Lm9,VE,List.map_drop]
 have hl:(cut cs (some (9:Int)) (some 40)).length<=31:=by
  unfold cut clip;rw [Ur];simp only [];rw [if_neg (by decide),if_neg (by decide)];omega
 refine⟨cut cs (some 9) (some 40),hl,?_⟩;show eO true (cut (cs.map .int) (some 9) (some 40)) L=_
 rw [e,eO,aC (by rw [Lm9];unfold lim;omega)];rfl
end dn
namespace dn
open PySem M
open Bk (Fc Kd Lk Rl)
theorem Oe:wR 10 60:=⟨by decide,by decide,by decide⟩
theorem Of:wR 10 59:=⟨by decide,by decide,by decide⟩
noncomputable def G7 (F1 F2 F3 F4 F5 F6 F7 F8 F9 Lm Lq DD DE Lr Ls:Fn):Fn:=run 1 18 (ab [asg (.many [1,2,3,4]) (ae F1 [v 0]),asg (.one 5) (ae F2 [ae F3 [v 0,c (.int 6)],lst true [c (.int 2),c (.int 4),c (.int 4),c (.int 4)]]),asg (.one 6) (ae F4 [ae F5 [v 1,v 4]]),asg (.one 7) (b2 (v 3) (sl true (v 2) (some (c (.int 1))) (some (c (.int 3)))) (aQ true .Add)),asg (.one 8) (b2 (v 4) (vi 5 0) ix),asg (.one 9) (ae F6 [v 8,sl true (v 5) (some (c (.int 1))) none,v 7]),asg (.one 10) (comp true (rS (c (.int 7)) (c (.int 9))) [none,none,some 0] (.one 1) yes (b2 (b2 (ae F3 [v 2,v 1]) (b2 (c (.int 10)) (c (.int 60)) (aQ true .Pow)) (aQ true .Mod)) (b2 (c (.int 5)) (b2 (c (.int 10)) (c (.int 59)) (aQ true .Pow)) (aQ true .Mult)) (aQ true .Sub))),asg (.one 11) (ae F7 [v 8,v 9]),bS (src (sl true (v 0) (some (c (.int 9))) (some (c (.int 40))))) (.one 12) (ab [fF (aS (aG) (v 11) [ae F8 [v 1,b2 (ae F2 [v 12,lst true [c (.int 1024)]]) (c (.int 0)) ix,v 7]])]),asg (.one 13) (ae F9 [v 1,v 11,ae Lm [v 2,v 3]]),asg (.one 14) (ae Lq [v 4,vi 5 0,v 9]),asg (.one 15) (ae DD [v 6,ae (cL true) [v 10],v 13]),iff (vV [tv (ae He [v 15,c (.cl (.type "bool"))]),tv (b2 (v 15) (ae DE [v 1,v 10,v 11]) (cmp .NotEq))]) (ab [ret (c (.bl false))]) (ab []),iff (tv (b2 (ae DD [v 6,v 10,tup [tup [],tup [],tup [],c (.bl true)]]) (c (.int 0)) (cmp .NotEq))) (ab [ret (c (.bl false))]) (ab []),iff (eR (tv (ae Lr [v 6,v 13,v 14]))) (ab [ret (c (.bl true))]) (ab []),asg (.one 16) (ae Ls [v 6,v 13,v 14]),asg (.one 17) (b2 (ae DE [v 1,v 10,vi 8 3]) (ae DE [v 1,v 10,vi 8 0]) (aQ true .Sub)),iff (tv (vi 16 3)) (ab [asg (.one 17) (b1 (v 15) neg)]) (ab []),ret (b2 (ae DD [v 6,ae (cL true) [v 10],v 16]) (b2 (v 15) (v 17) (aQ true .Add)) (cmp .Eq))])
theorem CH:qY=G7 dN av aZ dR dQ cD bN aE cO dO dP gx cJ iV ir:=rfl
section
variable {F1 F2 F3 F4 F5 F6 F7 F8 F9 Lm Lq DD DE Lr Ls:Fn}
theorem CI (cs:List Int) (hc:cs.length<=63) (kl rl bk Kv sW:T) (tx:Cs) (r:Rl) (n0 n1 n2 n3 w0 w1:Cs) (d0 d1 d2 d3:Nat) (F0:List Fc) (S0:List T) (good:Fc->Prop)
  (eb:∀L,F1 [.lst (cs.map .int)] L=.ok (.tup [kl,.lst [.str n0,.str n1,.str n2,.str n3],.lst [.str w0,.str w1],rl]) L)
  (vt:∀k,0<=k->∀L,F3 [.lst (cs.map .int),.int k] L=.ok (.int (cs.getD k.toNat 0)) L)
  (ed:∀L,F2 [.int (cs.getD 6 0),.lst [.int 2,.int 4,.int 4,.int 4]] L=.ok (.lst [.int (d0:Nat),.int (d1:Nat),.int (d2:Nat),.int (d3:Nat)]) L)
  (Aj:∀L,F5 [kl,rl] L=.ok (.str tx) L) (Ak:∀L,F4 [.str tx] L=.ok bk L) (Og:∀L,ix rl (.int (d0:Nat)) L=.ok (xT r) L)
  (Lu:∀L,F6 [xT r,.lst [.int (d1:Nat),.int (d2:Nat),.int (d3:Nat)],.lst [.str w0,.str w1,.str n1,.str n2]] L=.ok Kv L)
  (Al:∀L,F7 [xT r,Kv] L=.ok (.ref L.length) (.lst (F0.map fT)::L)) (Te:F0.length<=4) (g0:∀f∈F0,good f)
  (G8:∀c:Int,∃d:Nat,∀L,F2 [.int c,.lst [.int 1024]] L=.ok (.lst [.int (d:Nat)]) L)
  (tY:∀n:Int,∃f,good f/\∀L,F8 [kl,.int n,.lst [.str w0,.str w1,.str n1,.str n2]] L=.ok (fT f) L)
  (Am:∀L,Lm [.lst [.str n0,.str n1,.str n2,.str n3],.lst [.str w0,.str w1]] L=.ok (.lst S0) L)
  (An:∀L,Lq [rl,.int (d0:Nat),Kv] L=.ok sW L)
  (rest:∀(F:List Fc) (na nb:Int) (L:aa),F.length<=35->(∀f∈F,good f)->∃(pl:T) (h:Int) (b:Bool),F9 [kl,.ref L.length,.lst S0] (.lst (F.map fT)::L)=.ok pl (.lst (F.map fT)::L)/\DD [bk,.lst [.int na,.int nb],pl] (.lst (F.map fT)::L)=.ok (.int h) (.lst (F.map fT)::L)/\DE [kl,.lst [.int na,.int nb],.ref L.length] (.lst (F.map fT)::L)=.ok (.int h) (.lst (F.map fT)::L) /\
   DD [bk,.lst [.int na,.int nb],.tup [.tup [],.tup [],.tup [],.bl true]] (.lst (F.map fT)::L)=.ok (.int 0) (.lst (F.map fT)::L)/\Lr [bk,pl,sW] (.lst (F.map fT)::L)=.ok (.bl b) (.lst (F.map fT)::L) /\
   (b=true->∃(x:T) (br:Bool) (dp dt:Int),Ls [bk,pl,sW] (.lst (F.map fT)::L)=.ok x (.lst (F.map fT)::L)/\ix x (.int 3) (.lst (F.map fT)::L)=.ok (.bl br) (.lst (F.map fT)::L)/\DE [kl,.lst [.int na,.int nb],.lst (r.put.map fT)] (.lst (F.map fT)::L)=.ok (.int dp) (.lst (F.map fT)::L)/\DE [kl,.lst [.int na,.int nb],.lst (r.take.map fT)] (.lst (F.map fT)::L)=.ok (.int dt) (.lst (F.map fT)::L) /\
    DD [bk,.lst [.int na,.int nb],x] (.lst (F.map fT)::L)=.ok (.int (if br=true then 0 else h+(dp - dt))) (.lst (F.map fT)::L))) (L:aa) :
  G7 F1 F2 F3 F4 F5 F6 F7 F8 F9 Lm Lq DD DE Lr Ls [.lst (cs.map .int)] L=.ok (.bl true) L:=by
 have Kw:∀L,iH true (.lst [.str n0,.str n1,.str n2,.str n3]) (some 1) (some 3) L=.ok (.lst [.str n1,.str n2]) L:=fun L=>rfl
 have MD:∀L,iH true (.lst [.int (d0:Nat),.int (d1:Nat),.int (d2:Nat),.int (d3:Nat)]) (some 1) none L=.ok (.lst [.int (d1:Nat),.int (d2:Nat),.int (d3:Nat)]) L:=fun L=>tJ (by simp;decide)
 unfold G7;simp_arith [eb,vt 6 (by decide),ed,Aj,Ak,Kw,Og,MD,Lu];obtain⟨A,hA,Su⟩:∃A:Int,0<A/\∀L,aQ true .Pow (.int 10) (.int 60) L=.ok (.int A) L:=⟨10 ^ (60:Int).toNat,Int.pow_pos (by decide),fun L=>JC.trans (if_pos Oe)⟩;obtain⟨A',Sv⟩:∃A:Int,∀L,aQ true .Pow (.int 10) (.int 59) L=.ok (.int A) L:=⟨10 ^ (59:Int).toNat,fun L=>JC.trans (if_pos Of)⟩;generalize hc9:comp _ _ _ _ _ _ _ _=rr;obtain rfl:=bf hc9 [7,8] T.int (fun j=>.int (cs.getD j.toNat 0 % A - 5 * A')) (u0 _ _ _ _ rfl rfl ⟨j8 (n:=7) (by decide),j8 (n:=9) (by decide)⟩) trivial (by decide) fun j hj=>by
  have hj:0<=j:=by
   simp only [TJ,U6,or_false] at hj;omega
  simp_arith [vt j hj,Su,Sv,hA]
 rw [show [(7:Int),8].map (fun j=>T.int (cs.getD j.toNat 0 % A - 5 * A'))=[.int (cs.getD (7:Int).toNat 0 % A - 5 * A'),.int (cs.getD (8:Int).toNat 0 % A - 5 * A')] from rfl];generalize cs.getD (7:Int).toNat 0 % A - 5 * A'=na;generalize cs.getD (8:Int).toNat 0 % A - 5 * A'=nb;obtain⟨Ll,Sw,Oh⟩:=Ku cs (.lst (F0.map fT)::L) hc;simp_arith [Al,Oh];generalize ho:forL _ _ _ _ _ _=o;have h:=bw ho Ll T.int (fun q φ L'=>∃(F:List Fc) (G9:Option T),F.length+q.length<=35/\(∀f∈F,good f)/\φ=[some (.lst (cs.map .int)),some kl,some (.lst [.str n0,.str n1,.str n2,.str n3]),some (.lst [.str w0,.str w1]),some rl,some (.lst [.int (d0:Nat),.int (d1:Nat),.int (d2:Nat),.int (d3:Nat)]),some bk,some (.lst [.str w0,.str w1,.str n1,.str n2]),some (xT r),some Kv,some (.lst [.int na,.int nb]),some (.ref L.length),G9,none,none,none,none,none]/\L'=.lst (F.map fT)::L)
  (fun o=>∃(F:List Fc) (G9:Option T),F.length<=35/\(∀f∈F,good f)/\o=.nx [some (.lst (cs.map .int)),some kl,some (.lst [.str n0,.str n1,.str n2,.str n3]),some (.lst [.str w0,.str w1]),some rl,some (.lst [.int (d0:Nat),.int (d1:Nat),.int (d2:Nat),.int (d3:Nat)]),some bk,some (.lst [.str w0,.str w1,.str n1,.str n2]),some (xT r),some Kv,some (.lst [.int na,.int nb]),some (.ref L.length),G9,none,none,none,none,none] (.lst (F.map fT)::L)) rfl ⟨F0,none,by omega,g0,rfl,rfl⟩ (fun _ _ eJ eP x q φ L' hh=>by
   obtain⟨F,G9,e1,hg,rfl,rfl⟩:=hh;refine⟨sv,_,rfl,?_⟩;obtain⟨d,hd⟩:=G8 x;obtain⟨f,hf,ef⟩:=tY (d:Nat);simp only [Tu] at e1;simp_arith [eJ,eP,hd,ef,aC (show F.length<lim by unfold lim;omega),bg];refine⟨F++[f],_,by simp;omega,fun g Sx=>?_,rfl,rfl⟩;rcases TL.mp Sx with h|h
   ·exact hg g h
   ·rw [TY.mp h];exact hf)
  fun φ L' hh=>by
   obtain⟨F,G9,e1,hg,rfl,rfl⟩:=hh;exact⟨sv,F,G9,by simpa using e1,hg,rfl⟩
 obtain⟨F,G9,Lv,Lw,rfl⟩:=h;obtain⟨pl,h,b,e1,e2,e3,e4,e5,e6⟩:=rest F na nb L Lv Lw;have GR:∀L,cL true [.lst [.int na,.int nb]] L=.ok (.lst [.int na,.int nb]) L:=fun L=>by
  show eO true [.int na,.int nb] L=_;rw [eO,aC (by simp;decide)];rfl
 have Sy:∀L,He [.int h,.cl (.type "bool")] L=.ok (.bl false) L:=fun L=>rfl
 have Oi:∀(b:Bool) (x:T),fin L (.bl b) (x::L)=.ok (.bl b) L:=fun b x=>dY rfl
 simp_arith [Am,e1,An,GR,e2,Sy,e3,e4,e5,show(h != h)=false by simp,show((0:Int) != 0)=false from rfl];cases b with
 | false=>simp_arith [Oi]
 | true =>
  obtain⟨x,br,dp,dt,f1,f2,f3,f4,f5⟩:=e6 rfl;simp_arith [f1,f3,f4,f2];cases br with
  | false =>
   simp_arith [GR,f5];exact Oi true _
  | true =>
   simp_arith [GR,f5,show((0:Int) == h + -h)=true by simp;omega];exact Oi true _
end
end dn
namespace dn
open PySem M
open kz (bH ah)
open Bk (Fc Kd Lk Rl great opens KG dC bo iZ wr bz mU aD au iA lq ak lw wN zi ni ao fQ rT iD fA uZ bA)
theorem Kx (cs:List Int) (hc:cs.length<=63) (L:aa):qY [.lst (cs.map .int)] L=.ok (.bl true) L:=by
 refine rK fun G n9=>?_
 obtain⟨ks,ns,ws,rs,B,hP,eb⟩:=N4 cs;have hG:=B.kg
 have h4:=hG.len;have BE:∀k∈ks.filter lq,k∈ks:=fun k hk=>(Uh.mp hk).1
 have Ak:=rA hG B.Nl.1 B.Nl.2.1 B.Nl.2.2;have Aj:=GI ks hG rs B.r2 B.rl
 obtain⟨n0,n1,n2,n3,rfl⟩:∃a b c d,ns=[a,b,c,d]:=by
  have:=B.n4
  match ns,this with
  | [a,b,c,d],_=>exact⟨a,b,c,d,rfl⟩
 obtain⟨w0,w1,rfl⟩:∃a b,ws=[a,b]:=by
  have:=B.w2
  match ws,this with
  | [a,b],_=>exact⟨a,b,rfl⟩
 have tw:=B.tw;simp only [Vq,UH] at tw;have k0:dC n0:=tw n0 (by simp)
 have k1:dC n1:=tw n1 (by simp);have k2:dC n2:=tw n2 (by simp)
 have k3:dC n3:=tw n3 (by simp);have k4:dC w0:=tw w0 (by simp)
 have k5:dC w1:=tw w1 (by simp);have Sz:([n0]++([n1,n2]++[n3])).Nodup:=(UX.mp B.nd).1
 have PX:([n1,n2]++[n3]).Nodup:=Sz.tail;have SD:=(UX.mp B.nd).2.2
 have vz:∀a∈[w0,w1,n1,n2],dC a:=fun a ha=>(TL.mp (show a∈[w0,w1]++[n1,n2] from ha)).elim (fun h=>B.tw a (TQ _ h)) fun h=>B.tw a (TF _ (Tp _ (TF [n3] h)))
 have rep3:∀a∈[w0,w1,n1,n2],a≠n3:=fun a ha e=>(TL.mp (show a∈[w0,w1]++[n1,n2] from ha)).elim (fun h=>SD n3 (TQ [n0,n1,n2] (TY.mpr rfl)) a h e.symm) fun h=>(UX.mp PX).2.2 a h n3 (TY.mpr rfl) e
 obtain⟨p0,p1,hp⟩:∃a b,(ks.filter fun k=>!k.l).map (·.n)=[a,b]:=by
  have:((ks.filter fun k=>!k.l).map (·.n)).length=2:=by rw [Lm9];exact hP
  generalize (ks.filter fun k=>!k.l).map (·.n)=l at this
  match l,this with
  | [a,b],_=>exact⟨a,b,rfl⟩
 have Oj:p0≠p1:=by
  have:((ks.filter fun k=>!k.l).map (·.n)).Nodup:=Xl ((XG).map _) hG.nd;rw [hp] at this;simp at this;exact this
 obtain⟨_,p,ed⟩:=kh (cs.getD 6 0) [2,4,4,4] (by decide) (by decide);obtain⟨d0,_,rfl,h0,p⟩:=P1 p;obtain⟨d1,_,rfl,h1,p⟩:=P1 p;obtain⟨d2,_,rfl,h2,p⟩:=P1 p;obtain⟨d3,_,rfl,h3,p⟩:=P1 p;obtain rfl:=P0 p;simp only [TC,UB] at ed;have hd0:d0<rs.length:=by rw [B.r2];omega
 obtain⟨r,hr⟩:∃r,rs[d0]?=some r:=⟨_,Ge9 hd0⟩;have Ol:=Ul hr
 have D:=B.rd r Ol;obtain⟨f1,f2,f3,f4,f5⟩:=(B.rd r Ol).uu;have MJ:=B.Gn Ol
 have PY:(ao rs)[d0]?=some (fQ r (rT d0)):=by
  have:=Bk.pj hd0;rw [Ge9 hd0] at hr;cases hr;exact this
 have DF:∀a∈[n0,n1,n2]++[w0,w1],dC a:=fun a ha=>(TL.mp ha).elim (fun h=>B.tw a (TF _ (TF [n3] h))) fun h=>B.tw a (TQ _ h)
 have Lx:∀f∈r.take++r.keep,iA ks ([n0,n1,n2]++[w0,w1]) f:=fun f hf=>by
  rcases TL.mp hf with h|h
  ·obtain⟨⟨k,hk,e⟩,h2⟩:=D.take f h
   exact⟨⟨k,BE k hk,e⟩,h2⟩
  ·exact D.keep f h
 have hnames:∀f∈r.take++r.keep,∀a∈f.as,dC a:=fun f hf a h=>DF a ((Lx f hf).2 a h)
 have HQ:=n8 (fun k hk=>(hG.ok k hk).2) Lx (by simp;omega);obtain⟨vs,hv1,GY,Lu⟩:=Ah r [d1,d2,d3] [w0,w1,n1,n2] hnames HQ (by omega) (by simpa using MJ) (by simp) (fun d hd=>by
  simp only [TJ,U6,or_false] at hd;rcases hd with rfl|rfl|rfl <;> simp <;> omega)
 simp only [TC,UB] at Lu;have vo:=Bk.nV (r:=r) hv1
 have PZ:mU (au r vs):=fun e he=>by
  have e1:e.1∈opens (r.take++r.keep):=by rw [<- vo];exact TZ he
  obtain⟨⟨g,hg,hx⟩,_⟩:=Bk.jt e1;exact⟨hnames g hg _ hx,vz _ (GY _ (Bk.uX (TZ he)))⟩
 have Ky:∀a,(great a=true->a∈opens (r.take++r.keep))->(great a=false->a∈[w0,w1])->bo (au r vs) a∈[w0,w1,n1,n2]:=fun a g1 g2=>by
  cases e:iZ (au r vs) a with
  | some v =>
   have:bo (au r vs) a=v:=by unfold bo;rw [e];rfl
   rw [this];exact GY v (Bk.uX (Bk.Ce e))
  | none =>
   have:bo (au r vs) a=a:=by unfold bo;rw [e];rfl
   rw [this];cases hg:great a with
   | true =>
    have hm:=g1 hg;rw [<- vo] at hm;obtain⟨q,hq,rfl⟩:=Tz.mp hm;unfold iZ at e;exact absurd (Ve.mp (YW.mp e) q hq) (by simp)
   | false =>
    exact TF [n1,n2] (g2 hg)
 have Kz:∀a∈[n0,n1,n2]++[w0,w1],great a=false->a∈[w0,w1]:=fun a ha hg=>by
  rcases TL.mp ha with h|h
  ·have:=B.ng a (TF [n3] h)
   rw [hg] at this;cases this
  ·exact h
 have DG:∀f∈r.take++r.keep,∀a∈f.as,bo (au r vs) a∈[w0,w1,n1,n2]:=fun f hf a ha =>
  Ky a (fun g=>Bk.wo hf ha g) (Kz a ((Lx f hf).2 a ha))
 have rJ:∀a∈opens (r.take++r.keep)++[w0,w1],bo (au r vs) a∈[w0,w1,n1,n2]/\dC a:=fun a ha=>by
  rcases TL.mp ha with h|h
  ·obtain⟨⟨g,hg,hx⟩,gr⟩:=Bk.jt h
   exact⟨DG g hg a hx,hnames g hg a hx⟩
  ·refine⟨Ky a (fun g=>?_) fun _=>h,DF a (TQ _ h)⟩
   rw [B.wg a h] at g;cases g
 have vA:∀f∈r.put,ak ks f:=fun f hf=>iA.ff (fun k hk=>by
  split at hk
  ·exact(Uh.mp hk).1
  ·exact hk) (D.put f hf)
 have KA:∀f∈r.put,∀a∈f.as,a∈opens (r.take++r.keep)++[w0,w1]:=fun f hf=>(D.put f hf).2
 have jZ:∀f∈r.take++r.keep,ak ks f:=fun f hf=>iA.ff (fun _ h=>h) (Lx f hf)
 have good0:∀f∈(r.take++r.keep).map (wr (au r vs)),ak ks f/\∀a∈f.as,a∈[w0,w1,n1,n2]:=fun f hf=>by
  obtain⟨g,hg,rfl⟩:=Tz.mp hf;refine⟨mN (jZ g hg),fun a ha=>?_⟩;obtain⟨x,hx,rfl⟩:=Tz.mp ha;exact DG g hg x hx
 have Og:∀L,ix (.lst (rs.map xT)) (.int (d0:Nat)) L=.ok (xT r) L:=fun L=>dT (by rw [TX,hr];rfl)
 have Kw:∀L,iH true (.lst [.str n0,.str n1,.str n2,.str n3]) (some 1) (some 3) L=.ok (.lst [.str n1,.str n2]) L:=fun L=>rfl
 have MD:∀L,iH true (.lst [.int (d0:Nat),.int (d1:Nat),.int (d2:Nat),.int (d3:Nat)]) (some 1) none L=.ok (.lst [.int (d1:Nat),.int (d2:Nat),.int (d3:Nat)]) L:=fun L=>tJ (by simp;decide)
 simp only [TC,UB] at eb;have vt:=fun k hk L=>pH cs k hk L
 have G8:∀c:Int,∃d:Nat,∀L,av [.int c,.lst [.int 1024]] L=.ok (.lst [.int (d:Nat)]) L:=fun c=>by
  obtain⟨_,p,e⟩:=kh c [1024] (by decide) (by decide);obtain⟨d,_,rfl,_,p⟩:=P1 p;obtain rfl:=P0 p;simp only [TC,UB] at e;exact⟨d,e⟩
 have tY:∀n:Int,∃f,(ak ks f/\∀a∈f.as,a∈[w0,w1,n1,n2])/\∀L,aE [.lst (ks.map kT),.int n,.lst [.str w0,.str w1,.str n1,.str n2]] L=.ok (fT f) L:=fun n=>by
  obtain⟨f,hf,e⟩:=gz ks [w0,w1,n1,n2] n (by omega) (by omega) (fun k hk=>(hG.ok k hk).2) (by simp) (by simp);exact⟨f,⟨iA.ff (fun _ h=>h) hf,hf.2⟩,e⟩
 have Al:=fun L=>G4 r (au r vs) (fun f hf=>by have:=wB hG (jZ f hf);omega) (by omega) L
 have Am:=fun L=>G5 n0 n1 n2 n3 w0 w1 L
 have KC:=fun(F:List Fc) (hF:F.length<64) L=>G6 ks (by omega) F hF [(n1,n1),(n2,n2),(n3,w0)] (by simp) L
 have An:=fun L=>G3 rs d0 r hr vs hv1 hnames HQ (by omega) (by omega) L
 have mO:=fun(a b:Int) bp hb hp' p u7 L=>CF ks (ao rs) (by omega) hG.nd [a,b] (by have:=hP;simp only [Tu,T9];exact Wj this) bp hb hp' p u7 L
 simp only [hp,TC,UB] at mO;have Ha:=fun a b fs hf x L hx=>Ks ks p0 p1 hp (by omega) a b fs hf x L hx
 have Ao:∀k∈r.aH,dC k.l/\dC k.r:=fun k hk=>⟨(rJ _ (D.aH k hk).1).2,(rJ _ (D.aH k hk).2).2⟩
 have P2:∀f∈r.take++r.keep++r.put,f.as.length<=4:=fun f hf=>by
  rcases TL.mp hf with h|h
  ·exact wB hG (jZ f h)
  ·exact wB hG (vA f h)
 have KD:r.take.length<=4/\r.keep.length<=4/\r.aH.length<=4/\r.put.length<=4/\r.tell.length<=4:=⟨by omega,by omega,by omega,by omega,by omega⟩;have KH:∀(bp bl:List Fc) (mV:bz) (L:aa),iV [jw ks (ao rs),cE bp bl mV,stepT d0 vs] L=.ok (.bl (iD ks (au r vs) r bp bl false)) L:=fun bp bl mV L=>Af ks (by omega) (ao rs) d0 vs (fQ r (rT d0)) PY hv1 (by omega) bp bl mV PZ Ao P2 KD L
 have Hb:∀(bp bl:List Fc) (mV:bz) (M:Mv ks bp bl mV (r.take.map (wr (au r vs))) (r.put.map (wr (au r vs))) (r.tell.map (uZ (au r vs)))) (hF:iD ks (au r vs) r bp bl false=true) (L:aa),∃x,rF ks bp bl mV (r.take.map (wr (au r vs))) (r.put.map (wr (au r vs))) (r.tell.map (uZ (au r vs))) x/\lt L.length x=true/\ir [jw ks (ao rs),cE bp bl mV,stepT d0 vs] L=.ok x L:=fun bp bl mV M hF L=>CD ks (by omega) (ao rs) d0 vs (fQ r (rT d0)) PY hv1 (by omega) bp bl mV PZ Ao M P2 KD hF L
 refine n9 ?_;clear n9;rw [CH];refine CI cs hc (.lst (ks.map kT)) (.lst (rs.map xT)) (jw ks (ao rs)) (cx (au r vs)) (stepT d0 vs) _ r n0 n1 n2 n3 w0 w1 d0 d1 d2 d3 ((r.take++r.keep).map (wr (au r vs))) ([(n1,n1),(n2,n2),(n3,w0)].map pT) (fun f=>ak ks f/\∀a∈f.as,a∈[w0,w1,n1,n2]) eb vt ed Aj Ak Og Lu Al (by simp;omega) good0 G8 tY Am An (fun F na nb L Lv Lw=>?_) L;refine rK fun G n9=>?_
 obtain⟨P,Q,S,DA,Oa,Lj,hS1,_,_,KI⟩:=KC F (by omega) L;have Oo:∀f∈P,f∈F/\f.k∉aD ks:=fun f hf=>by
  have:=Uh.mp (DA.mem_iff.mp hf);exact⟨this.1,by simpa using this.2⟩
 have Tf:P.length<=35:=by rw [DA.length_eq];exact eM Lv
 have Th:Q.length<=35:=TU (Bk.ik Q F fun f=>by
  by_cases h:f∈Q
  ·have h1:=List.nodup_iff_count.mp Oa f
   have h2:=W4.mpr ((Lj f).mp h).1;omega
  ·rw [List.count_eq_zero.mpr h];exact Uj _) Lv
 have Oq:∀f:Fc,ak ks f->f.k∉aD ks->f.k∈[p0,p1]:=fun f hf hn=>by
  obtain⟨k,hk,e,_⟩:=hf;rw [<- e] at hn ⊢;rw [<- hp];exact(Kt hk).resolve_left hn
 have Ot:∀n∈[p0,p1],n∉aD ks:=fun n hn h=>Ai hG.nd h (by rw [hp];exact hn)
 have Ly:∀f∈P,f.k∈[p0,p1]:=fun f hf=>Oq f (Lw f (Oo f hf).1).1 (Oo f hf).2
 have Ou:∀f∈r.take,f.k∉aD ks:=fun f hf=>by
  obtain⟨⟨k,hk,e,_⟩,_⟩:=D.take f hf;rw [e];obtain⟨h1,h2⟩:=Uh.mp hk;exact fun z=>Ai hG.nd z (Tz.mpr ⟨k,Uh.mpr ⟨h1,h2⟩,rfl⟩)
 have KJ:sumK (worth [p0,p1] [na,nb]) P=na * cK F p0+nb * cK F p1:=by
  rw [jY DA,lz Oj na nb _ fun f hf=>Ly f (DA.mem_iff.mpr hf),iy,iy]
  ·intro f hf e;rw [e];simpa using Ot p1 (by simp)
  ·intro f hf e;rw [e];simpa using Ot p0 (by simp)
 have t1:=mO na nb P (by omega) Ly (cE P Q S) (fun _=>zo) (.lst (F.map fT)::L);rw [KJ] at t1;have t0:=mO na nb [] (by simp) (by simp) (.tup [.tup [],.tup [],.tup [],.bl true]) (fun _=>zo) (.lst (F.map fT)::L)
 have Ov:=Ha na nb F (by omega) (.ref L.length) (.lst (F.map fT)::L) (by simp only [items,gZ,cY,dX]);refine n9 ?_;clear n9;refine⟨cE P Q S,na * cK F p0+nb * cK F p1,iD ks (au r vs) r P Q false,KI,t1,Ov,t0,KH P Q S _,fun hF=>?_⟩;have hh:fA ks (au r vs) r P Q=true:=by
  unfold iD at hF;simp only [Tw] at hF;exact hF.2.2.1
 have Lf:=Bk.qU hh Ou;have P4:∀e∈S,e=(n1,n1)\/e=(n2,n2)\/e=(n3,w0):=fun e he=>by
  have:=hS1.mem_iff.mp he;simpa using this
 have Ow:∀a∈[w0,w1,n1,n2],bo S a=a:=fun a ha=>by
  unfold bo;cases e:iZ S a with
  | none=>rfl
  | some v =>
   unfold iZ at e;obtain⟨q,hq,rfl⟩:=TG.mp e;have h1:q.1=a:=by simpa using List.find?_some hq
   show q.2=a;rcases P4 q (VX hq) with rfl|rfl|rfl
   ·exact h1
   ·exact h1
   ·exact absurd h1.symm (rep3 a ha)
 have SF:(r.take.map (wr (au r vs))).map (wr S)=r.take.map (wr (au r vs)):=Bk.Gp fun f hf=>Bk.Jl fun a ha=>Ow a ((good0 f (by
  obtain⟨g,hg,rfl⟩:=Tz.mp hf;exact TZ (TF _ hg))).2 a ha)
 have KL:∀f,((r.take.map (wr (au r vs))).map (wr S)).count f<=P.count f:=fun f=>by
  rw [SF];by_cases h:f∈r.take.map (wr (au r vs))
  ·unfold Bk.short at Lf
   have:=X8.mp Lf f h;simpa using this
  ·rw [List.count_eq_zero.mpr h];exact Uj _
 have M:Mv ks P Q S (r.take.map (wr (au r vs))) (r.put.map (wr (au r vs))) (r.tell.map (uZ (au r vs))):=by
  refine⟨hG.nd,by omega,fun f hf=>?_,fun f hf=>?_,fun f hf=>?_,?_,fun e he=>?_,?_,by simp;omega,by simp;omega,by simp;omega,by simp;omega,by simp;omega,fun f hf=>?_,fun f hf a ha=>?_,fun q hq=>?_,KL⟩
  ·obtain⟨g,hg,rfl⟩:=Tz.mp hf
   exact mN (jZ g (TF _ hg))
  ·obtain⟨g,hg,rfl⟩:=Tz.mp hf
   exact mN (vA g hg)
  ·obtain⟨g,hg,rfl⟩:=Tz.mp hf
   exact Ou g hg
  ·rw [(hS1.map (·.1)).nodup_iff]
   exact PX
  ·rcases P4 e he with rfl|rfl|rfl
   ·exact⟨k1,k1⟩
   ·exact⟨k2,k2⟩
   ·exact⟨k3,k4⟩
  ·rw [hS1.length_eq];simp
  ·rcases TL.mp hf with h|h
   ·refine wB hG (Lw f ?_).1
    rcases TL.mp h with h|h
    ·exact(Oo f h).1
    ·exact((Lj f).mp h).1
   ·rcases TL.mp h with h|h
    ·obtain⟨g,hg,rfl⟩:=Tz.mp h
     exact wB hG (mN (jZ g (TF _ hg)))
    ·obtain⟨g,hg,rfl⟩:=Tz.mp h
     exact wB hG (mN (vA g hg))
  ·obtain⟨g,hg,rfl⟩:=Tz.mp hf
   obtain⟨x,hx,rfl⟩:=Tz.mp ha;exact vz _ (rJ x (KA g hg x hx)).1
  ·obtain⟨g,hg,rfl⟩:=Tz.mp hq
   exact⟨vz _ (rJ _ (D.tell g hg).1).1,vz _ (rJ _ (D.tell g hg).2).1⟩
 refine rK fun G n9=>?_
 obtain⟨x,hR,_,ex⟩:=Hb P Q S M hF (.lst (F.map fT)::L);have dput:=Ha na nb r.put (by omega) (.lst (r.put.map fT)) (.lst (F.map fT)::L) rfl
 have DH:=Ha na nb r.take (by omega) (.lst (r.take.map fT)) (.lst (F.map fT)::L) rfl;rcases hR with⟨_,rfl⟩|⟨b8,left,P',Q',S',_,Ox,hP',_,_,_,_,_,_,rfl⟩
 ·refine n9 ⟨dM,true,_,_,ex,Gq,dput,DH,?_⟩
  exact mO na nb [] (by simp) (by simp) dM (fun _=>zo) (.lst (F.map fT)::L)
 ·refine n9 ⟨cE P' Q' S',false,_,_,ex,Gq,dput,DH,?_⟩
  have P5:∀f∈left,f∈P:=fun f hf=>Bk.uY Ox hf
  have KN:∀f∈mM ks ((r.put.map (wr (au r vs))).map (wr b8)),f.k∈[p0,p1]:=fun f hf=>by
   obtain⟨h1,h2⟩:=Uh.mp hf;obtain⟨g,hg,rfl⟩:=Tz.mp h1;obtain⟨g',hg',rfl⟩:=Tz.mp hg;exact Oq _ (mN (mN (vA g' hg'))) (by simpa [aD] using h2)
  have SG:∀f∈P',f.k∈[p0,p1]:=fun f hf=>by
   rcases TL.mp (hP'.mem_iff.mp hf) with h|h
   ·unfold lw at h
    split at h
    ·exact Ly f (P5 f h)
    ·obtain⟨g,hg,rfl⟩:=Tz.mp h
     exact Ly g (P5 g hg)
   ·exact KN f h
  have Sp:left.length<=P.length:=Bk.ik left P fun f=>by rw [Ox];omega
  have SH:P'.length<=1000:=by
   rw [hP'.length_eq,Tq];have h1:(lw (r.tell.map (uZ (au r vs))) b8 left).length=left.length:=by unfold lw;split <;> simp
   have h2:(mM ks ((r.put.map (wr (au r vs))).map (wr b8))).length<=4:=eM (by simp;omega);omega
  have t2:=mO na nb P' SH SG (cE P' Q' S') (fun _=>zo) (.lst (F.map fT)::L);have pm:(left++(r.take.map (wr (au r vs))).map (wr S)).Perm P:=List.perm_iff_count.mpr fun f=>by
   rw [Wy,Ox];have:=KL f
   omega
  have s1:=jY (w:=worth [p0,p1] [na,nb]) pm;rw [rI,pR,pR,KJ,lz Oj na nb r.take fun f hf=>Oq f (jZ f (TF _ hf)) (Ou f hf)] at s1;have s2:=jY (w:=worth [p0,p1] [na,nb]) hP'
  have KO:∀p∈[p0,p1],cK (mM ks ((r.put.map (wr (au r vs))).map (wr b8))) p=cK r.put p:=fun p rN=>by
   unfold mM;rw [iy,tX,tX];intro f hf e;rw [e];simpa [aD] using Ot p rN
  rw [rI,CG,lz Oj na nb _ KN,KO p0 (by simp),KO p1 (by simp)] at s2;rw [t2,s2,if_neg (by simp)];congr 2;omega
theorem Ap:∀ns:List Int,ns.length<=63->∃L,qY [.lst (ns.map .int)] []=.ok (.bl true) L:=fun ns h=>⟨[],Kx ns h []⟩
end dn
end
namespace dn
open PySem M
set_option maxHeartbeats 4000000
noncomputable def G0:Ct:=⟨[],[("SMALL",jy),("GREAT",jz),("FIGURES",jV),("LONGEST",jW),("BROKEN",dM),("LINE_MARKS",gq),("KIND_WORDS",gu),("RULE_WORD",cN),("PART_WORDS",bJ),("COUNTS",mB)],[],["given","kept","kinds","left","looks","names","right","rules","taken","title","told"],["len","list","tuple","all","any","sum","min","str","int","isinstance","range","enumerate","zip","sorted","set","dict","bool"],[(44,12),(56,12),(89,12),(144,13),(147,11),(230,12),(267,11),(267,12),(270,24),(294,12),(301,12),(302,12),(337,11),(396,17),(414,17),(434,17),(442,22),(444,26),(457,16),(466,17),(485,17),(519,16),(532,11)]⟩
noncomputable def ds:List Df:=.f false "_law_cell" 2 82 aZ :: .f false "_law_digits" 2 83 av :: .f false "_law_name" 2 84 a8 :: .f false "_law_kinds" 1 88 d9 :: .f false "_law_drawn" 3 87 aE :: .f false "_law_heads" 3 89 c7 :: .f false "_law_looks" 2 91 eg :: .f false "_law_names" 1 90 cm :: .f false "_law_rule" 5 92 fe :: .f false "_law_book" 1 95 dN :: .f false "_law_count" 2 105 eB :: .f false "_law_due" 3 106 cJ :: .f false "_law_as" 2 97 il :: .f true "_law_instance" 2 103 bN :: .f false "_law_pool" 3 100 cO :: .f false "_law_same" 2 104 dO :: .f false "_law_step" 3 102 dP :: .f false "_law_fact" 1 85 bY :: .f false "_law_part" 2 93 aM :: .f false "_law_text" 2 94 dQ :: .f false "_law_values" 3 101 cD :: .f false "check_facts" 2 33 bP :: .f false "check_taken" 2 34 bQ :: .f false "is_great" 1 22 aW :: .f false "know" 2 37 mC :: .f false "taken_out" 2 36 cP :: .f false "chosen" 2 39 jA :: .f false "tell_same" 3 38 fh :: .f false "written" 2 35 bq :: .f false "moved" 5 32 lr :: .f false "pair_written" 2 80 bZ :: .f false "behind" 3 75 jB :: .f false "changes" 3 79 ip :: .f false "check_step" 2 76 eC :: .f false "heads_there" 4 78 dF :: .mt "Same" "holds" "Same.holds" 3 42 0 cq :: .mt "Unlike" "holds" "Unlike.holds" 3 43 0 bB :: .f false "looks_hold" 2 77 eD :: .mt "Rule" "calls" "Rule.calls" 1 63 1 bK :: .f false "fits" 3 73 iV :: .f false "after" 3 74 ir :: .f false "open_names" 1 65 eE :: .mk "Rule" "Rule.__init__" 3 63 0 g6 :: .f false "is_name_sign" 1 23 b6 :: .f false "name_end" 2 26 gv :: .f false "pieces" 2 25 jC :: .f false "line_pieces" 1 52 dG :: .f false "is_name" 1 21 dD :: .f false "is_small_word" 1 20 bt :: .f false "read_kind" 1 53 fj :: .f false "parted" 2 61 eW :: .f false "piece_at" 2 27 aI :: .mk "Same" "Look.__init__" 3 41 0 cQ :: .mk "Unlike" "Look.__init__" 3 41 0 cQ :: .f false "check_two_names" 1 60 bx :: .f false "read_look" 1 57 fk :: .f false "read_looks" 1 56 da :: .f false "read_pair" 1 59 fm :: .f false "read_pairs" 1 58 de :: .f false "arguments_at" 2 29 df :: .f false "fact_at" 2 28 iu :: .f false "row_of_facts" 1 24 dh :: .f false "read_part" 2 55 b7 :: .f false "read_rule" 1 54 fo :: .f false "hear_line" 3 67 cR :: .f false "is_told" 1 51 iw :: .f false "told_lines" 1 50 eF :: .mk "Book" "Book.__init__" 3 64 0 g9 :: .f false "check_call" 2 69 di :: .f false "said_names" 1 71 eG :: .f false "check_names" 1 70 dH :: .f false "whole_book" 2 68 eH :: .f false "read_book" 1 66 dR :: .f false "passing_kinds" 1 1 cF :: .f false "tally" 3 2 gx :: .f false "law" 1 107 qY::[]
theorem SJ:yW PySem.Challenge.pw_poolrules_k31_a_step_moves_the_tally.main.body G0 ds:=by
 unfold ds
 repeat' first|refine M.wm ?_|refine M.IX ?_|refine M.IY ?_|exact M.M8
end dn
open PySem PySem.W PyProof.Rows M
set_option maxHeartbeats 0 in
theorem PySem.Challenge.cw_poolrules_k31_a_step_moves_the_tally_holds : PySem.Challenge.rw_poolrules_k31_a_step_moves_the_tally.Holds := by
 w_on;o_law;k_head;(case hw=>w_witness2)
 k_fill
 refine B0 (l:=PySem.Challenge.rw_poolrules_k31_a_step_moves_the_tally) (n:=63) (k:=80) (m:=dn.qY) rfl (by decide) rfl ⟨rfl,by decide,by decide⟩ (fun w h Y=>kIn_of Y) (fun w mg fa h X G e=>?_) dn.Ap;refine FE PySem.Challenge.pw_poolrules_k31_a_step_moves_the_tally.main.body dn.G0 ["Book","Rule","Same","Unlike"] dn.ds X G e dn.SJ (by decide) (by kernel_rfl) ⟨rfl,rfl⟩ (by decide +kernel) (yY (by k_is) (by decide) (yY (by k_is) (by decide) (yY (by k_is) (by decide) (Nd (by k_is) (B2 (us:=#[.ref _,.ref _,.ref _,.bool true]) (by k_is) (by k_is) (by decide) (FF (us:=#[]) (by k_is) (by decide) th (FF (us:=#[]) (by k_is) (by decide) th (FF (us:=#[]) (by k_is) (by decide) th (Nf th)))) (yY (by k_is) (by decide) (B2 (us:=#[.str ⟨(S "passing").toArray⟩ _,.str ⟨(S "lasting").toArray⟩ _]) (by k_is) (by k_is) (by decide) (ky (by decide) (ky (by decide) th)) (yY (by k_is) (by decide) (B2 (us:=#[.str ⟨(S "take").toArray⟩ _,.str ⟨(S "keep").toArray⟩ _,.str ⟨(S "look").toArray⟩ _,.str ⟨(S "put").toArray⟩ _,.str ⟨(S "tell").toArray⟩ _]) (by k_is) (by k_is) (by decide) (ky (by decide) (ky (by decide) (ky (by decide) (ky (by decide) (ky (by decide) th))))) (B2 (us:=#[.str ⟨(S "0").toArray⟩ _,.str ⟨(S "1").toArray⟩ _,.str ⟨(S "2").toArray⟩ _,.str ⟨(S "3").toArray⟩ _,.str ⟨(S "4").toArray⟩ _]) (by k_is) (by k_is) (by decide) (ky (by decide) (ky (by decide) (ky (by decide) (ky (by decide) (ky (by decide) th))))) IU)))))))))) ?_ ?_ ?_;all_goals repeat' first|exact IU|refine M9 (by k_is) ?_|refine Na (by k_is) ?_|refine Nb (by k_is) (by k_is) (by k_is) (by k_is) (by k_is) (by k_is) (by k_is) ?_ ?_|refine Nc (by k_is) (by k_is) (by k_is) (by k_is) ?_|refine IV (by k_is) (by k_is) (by k_is) (by k_is) (by k_is) (by k_is) (by decide) ?_|refine IW (by k_is) (by k_is) (by k_is) (by k_is) (by k_is) (by k_is) (by decide) ?_
