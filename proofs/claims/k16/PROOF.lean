import PyProof.Rows.All
import Wide.All
import OpenK.AllK
import Wide.FinOn
import PyProof.EqAt
import PyProof.EqKinds
import PyProof.TupleCall
import PyProof.EnumFor
import PyProof.EnumStmt
import PyProof.EnumMake
import PyProof.StrOps2
import PyProof.DictWalks
import PyProof.DictItems
import KE.KPairComp
import PyProof.DictTruth
import PyProof.ZipIter
import PyProof.SumWalkG
import PyProof.IsiPairs
import PyProof.DictRoadsH
import PyProof.Rows.TupTab
import KE.KDictList
import KE.KDictOf
import KE.KSortAsk
import KE.KSortTup
import PyProof.Draws
import PySem.Challenge.RW_poolrules_k16_all_steps
set_option Elab.async false
set_option linter.all false
set_option tactic.hygienic false
local macro_rules(kind:=Lean.Parser.Command.declaration)|s=>if s.getPos?.isNone then Lean.Macro.throwUnsupported else let r:=s.rewriteBottomUp (·.setInfo .none);let t:Lean.TSyntax `command:=⟨if s[1].getKind matches``Lean.Parser.Command.definition|``Lean.Parser.Command.abbrev&&s[0][1].isNone&&s[0][4].isNone then r.setArg 0 (r[0].setArg 4 (Lean.mkNullNode #[Lean.mkNode ``Lean.Parser.Command.noncomputable #[Lean.mkAtom "noncomputable"]]))else r⟩;if(s.find? (·.isOfKind ``Lean.Parser.Tactic.renameI)).isSome then `(command|set_option tactic.hygienic true in $t)else return t
namespace PySem.W.Fast
def tw10929184247073114330:=True
def tw1508773400613459148:=True
def tw9907998836565931226:=True
def tw10617342376490449739:=True
def tw4042914037706017825:=True
def tw816081031536908287:=True
def tw7053098815913484694:=True
def tw10207368244711565530:=True
def tw8041492522707222442:=True
def tw1558711084901464666:=True
def tw16938215592383425197:=True
def tw2394433612414884357:=True
def tw12521120137781091253:=True
def tw8771916197578190927:=True
def tw2660587743155816374:=True
def tw2391816228957969009:=True
def tw11952329417992953011:=True
def tw7874529511373108513:=True
def tw16455998216927320117:=True
def tw8376871841242874211:=True
def tw13918393863244126602:=True
def tw14130560874083212341:=True
def tw14209036202756714116:=True
def tw17133112227461326008:=True
def tw7216742201707166540:=True
def tw2955047729846483992:=True
def tw5712312146641790025:=True
def tw12850970235371183213:=True
def tw7599958411202807775:=True
def tw4532481400180561896:=True
def tw14880498466382721357:=True
def tw18342913847367129451:=True
def tw13783118631498797865:=True
def tw12271620388439273658:=True
def tw6462922032927301718:=True
def tw8098432382405204905:=True
def tw7304691135428658096:=True
def tw13358336564848697396:=True
def tw7873333006769034042:=True
def tw9948661646518343223:=True
def tw1710123984304114960:=True
def tw7654044361805370437:=True
def tw4836221045140702451:=True
def tw6917177434648883730:=True
def tw6323074824994866209:=True
def tw18048025935280952084:=True
def tw10632664816364755386:=True
def tw11273317001389800766:=True
def tw10449256536413111700:=True
def tw10114824028456657020:=True
def tw6306326958697324542:=True
def tw1344097771652760179:=True
def tw12656357493758175128:=True
def tw5784574528495040588:=True
def tw8020246557064822727:=True
def tw2837030401321205212:=True
def tw17553720690253677381:=True
def tw3014757202347877588:=True
def tw6421540074289898293:=True
def tw9763754921365172301:=True
def tw10828808382194402371:=True
def tw5349733004316059010:=True
def tw7168633515841826976:=True
def tw7679691233389103693:=True
def tw6501191259781640815:=True
def tw7984198013344828719:=True
def tw682433122029938933:=True
def tw2526180453485520339:=True
def tw1759835600859077939:=True
def tw11999622706050559484:=True
def tw15982194275894649838:=True
def tw2730961413454247948:=True
def tw12036070339377944238:=True
def tw4173094474909571602:=True
def tw2338792297584441954:=True
def tw3328583095715535421:=True
def tw4878712829898469946:=True
def tw12462740077459616193:=True
def tw13380509277297438615:=True
def tw5285561505337286591:=True
def tw16815148888898716813:=True
def tw12157525855104274279:=True
def tw10296010915843569108:=True
def tw16184958815902276428:=True
def tw12588637350602045218:=True
def tw4420427108911432996:=True
def tw7489902145607586601:=True
def tw13540407910704222233:=True
def tw12183610972516676251:=True
def tw9766103703915912935:=True
def tw9202744000848461294:=True
def tw4461549151128310620:=True
def tw6507711765708310179:=True
def tw4792709022322501618:=True
def tw17951704572038045640:=True
def tw17572678337378852413:=True
def tw18035512108829303734:=True
def tw9195997814333187202:=True
def tw12166981282059307562:=True
def tw6300450555637718489:=True
def tw3399126657522961071:=True
def tw12259421449073473414:=True
def tw13740864281000847491:=True
def tw6393881288159040575:=True
def tw4181836513245345017:=True
def tw16766086625790417315:=True
def tw3752074895596376153:=True
def tw10927856173511162186:=True
def tw2272581586740101758:=True
def tw1092052981056458596:=True
def tw9826771872300421130:=True
def tw361563772935985688:=True
def tw15212493313841776029:=True
def tw17869499656855928949:=True
def tw5772034217216486312:=True
def tw7337541785056966797:=True
def tw11392460216632692290:=True
def tw6517337249349557671:=True
def tw5671235821193199482:=True
def tw13474041834752685561:=True
def tw10359999220904350532:=True
def tw15306969713646068533:=True
def tw14723470691944493254:=True
def tw9368980953147432236:=True
def tw11314185814056825139:=True
def tw3704767289882957220:=True
def tw4771228823940736695:=True
def tw14954466993644183914:=True
def tw11899901151185605288:=True
def tw16164689048884543396:=True
def tw2622253305038964916:=True
def tw1963239172699466630:=True
def tw5909542148385758891:=True
def tw11672873024230880191:=True
def tw10474087084094641711:=True
def tw6506547223532202933:=True
def tw12780962947439028509:=True
def tw9183029549208284671:=True
def tw14776642502733388954:=True
def tw16164173122722767622:=True
def tw18090377970666547875:=True
def tw17744501573668243645:=True
def tw12803459627857018902:=True
def tw13909433075555315337:=True
def tw10885798704387975659:=True
def tw10718442528042726833:=True
def tw13959655193424324921:=True
def tw12283765346611465723:=True
def tw15732990295668888709:=True
def tw15815676662206142360:=True
def tw585056400426049834:=True
def tw3716038683372055241:=True
def tw8074962982700088716:=True
def tw9096502653616867559:=True
def tw12544897413995077034:=True
def tw14664028786581758743:=True
def tw14956517735618850207:=True
def tw5531073597606350979:=True
def tw7423045639778847409:=True
def tw10712664589202233243:=True
def tw16963013463466598925:=True
def tw956681215853144542:=True
def tw3904811859107431812:=True
def tw14803276907323575920:=True
def tw4179073938355238590:=True
def tw628656313363783981:=True
def tw3343523591084720385:=True
def tw15663479853635076320:=True
def tw12529158759809667326:=True
def tw15902505442896589448:=True
def tw18010486930361237325:=True
def tw7520243284064510656:=True
def tw762056340655557210:=True
def tw15477050875459591388:=True
def tw2260930543338323597:=True
def tw11198342785814900972:=True
def tw9365196271492206482:=True
def tw5463896973808810421:=True
def tw1200328608489982012:=True
def tw17122543869137664479:=True
def tw1916892183516353666:=True
def tw4871049735591957032:=True
def tw3126369131126713384:=True
def tw7979290640624628688:=True
def tw17010870204453121542:=True
def tw1698793976149941875:=True
def tw7342871715071201971:=True
def tw16569946673022893034:=True
def tw14342065723717755548:=True
def tw8852342293867530285:=True
def tw16198879557267416265:=True
def tw12720069831493547722:=True
def tw7538048160520240589:=True
def tw9165398389771518568:=True
def tw11529747213787171369:=True
def tw14420131350485953034:=True
def tw8833930719920311794:=True
def tw18421442047138586959:=True
def tw2864204324591051110:=True
def tw4544997590312927571:=True
def tw6658917729679075383:=True
def tw14260492140680074689:=True
def tw676185332512957373:=True
def tw1456097577043357600:=True
def tw5765011264204598996:=True
def tw14954525544052599700:=True
def tw9012493248909906230:=True
def tw7015157637149952008:=True
def tw14882018464800219173:=True
def tw16756800241783833159:=True
def tw11080089882505440274:=True
def tw9332002584108087399:=True
def tw7629652830459406913:=True
def tw14482548296461144121:=True
def tw2946819242194805243:=True
def tw11974470955911428801:=True
def tw7086958349203678719:=True
def tw16601557356830114236:=True
def tw3949041454961882862:=True
def tw9365988345657743907:=True
def tw193578947783252060:=True
def tw200271712982042916:=True
def tw18250800484299133776:=True
def tw10069728535573259735:=True
def tw18052571539931963388:=True
def tw1859907451927136806:=True
def tw2505681291996320514:=True
def tw5852071645436925612:=True
def tw11653814545335525926:=True
def tw1836942449252033638:=True
def tw14898107278500323390:=True
def tw8031183234600600172:=True
def tw1694373528341037221:=True
def tw6422772203311350063:=True
def tw9273411782139374270:=True
def tw12107483444984609847:=True
def tw5410161757521435481:=True
def tw16252427916062491465:=True
def tw6117517579961117875:=True
def tw9836287952132962186:=True
def tw15898922193135278103:=True
def tw12502505462820916770:=True
def tw5585648586950949986:=True
def tw11044451657277078413:=True
def tw4778929674950951918:=True
def tw12808147515583770029:=True
def tw7815592991889731803:=True
def tw5922536685689403288:=True
def tw12523249866156892151:=True
def tw7190234069754622286:=True
def tw4281653065075717061:=True
def tw7785363394540661150:=True
def tw1887862842038629917:=True
def tw3626190171383860578:=True
def tw7810344520906066097:=True
def tw12668931618935302038:=True
def tw11433875598835704426:=True
def tw3568192920756252786:=True
def tw14881350814926551795:=True
def tw17813346234287465161:=True
def tw10446163346207564684:=True
def tw8595915332505542059:=True
def tw9783370475760168963:=True
def tw727985958598396082:=True
def tw17433303170341975288:=True
def tw5983206987208482612:=True
def tw12212893207584249116:=True
def tw17255453134640170187:=True
def tw6171293329474749234:=True
def tw16415921441637394047:=True
def tw10270584776249654915:=True
def tw12274300725996052956:=True
def tw14752130798952163085:=True
def tw10523255006521408736:=True
def tw12979577498112039847:=True
def tw15147786258192311327:=True
def tw9802114906592572419:=True
def tw6168341851158260805:=True
def tw4325896111608199039:=True
def tw18023810560801582145:=True
def tw14150629496204905920:=True
def tw16904762301571942497:=True
def tw2686349645422830706:=True
def tw2671118617345059671:=True
def tw17346749437855948303:=True
def tw15687353145149631276:=True
def tw14126616773971328672:=True
def tw3034061908364003315:=True
def tw6947031104756721490:=True
def tw13683339105308595528:=True
def tw11833934350522306221:=True
def tw9895936078260689029:=True
def tw12692003224856336361:=True
def tw7456224077823418226:=True
def tw14837789836581055753:=True
def tw13476002332276518542:=True
def tw1585862450027532899:=True
def tw8028807550414201810:=True
def tw995500229825034631:=True
def tw5844886818836772540:=True
def tw16264661102195393407:=True
def tw5652119694975585484:=True
def tw14603661669395809177:=True
def tw12456642743905855628:=True
def tw6194274089223853937:=True
def tw5036644339333453258:=True
def tw6891116422436592307:=True
def tw13918226749519692595:=True
def tw10561171050585946708:=True
def tw2970461757533218255:=True
def tw1832080267060198013:=True
def tw16523309952265468745:=True
def tw10072829252118256762:=True
def tw17068822610530789101:=True
def tw11207313065175514226:=True
def tw11538281658675069152:=True
def tw2689692845696396554:=True
def tw11305025987296973038:=True
def tw16487719462870751554:=True
def tw7369627359803701675:=True
def tw5716770276470070352:=True
def tw17119378567717696933:=True
def tw10953406964439198909:=True
def tw12121294062921964013:=True
def tw17936374285849064749:=True
def tw13214265353843441046:=True
def tw16109537713297685871:=True
def tw9177319850614523608:=True
def tw5317681460870664146:=True
def tw9808853349989476774:=True
def tw5079828038278669560:=True
def tw12474647143630425766:=True
def tw1087345494275538281:=True
def tw8874947487596369174:=True
def tw12239554125242728935:=True
def tw17583456967397760814:=True
def tw4059369435328782275:=True
def tw3765259729760658144:=True
def tw15431698222321966260:=True
def tw2771826757738715487:=True
def tw5869123485394718669:=True
def tw6170463632934078978:=True
def tw13182474143911816381:=True
def tw15326974822436218165:=True
def tw7209580572807820507:=True
def tw9899790766749754298:=True
def tw2232527077929229554:=True
def tw660518966938890375:=True
def tw13125576108201545843:=True
def tw7667950310198085772:=True
def tw2099763676684064394:=True
def tw15844752320717636145:=True
def tw15147898341356627563:=True
def tw13503816941561549550:=True
def tw8273589349893203233:=True
def tw17165569750916253951:=True
def tw12736557578127077833:=True
def tw7516739299393966199:=True
def tw7544208140002512420:=True
def tw15826893091388456696:=True
def tw13786121310245929080:=True
def tw13616597372120115265:=True
def tw15557524626639438509:=True
def tw16141321738765393595:=True
def tw14018232111828708025:=True
def tw7708469481132845865:=True
def tw7993734582333103358:=True
def tw2409340028855529974:=True
def tw7398596563608512208:=True
def tw3710852117602215592:=True
def tw5514417431709769430:=True
def tw17402940538344696572:=True
def tw1879807171217644718:=True
def tw18411861061952679443:=True
def tw13494373791305323366:=True
def tw18293682509103061597:=True
def tw17982785086941999713:=True
def tw4981505382897861566:=True
def tw17600953525444339930:=True
def tw5255852030655294110:=True
def tw3936315607635494959:=True
def tw10672669418782128491:=True
def tw5276508471384534189:=True
def tw15239045307464337784:=True
def tw6495870955758479944:=True
def tw1775561421344291795:=True
def tw13033090873862192079:=True
def tw16613514215058125358:=True
def tw12121292214994858590:=True
def tw13003934472989309503:=True
def tw6730334033407307395:=True
def tw2834507548115618927:=True
def tw4256873794539847940:=True
def tw3215160808383577740:=True
def tw8286371247500343797:=True
def tw1162862655386438774:=True
def tw7797286724487364368:=True
def tw13726928916693400308:=True
def tw13210583808522780732:=True
def tw2614684097885468825:=True
def tw13979906380780093739:=True
def tw13201303415320024404:=True
def tw18156393312405546828:=True
def tw9399072585395846506:=True
def tw7016251678770008360:=True
def tw17523907387681179276:=True
def tw1367326627444640541:=True
def tw10714427915583852090:=True
def tw17066321619659535243:=True
def tw12409381098826529969:=True
def tw3198973897128128545:=True
def tw1899571528814606187:=True
def tw10775878557457291183:=True
def tw8895934427290105962:=True
def tw13435064216024004250:=True
def tw6163653258740977780:=True
def tw7135601299068265156:=True
def tw16663236765691889823:=True
def tw2584488190298913924:=True
def tw15411020188073666015:=True
def tw4312517498728109779:=True
def tw5385747092274469954:=True
def tw3338689227466863852:=True
def tw5575927655034440604:=True
def tw12983693456012494140:=True
def tw4713673271410820872:=True
def tw9077698328707572943:=True
def tw8810987712879184235:=True
def tw17515522921733834544:=True
def tw12087615881527815882:=True
def tw6516170975756151275:=True
def tw6375738947449146156:=True
def tw7147014732180549835:=True
def tw9912727330759913515:=True
def tw8244115341417644277:=True
def tw384498811659998142:=True
def tw8356895204347458703:=True
def tw14612884661031995149:=True
def tw3564026858554960012:=True
def tw4558711831501784072:=True
def tw10322759368182308350:=True
def tw11784455140864367084:=True
def tw10084383102459233673:=True
def tw7247922177255222743:=True
end PySem.W.Fast
set_option maxRecDepth 100000
open PySem renaming wpAny_bind->VI,wpAny_pure->VM,Value->VT,Shared->VY,wpAny->Wa,sizeLine->Wf,Addr->Wr,mem_of_lookup->Wy,mainGlobals->WA,Program->WU,Around->WY,World->XQ,strKind->Yj,sizeLine_eq->Zg,typeIs_bool->aaj,call_isinstance->aaP,isinstance_true->aaQ,Builtin->abp
open PySem.Heap renaming get?_push_of_some->VJ,get?_push_size->VO,lt_size->V5,size_push->W7,get?_update_other->Xv,SameBut->XD,get?_push_ne->X7,get?_update_self->YB,size_update->Zs,get?_update_ne->ZN,NewExcOf->abm,IsTuple->aby
open List renaming mem_cons_of_mem->VK,mem_cons_self->VL,length_append->VN,mem_map->VP,all_eq_true->VQ,mem_append->VR,length_cons->VS,map_cons->VU,getElem?_eq_some_iff->VZ,map_append->V1,mem_append_left->V2,mem_map_of_mem->V4,mem_append_right->V6,append_nil->V8,mem_singleton->Wb,map_map->Wc,mem_of_getElem?->Wd,append_assoc->We,replicate->Wj,getElem_mem->Wn,mem_filter->Wq,mem_cons->Wt,map_congr_left->Wv,length_filter_le->Ww,getElem?_map->Wx,drop_eq_getElem_cons->Wz,all_cons->WD,take_of_length_le->WE,length_drop->WG,map_nil->WH,lookup_cons->WI,cons_append->WJ,length_nil->WL,nil_append->WM,mem_of_mem_take->WQ,nodup_append->WW,nodup_cons->WZ,mem_flatMap->W2,findIdx?_eq_some_iff_getElem->W4,length_take->W8,range->W9,getElem?_cons_zero->Xb,zip_cons_cons->Xc,length->Xg,mapM_cons->Xj,of_mem_zip->Xm,length_eq_zero_iff->Xn,getElem?_cons_succ->Xo,set_cons_zero->Xp,set_cons_succ->Xq,pairwise_append->Xr,ext_getElem->Xs,any_eq_true->Xt,getElem_of_mem->Xw,nodup_nil->Xz,extract_eq_take_drop->XC,take_append_drop->XE,map_take->XJ,mem_zipIdx_iff_getElem?->XM,flatMap_cons->XO,foldl_cons->XR,map_eq_nil_iff->XS,getElem_map->XY,find?_eq_none->X0,length_zipIdx->X1,drop_drop->X4,forIn_cons->X8,size_toArray->Yb,pairwise_map->Yf,toArray->Yi,reverse_append->Ym,mem_reverse->Yp,zipIdx_cons->Yq,getElem?_set_self->Yu,drop_of_length_le->Yv,singleton_append->YF,exists_cons_of_ne_nil->YL,nodup_iff_pairwise_ne->YM,forall_mem_cons->YO,pairwise_iff_getElem->YT,forIn_nil->YU,length_pos_iff->YX,pairwise_cons->Y7,drop_eq_nil_of_le->Zb,lookup->Ze,drop_left->Zk,perm_append_comm->Zo,length_singleton->Zq,cons_ne_nil->Zt,not_mem_nil->Zu,flatMap_nil->Zv,getElem?_set_ne->Zw,mem_iff_getElem->ZA,zipIdx_nil->ZO,flatMap_append->ZP,findIdx?_cons->ZX,all_nil->ZZ,getElem?_eq_none_iff->Z3,mem_range->Z7,getElem?_zip_eq_some->Z8,findIdx?_eq_none_iff->Z9,any_eq_false->aac,getElem?_take_of_lt->aae,reverse_perm->aam,all_eq_false->aao,take_add->aat,map_drop->aau,all_eq_not_any_not->aay,countP_cons->aaA,length_pos_of_mem->aaJ,getElem?_eq_none->aaL,all_map->aaN,pairwise_reverse->aaS,find?_cons->aaX,pairwise_flatMap->aaY,mem_of_mem_drop->aa2,reverse_reverse->aa4,replicate_succ->aa8,take_succ_cons->aba,take_set_of_le->abc,drop_set_of_lt->abd,filter_eq_self->abg,countP_pos_iff->abh
open Nat renaming le_trans->VV,le_refl->V3,zero_le->Wg,ne_of_lt->Wm,ne_of_gt->WR,lt_of_lt_of_le->W3,lt_irrefl->Xf,lt_succ_of_lt->Xh,reduceLT->Xi,le_succ_of_le->Xy,le_succ->XF,mul_le_mul_right->XG,add_assoc->XI,lt_succ_self->XW,pow_le_pow_right->X5,le_add_right->Ys,lt_trans->YE,reduceAdd->YJ,pow_le_pow_left->YY,le_of_eq->Zm,reduceSub->ZG,lt_of_le_of_lt->ZV,add_zero->ZY,add_sub_cancel->Z0,min_le_right->aaC,zero_add->aaT,add_le_add->aa6,one_pos->abb,le_of_lt->abw,succ_mul->abA
open Bool renaming and_eq_true->VW,false_eq_true->Ws,or_eq_true->W6,false_ne_true->Xl,eq_iff_iff->X9,not_eq_true'->Ye,and_true->YI,false_and->Zj,or_eq_false_iff->ZC,not_true->ZE,true_and->ZH,and_false->Z5,not_false->aaa,not_eq_false->aap
open Array renaming getElem?_eq_getElem->VX,getD_eq_getD_getElem?->WB,size_map->Xd,toList_append->Xx,getElem?_eq_some_iff->XU,getD->XZ,length_toList->Yk,getElem?_toList->Zn,getElem_of_mem->Zz,perm_iff_toList_perm->ZT,size_eq_zero_iff->aaE,toList_extract->aa1,toList_reverse->aa3,forIn_toList->abl,ext'->abr
open Option renaming map_eq_some_iff->V7,isSome_iff_exists->WC,join_some->WK,bind_eq_some_iff->XH,bind_some->Yt,map_eq_none_iff->Zd,getD_some->Zr,getD_none->aaz
open PySem.Paired renaming length->V9
open PySem.W renaming emptyDict->Wh,Frag->Wl,instObj->Wu,findIn->WN,nsIn->WT,keepIn->WX,fnOf->W5,codeIn->XN,isFn->Yg,cellsFrom_some->Yw,plainGet->YV,hasDictIn->Zf,plainGet_of->ZJ,makesIn->ZK,codeRec_of->ZW,lookIn->Z4,plainOver->aad,mg_of->aax,takerIn->aaM,callWith_K0->aa7,callWith_K->abj,handedIn->abC
open PySem.Builtin.SmallTypes renaming ownedTupleIsFree->Wi,nextOf->Wo,ownedTupleHandOut->Xe
open PySem.Str renaming ofString->WS
open PySem.Value renaming none->WV,builtin->Y5,ref->Zl,str->ZM,isStrOf->abo
open PySem.F renaming slot_zip_next->W0,slot_tuple_iterator_next->Xu,slot_dict_keyiterator_next->XT,slot_tuple_getattribute->Yd,slot_list_getattribute->Yh,args_zip_next_1->Yn,plainAttrs_list->Yo,slot_zip_getattribute->Yr,slot_str_split->Yx,slot_bool_hash->Yy,entry_zip_next->Yz,args_tuple_add_2->YZ,args_str_split_2->Y0,args_tuple_iterator_next_1->Y1,entry_tuple_add->Y3,entry_str_split->Y4,entry_tuple_iterator_next->Y6,slot_tuple_add->Za,plainAttrs_str->Zc,slot_tuple_hash->Zi,slot_list_append->Zx,slot_list_extend->Zy,slot_dict_setdefault->ZF,kt_typeCall_dict_1->ZS,args_object_init_3->ZU,slot_tuple_count->aah,slot_tuple_index->aai,args_dict_init_2->aak,plainAttrs_tuple->aan,slot_list_count->aar,entry_dict_init->aas,plainAttrs_dict->aaw,slot_dict_iter->aaD,kt_called_dict->aaG,typeCall_zip_2->aaH,slot_list_reverse->aaI,slot_dict_len->aaO,slot_dict_get->aaR,newCall_zip_2->aaU,entry_zip_new->aaV,args_int_lt_2->aaW,entry_int_lt->aa5,called_zip->abq
open PyProof.Rows renaming slot_tuple_getitem->Xa,callWith_type1->YC,lt_str->aa9
open Classical renaming propDecidable->Xk,byContradiction->YR,choose_spec->Zp,choose->aaB
open PySem.NameKind renaming free->XA,cell->aaq
open List.cons renaming inj->XK
open PySem.Obj renaming mapSeq->XX,data_mapFields->Y2,isFreed_of_fields->aaK,data_mapDictKeys->aa0
open PySem.Builtin.Tuple renaming tupleHashOf->X2,tupleExact->Ya,tupleItemsOf->YK
open PySem.Builtin.Slice renaming slicePlaces->X3,sliceAdjust->YS,sliceApplied->ZR
open PySem.PassesOwn renaming never->X6
open PySem.Builtin.List renaming listTooLong->Yc
open PySem.Builtin.Dict renaming updateFrom->Yl,selfAndRest->aal,pairItems->aaF
open Ne renaming symm->YA
open ForInStep renaming yield->YD
open Int renaming toNat_natCast->YG,emod_nonneg->Y8,emod_lt_of_pos->Y9,lt_irrefl->aav
open PySem.SeqAt renaming EqAt->YH
open PySem.Around renaming under_plainId->YN
open PySem.Txt renaming split->YQ,stripChars->Z1
open PySem.Heap.SameBut renaming update->YW
open Function renaming comp_def->Zh
open Option.some renaming inj->ZI
open PySem.Builtin.Str renaming strSliceIndices->ZL
open PySem.Calls renaming Name_function_global->ZQ,call_function_entry->Z6,spliced_nil->aab,spliced_cons->abi
open PySem.AutoSeq1 renaming sub_tuple_tuple->aaf,wpAny_loadPart'->aag
open PyProof.Rows.SortSt renaming mk'->aaZ
open PySem.Shared renaming heap->abe,TypeIs->abn
open PySem.W.KT renaming app_list->abf
open PySem.BindsTo renaming of_eq->abk
open PySem.Heap.IsTuple renaming push->abt
open False renaming elim->abu
open List.Pairwise renaming nil->abv
open Nat.succ renaming inj->abx
open Exists renaming intro->abz
open PySem.IsL renaming update->abB
open Std.Legacy renaming Range->abD
def Lm9{α:Type _}{β:Type _}{as:List α}(f:α->β):(as.map f).length=as.length:=List.length_map f
def Ge9{α:Type _}{l:List α}{i:Nat}(h:i<l.length):l[i]?=some l[i]:=List.getElem?_eq_getElem h
def Gd9{α:Type _}{l:List α}{i:Nat}{a:α}:l.getD i a=(l[i]?).getD a:=List.getD_eq_getElem?_getD
namespace Om
def q0{a m k:Nat}(h:a<=m)(g:m<=k):a<=k:=VV h g
def q1{a m k:Nat}(h:a<=m)(g:m<k):a<k:=ZV h g
def q2{a b k:Nat}(h:a<b)(e:b=k):a<k:=e▸h
def q3{a b k:Nat}(h:a<b)(e:k=b):a<k:=e▸h
def q4{a b m k:Nat}(e:a=b)(h:b<=m)(g:m<=k):a<=k:=VV (e▸h) g
def q5{a b m k:Nat}(e:b=a)(h:b<=m)(g:m<=k):a<=k:=VV (e▸h) g
def q6{a m k:Nat}(e:a=m)(g:m<=k):a<=k:=e▸g
end Om
open Option renaming some->s?,none->n?
open Bool renaming true->t?,false->f?
open Decidable renaming decide->d?
local macro_rules|`(∅)=>`(by decide)
local macro_rules|`(⋯)=>`(by simp)
local macro_rules|`(⇑$t)=>`(by simpa using $t)
local macro_rules|`(⇑0)=>`(by omega)
set_option hygiene false in
local macro_rules|`(⇑1)=>`(by unfold lim;omega)|`(⇑2)=>`(by decide +kernel)|`(⇑3)=>`(by kernel_rfl)
local macro_rules|`(tactic| omega)=>do
 let a <- `(by with_reducible assumption)
 let d <- `(by(decide))
 `(tactic| first|exact Om.q0 $a $d|exact Om.q1 $a $d|exact Om.q2 $a $a|exact Om.q3 $a $a|exact Om.q4 $a $a $d|exact Om.q5 $a $a $d|exact Om.q6 $a $d|lia -matchEqs -splitMatch)
local macro_rules|`(tactic| grind)=>`(tactic| grind -abstractProof)
set_option bootstrap.genMatcherCode false
set_option compiler.extract_closed false
set_option backward.match.sparseCases false
set_option genSizeOf false
set_option genInjectivity false
noncomputable section
set_option genInjectivity true
namespace M
open PySem
abbrev Cs:=List Nat
def gK{g:Prop}(h:∀G:Prop,(g->G)->G):g:=h g id
inductive T where
 |aY|bl (b:Bool)|int (i:Int)|str (s:Cs)|tup (xs:List T)|lst (xs:List T)|ay (ks:List (T × T))|obj (c:Str) (fs:List (Str × T))|ref (n:Nat)|cl (c:VT)
abbrev aa:=List T
abbrev Fr:=List (Option T)
def at_{α:Type}:List α->Nat->Option α
 | [],_=>n?
 |c::L,n=>if n=L.length then s? c else at_ L n
def put{α:Type}:List α->Nat->α->List α
 | [],_,_=>[]
 |c::L,n,d=>if n=L.length then d::L else c::put L n d
inductive R(α:Type) where
 |ok (a:α) (L:aa)|bad
def R.bind{α β:Type}:R α->(α->aa->R β)->R β
 | .ok a L,f=>f a L
 | .bad,_=>.bad
def R.of{α β:Type}{r:R α}{f:α->aa->R β}{b L}(h:r.bind f=.ok b L):∃a L1,r=.ok a L1/\f a L1=.ok b L:=by
 cases r with
 |ok a L1=>exact⟨a,L1,rfl,h⟩
 |bad=>cases h
inductive O where
 |nx (φ:Fr) (L:aa)|rt (t:T) (L:aa)|bk (φ:Fr) (L:aa)|ct (φ:Fr) (L:aa)|bad
def O.of{α:Type}(r:R α)(f:α->aa->O):O:=match r with
 | .ok a L=>f a L
 | .bad=>.bad
abbrev SE:=Fr->aa->R T
abbrev ST:=Fr->aa->R Bool
abbrev SA:=Fr->aa->R (List T)
abbrev SS:=Fr->aa->O
abbrev Fn:=List T->aa->R T
abbrev SI:=Fr->aa->R (List T × (aa->Prop))
def vw(L:aa):T->T
 | .ref n=>(at_ L n).getD .aY
 |t=>t
def lim:Nat:=16777216
def cm{α:Type}(c:Prop)[Decidable c](r:R α):R α:=if c then r else .bad
def mk(fz:Bool)(t:T)(L:aa):R T:=if fz=t? then .ok t L else .ok (.ref L.length) (t::L)
def fG(fz:Bool)(xs:List T)(L:aa):R T:=cm (xs.length<=lim) (mk fz (.lst xs) L)
def lift(o:Option T)(L:aa):R T:=match o with
 |some t=>.ok t L
 |none=>.bad
def dat:Nat->T->Bool
 |_+1,.aY=>t?
 |_+1,.bl _=>t?
 |_+1,.int _=>t?
 |_+1,.str _=>t?
 |n+1,.tup xs=>xs.all (dat n)
 |n+1,.lst xs=>xs.all (dat n)
 |_,_=>f?
def si(f:T->T->Bool):List T->List T->Bool
 | [],[]=>t?
 |a::r,b::q=>f a b && si f r q
 |_,_=>f?
def uz:Nat->T->T->Bool
 |_+1,.aY,.aY=>t?
 |_+1,.bl a,.bl b=>a==b
 |_+1,.bl a,.int b=>(if a then 1 else 0)==b
 |_+1,.int a,.bl b=>a==(if b then 1 else 0)
 |_+1,.int a,.int b=>a==b
 |_+1,.str a,.str b=>a==b
 |n+1,.tup a,.tup b=>si (uz n) a b
 |n+1,.lst a,.lst b=>si (uz n) a b
 |_,_,_=>f?
abbrev eqT:T->T->Bool:=uz 8
def uF:T->Bool
 | .int _=>t?
 | .str _=>t?
 |_=>f?
def kd:Nat->T->Bool
 |n+1,.tup xs=>xs.all (kd n)
 |_+1,t=>uF t
 |0,_=>f?
def uG:T->Bool
 | .tup xs=>xs.all (kd 6)
 |_=>f?
def kh:Nat->T->Bool
 |n+1,.tup xs=>xs.all (kh n)
 |_+1,.bl _=>t?
 |_+1,t=>uF t
 |0,_=>f?
def Sn:T->Bool
 | .tup xs=>xs.all (kh 6)
 |_=>f?
def gM(ks:List T):Bool:=(ks.all uF || ks.all uG) || (d? (ks.length<=1) && ks.all Sn)
def eD(ks:List (T × T))(y:T):Prop:=gM (y::ks.map (·.1))=t?
noncomputable instance(ks:List (T × T))(y:T):Decidable (eD ks y):=by unfold eD;exact inferInstance
open Classical in
def dN(ks:List (T × T))(k:T):Option T:=(ks.find? λp=>decide (p.1=k)).map (·.2)
open Classical in
def dput(ks:List (T × T))(k v:T):List (T × T) :=
 if (ks.any λp=>decide (p.1=k))=t? then ks.map (λp=>if p.1=k then (p.1,v) else p) else ks++[(k,v)]
def v3(i j:Int):Prop:=(-(2 ^ 64)<i/\i<2 ^ 64)\/(-(2 ^ 64)<j/\j<2 ^ 64)
instance(i j:Int):Decidable (v3 i j):=Xk _
def yW(j:Int):Prop:=0<j/\j<1073741824
instance(j:Int):Decidable (yW j):=Xk _
def Gr(i j:Int):Prop:=0<=j/\j<=1000000/\i.natAbs<2 ^ 64
instance(i j:Int):Decidable (Gr i j):=Xk _
def uH(j:Int):Prop:=-(2 ^ 62)<=j/\j<=1000000
instance(j:Int):Decidable (uH j):=Xk _
def oI(op:Operator)(i j:Int)(L:aa):R T:=match op with
 | .Add=>.ok (.int (i+j)) L
 | .Sub=>.ok (.int (i - j)) L
 | .Mult=>cm (v3 i j) (.ok (.int (i * j)) L)
 | .FloorDiv=>cm (yW j) (.ok (.int (i / j)) L)
 | .Mod=>cm (0<j) (.ok (.int (i % j)) L)
 | .Pow=>cm (Gr i j) (.ok (.int (i ^ j.toNat)) L)
 |_=>.bad
def oS(op:Operator)(a:Cs)(y:T)(L:aa):R T:=match y with
 | .str b=>match op with
  | .Add=>cm (a.length+b.length<=lim) (.ok (.str (a++b)) L)
  |_=>.bad
 | .int j=>match op with
  | .Mult=>match a with
   | [ch]=>cm (uH j) (.ok (.str (Wj j.toNat ch)) L)
   |_=>.bad
  |_=>.bad
 |_=>.bad
def aK(fz:Bool)(op:Operator)(x y:T)(L:aa):R T:=match vw L x with
 | .int i=>match vw L y with
  | .int j=>oI op i j L
  |_=>.bad
 | .str a=>oS op a (vw L y) L
 | .lst a=>match vw L y with
  | .lst b=>match op with
   | .Add=>fG fz (a++b) L
   |_=>.bad
  |_=>.bad
 | .tup a=>match vw L y with
  | .tup b=>match op with
   | .Add=>cm (a.length+b.length<=lim) (.ok (.tup (a++b)) L)
   |_=>.bad
  |_=>.bad
 |_=>.bad
def Ri(op:Operator)(i j:Int)(L:aa):R T:=match op with
 | .Add=>.ok (.int (i+j)) L
 | .Sub=>.ok (.int (i - j)) L
 |_=>.bad
def ag(op:Operator)(x y:T)(L:aa):R T:=match x with
 | .int i=>match y with
  | .int j=>Ri op i j L
  |_=>.bad
 |_=>.bad
def N1(x y:T)(L:aa):R Bool:=cm (dat 8 (vw L x)=t?/\dat 8 (vw L y)=t?) (.ok (eqT (vw L x) (vw L y)) L)
def N2(x y:T)(L:aa):R Bool:=match x,y with
 | .int i,.int j=>.ok (i != j) L
 | .str a,.str b=>.ok (a != b) L
 |_,_=>.bad
def N3(x y:T)(L:aa):R Bool:=match x,y with
 | .int i,.int j=>.ok (d? (i<j)) L
 | .str a,.str b=>.ok (d? (a<b)) L
 |_,_=>.bad
def N4(x y:T)(L:aa):R Bool:=match x,y with
 | .int i,.int j=>.ok (d? (j<i)) L
 |_,_=>.bad
def Gs(x y:T)(L:aa):R Bool:=match x,y with
 | .int i,.int j=>.ok (d? (i<=j)) L
 |_,_=>.bad
def lQ(x y:T)(L:aa):R Bool:=match vw L y with
 | .str b=>match x with
  | .str [ch]=>.ok (d? (ch∈b)) L
  |_=>.bad
 | .lst ys=>cm (dat 8 x=t?/\ys.all (dat 8)=t?) (.ok (ys.any λy=>eqT y x) L)
 | .tup ys=>cm (dat 8 x=t?/\ys.all (dat 8)=t?) (.ok (ys.any λy=>eqT y x) L)
 | .ay ks=>cm (eD ks x) (.ok (dN ks x).isSome L)
 |_=>.bad
def Kc:T->Bool
 | .aY=>t?
 |_=>f?
def R.map{α β:Type}(f:α->β):R α->R β
 | .ok a L=>.ok (f a) L
 | .bad=>.bad
def CD(op:CmpOp)(x y:T)(L:aa):R Bool:=match op with
 | .Eq=>N1 x y L
 | .NotEq=>N2 x y L
 | .Lt=>N3 x y L
 | .Gt=>N4 x y L
 | .LtE=>Gs x y L
 | .GtE=>Gs y x L
 | .In=>lQ x y L
 | .NotIn=>(lQ x y L).map (!·)
 | .Is=>match y with
  | .aY=>.ok (Kc x) L
  |_=>.bad
 | .IsNot=>match y with
  | .aY=>.ok (!Kc x) L
  |_=>.bad
def cmp(op:CmpOp)(x y:T)(L:aa):R T:=(CD op x y L).map .bl
def place(n:Nat)(i:Int):Option Nat:=if 0<=i then (if i<n then s? i.toNat else n?) else if -(n:Int)<=i then s? (i+n).toNat else n?
def ix(x y:T)(L:aa):R T:=match vw L x with
 | .str s=>match y with
  | .int i=>lift (((place s.length i).bind λk=>s[k]?).map λch=>.str [ch]) L
  |_=>.bad
 | .tup xs=>match y with
  | .int i=>lift ((place xs.length i).bind λk=>xs[k]?) L
  |_=>.bad
 | .lst xs=>match y with
  | .int i=>lift ((place xs.length i).bind λk=>xs[k]?) L
  |_=>.bad
 | .ay ks=>cm (eD ks y) (lift (dN ks y) L)
 |_=>.bad
def clip(n d:Nat):Option Int->Nat
 |none=>d
 |some i=>if i<0 then (i+n).toNat else min i.toNat n
def cut{α:Type}(xs:List α)(lo hi:Option Int):List α:=(xs.drop (clip xs.length 0 lo)).take (clip xs.length xs.length hi - clip xs.length 0 lo)
def lV(fz:Bool)(x:T)(lo hi:Option Int)(L:aa):R T:=match vw L x with
 | .str s=>match lo,hi with
  |some i,s? j=>cm (0<=i/\i<=j/\j<=s.length) (.ok (.str ((s.drop i.toNat).take (j - i).toNat)) L)
  |none,s? j=>cm (0<=j/\j<=s.length) (.ok (.str (s.take j.toNat)) L)
  |some i,n?=>cm (0<=i/\i<=s.length) (.ok (.str (s.drop i.toNat)) L)
  |_,_=>.bad
 | .tup xs=>.ok (.tup (cut xs lo hi)) L
 | .lst xs=>fG fz (cut xs lo hi) L
 |_=>.bad
def fld(f:Str)(x:T)(L:aa):R T:=match vw L x with
 | .obj _ fs=>lift (fs.lookup f) L
 |_=>.bad
def v(i:Nat):SE:=λφ L=>lift ((φ[i]?).join) L
def c(x:T):SE:=λ_ L=>.ok x L
def no{α:Type}:Fr->aa->R α:=λ_ _=>.bad
def iT:List SE->SA
 | [],_,L=>.ok [] L
 |m::ms,φ,L=>(m φ L).bind λt L1=>(iT ms φ L1).bind λts L2=>.ok (t::ts) L2
def b1(a:SE)(f:T->aa->R T):SE:=λφ L=>(a φ L).bind f
def b2(a b:SE)(f:T->T->aa->R T):SE:=λφ L=>(a φ L).bind λx L1=>(b φ L1).bind λy L2=>f x y L2
def neg(x:T)(L:aa):R T:=match x with
 | .int i=>.ok (.int (-i)) L
 |_=>.bad
def xJ(op sj:CmpOp)(a b d:SE):SE:=λφ L=>(a φ L).bind λx L1=>(b φ L1).bind λy L2=>(CD op x y L2).bind λk L3=>if k=t? then (d φ L3).bind λz L4=>cmp sj y z L4 else .ok (.bl f?) L3
def tv(a:SE):ST:=λφ L=>(a φ L).bind λx L1=>match x with
 | .bl b=>.ok b L1
 |_=>.bad
def CF(a b:ST):ST:=λφ L=>(a φ L).bind λx L1=>if x=t? then b φ L1 else .ok f? L1
def N5(a b:ST):ST:=λφ L=>(a φ L).bind λx L1=>if x=t? then .ok t? L1 else b φ L1
def df(a:ST):ST:=λφ L=>(a φ L).map (!·)
def CG(a b:SE):SE:=λφ L=>(tv a φ L).bind λx L1=>if x=t? then b φ L1 else .ok (.bl f?) L1
def N6(a b:SE):SE:=λφ L=>(tv a φ L).bind λx L1=>if x=t? then .ok (.bl t?) L1 else b φ L1
def sy(a:SE):SE:=λφ L=>(tv a φ L).map λb=>.bl (!b)
def yes:ST:=λ_ L=>.ok t? L
def N7(k:ST)(a b:SE):SE:=λφ L=>(k φ L).bind λx L1=>if x=t? then a φ L1 else b φ L1
def tup(ms:List SE):SE:=λφ L=>(iT ms φ L).bind λts L1=>.ok (.tup ts) L1
def lst(fz:Bool)(ms:List SE):SE:=λφ L=>(iT ms φ L).bind λts L1=>fG fz ts L1
def ku(fz:Bool):SE:=λ_ L=>mk fz (.ay []) L
def Gu:Option SE->Fr->aa->R (Option Int)
 |none,_,L=>.ok n? L
 |some m,φ,L=>(m φ L).bind λt L1=>match t with
  | .int i=>.ok (s? i) L1
  |_=>.bad
def sl(fz:Bool)(a:SE)(lo hi:Option SE):SE:=λφ L=>(a φ L).bind λx L1=>(Gu lo φ L1).bind λi L2=>(Gu hi φ L2).bind λj L3=>lV fz x i j L3
def ae(f:Fn)(ms:List SE):SE:=λφ L=>(iT ms φ L).bind f
def aN(m:Str)(f:Str->Option Fn)(a:SE)(ms:List SE):SE:=λφ L=>(a φ L).bind λx L1=>match vw L1 x with
 | .obj c fs=>match f c with
  |some F=>if (fs.lookup m).isNone=t? then (iT ms φ L1).bind λts L2=>F (x::ts) L2 else .bad
  |none=>.bad
 |_=>.bad
inductive Ty where
 |s|l|t|d
def CH(L:aa)(t:T):Option Ty:=match vw L t with
 | .str _=>s? .s
 | .lst _=>s? .l
 | .tup _=>s? .t
 | .ay _=>s? .d
 |_=>n?
def aF(f:Ty->Option (T->Fn))(a:SE)(ms:List SE):SE:=λφ L=>(a φ L).bind λx L1=>match (CH L1 x).bind f with
 |some F=>(iT ms φ L1).bind λts L2=>F x ts L2
 |none=>.bad
open Classical in
def stays(x:T)(L:aa):aa->Prop:=λL'=>∀n,x=.ref n->at_ L' n=at_ L n
def gN(x:T):Option (List T):=match x with
 | .str s=>s? (s.map λch=>.str [ch])
 | .tup xs=>s? xs
 | .lst xs=>s? xs
 | .ay []=>s? []
 |_=>n?
def items(x:T)(L:aa):Option (List T):=match x with
 | .ay ks=>s? (ks.map (·.1))
 |x=>gN (vw L x)
def src(a:SE):SI:=λφ L=>(a φ L).bind λx L1=>match items x L1 with
 |some xs=>.ok (xs,stays x L1) L1
 |none=>.bad
def upTo(lo:Int)(n:Nat):List T:=(W9 n).map λ(k:Nat)=>.int (lo+k)
def xK(i:Int):Prop:=-(2 ^ 62)<=i/\i<2 ^ 62
instance(i:Int):Decidable (xK i):=Xk _
def yX(a b:SE):SI:=λφ L=>(a φ L).bind λx L1=>(b φ L1).bind λy L2=>match x,y with
 | .int i,.int j=>cm (xK i/\xK j) (.ok (upTo i (j - i).toNat,λ_=>True) L2)
 |_,_=>.bad
def num(n:Nat):List T->List T
 | []=>[]
 |x::r=>.tup [.int n,x]::num (n+1) r
def CI(a:SE):SI:=λφ L=>(a φ L).bind λx L1=>match vw L1 x with
 | .lst xs=>.ok (num 0 xs,stays x L1) L1
 | .tup xs=>.ok (num 0 xs,stays x L1) L1
 |_=>.bad
def zp(xs ys:List T):List T:=(xs.zip ys).map λp=>.tup [p.1,p.2]
def OJ(a b:SE):SI:=λφ L=>(src a φ L).bind λp L1=>(src b φ L1).bind λq L2=>.ok (zp p.1 q.1,λL'=>p.2 L'/\q.2 L') L2
def OK(a:SE):SI:=λφ L=>(a φ L).bind λx L1=>match vw L1 x with
 | .ay []=>.ok ([],stays x L1) L1
 |_=>.bad
inductive Tg where
 |one (i:Nat)|many (is:List Nat)
def sets:List Nat->List T->Fr->Fr
 |i::is,t::ts,φ=>sets is ts (φ.set i (s? t))
 |_,_,φ=>φ
def Tg.set:Tg->T->Fr->Option Fr
 | .one i,t,φ=>s? (φ.set i (s? t))
 | .many is,.tup ts,φ=>if ts.length=is.length then s? (sets is ts φ) else n?
 |_,_,_=>n?
open Classical in
def compLoop(k:aa->Prop)(tg:Tg)(ts:ST)(m:SE)(ψ:Fr):List T->List T->aa->R (List T)
 | [],acc,L=>if k L then .ok acc L else .bad
 |t::r,acc,L=>if k L/\acc.length<lim then match tg.set t ψ with
   |some ψ1=>(ts ψ1 L).bind λb L1=>if b=t? then (m ψ1 L1).bind λy L2=>compLoop k tg ts m ψ r (acc++[y]) L2 else compLoop k tg ts m ψ r acc L1
   |none=>.bad
  else .bad
def inner(aZ:List (Option Nat))(φ:Fr):Fr:=aZ.map λo=>o.bind λi=>(φ[i]?).join
def comp(fz:Bool)(s:SI)(aZ:List (Option Nat))(tg:Tg)(ts:ST)(m:SE):SE:=λφ L=>(s φ L).bind λu L1=>(compLoop u.2 tg ts m (inner aZ φ) u.1 [] L1).bind λxs L2=>mk fz (.lst xs) L2
def O.next(o:O)(f:Fr->aa->O):O:=match o with
 | .nx φ L=>f φ L
 |o=>o
def ab:List SS->SS
 | [],φ,L=>.nx φ L
 |s::r,φ,L=>(s φ L).next (ab r)
def pass:SS:=λφ L=>.nx φ L
def brk:SS:=λφ L=>.bk φ L
def cnt:SS:=λφ L=>.ct φ L
def iU:SS:=λ_ _=>.bad
def asg(tg:Tg)(m:SE):SS:=λφ L=>O.of (m φ L) λt L1=>match tg.set t φ with
 |some φ1=>.nx φ1 L1
 |none=>.bad
def di(m:SE):SS:=λφ L=>O.of (m φ L) λ_ L1=>.nx φ L1
def ret(m:SE):SS:=λφ L=>O.of (m φ L) λt L1=>.rt t L1
def iff(k:ST)(a b:SS):SS:=λφ L=>O.of (k φ L) λx L1=>if x=t? then a φ L1 else b φ L1
def aug(op:Operator)(i:Nat)(m:SE):SS:=λφ L=>O.of (b2 (v i) m (ag op) φ L) λt L1=>.nx (φ.set i (s? t)) L1
def fL(fs:List (Str × T))(f:Str)(t:T):List (Str × T):=match fs with
 | []=>[(f,t)]
 | (g,u)::r=>if g=f then (f,t)::r else (g,u)::fL r f t
def iV(f:Str)(x t:T)(L:aa):Option aa:=match x with
 | .ref n=>match at_ L n with
  |some (.obj c fs)=>if fs.length<200 then s? (put L n (.obj c (fL fs f t))) else n?
  |_=>n?
 |_=>n?
def cQ(o:SE)(f:Str)(m:SE):SS:=λφ L=>O.of (m φ L) λt L1=>O.of (o φ L1) λx L2=>match iV f x t L2 with
 |some L3=>.nx φ L3
 |none=>.bad
def jL(x y t:T)(L:aa):Option aa:=match x with
 | .ref n=>match at_ L n with
  |some (.ay ks)=>if ks.length<lim/\eD ks y then s? (put L n (.ay (dput ks y t))) else n?
  |some (.lst xs)=>match y with
   | .int i=>if 0<=i/\i<xs.length then s? (put L n (.lst (xs.set i.toNat t))) else n?
   |_=>n?
  |_=>n?
 |_=>n?
def nK(o i m:SE):SS:=λφ L=>O.of (m φ L) λt L1=>O.of (o φ L1) λx L2=>O.of (i φ L2) λy L3=>match jL x y t L3 with
 |some L4=>.nx φ L4
 |none=>.bad
def OL(x y:T)(L:aa):R T:=match vw L x with
 | .ay ks=>cm (eD ks y) (lift (dN ks y) L)
 |_=>.bad
def CJ(op:Operator)(o i m:SE):SS:=λφ L=>O.of (o φ L) λx L1=>O.of (i φ L1) λy L2=>O.of (OL x y L2) λz L3=>O.of (m φ L3) λt L4=>O.of (ag op z t L4) λr L5=>match jL x y r L5 with
 |some L6=>.nx φ L6
 |none=>.bad
def sk(k:ST)(b:SS):Nat->SS
 |0,_,_=>.bad
 |n+1,φ,L=>O.of (k φ L) λx L1=>if x=t? then match b φ L1 with
   | .nx φ2 L2=>sk k b n φ2 L2
   | .ct φ2 L2=>sk k b n φ2 L2
   | .bk φ2 L2=>.nx φ2 L2
   |o=>o
  else .nx φ L1
open Classical in
def forL(k:aa->Prop)(tg:Tg)(b:SS):List T->SS
 | [],φ,L=>if k L then .nx φ L else .bad
 |t::r,φ,L=>if k L then match tg.set t φ with
   |some φ1=>match b φ1 L with
    | .nx φ2 L2=>forL k tg b r φ2 L2
    | .ct φ2 L2=>forL k tg b r φ2 L2
    | .bk φ2 L2=>.nx φ2 L2
    |o=>o
   |none=>.bad
  else .bad
def aL(s:SI)(tg:Tg)(b:SS):SS:=λφ L=>O.of (s φ L) λu L1=>forL u.2 tg b u.1 φ L1
mutual
noncomputable def lt(n:Nat):T->Bool
 | .ref k=>decide (k<n)
 | .tup xs=>eR n xs
 | .lst xs=>eR n xs
 | .ay ks=>yO n ks
 | .obj _ fs=>jW n fs
 |_=>t?
noncomputable def eR(n:Nat):List T->Bool
 | []=>t?
 |x::xs=>lt n x && eR n xs
noncomputable def yO(n:Nat):List (T × T)->Bool
 | []=>t?
 | (x,y)::xs=>lt n x && lt n y && yO n xs
noncomputable def jW(n:Nat):List (Str × T)->Bool
 | []=>t?
 | (_,y)::xs=>lt n y && jW n xs
end
def bE(n0:Nat)(L:aa):Nat->T->Option T
 |0,_=>n?
 |k+1,t=>if lt n0 t=t? then s? t else match t with
  | .ref n=>match at_ L n with
   |some c=>bE n0 L k c
   |none=>n?
  | .tup xs=>(xs.mapM (bE n0 L k)).map .tup
  | .lst xs=>(xs.mapM (bE n0 L k)).map .lst
  | .ay ks=>(ks.mapM λp=>if lt n0 p.1=t? then (bE n0 L k p.2).map λx=>(p.1,x) else n?).map .ay
  | .obj c fs=>(fs.mapM λp=>(bE n0 L k p.2).map λx=>(p.1,x)).map (.obj c)
  |_=>n?
def old(L Lo:aa):Prop:=∀n c,at_ Lo n=s? c->at_ L n=s? c\/lt L.length c=t?
open Classical in
def fin(L:aa)(t:T)(L':aa):R T:=if old L (L'.drop (L'.length - L.length)) then lift (bE L.length L' 9 t) (L'.drop (L'.length - L.length)) else .bad
def run(np nn:Nat)(b:SS):Fn:=λxs L=>if xs.length=np then match b (xs.map s?++Wj (nn - np) n?) L with
  | .rt t L'=>fin L t L'
  | .nx _ L'=>fin L .aY L'
  |_=>.bad
 else .bad
def make(cn:Str)(init:Fn):Fn:=λxs L=>match init (.ref L.length::xs) (.obj cn []::L) with
 | .ok .aY L'=>fin L (.ref L.length) L'
 |_=>.bad
end M
set_option genInjectivity false
namespace M
open PySem PySem.Spec PyProof.Rows
def aU:Fn:=λxs L=>match xs with
 | [x]=>match vw L x with
  | .str s=>.ok (.int s.length) L
  | .tup ys=>.ok (.int ys.length) L
  | .lst ys=>.ok (.int ys.length) L
  | .ay ks=>.ok (.int ks.length) L
  |_=>.bad
 |_=>.bad
def bG(fz:Bool):Fn:=λxs L=>match xs with
 | [x]=>match vw L x with
  | .tup ys=>fG fz ys L
  | .lst ys=>fG fz ys L
  | .ay ks=>fG fz (ks.map (·.1)) L
  |_=>.bad
 |_=>.bad
def m8:Fn:=λxs L=>match xs with
 | [x]=>match vw L x with
  | .tup ys=>.ok (.tup ys) L
  | .lst ys=>.ok (.tup ys) L
  |_=>.bad
 |_=>.bad
def N8:T->Option Bool
 | .bl b=>s? b
 |_=>n?
def Co:T->Option Cs
 | .str s=>s? s
 |_=>n?
def KD{α:Type}(f:T->Option α)(g:List α->T):Fn:=λxs L=>match xs with
 | [x]=>match vw L x with
  | .lst ys=>lift ((ys.mapM f).map g) L
  |_=>.bad
 |_=>.bad
def nL:Fn:=KD N8 λbs=>.bl (bs.all id)
def OM(L:aa):T->T->R T
 | .int i,.int j=>.ok (.int (if j<i then j else i)) L
 | .str a,.str b=>.ok (.str (if b<a then b else a)) L
 |_,_=>.bad
def yY:Fn:=λxs L=>match xs with
 | [x,y]=>OM L x y
 |_=>.bad
def uI:Fn:=λxs L=>match xs with
 | [.int i]=>cm (i.natAbs.log2<1920/\(WS (toString i)).cps.toList.length<=lim) (.ok (.str (WS (toString i)).cps.toList) L)
 |_=>.bad
def xM:Fn:=λxs L=>match xs with
 | [.str z]=>match PySem.intText? ⟨z.toArray⟩ with
  |some n=>cm (z.length<=640) (.ok (.int n) L)
  |none=>.bad
 |_=>.bad
def N9(L:aa)(n:String):T->R T
 | .bl _=>if n="bool" then .ok (.bl t?) L else if n="int" then .ok (.bl t?) L else .bad
 | .int _=>if n="bool" then .ok (.bl f?) L else if n="int" then .ok (.bl t?) L else .bad
 | .tup _=>if n="tuple" then .ok (.bl t?) L else .bad
 | .lst _=>if n="list" then .ok (.bl t?) L else .bad
 |_=>.bad
def ON:T->Option String
 | .cl c=>match c with
  | .type n=>s? n
  |_=>n?
 |_=>n?
def E8:Fn:=λxs L=>match xs with
 | [x,y]=>match ON y with
  |some n=>N9 L n (vw L x)
  |none=>.bad
 |_=>.bad
def toS(z:Cs):Str:=⟨z.toArray⟩
def CK:T->Fn:=λx ts L=>match x,ts with
 | .ref n,[t]=>match at_ L n with
  |some (.lst xs)=>cm (xs.length<lim) (.ok .aY (put L n (.lst (xs++[t]))))
  |_=>.bad
 |_,_=>.bad
def qv:T->Fn:=λx ts L=>match x,ts with
 | .ref n,[t]=>match at_ L n,vw L t with
  |some (.lst xs),.lst ys=>cm (xs.length+ys.length<=lim) (.ok .aY (put L n (.lst (xs++ys))))
  |some (.lst xs),.tup ys=>cm (xs.length+ys.length<=lim) (.ok .aY (put L n (.lst (xs++ys))))
  |_,_=>.bad
 |_,_=>.bad
def v5:T->Fn:=λx ts L=>match vw L x,ts with
 | .lst xs,[t]=>cm (dat 8 t=t?/\xs.all (dat 8)=t?) (.ok (.int (xs.countP λy=>eqT y t:Nat)) L)
 |_,_=>.bad
def v7:T->Fn:=λx ts L=>match vw L x,ts with
 | .tup xs,[t]=>cm (dat 8 t=t?/\xs.all (dat 8)=t?) (.ok (.int (xs.countP λy=>eqT y t:Nat)) L)
 |_,_=>.bad
def CL:T->Fn:=λx ts L=>match x,ts with
 | .tup xs,[t]=>cm (dat 8 t=t?/\xs.all (dat 8)=t?) (match xs.findIdx? λy=>eqT y t with
  |some j=>.ok (.int j) L
  |none=>.bad)
 |_,_=>.bad
def jn(sep:Cs):List Cs->Cs
 | []=>[]
 |x::r=>match r with
  | []=>x
  |_::_=>x++sep++jn sep r
def mO:T->Fn:=λx ts L=>match x,ts with
 | .str sep,[t]=>match (items t L).bind λys=>ys.mapM Co with
  |some zs=>match vw L t with
   | .str _=>.bad
   | .ay _=>.bad
   |_=>cm ((zs.map (·.length)).sum+zs.length * sep.length<=16777216) (.ok (.str (jn sep zs)) L)
  |none=>.bad
 |_,_=>.bad
def nM(fz:Bool):T->Fn:=λx ts L=>match x,ts with
 | .str z,[.str y]=>cm (y≠[]/\((YQ (toS z) (toS y)).all λs=>decide (s.cps.toList.length<=lim))=t?) (fG fz ((YQ (toS z) (toS y)).map λs=>.str s.cps.toList) L)
 |_,_=>.bad
def nN:T->Fn:=λx ts L=>match x,ts with
 | .str z,[.str y]=>cm ((Z1 (toS z) (toS y)).cps.toList.length<=lim) (.ok (.str (Z1 (toS z) (toS y)).cps.toList) L)
 |_,_=>.bad
def ij:T->Fn:=λx ts L=>match vw L x,ts with
 | .ay ks,[y,t]=>cm (eD ks y) (.ok ((dN ks y).getD t) L)
 |_,_=>.bad
def pC:T->Fn:=λx ts L=>match x,ts with
 | .ref n,[y,t]=>match at_ L n with
  |some (.ay ks)=>cm (ks.length<lim/\eD ks y) (match dN ks y with
   |some z=>.ok z L
   |none=>.ok t (put L n (.ay (dput ks y t))))
  |_=>.bad
 |_,_=>.bad
def prsOf:List T->Option (List (T × T))
 | []=>s? []
 |t::r=>match t,prsOf r with
  | .tup [k,x],s? ps=>s? ((k,x)::ps)
  |_,_=>n?
def qw(ps:List (T × T)):List (T × T):=ps.foldl (λacc p=>dput acc p.1 p.2) []
def uJ(ys:List T)(L:aa):R T:=match prsOf ys with
 |some ps=>cm (gM (ps.map (·.1))=t?/\ps.length<=100000) (.ok (.ref L.length) (.ay (qw ps)::L))
 |none=>.bad
def iK:Fn:=λxs L=>match xs with
 | [x]=>match vw L x with
  | .lst ys=>uJ ys L
  | .tup ys=>uJ ys L
  | .ay ks=>cm ((ks.all λp=>(Co p.1).isSome)=t?) (.ok (.ref L.length) (.ay ks::L))
  |_=>.bad
 |_=>.bad
def uA{α:Type}(h:Nonempty α)(P:α->Prop):α:=@Classical.epsilon α h λx=>¬P x
def cW{α:Type}{h:Nonempty α}{P:α->Prop}(q:P (uA h P))(x:α):P x:=YR λn=>@Classical.epsilon_spec α (λx=>¬P x) ⟨x,n⟩ q
abbrev Hp:=Wr->Option (Bool × Obj)
def upd(H:Hp)(a:Wr)(x:Bool × Obj):Hp:=λb=>if b=a then s? x else H b
def av{H:Hp}{a x}:upd H a x a=s? x:=if_pos rfl
def aB{H:Hp}{a b x}(h:b≠a):upd H a x b=H b:=if_neg h
structure G where
 H:Hp
 α:List (Wr × Wr)
 B:Heap
 cls:Str->Option Wr
 w:XQ
def G.kn(g:G)(b:Bool)(a:Wr)(o:Obj):Prop:=g.H a=s? (b,o)\/(b=t?/\g.B.get? a=s? o)
def uK(p:Option (Wr × Wr))(a d:Wr):Prop:=p=n?\/p=s? (a,d)
mutual
noncomputable def hT(w:XQ):T->Int
 | .int i=>hashInt i
 | .str s=>hashStr w ⟨s.toArray⟩
 | .tup xs=>reduceHash (X2 (CM w xs))
 | .bl b=>hashInt (if b=t? then 1 else 0)
 |_=>0
noncomputable def CM(w:XQ):List T->List Int
 | []=>[]
 |x::xs=>hT w x::CM w xs
end
inductive RT(g:G):Option (Wr × Wr)->T->VT->Prop
 |aY:RT g n? .aY .none
 |bl (b):RT g n? (.bl b) (.bool b)
 |int (i t):RT g n? (.int i) (.int i t)
 |str (s t) (h:s.length<=Wf):RT g n? (.str s) (.str ⟨s.toArray⟩ t)
 |ty (n):RT g n? (.cl (.type n)) (.type n)
 |own {n C} (h:g.cls n=s? C):RT g n? (.cl (.ref C)) (.ref C)
 |ref {n p} (h:at_ g.α n=s? p):RT g n? (.ref n) (.ref p.1)
 |tup {a o its n xs} (hk:g.kn t? a o) (hc:o.cls=.type "tuple"/\o.dict=n?) (hd:o.data=.seq its n) (hz:xs.length<=Wf) (hl:xs.length=its.size)
   (hi:∀(i:Nat) x v,xs[i]?=s? x->its[i]?=s? v->RT g n? x v):RT g n? (.tup xs) (.ref a)
 |lst {p a its n xs} (ht:uK p a a) (hk:g.kn p.isNone a {cls:=.type "list",data:=.seq its n}) (hz:xs.length<=Wf) (hl:xs.length=its.size)
   (hi:∀(i:Nat) x v,xs[i]?=s? x->its[i]?=s? v->RT g n? x v):RT g p (.lst xs) (.ref a)
 |ay {p a o es n ks} (ht:uK p a a) (hk:g.kn p.isNone a o) (hx:o.ExactDict) (hd:o.data=.dict es n) (hz:ks.length<=Wf) (hl:ks.length=es.size) (hn:(ks.map (·.1)).Nodup/\gM (ks.map (·.1))=t?) (hs:(a==sysModules)=f?)
   (hh:∀(i:Nat) x e,ks[i]?=s? x->es[i]?=s? e->e.hash=hT g.w x.1) (h1:∀(i:Nat) x e,ks[i]?=s? x->es[i]?=s? e->RT g n? x.1 e.key)
   (h2:∀(i:Nat) x e,ks[i]?=s? x->es[i]?=s? e->RT g n? x.2 e.val):RT g p (.ay ks) (.ref a)
 |obj {p a d C od es n c fs} (ht:uK p a d) (hne:d≠a) (hc:g.cls c=s? C) (hk:g.kn p.isNone a (Wu C d)) (lR:g.kn p.isNone d od) (hd:od.data=.dict es n) (hs:StrKeys es) (hu:UniqKeys es)
   (hz:fs.length<=1000) (hn:(fs.map (·.1)).Nodup) (hl:∀f,(fs.lookup f).isSome=(nsFind es f).isSome) (hi:∀f x v,fs.lookup f=s? x->nsFind es f=s? v->RT g n? x v):RT g p (.obj c fs) (.ref a)
structure Le(g g':G):Prop where
 f:∀a o,g.H a=s? (t?,o)->g'.H a=s? (t?,o)
 α:∀n p,at_ g.α n=s? p->at_ g'.α n=s? p
 B:g'.B=g.B
 m:g'.cls=g.cls
 w:g'.w=g.w
def Le.refl(g:G):Le g g:=⟨λ_ _ h=>h,λ_ _ h=>h,rfl,rfl,rfl⟩
theorem Le.trans{a b c:G}(x:Le a b)(y:Le b c):Le a c:=⟨λ_ _ h=>y.f _ _ (x.f _ _ h),λ_ _ h=>y.α _ _ (x.α _ _ h),y.B.trans x.B,y.m.trans x.m,y.w.trans x.w⟩
theorem Le.kn(l:Le g g'){a o}(h:g.kn t? a o):g'.kn t? a o:=by
 rcases h with h|⟨_,h⟩
 ·exact .inl (l.f _ _ h)
 ·exact .inr ⟨rfl,by rw[l.B];exact h⟩
def RT.up{g g':G}(l:Le g g'){p:Option (Wr × Wr)}(hp:∀q,p=s? q->g'.H q.1=g.H q.1/\g'.H q.2=g.H q.2){t v}(h:RT g p t v):RT g' p t v:=by
 have kn:∀{p:Option (Wr × Wr)}{a d b o},(∀q,p=s? q->g'.H q.1=g.H q.1/\g'.H q.2=g.H q.2)->uK p a d->b=a\/b=d->g.kn p.isNone b o->g'.kn p.isNone b o:=λ{p a d b o}hp ht hb hk=>by
  rcases ht with rfl|rfl
  ·exact l.kn hk
  ·rcases hk with hk|⟨z,_⟩
   ·refine .inl ?_
    grind
   ·cases z
 have n0:∀q:Wr × Wr,(n?:Option (Wr × Wr))=s? q->g'.H q.1=g.H q.1/\g'.H q.2=g.H q.2:=λq z=>by cases z
 induction h with
 |aY=>exact .aY
 |bl b=>exact .bl b
 |int i t=>exact .int i t
 |str s t h=>exact .str s t h
 |ty n=>exact .ty n
 |own h=>exact .own (by rw[l.m];exact h)
 |ref h=>exact .ref (l.α _ _ h)
 |tup hk hc hd hz hl hi ih=>exact .tup (l.kn hk) hc hd hz hl λi x v e1 e2=>ih i x v e1 e2 n0
 |lst ht hk hz hl hi ih=>exact .lst ht (kn hp ht (.inl rfl) hk) hz hl λi x v e1 e2=>ih i x v e1 e2 n0
 |ay ht hk hx hd hz hl hn hs hh h1 h2 i1 i2=>exact .ay ht (kn hp ht (.inl rfl) hk) hx hd hz hl hn hs (by rw[l.w];exact hh) (λi x v e1 e2=>i1 i x v e1 e2 n0) λi x v e1 e2=>i2 i x v e1 e2 n0
 |obj ht hne hc hk lR hd hs hu hz hn hl hi ih=>exact .obj ht hne (by rw[l.m];exact hc) (kn hp ht (.inl rfl) hk) (kn hp ht (.inr rfl) lR) hd hs hu hz hn hl λf x v e1 e2=>ih f x v e1 e2 n0
def RT.le{t v}(h:RT g n? t v)(l:Le g g'):RT g' n? t v:=h.up l (λ_ z=>by cases z)
def RT.iI{g:G}{p:Option (Wr × Wr)}{i:Int}{v:VT}(h:RT g p (.int i) v):∃t,v=.int i t:=by cases h;simp
def OO(g:G)(xs:List T)(its:Array VT):Prop:=xs.length=its.size/\∀(i:Nat) x v,xs[i]?=s? x->its[i]?=s? v->RT g n? x v
def RT.cI{g:G}{p:Option (Wr × Wr)}{n:String}{v:VT}(h:RT g p (.cl (.type n)) v):v=.type n:=by cases h;rfl
def RT.nI{g:G}{p:Option (Wr × Wr)}{v:VT}(h:RT g p .aY v):v=.none:=by cases h;rfl
def RT.bI{g:G}{p:Option (Wr × Wr)}{b:Bool}{v:VT}(h:RT g p (.bl b) v):v=.bool b:=by cases h;rfl
def RT.jM{g:G}{p:Option (Wr × Wr)}{z:Cs}{v:VT}(h:RT g p (.str z) v):∃t,v=.str ⟨z.toArray⟩ t/\z.length<=Wf:=by cases h with|str _ t h=>simp_all
def RT.sI{g:G}{p:Option (Wr × Wr)}{z:Cs}{v:VT}(h:RT g p (.str z) v):∃t,v=.str ⟨z.toArray⟩ t:=h.jM.imp λ_ h=>h.1
def RT.tI{g:G}{p:Option (Wr × Wr)}{xs:List T}{v:VT}(h:RT g p (.tup xs) v):RT g n? (.tup xs) v/\∃a o its n,v=.ref a/\g.kn t? a o/\(o.cls=.type "tuple"/\o.dict=n?)/\o.data=.seq its n/\xs.length<=Wf/\OO g xs its:=by cases h with|tup hk hc hd hz hl hi=>exact⟨.tup hk hc hd hz hl hi,_,_,_,_,rfl,hk,hc,hd,hz,hl,hi⟩
abbrev cL(g:G)(xs:List T)(us:List VT):Prop:=Paired (RT g n?) xs us
theorem cL.le{xs us}(h:cL g xs us)(l:Le g g'):cL g' xs us:=by
 induction h with
 |nil=>exact .nil
 |cons a _ ih=>exact .cons (a.le l) ih
theorem fH:∀{xs:List α}{ys:List β},xs.length=ys.length->(∀(i:Nat) x v,xs[i]?=s? x->ys[i]?=s? v->F x v)->Paired F xs ys
 | [],[],_,_=>.nil
 |x::xs,y::ys,hl,h=>.cons (h 0 x y rfl rfl) (fH ⇑hl λi a b e1 e2=>h (i+1) a b ‹_› ‹_›)
def xN{α β:Type}{F:α->β->Prop}{xs:List α}{ys:List β}(h:Paired F xs ys):∀(i:Nat) x v,xs[i]?=s? x->ys[i]?=s? v->F x v:=by
 induction h with
 |nil=>simp
 |cons a _ ih=>
  intro i x v e1 e2;cases i with
  |zero=>simp at e1 e2;subst e1 e2;exact a
  |succ i=>exact ih i x v ⇑e1 ⇑e2
def pD{α β:Type}{F:α->β->Prop}{xs:List α}{ys:List β}(h:Paired F xs ys){i:Nat}{x}(e:xs[i]?=s? x):∃v,ys[i]?=s? v/\F x v:=by
 have hl:=V9 h;have hi:i<ys.length:=by rw[<- hl];exact(VZ.mp e).1
 exact⟨ys[i],⋯,xN h i x _ e ⋯⟩
structure Rel(g:G)(L:aa):Prop where
 len:g.α.length=L.length
 cells:∀n c,at_ L n=s? c->∃p,at_ g.α n=s? p/\RT g (s? p) c (.ref p.1)
 apart:∀n m p q,at_ g.α n=s? p->at_ g.α m=s? q->n≠m->p.1≠q.1/\p.1≠q.2/\p.2≠q.1/\p.2≠q.2
 live:∀n p,at_ g.α n=s? p->(∃o,g.H p.1=s? (f?,o))/\∃o,g.H p.2=s? (f?,o)
def Cp(H:Hp)(h:Heap):Prop:=∀a b o,H a=s? (b,o)->h.get? a=s? o
structure Un(ex:List Wr)(H H':Hp)(h h':Heap):Prop where
 keep:∀b o,h.get? b=s? o->H b=n?->b∉ex->h'.get? b=s? o
 free:∀b o,h.get? b=s? o->H b=n?->b∉ex->H' b=n?
 bE:∀b o,H b=s? (t?,o)->H' b=s? (t?,o)
def Un.trans{ex H H1 H2 h h1 h2}(a:Un ex H H1 h h1)(b:Un ex H1 H2 h1 h2):Un ex H H2 h h2 where
 keep:=λc o q n x=>b.keep c o (a.keep c o q n x) (a.free c o q n x) x
 free:=λc o q n x=>b.free c o (a.keep c o q n x) (a.free c o q n x) x
 bE:=λc o q=>b.bE c o (a.bE c o q)
def Un.kept{ex H h h'}(k:∀b u,h.get? b=s? u->h'.get? b=s? u):Un ex H H h h':=⟨λb o q _ _=>k b o q,λ_ _ _ n _=>n,λ_ _ q=>q⟩
def Cp.fresh{H h a}(x:Cp H h)(e:h.objs.size<=a):H a=n?:=by
 cases q:H a with
 |none=>rfl
 |some u=>exact absurd (W3 (V5 (x a u.1 u.2 q)) e) (Xf _)
structure Mod(K:Wl)(mg:Str->Option VT)(base:Heap):Prop where
 E9:K.In base
 glob:base.Ns WA mg
 blt:∃mb,base.Ns builtinsNs mb/\∀x:Str,x≠"__name__"->mb x=bootBuiltins x
 nolimit:base.NoLimit
structure Cx where
 prog:WU
 w:XQ
 K:Wl
 mg:Str->Option VT
 cls:Str->Option Wr
 base:Heap
 A:WY
 N:List Str
 s₀:VY
 H₀:Hp
 env:Env
 ex:List Wr
 fn:Str->Bool
def Oa(sc:Scope)(x:Str):Prop:=sc.names.lookup x=s? .local\/sc.names.lookup x=s? .cell\/sc.names.lookup x=s? .free
def Loc(sc:Scope)(x:Str):Prop:=sc.names.lookup x=s? .local\/sc.names.lookup x=s? .cell
def Look(env:Env)(h:Heap)(m:Str->Option VT)(x:Str)(u:VT):Prop :=
 (env.kindOf x=s? .local/\m x=s? u)\/((env.kindOf x=s? .cell\/env.kindOf x=s? .free)/\∃c,env.cells.lookup x=s? c/\h.IsCell c (s? u))
structure Cx.Ok(X:Cx):Prop where
 mod:Mod X.K X.mg X.base
 kind:X.env.scope.kind=.function
 glob:X.env.globals=WA
 blt:X.env.builtins=builtinsNs
 above:X.s₀.heap.objs.size<=X.env.locals
 inj:∀x y c,X.env.cells.lookup x=s? c->X.env.cells.lookup y=s? c->x=y
 has:∀x,(X.env.kindOf x=s? .cell\/X.env.kindOf x=s? .free)->∃c,X.env.cells.lookup x=s? c
 So:∀x c,X.fn x=t?->X.env.cells.lookup x=s? c->X.s₀.heap.objs.size<=c
 hd:X.A.handled=n?
 Vi:∀b∈X.ex,b≠X.env.locals/\∀x c,X.env.cells.lookup x=s? c->c≠b
 bs:∀b o,X.base.get? b=s? o->X.s₀.heap.get? b=s? o/\X.H₀ b=n?
 Gv:X.base.objs.size<=X.s₀.heap.objs.size
 Gw:∀b o,X.base.get? b=s? o->b∉X.ex
abbrev bf:=List (Wr × Obj)
structure Inv(X:Cx)(pins:bf)(φ:Fr)(g:G)(L:aa)(s:VY):Prop where
 ok:X.Ok
 os:s.os=X.s₀.os
 bare:AllBare s.gens
 base:Un X.ex X.H₀ g.H X.s₀.heap s.heap
 loc:∃m,s.heap.Ns X.env.locals m/\∀(i:Nat)(x:Str)(t:T),X.N[i]?=s? x->φ[i]?=s? (s? t)->Oa X.env.scope x->∃u,RT g n? t u/\Look X.env s.heap m x u
 cell:∀x c,X.env.cells.lookup x=s? c->∃v,s.heap.IsCell c v
 free:g.H X.env.locals=n?
 v8:∀x c,X.env.cells.lookup x=s? c->g.H c=n?
 pin:∀p∈pins,s.heap.get? p.1=s? p.2/\g.H p.1=n?/\p.1≠X.env.locals/\∀v,p.2.data≠.cell v
 hok:Cp g.H s.heap
 len:φ.length=X.N.length
 rel:Rel g L
 gB:g.B=X.base
 gm:g.cls=X.cls
 gw:g.w=X.w
section
variable{X:Cx}{pins:bf}{φ:Fr}{g g':G}{L L':aa}{s:VY}{h':Heap}
theorem Inv.bs(I:Inv X pins φ g L s):∀b o,X.base.get? b=s? o->s.heap.get? b=s? o/\g.H b=n?:=λb o e=>
 ⟨I.base.keep b o (I.ok.bs b o e).1 (I.ok.bs b o e).2 (I.ok.Gw b o e),I.base.free b o (I.ok.bs b o e).1 (I.ok.bs b o e).2 (I.ok.Gw b o e)⟩
def Inv.bk(I:Inv X pins φ g L s):∀b o,X.base.get? b=s? o->s.heap.get? b=s? o:=λb o e=>(I.bs b o e).1
theorem Inv.kn(I:Inv X pins φ g L s){b a o}(h:g.kn b a o):s.heap.get? a=s? o:=by
 rcases h with h|⟨_,h⟩
 ·exact I.hok _ _ _ h
 ·exact I.bk _ _ (by rw[<- I.gB];exact h)
theorem Inv.mod(I:Inv X pins φ g L s):Mod X.K X.mg X.base:=I.ok.mod
def Inv.Gx(I:Inv X pins φ g L s):X.K.In s.heap:=I.ok.mod.E9.keeps I.bk
theorem Inv.nolimit(I:Inv X pins φ g L s):s.heap.NoLimit:=I.ok.mod.nolimit.keeps I.bk
theorem Inv.lt(I:Inv X pins φ g L s):X.env.locals<s.heap.objs.size:=let ⟨_,hn,_⟩:=I.loc;hn.lt
def Inv.sz(I:Inv X pins φ g L s):X.s₀.heap.objs.size<=s.heap.objs.size:=VV I.ok.above (abw I.lt)
theorem Inv.fresh(I:Inv X pins φ g L s):g.H s.heap.objs.size=n?:=I.hok.fresh (V3 _)
def Inv.Ke(I:Inv X pins φ g L s):∀x c,X.env.cells.lookup x=s? c->c≠X.env.locals:=λx c e z=>by
 obtain⟨v,o,ho,hd⟩:=I.cell x c e;obtain⟨m,⟨o',es,ep,ho',hd',_⟩,_⟩:=I.loc;simp_all
def Inv.step{g1:Array GenState}{t':Nat}{d':Drawn}{ch:List Wr}(I:Inv X pins φ g L s)(l:Le g g')
  (yZ:∀b∈ch,(b∈X.ex\/X.s₀.heap.objs.size<=b)/\b≠X.env.locals/\(∀x c,X.env.cells.lookup x=s? c->c≠b)/\∀p∈pins,p.1≠b)
  (keep:∀b o,b≠X.env.locals->b∉ch->s.heap.get? b=s? o->g.H b=n?->h'.get? b=s? o) (free:∀b o,b∉ch->s.heap.get? b=s? o->g.H b=n?->g'.H b=n?)
  (ns:∀m,s.heap.Ns X.env.locals m->h'.Ns X.env.locals m) (hok:Cp g'.H h') (hg:AllBare g1) (rel:Rel g' L'):Inv X pins φ g' L' {s with heap:=h',gens:=g1,drawn:=d',toks:=t'}:=by
 have Sr:∀b o,X.s₀.heap.get? b=s? o->b≠X.env.locals:=λb o e=>Wm (W3 (V5 e) I.ok.above)
 have Rj:∀b o,X.s₀.heap.get? b=s? o->b∉X.ex->b∉ch:=λb o e hx hb=>by
  rcases(yZ b hb).1 with z|z
  ·exact hx z
  ·exact absurd (W3 (V5 e) z) (Xf _)
 have cellK:∀x c,X.env.cells.lookup x=s? c->∀v,s.heap.IsCell c v->h'.IsCell c v:=λx c e v⟨o,ho,hd⟩=>
  ⟨o,keep c o (I.Ke x c e) (λz=>(yZ c z).2.2.1 x c e rfl) ho (I.v8 x c e),hd⟩
 refine⟨I.ok,I.os,hg,⟨λb o e n hx=>?_,λb o e n hx=>?_,λb o e=>l.f b o (I.base.bE b o e)⟩,?_,λx c e=>?_,?_,λx c e=>?_,λp hp=>?_,hok,I.len,rel,l.B.trans I.gB,l.m.trans I.gm,l.w.trans I.gw⟩
 ·exact keep b o (Sr b o e) (Rj b o e hx) (I.base.keep b o e n hx) (I.base.free b o e n hx)
 ·exact free b o (Rj b o e hx) (I.base.keep b o e n hx) (I.base.free b o e n hx)
 ·obtain⟨m,hn,hl⟩:=I.loc
  refine⟨m,ns m hn,λi x v e1 e2 e3=>?_⟩;obtain⟨u,r,q⟩:=hl i x v e1 e2 e3;refine⟨u,r.le l,?_⟩;rcases q with q|⟨k,c,e,z⟩
  ·exact .inl q
  ·exact .inr ⟨k,c,e,cellK x c e _ z⟩
 ·obtain⟨v,z⟩:=I.cell x c e
  exact⟨v,cellK x c e v z⟩
 ·obtain⟨m,⟨o,_,_,ho,_⟩,_⟩:=I.loc
  exact free _ o (λz=>(yZ _ z).2.1 rfl) ho I.free
 ·obtain⟨v,o,ho,hd⟩:=I.cell x c e
  exact free c o (λz=>(yZ c z).2.2.1 x c e rfl) ho (I.v8 x c e)
 ·obtain⟨e,n,ne,d⟩:=I.pin p hp
  grind
def Inv.un{t':Nat}(I:Inv X pins φ g L s)(l:Le g g')(u:Un [] g.H g'.H s.heap h')(hok:Cp g'.H h')(rel:Rel g' L'):Inv X pins φ g' L' {s with heap:=h',toks:=t'}:=by
 obtain⟨m,⟨o,es,ep,ho,r⟩,_⟩:=id I.loc;have hL:=u.keep _ o ho I.free ⋯
 exact I.step (g1:=s.gens) (d':=s.drawn) (ch:=[]) l (λ_ z=>nomatch z) (λb o _ _ e n=>u.keep b o e n ⋯) (λb o _ e n=>u.free b o e n ⋯) (λm' hm=>by
  obtain⟨o',sA,KH,ho',r'⟩:=hm;rw[ho]at ho';cases ho';exact⟨_,sA,KH,hL,r'⟩) hok I.bare rel
def Inv.call{s':VY}(I:Inv X pins φ g L s)(l:Le g g')(ho:s'.os=s.os)(u:Un ch g.H g'.H s.heap s'.heap)(hok:Cp g'.H s'.heap)(hg:AllBare s'.gens)(rel:Rel g' L')
  (yZ:∀b∈ch,(b∈X.ex\/X.s₀.heap.objs.size<=b)/\b≠X.env.locals/\(∀x c,X.env.cells.lookup x=s? c->c≠b)/\∀p∈pins,p.1≠b):Inv X pins φ g' L' s':=by
 obtain⟨hh,g1,d',t',o'⟩:=s';obtain rfl:o'=s.os:=ho;obtain⟨m,⟨o,es,ep,ho,r⟩,_⟩:=id I.loc;have hL:=u.keep _ o ho I.free λz=>(yZ _ z).2.1 rfl
 exact I.step (ch:=ch) l yZ (λb o _ hc e n=>u.keep b o e n hc) (λb o hc e n=>u.free b o e n hc) (λm' hm=>by
  obtain⟨o',sA,KH,ho',r'⟩:=hm;rw[ho]at ho';cases ho';exact⟨_,sA,KH,hL,r'⟩) hok hg rel
def gW(X:Cx)(pins:bf)(H:Hp)(b:Wr):Prop:=H b=n?/\b≠X.env.locals/\(b∈X.ex\/X.s₀.heap.objs.size<=b)/\(∀x c,X.env.cells.lookup x=s? c->c≠b)/\∀p∈pins,p.1≠b
def Inv.qx(I:Inv X pins φ g L s)(hb:s.heap.objs.size<=b)(hn:H' b=n?):gW X pins H' b:=by
 refine⟨hn,WR (W3 I.lt hb),.inr (VV I.sz hb),λx c e z=>?_,λp hp z=>?_⟩
 ·obtain⟨v,q⟩:=I.cell x c e
  exact absurd (W3 q.lt (by rw[z];exact hb)) (Xf _)
 ·exact absurd (W3 (V5 (I.pin p hp).1) (by rw[z];exact hb)) (Xf _)
def Inv.turned{t':Nat}{ch:List Wr}(I:Inv X pins φ g L s)(k:∀b o,b∉ch->s.heap.get? b=s? o->h'.get? b=s? o)(hf:∀b∈ch,gW X pins g.H b):Inv X pins φ g L {s with heap:=h',toks:=t'}:=by
 refine I.step (g1:=s.gens) (d':=s.drawn) (ch:=ch) (Le.refl g) (λb hb=>⟨(hf b hb).2.2.1,(hf b hb).2.1,(hf b hb).2.2.2⟩) (λb o _ hc e _=>k b o hc e) (λ_ _ _ _ n=>n) (λm hm=>?_) (λb c u e=>?_) I.bare I.rel
 ·obtain⟨o,es,ep,ho,r⟩:=hm
  exact⟨o,es,ep,k _ o (λz=>(hf _ z).2.1 rfl) ho,r⟩
 ·exact k b u (λz=>by rw[(hf b z).1]at e;cases e) (I.hok b c u e)
theorem Inv.kept(I:Inv X pins φ g L s)(k:∀b u,s.heap.get? b=s? u->h'.get? b=s? u):Inv X pins φ g L {s with heap:=h',toks:=t'}:=I.un (Le.refl g) (Un.kept k) (λa b o e=>k a o (I.hok a b o e)) I.rel
def Inv.tok(I:Inv X pins φ g L s)(t:Nat):Inv X pins φ g L {s with toks:=t}:=I.kept (h':=s.heap) λ_ _ e=>e
theorem cu:∀{L:List α}{n:Nat}{c:α},at_ L n=s? c->n<L.length
 |c::L,n,d,h=>by
  unfold at_ at h
  split at h
  ·simp_all
  ·have:=cu h;simp;omega
def jw{α:Type}{L:List α}{n:Nat}{c d:α}(h:at_ L n=s? c):at_ (d::L) n=s? c:=by
 unfold at_
 rw[if_neg (Wm (cu h))];exact h
def cY{α:Type}{L:List α}{d:α}:at_ (d::L) L.length=s? d:=if_pos rfl
def G.lay(g:G)(a:Wr)(o:Obj):G:={g with H:=upd g.H a (t?,o)}
def Rel.le(r:Rel g L)(l:Le g g')(e:g'.α=g.α)(k:∀a o,g.H a=s? (f?,o)->g'.H a=g.H a):Rel g' L:=by
 refine⟨by rw[e];exact r.len,λn c h=>?_,by rw[e];exact r.apart,λn p h=>?_⟩
 ·obtain⟨p,h1,h2⟩:=r.cells n c h
  refine⟨p,by rw[e];exact h1,h2.up l λq z=>?_⟩;cases z;obtain⟨⟨o,e1⟩,o2,e2⟩:=r.live n p h1;simp_all
 ·rw[e]at h
  obtain⟨⟨o,e1⟩,o2,e2⟩:=r.live n p h;simp_all
theorem Le.lay(h:g.H a=n?):Le g (g.lay a o):=⟨λb u e=>by
  have z:b≠a:=λz=>by simp_all
  exact(aB z).trans e,λ_ _ e=>e,rfl,rfl,rfl⟩
def Inv.laid(I:Inv X pins φ g L s)(k:∀b u,s.heap.get? b=s? u->h'.get? b=s? u)(hp:s.heap.objs.size<=a)(new:h'.get? a=s? o):
  Inv X pins φ (g.lay a o) L {s with heap:=h',toks:=t'}:=by
 have hn:=I.hok.fresh hp;refine I.un (Le.lay hn) ⟨λb u q _ _=>k b u q,λb u q n _=>?_,(Le.lay hn).f⟩ (λb c u e=>?_) (I.rel.le (Le.lay hn) rfl λb u e=>?_)
 ·exact(aB (Wm (W3 (V5 q) hp))).trans n
 ·by_cases hb:b=a
  ·subst hb
   have e':s? (t?,o)=s? (c,u):=(av (H:=g.H)).symm.trans e;cases e';exact new
  ·exact k b u (I.hok b c u ((aB hb).symm.trans e))
 ·exact aB (λz=>by simp_all)
def G.new(g:G)(a:Wr)(o:Obj):G:={g with H:=upd g.H a (f?,o),α:=(a,a)::g.α}
theorem Le.new{a:Wr}{o:Obj}(h:g.H a=n?):Le g (g.new a o):=⟨λb u e=>by
  have z:b≠a:=λz=>by simp_all
  exact(aB z).trans e,λ_ _ e=>jw e,rfl,rfl,rfl⟩
theorem Rel.new{a:Wr}{o:Obj}{c:T}(r:Rel g L)(h:g.H a=n?)(hc:RT (g.new a o) (s? (a,a)) c (.ref a)):Rel (g.new a o) (c::L):=by
 have ne:∀n p,at_ g.α n=s? p->p.1≠a/\p.2≠a:=λn p e=>by
  obtain⟨⟨o1,e1⟩,o2,e2⟩:=r.live n p e;grind
 refine⟨by simp[G.new,r.len],λn d e=>?_,λn m p q e1 e2 Ss=>?_,λn p e=>?_⟩
 ·unfold at_ at e
  split at e
  ·rename_i en
   cases e;exact⟨(a,a),by rw[en,<- r.len];exact cY,hc⟩
  ·obtain⟨p,h1,h2⟩:=r.cells n d e
   refine⟨p,jw h1,h2.up (Le.new h) λq z=>?_⟩;cases z;exact⟨aB (ne n p h1).1,aB (ne n p h1).2⟩
 ·have e1':at_ ((a,a)::g.α) n=s? p:=e1
  have e2':at_ ((a,a)::g.α) m=s? q:=e2
  unfold at_ at e1' e2'
  split at e1'
  ·grind
  ·split at e2'
   ·grind
   ·exact r.apart n m p q e1' e2' Ss
 ·have e':at_ ((a,a)::g.α) n=s? p:=e
  unfold at_ at e'
  split at e'
  ·cases e';exact⟨⟨o,av⟩,o,av⟩
  ·obtain⟨⟨o1,h1⟩,o2,h2⟩:=r.live n p e'
   exact⟨⟨o1,(aB (ne n p e').1).trans h1⟩,o2,(aB (ne n p e').2).trans h2⟩
theorem Inv.new{a:Wr}{o:Obj}{c:T}{t':Nat}(I:Inv X pins φ g L s)(k:∀b u,s.heap.get? b=s? u->h'.get? b=s? u)(hp:s.heap.objs.size<=a)(new:h'.get? a=s? o)(hc:RT (g.new a o) (s? (a,a)) c (.ref a)):
  Inv X pins φ (g.new a o) (c::L) {s with heap:=h',toks:=t'}:=by
 have hn:=I.hok.fresh hp;refine I.un (Le.new hn) ⟨λb u q _ _=>k b u q,λb u q n _=>?_,(Le.new hn).f⟩ (λb c u e=>?_) (I.rel.new hn hc)
 ·exact(aB (Wm (W3 (V5 q) hp))).trans n
 ·by_cases hb:b=a
  ·subst hb
   have e':s? (f?,o)=s? (c,u):=(av (H:=g.H)).symm.trans e;cases e';exact new
  ·exact k b u (I.hok b c u ((aB hb).symm.trans e))
def G.set(g:G)(a:Wr)(o:Obj):G:={g with H:=upd g.H a (f?,o)}
theorem Le.set(h:g.H a=s? (f?,u)):Le g (g.set a o):=⟨λb v e=>by
  have z:b≠a:=λz=>by simp_all
  exact(aB z).trans e,λ_ _ e=>e,rfl,rfl,rfl⟩
theorem i8:∀{L:List α}{n m:Nat}{c d:α},at_ (put L n d) m=s? c->(m=n/\c=d)\/(m≠n/\at_ L m=s? c)
 |x::L,n,m,c,d,h=>by
  have lp:∀(L:List α),(put L n d).length=L.length:=λL=>by
   induction L with
   |nil=>rfl
   |cons y L ih=>unfold put;split<;>simp[ih]
  unfold put at h;split at h
  ·rename_i en
   unfold at_ at h⊢
   grind
  ·rename_i en
   unfold at_ at h⊢
   rw[lp]at h;split at h
   ·grind
   ·rename_i em;rw[if_neg em];exact i8 h
def ky{α:Type}{L:List α}{n:Nat}{d:α}:(put L n d).length=L.length:=by
 induction L with
 |nil=>rfl
 |cons y L ih=>unfold put;split<;>simp[ih]
theorem Inv.set{n:Nat}{p:Wr × Wr}{a:Wr}{o u:Obj}{c:T}{t':Nat}(I:Inv X pins φ g L s)(hp:at_ g.α n=s? p)(ha:a=p.1\/a=p.2)(hH:g.H a=s? (f?,u))(k:∀b v,b≠a->s.heap.get? b=s? v->h'.get? b=s? v)(new:h'.get? a=s? o)
  (hc:RT (g.set a o) (s? p) c (.ref p.1)):Inv X pins φ (g.set a o) (put L n c) {s with heap:=h',toks:=t'}:=by
 have hb:∀b,g.H b=n?->b≠a:=λb n z=>by simp_all
 refine I.un (Le.set hH) ⟨λb v q z _=>k b v (hb b z) q,λb v q z _=>(aB (hb b z)).trans z,(Le.set hH).f⟩ (λb c v e=>?_) ⟨by rw[ky];exact I.rel.len,λm d e=>?_,I.rel.apart,λm q e=>?_⟩
 ·by_cases hb:b=a
  ·subst hb
   have e':s? (f?,o)=s? (c,v):=(av (H:=g.H)).symm.trans e;cases e';exact new
  ·exact k b v hb (I.hok b c v ((aB hb).symm.trans e))
 ·rcases i8 e with⟨rfl,rfl⟩|⟨hm,e⟩
  ·exact⟨p,hp,hc⟩
  ·obtain⟨q,h1,h2⟩:=I.rel.cells m d e
   refine⟨q,h1,h2.up (Le.set hH) λq' z=>?_⟩;cases z;have ap:=I.rel.apart m n q p h1 hp hm
   rcases ha with rfl|rfl
   ·exact⟨aB ap.1,aB ap.2.2.1⟩
   ·exact⟨aB ap.2.1,aB ap.2.2.2⟩
 ·have sel:∀b v,g.H b=s? (f?,v)->∃v,upd g.H a (f?,o) b=s? (f?,v):=λb v e=>by
   by_cases hb:b=a
   ·exact⟨o,by rw[hb];exact av⟩
   ·exact⟨v,(aB hb).trans e⟩
  obtain⟨⟨o1,h1⟩,o2,h2⟩:=I.rel.live m q e;exact⟨sel _ _ h1,sel _ _ h2⟩
def Inv.jx(I:Inv X pins φ g L s)(h:∀p∈pins',s.heap.get? p.1=s? p.2/\g.H p.1=n?/\p.1≠X.env.locals/\∀v,p.2.data≠.cell v):Inv X pins' φ g L s:={I with pin:=h}
end
end M
namespace M
open PySem PySem.Spec PyProof.Rows
abbrev F0:VT->VY->Prop:=λ_ _=>False
def thn(h:Wa Md A t Q F0 s)(hQ:∀a s,Q a s->Q' a s):Wa Md A t Q' E s:=wpAny_mono h hQ λ_ _ z=>z.elim
def EP(X:Cx)(pins:bf)(φ:Fr)(g:G)(w:T)(L':aa)(u:VT)(s':VY):Prop:=∃g',Le g g'/\Inv X pins φ g' L' s'/\RT g' n? w u
def AP(X:Cx)(pins:bf)(φ:Fr)(g:G)(w:List T)(L':aa)(u:List VT)(s':VY):Prop:=∃g',Le g g'/\Inv X pins φ g' L' s'/\cL g' w u
def TP(X:Cx)(pins:bf)(φ:Fr)(g:G)(w:Bool)(L':aa)(b:Bool)(s':VY):Prop:=∃g',Le g g'/\Inv X pins φ g' L' s'/\b=w
def SP(X:Cx)(pins:bf)(g:G)(o:O)(f:Flow)(s':VY):Prop:=∃g',Le g g'/\match o,f with
 | .nx φ L,.next=>Inv X pins φ g' L s'
 | .bk φ L,.brk=>Inv X pins φ g' L s'
 | .ct φ L,.cont=>Inv X pins φ g' L s'
 | .rt t L,.ret u=>(∃φ,Inv X pins φ g' L s')/\RT g' n? t u
 |_,_=>False
def PE(X:Cx)(e:Expr)(m:SE):Prop:=∀{pins:bf}{φ:Fr}{g:G}{L:aa}{s:VY}{w:T}{L':aa},Inv X pins φ g L s->m φ L=.ok w L'->Wa (model X.prog X.w) X.A (eval e X.env) (EP X pins φ g w L') F0 s
def PT(X:Cx)(e:Expr)(m:ST):Prop:=∀{pins:bf}{φ:Fr}{g:G}{L:aa}{s:VY}{w:Bool}{L':aa}(whole:Sem VT),(whole=eval e X.env\/∃op es p,e=.BoolOp op es p)->Inv X pins φ g L s->m φ L=.ok w L'->Wa (model X.prog X.w) X.A (isTrue e X.env whole) (TP X pins φ g w L') F0 s
def PA(X:Cx)(es:List Expr)(m:SA):Prop:=∀{pins:bf}{φ:Fr}{g:G}{L:aa}{s:VY}{w:List T}{L':aa}(pos:Pos),Inv X pins φ g L s->m φ L=.ok w L'->Wa (model X.prog X.w) X.A (spliced (backTo pos (starEach es X.env))) (AP X pins φ g w L') F0 s
def PS(X:Cx)(st:Stmt)(m:SS):Prop:=∀{pins:bf}{φ:Fr}{g:G}{L:aa}{s:VY},Inv X pins φ g L s->m φ L≠.bad->Wa (model X.prog X.w) X.A (exec st X.env) (SP X pins g (m φ L)) F0 s
def yP(X:Cx)(st:List Stmt)(m:SS):Prop:=∀{pins:bf}{φ:Fr}{g:G}{L:aa}{s:VY},Inv X pins φ g L s->m φ L≠.bad->Wa (model X.prog X.w) X.A (execs st X.env) (SP X pins g (m φ L)) F0 s
def v9(X:Cx)(f:VT->VT->Sem VT)(m:T->T->aa->R T):Prop:=∀{pins:bf}{φ:Fr}{g:G}{L:aa}{s:VY}{x y w:T}{L':aa}{u v:VT},Inv X pins φ g L s->RT g n? x u->RT g n? y v->m x y L=.ok w L'->Wa (model X.prog X.w) X.A (f u v) (EP X pins φ g w L') F0 s
def eE(X:Cx)(f:VT)(m:Fn):Prop:=∀{pins:bf}{φ:Fr}{g:G}{L:aa}{s:VY}{xs:List T}{w:T}{L':aa}{us:List VT},Inv X pins φ g L s->cL g xs us->m xs L=.ok w L'->Wa (model X.prog X.w) X.A (call f us) (EP X pins φ g w L') F0 s
section
variable{X:Cx}{pins:bf}{φ:Fr}{g g1:G}{L L':aa}{s s':VY}{w:T}{u:VT}{e a b:Expr}{es:List Expr}{m ma mb:SE}{pos:Pos}{x:Str}
def EP.le(h:EP X pins φ g1 w L' u s')(l:Le g g1):EP X pins φ g w L' u s':=let ⟨g',k,r⟩:=h;⟨g',l.trans k,r⟩
def SP.le(h:SP X pins g1 o f s')(l:Le g g1):SP X pins g o f s':=let ⟨g',k,r⟩:=h;⟨g',l.trans k,r⟩
def Inv.ep(I:Inv X pins φ g L s)(r:RT g n? w u):EP X pins φ g w L u s:=⟨g,.refl g,I,r⟩
theorem two{f:T->T->aa->R T}(ha:PE X a ma)(hb:PE X b mb)(I:Inv X pins φ g L s)(h:b2 ma mb f φ L=.ok w L'){α:Type}{Q:α->VY->Prop}{F:VT->VT->Sem α}
  (hf:∀{g' x y L2 u v s2},Le g g'->Inv X pins φ g' L2 s2->RT g' n? x u->RT g' n? y v->f x y L2=.ok w L'->Wa (model X.prog X.w) X.A (F u v) Q F0 s2):
  Wa (model X.prog X.w) X.A (eval a X.env) (λu s₁=>Wa (model X.prog X.w) X.A (eval b X.env) (λv s₂=>Wa (model X.prog X.w) X.A (F u v) Q F0 s₂) F0 s₁) F0 s:=by
 obtain⟨x,L1,e1,h⟩:=R.of h;obtain⟨y,L2,e2,h⟩:=R.of h;refine thn (ha I e1) λu s1⟨g1,l1,I1,r1⟩=>thn (hb I1 e2) λv s2⟨g2,l2,I2,r2⟩=>hf (l1.trans l2) I2 (r1.le l2) r2 h
def Gy(hN:X.N[i]?=s? x)(hv:Oa X.env.scope x)(hd:(x==("__debug__":Str))=f?)(hcd:(x==("__classdict__":Str))=f?):PE X (.Name x pos) (v i):=by
 intro pins φ g L s w L' I h;unfold v at h;cases e:φ[i]? with
 |none=>rw[e]at h;cases h
 |some o=>
  cases o with
  |none=>rw[e]at h;cases h
  |some t=>
   rw[e]at h;cases h;obtain⟨m,hn,hl⟩:=I.loc;obtain⟨u,r,l⟩:=hl i x _ hN e hv;have fin:=I.ep r
   rcases l with⟨hk,hm⟩|⟨hk,c,hc,hcell⟩
   ·exact wpAny_Name (wpAny_loadName_local I.ok.kind hk hn hm fin) hd
   ·rcases hk with hk|hk
    ·exact wpAny_Name (wpAny_loadName_cell I.ok.kind hk hc hcell fin) hd
    ·exact wpAny_Name (wpAny_loadName_free I.ok.kind hk hc hcell fin hcd) hd
def cH:PE X e no:=λ_ h=>by cases h
def Gz:PE X (.Constant (.int i) j pos) (c (.int i)):=λI h=>by cases h;exact wpAny_Constant_int ((I.tok _).ep (.int i _))
def KI{b:Bool}:PE X (.Constant (.bool b) j pos) (c (.bl b)):=λI h=>by cases h;exact Constant_bool (I.ep (.bl b))
def GA:PE X (.Constant .none j pos) (c .aY):=λI h=>by cases h;exact Constant_none (I.ep .aY)
def GB(hz:x.cps.toList.length<=Wf):PE X (.Constant (.str x) j pos) (c (.str x.cps.toList)):=λI h=>by cases h;exact Calls.Constant_str ((I.tok _).ep (.str _ _ hz))
abbrev Gl(X:Cx)(x:Str):Prop:=X.env.kindOf x=s? .globalImplicit
def qy(I:Inv X pins φ g L s)(hg:Gl X x)(hm:X.mg x=s? u)(h:Q u s)(hd:(x==("__debug__":Str))=f?):Wa (model X.prog X.w) X.A (eval (.Name x pos) X.env) Q F0 s :=
 ZQ I.ok.kind hg (Calls.loadGlobal_global (by rw[I.ok.glob];exact I.mod.glob.keeps I.bk) hm h) hd
def i9(I:Inv X pins φ g L s)(hg:Gl X x)(hm:X.mg x=n?)(hv:bootBuiltins x=s? u)(h:Q u s)(hn:x≠"__name__")(hd:(x==("__debug__":Str))=f?):Wa (model X.prog X.w) X.A (eval (.Name x pos) X.env) Q F0 s:=by
 obtain⟨mb,h1,h2⟩:=I.mod.blt;exact ZQ I.ok.kind hg (Calls.loadGlobal_builtin (by rw[I.ok.glob];exact I.mod.glob.keeps I.bk) hm (by rw[I.ok.blt];exact h1.keeps I.bk) ((h2 x hn).trans hv) h) hd
def Rm(X:Cx)(t:T)(u:VT):Prop:=∀g:G,g.B=X.base->g.cls=X.cls->g.w=X.w->RT g n? t u
def GC(hg:Gl X x)(hm:X.mg x=s? u)(r:Rm X t u)(hd:(x==("__debug__":Str))=f?):PE X (.Name x pos) (c t):=λI h=>by cases h;exact qy I hg hm (I.ep (r _ I.gB I.gm I.gw)) hd
def GD(hg:Gl X x)(hm:X.mg x=n?)(hv:bootBuiltins x=s? u)(r:Rm X t u)(hn:x≠"__name__")(hd:(x==("__debug__":Str))=f?):PE X (.Name x pos) (c t):=λI h=>by cases h;exact i9 I hg hm hv (I.ep (r _ I.gB I.gm I.gw)) hn hd
def GF{f:T->T->aa->R T}(ho:v9 X (binaryOp op) f)(ha:PE X a ma)(hb:PE X b mb):PE X (.BinOp a op b pos) (b2 ma mb f):=λI h=>
 wpAny_BinOp (two ha hb I h λl I r1 r2 h=>thn (ho I r1 r2 h) λ_ _ z=>z.le l)
def GG{f:T->T->aa->R T}(ho:v9 X (compareOp op) f)(ha:PE X a ma)(hb:PE X b mb)(hm:behindInMarks op b=f?):PE X (.Compare a [op] [b] pos) (b2 ma mb f):=λI h=>
 wpAny_Compare1 (two ha hb I h λl I r1 r2 h=>thn (ho I r1 r2 h) λ_ _ z=>z.le l) hm
def KJ{f:T->T->aa->R T}(ho:v9 X (λo i=>subscriptTail a b o i) f)(ha:PE X a ma)(hb:PE X b mb):PE X (.Subscript a b pos) (b2 ma mb f):=λI h=>
 Subscript_ (two ha hb I h λl I r1 r2 h=>thn (ho I r1 r2 h) λ_ _ z=>z.le l)
theorem KL(ho:∀{pins φ g L s x w L' u},Inv X pins φ g L s->RT g n? x u->f x L=.ok w L'->Wa (model X.prog X.w) X.A (unaryOp op u) (EP X pins φ g w L') F0 s)(ha:PE X a ma):PE X (.UnaryOp op a pos) (b1 ma f):=λI h=>by
 obtain⟨x,L1,e1,h⟩:=R.of h;exact UnaryOp_ (thn (ha I e1) λv s1⟨g1,l1,I1,r1⟩=>thn (ho I1 r1 h) λ_ _ z=>z.le l1)
def GH{x w:T}(h:neg x L=.ok w L'):∃i,x=.int i/\w=.int (-i)/\L'=L:=by
 cases x with
 |int i=>cases h;simp
 |_=>cases h
def GI{pins φ g L s x w L' u}(I:Inv X pins φ g L s)(r:RT g n? x u)(h:neg x L=.ok w L'):Wa (model X.prog X.w) X.A (unaryOp .USub u) (EP X pins φ g w L') F0 s:=by
 obtain⟨i,rfl,rfl,rfl⟩:=GH h;obtain⟨_,rfl⟩:=r.iI;exact neg_int ((I.tok _).ep (.int _ _))
theorem pV{a:SE}{φ L b L'}(h:tv a φ L=.ok b L'):a φ L=.ok (.bl b) L':=by
 obtain⟨x,L1,e1,h⟩:=R.of h;grind
def qz{α β:Type}{f:α->β}{r:R α}{b:β}{L:aa}(h:r.map f=.ok b L):∃a,r=.ok a L/\f a=b:=by
 cases r with
 |bad=>cases h
 |ok a L1=>cases h;simp
def GJ(ha:PE X a ma):PE X (.UnaryOp .Not a pos) (sy ma):=λI h=>by
 obtain⟨b,e,rfl⟩:=qz h;exact UnaryOp_ (thn (ha I (pV e)) λv s1⟨g1,l1,I1,r1⟩=>by obtain rfl:=r1.bI;exact not_of (wpAny_truthy_bool ⟨g1,l1,I1,.bl _⟩))
def y0(h:PE X a m):PE X (.BoolOp op [a] pos) m:=λI hw=>BoolOp_one (h I hw)
theorem GK(ha:PE X a ma)(hb:PE X (.BoolOp .And (b::es) pos) mb):PE X (.BoolOp .And (a::b::es) pos) (CG ma mb):=λI h=>by
 obtain⟨k,L1,e,h⟩:=R.of h;refine BoolOp_and (thn (ha I (pV e)) λv s1⟨g1,l1,I1,r1⟩=>?_);obtain rfl:=r1.bI;refine wpAny_truthy_bool ?_;cases k with
 |true=>exact thn (hb I1 h) λ_ _ z=>z.le l1
 |false=>simp_all
theorem KN(ha:PE X a ma)(hb:PE X (.BoolOp .Or (b::es) pos) mb):PE X (.BoolOp .Or (a::b::es) pos) (N6 ma mb):=λI h=>by
 obtain⟨k,L1,e,h⟩:=R.of h;refine BoolOp_or (thn (ha I (pV e)) λv s1⟨g1,l1,I1,r1⟩=>?_);obtain rfl:=r1.bI;refine wpAny_truthy_bool ?_;cases k with
 |false=>exact thn (hb I1 h) λ_ _ z=>z.le l1
 |true=>simp_all
def wa:PT X e no:=λ_ _ _ h=>by cases h
def GL(h:PE X e m)(he:∀whole,isTrue e X.env whole=(do let v <- whole;standAt e.pos;holding [v] (truthy v)))(hb:∀op es p,e≠.BoolOp op es p):PT X e (tv m):=λ{_ _ _ _ _ _ _}whole hw I q=>by
 rcases hw with rfl|⟨_,_,_,z⟩
 ·exact isTrue_plain (thn (h I (pV q)) λv s1⟨g1,l1,I1,r1⟩=>by obtain rfl:=r1.bI;exact wpAny_truthy_bool ⟨g1,l1,I1,rfl⟩) (he _)
 ·exact absurd z (hb _ _ _)
def GN{m:ST}(ha:PT X a m):PT X (.UnaryOp .Not a pos) (df m):=λ{_ _ _ _ _ _ _}whole _ I h=>by
 obtain⟨b,e,rfl⟩:=qz h;exact isTrue_not (thn (ha _ (.inl rfl) I e) λ_ _⟨g1,l1,I1,e1⟩=>⟨g1,l1,I1,by rw[e1]⟩)
def CN{m:ST}(ha:PT X a m):PT X (.BoolOp .And [a] pos) m:=λ{_ _ _ _ _ _ _}whole _ I h=>by
 refine isTrue_and (thn (ha _ (.inl rfl) I h) λc s1 e=>?_);cases c with
 |true=>exact isTrue_and_nil e
 |false=>exact e
def GO{m:ST}(ha:PT X a m):PT X (.BoolOp .Or [a] pos) m:=λ{_ _ _ _ _ _ _}whole _ I h=>by
 refine isTrue_or (thn (ha _ (.inl rfl) I h) λc s1 e=>?_);cases c with
 |true=>exact e
 |false=>exact isTrue_or_nil e
theorem GP{ma mb:ST}(ha:PT X a ma)(hb:PT X (.BoolOp .And (b::es) pos) mb):PT X (.BoolOp .And (a::b::es) pos) (CF ma mb):=λ{_ _ _ _ _ _ _}whole _ I h=>by
 obtain⟨k,L1,e,h⟩:=R.of h;refine isTrue_and (thn (ha _ (.inl rfl) I e) λc s1⟨g1,l1,I1,e1⟩=>?_);subst e1;cases c with
 |true=>exact thn (hb whole (.inr ⟨_,_,_,rfl⟩) I1 h) λ_ _⟨g2,l2,r⟩=>⟨g2,l1.trans l2,r⟩
 |false=>simp_all
theorem KO{ma mb:ST}(ha:PT X a ma)(hb:PT X (.BoolOp .Or (b::es) pos) mb):PT X (.BoolOp .Or (a::b::es) pos) (N5 ma mb):=λ{_ _ _ _ _ _ _}whole _ I h=>by
 obtain⟨k,L1,e,h⟩:=R.of h;refine isTrue_or (thn (ha _ (.inl rfl) I e) λc s1⟨g1,l1,I1,e1⟩=>?_);subst e1;cases c with
 |false=>exact thn (hb whole (.inr ⟨_,_,_,rfl⟩) I1 h) λ_ _⟨g2,l2,r⟩=>⟨g2,l1.trans l2,r⟩
 |true=>simp_all
def GQ{f:T->T->aa->R T}(ho:v9 X (compareOp op) f)(ha:PE X a ma)(hb:PE X b mb)(hm:behindInMarks op b=f?):PT X (.Compare a [op] [b] pos) (tv (b2 ma mb f)):=λ{_ _ _ _ _ _ _}whole _ I h=>
 wpAny_isTrue_Compare1 (two ha hb I (pV h) λl I r1 r2 h=>thn (ho I r1 r2 h) λ_ _⟨g1,l1,I1,r1⟩=>by obtain rfl:=r1.bI;exact wpAny_truthy_bool ⟨g1,l.trans l1,I1,rfl⟩) hm
theorem wb{op sj:CmpOp}{a b d:SE}{φ L w L'}(h:xJ op sj a b d φ L=.ok w L'):∃x L1 y L2 k L3,a φ L=.ok x L1/\b φ L1=.ok y L2/\cmp op x y L2=.ok (.bl k) L3/\((k=f?/\w=.bl f?/\L'=L3)\/(k=t?/\∃z L4,d φ L3=.ok z L4/\cmp sj y z L4=.ok w L')):=by
 obtain⟨x,L1,e1,h⟩:=R.of h;obtain⟨y,L2,e2,h⟩:=R.of h;obtain⟨k,L3,e3,h⟩:=R.of h;refine⟨x,L1,y,L2,k,L3,e1,e2,by unfold cmp;rw[e3];rfl,?_⟩;cases k with
 |false=>simp_all
 |true=>obtain⟨z,L4,e4,h⟩:=R.of h;exact .inr ⟨rfl,z,L4,e4,h⟩
def y6(ho:∀op,v9 X (compareOp op) (cmp op))(ha:PE X a ma)(hb:PE X b mb)(hd:PE X d md)(hm:lastMarks [op,sj] [b,d]=f?):PE X (.Compare a [op,sj] [b,d] pos) (xJ op sj ma mb md):=λI h=>by
 obtain⟨x,L1,y,L2,k,L3,e1,e2,e3,h⟩:=wb h;refine Compare_chain (thn (ha I e1) λv s1⟨g1,l1,I1,r1⟩=>chain_link (thn (hb I1 e2) λu s2⟨g2,l2,I2,r2⟩=>thn (ho op I2 (r1.le l2) r2 e3) λd s3⟨g3,l3,I3,r3⟩=>?_)) hm;cases r3;refine wpAny_truthy_bool ?_;have Cq:=(l1.trans l2).trans l3
 rcases h with⟨rfl,rfl,rfl⟩|⟨rfl,z,L4,e4,h⟩
 ·exact ite_ff ⟨g3,Cq,I3,.bl _⟩
 ·exact ite_tt (chain_last (thn (hd I3 e4) λw' s4⟨g4,l4,I4,r4⟩=>thn (ho sj I4 (r2.le (l3.trans l4)) r4 h) λ_ _ z=>z.le (Cq.trans l4)))
def y7(ho:∀op,v9 X (compareOp op) (cmp op))(ha:PE X a ma)(hb:PE X b mb)(hd:PE X d md)(hm:lastMarks [op,sj] [b,d]=f?):PT X (.Compare a [op,sj] [b,d] pos) (tv (xJ op sj ma mb md)):=λ{_ _ _ _ _ _ _}whole _ I h=>by
 obtain⟨x,L1,y,L2,k,L3,e1,e2,e3,h⟩:=wb (pV h);refine isTrue_chain (thn (ha I e1) λv s1⟨g1,l1,I1,r1⟩=>test_link (thn (hb I1 e2) λu s2⟨g2,l2,I2,r2⟩=>thn (ho op I2 (r1.le l2) r2 e3) λd s3⟨g3,l3,I3,r3⟩=>?_)) hm;cases r3;refine wpAny_truthy_bool ?_;have Cq:=(l1.trans l2).trans l3
 rcases h with⟨rfl,e,rfl⟩|⟨rfl,z,L4,e4,h⟩
 ·cases e;exact ite_ff ⟨g3,Cq,I3,rfl⟩
 ·exact ite_tt (test_last (thn (hd I3 e4) λw' s4⟨g4,l4,I4,r4⟩=>thn (ho sj I4 (r2.le (l3.trans l4)) r4 h) λ_ _⟨g5,l5,I5,r5⟩=>by cases r5;exact wpAny_truthy_bool ⟨g5,(Cq.trans l4).trans l5,I5,rfl⟩))
theorem GR{k:Expr}{mk:ST}(hk:PT X k mk)(ha:PE X a ma)(hb:PE X b mb):PE X (.IfExp k a b pos) (N7 mk ma mb):=λI h=>by
 obtain⟨k,L1,e,h⟩:=R.of h;refine wpAny_IfExp (thn (hk _ (.inl rfl) I e) λd s1⟨g1,l1,I1,e1⟩=>?_);subst e1;cases d with
 |true=>exact thn (ha I1 h) λ_ _ z=>z.le l1
 |false=>exact thn (hb I1 h) λ_ _ z=>z.le l1
def bB:Expr->Bool
 | .Starred ..=>f?
 |_=>t?
def aR(h:bB e=t?):starEach (e::es) env=(f?,eval e env)::starEach es env:=by
 cases e<;>first|rfl|cases h
def nO:PA X [] (iT []):=λ{_ _ _ _ _ _ _}_ I h=>by cases h;exact aab ⟨_,.refl _,I,.nil⟩
theorem ik(ha:PE X e m)(hr:PA X es (iT ms))(hs:bB e=t?):PA X (e::es) (iT (m::ms)):=λ{_ _ _ _ _ _ _}pos I h=>by
 obtain⟨t,L1,e1,h⟩:=R.of h;obtain⟨ts,L2,e2,h⟩:=R.of h;cases h;rw[aR hs];show Wa _ _ (spliced ((f?,eval e X.env)::backTo pos (starEach es X.env))) _ _ _
 exact abi (thn (ha I e1) λu s1⟨g1,l1,I1,r1⟩=>thn (hr pos I1 e2) λus s2⟨g2,l2,I2,r2⟩=>⟨g2,l1.trans l2,I2,.cons (r1.le l2) r2⟩)
theorem cL.lst{us:List VT}{xs:List T}{p:Option (Wr × Wr)}{a:Wr}{n:Nat}{o:Obj}(r:cL g xs us)(l:Le g g1)(ht:uK p a a)(hk:g1.kn p.isNone a {cls:=.type "list",data:=.seq us.toArray n})(hz:xs.length<=Wf):RT g1 p (.lst xs) (.ref a) :=
 .lst ht hk hz ⇑(V9 r) λi x v e1 e2=>(xN r i x v e1 ⇑e2).le l
def lW{us:List VT}{h':Heap}(I:Inv X pins φ g L s)(r:cL g xs us)(h:fG fz xs L=.ok w L2)(k:∀b u,s.heap.get? b=s? u->h'.get? b=s? u)(new:h'.get? s.heap.objs.size=s? {cls:=.type "list",data:=.seq us.toArray n}):
  EP X pins φ g w L2 (.ref s.heap.objs.size) {s with heap:=h',toks:=t'}:=by
 unfold fG cm at h;split at h
 ·rename_i hz
  unfold mk at h;split at h
  ·cases h
   exact⟨_,Le.lay I.fresh,I.laid k (V3 _) new,r.lst (n:=n) (o:=default) (Le.lay I.fresh) (.inl rfl) (.inl av) hz⟩
  ·cases h
   refine⟨_,Le.new I.fresh,I.new k (V3 _) new (r.lst (n:=n) (o:=default) (Le.new I.fresh) (.inr rfl) (.inl av) hz),?_⟩;have:=I.rel.len
   exact .ref (p:=(s.heap.objs.size,s.heap.objs.size)) (by show at_ ((_,_)::g.α) _=_;rw[<- this];exact cY)
 ·cases h
def qA(h:fG fz xs L=.ok w L2):xs.length<=Wf:=by
 unfold fG cm at h;split at h
 ·assumption
 ·cases h
theorem GS(h:PA X es (iT ms)):PE X (.List es pos) (lst fz ms):=λI q=>by
 obtain⟨ts,L1,e1,q⟩:=R.of q;refine wpAny_List_spliced (thn (h pos I e1) λus s1⟨g1,l1,I1,r⟩=>⟨by rw[<- V9 r];exact qA q,?_⟩);exact(lW (t':=s1.toks) I1 r q (λb u e=>VJ _ e) (VO _ rfl)).le l1
theorem cL.tup{us:List VT}{xs:List T}{a:Wr}{o:Obj}(r:cL g xs us)(l:Le g g1)(hk:g1.kn t? a o)(hc:o.cls=.type "tuple"/\o.dict=n?)(hd:o.data=.seq us.toArray n)(hz:xs.length<=Wf):RT g1 n? (.tup xs) (.ref a) :=
 .tup hk hc hd hz ⇑(V9 r) λi x v e1 e2=>(xN r i x v e1 ⇑e2).le l
theorem GU(h:PA X es (iT ms))(hz:es.length<=Wf)(hl:es.length=ms.length):PE X (.Tuple es k pos) (tup ms):=λI q=>by
 obtain⟨ts,L1,e1,q⟩:=R.of q;cases q;have len:∀{ms:List SE}{φ L ts L1},iT ms φ L=.ok ts L1->ts.length=ms.length:=λ{ms}=>by
  induction ms with
  |nil=>intro φ L ts L1 h;cases h;rfl
  |cons m ms ih=>
   intro φ L ts L1 h;obtain⟨t,L1,e1,h⟩:=R.of h;obtain⟨ts,L2,e2,h⟩:=R.of h;cases h;simp[ih e2]
 have hz':ts.length<=Wf:=by rw[len e1,<- hl];exact hz
 refine wpAny_Tuple_spliced (thn (h pos I e1) λus s1⟨g1,l1,I1,r⟩=>⟨by rw[<- V9 r];omega,?_⟩);exact⟨_,l1.trans (Le.lay I1.fresh),I1.laid (t':=s1.toks) (λb u e=>VJ _ e) (V3 _) (VO _ rfl),r.tup (Le.lay I1.fresh) (.inl av) ⟨rfl,rfl⟩ rfl hz'⟩
end
section
variable{X:Cx}{pins:bf}{φ:Fr}{g g1:G}{L L':aa}{s s':VY}{w:T}{u:VT}{e a b:Expr}{es:List Expr}{m ma mb:SE}{pos:Pos}{x:Str}{st:Stmt}{rest:List Stmt}{ms m1 m2:SS}
def y8:PS X st iU:=λ_ h=>absurd rfl h
def CO:yP X [] (ab []):=λI _=>wpAny_execs_nil ⟨_,.refl _,I⟩
def zc(h1:PS X st ms)(h2:yP X rest (ab r)):yP X (st::rest) (ab (ms::r)):=λ{pins φ g L s}I h=>by
 have e:ab (ms::r) φ L=(ms φ L).next (ab r):=rfl
 rw[e]at h ⊢;refine wpAny_execs_cons (thn (h1 I λz=>h (by rw[z];rfl)) λf s1 q=>?_);cases o:ms φ L with
 |bad=>rw[o]at h;exact absurd rfl h
 |nx φ1 L1=>
  rw[o]at q h;obtain⟨g',l,q⟩:=q;cases f<;>first|exact q.elim|skip
  exact thn (h2 q h) λ_ _ z=>z.le l
 |_=>
  rw[o]at q;obtain⟨g',l,q⟩:=q;cases f<;>first|exact q.elim|exact⟨g',l,q⟩
def GV:PS X (.Continue pos) cnt:=λI _=>wpAny_Continue ⟨_,.refl _,I⟩
def Inv.quiet(I:Inv X pins φ g L s):interactive X.env=f?:=by simp[interactive,I.ok.kind]
def iW(h:O.of r f≠.bad):∃a L,r=.ok a L/\O.of r f=f a L/\f a L≠.bad:=by
 cases r with
 |bad=>exact absurd rfl h
 |ok a L=>exact⟨a,L,rfl,rfl,h⟩
def mP:Expr->Bool
 | .ListComp ..=>f?
 | .SetComp ..=>f?
 | .DictComp ..=>f?
 |_=>t?
def nP(h:mP e=t?):swapsWith e t l env=pure f?:=by
 cases e<;>first|rfl|cases h
def GW(he:PE X e m)(hs:mP e=t?):PS X (.Expr e pos) (di m):=λI h=>by
 obtain⟨t,L1,e1,e2,h⟩:=iW h;rw[show di m _ _=_ from e2];exact wpAny_Expr_any (thn (he I e1) λv s1⟨g1,l1,I1,r1⟩=>⟨g1,l1,I1⟩) I.quiet (nP hs)
def GX(he:PE X e m):PS X (.Return (s? e) pos) (ret m):=λI h=>by
 obtain⟨t,L1,e1,e2,h⟩:=iW h;rw[show ret m _ _=_ from e2];exact wpAny_Return_some (thn (he I e1) λv s1⟨g1,l1,I1,r1⟩=>⟨g1,l1,⟨_,I1⟩,r1⟩)
def CP:PS X (.Return n? pos) (ret (c .aY)):=λI _=>wpAny_Return_none ⟨_,.refl _,⟨_,I⟩,.aY⟩
def KP{k:Expr}{mk:ST}(hk:PT X k mk)(ha:yP X sa m1)(hb:yP X sb m2):PS X (.If k sa sb pos) (iff mk m1 m2):=λI h=>by
 obtain⟨k,L1,e1,e2,h⟩:=iW h;rw[show iff mk m1 m2 _ _=_ from e2];refine wpAny_If (thn (hk _ (.inl rfl) I e1) λd s1⟨g1,l1,I1,e⟩=>?_);subst e;cases d with
 |true=>exact thn (ha I1 h) λ_ _ z=>z.le l1
 |false=>exact thn (hb I1 h) λ_ _ z=>z.le l1
def sC{N:List Str}(hN:N.Nodup){i j:Nat}(a:N[i]?=s? x)(b:N[j]?=s? x):i=j:=by
 obtain⟨h1,e1⟩:=VZ.mp a;obtain⟨h2,e2⟩:=VZ.mp b;exact(List.getElem_inj hN).mp (e1.trans e2.symm)
structure uL(X:Cx)(i:Nat)(x:Str):Prop where
 nd:X.N.Nodup
 ix:X.N[i]?=s? x
 loc:Loc X.env.scope x
 fn:X.fn x=t?\/X.env.scope.names.lookup x=s? .local
def nQ(I:Inv X pins φ g L s)(S:uL X i x)(r:RT g n? t u)
  (h:∀s',Inv X pins (φ.set i (s? t)) g L s'->(∃a,XD a s.heap s'.heap/\(a=X.env.locals\/X.env.cells.lookup x=s? a))->Q () s'):Wa Md A (storeName X.env x u) Q E s:=by
 obtain⟨m,hn,hl⟩:=id I.loc;have OP:(X.env.scope.kind == .class || (X.env.scope.kind == .module && X.env.locals != X.env.globals))=f?:=by rw[I.ok.kind];rfl
 have Rn:i<φ.length:=by rw[I.len];exact(VZ.mp S.ix).1
 have Ke:=I.Ke;have tracked:∀{a:Wr}{h':Heap},g.H a=n?->XD a s.heap h'->Cp g.H h':=λ{a h'}hf hs b c o e=>(hs.2 b λz=>by simp_all).trans (I.hok b c o e)
 have KQ:∀{a:Wr}{h':Heap},X.s₀.heap.objs.size<=a->XD a s.heap h'->Un X.ex X.H₀ g.H X.s₀.heap h':=λ{a h'}ha hs=>
  ⟨λb o e n hx=>(hs.2 b (Wm (W3 (V5 e) ha))).trans (I.base.keep b o e n hx),I.base.free,I.base.bE⟩
 rcases S.loc with hk|hk
 ·refine wpAny_storeName_local hk hn (λh' hn' hs=>?_) OP
  refine h _ {I with base:=KQ I.ok.above hs,loc:=⟨_,hn',λj y v' e1 e2 e3=>?_⟩,cell:=λy c e=>?_,pin:=λp hp=>?_,hok:=tracked I.free hs,len:=by simpa using I.len} ⟨_,hs,.inl rfl⟩
  ·by_cases hj:j=i
   ·subst hj
    rw[S.ix]at e1;cases e1;rw[Yu Rn]at e2;cases e2;exact⟨u,r,.inl ⟨hk,⋯⟩⟩
   ·rw[Zw (YA hj)]at e2
    obtain⟨u',r',q⟩:=hl j y v' e1 e2 e3;refine⟨u',r',?_⟩;rcases q with⟨k,e⟩|⟨k,c,e,z⟩
    ·refine .inl ⟨k,?_⟩
     have:y≠x:=λe=>hj (sC S.nd e1 (e ▸ S.ix))
     simp[this,e]
    ·exact .inr ⟨k,c,e,z.sameBut hs (Ke y c e)⟩
  ·obtain⟨w',z⟩:=I.cell y c e
   exact⟨w',z.sameBut hs (Ke y c e)⟩
  ·obtain⟨e,n,ne,d⟩:=I.pin p hp
   exact⟨(hs.2 p.1 ne).trans e,n,ne,d⟩
 ·have OQ:X.fn x=t?:=by
   rcases S.fn with z|z
   ·exact z
   simp_all
  obtain⟨c,hc⟩:=I.ok.has x (.inl hk);obtain⟨w',z⟩:=I.cell x c hc;refine wpAny_storeName_cell I.ok.kind hk hc z (λh' hc' hs=>?_);obtain⟨oc,Vj,Su⟩:=id z;refine h {s with heap:=h'} {I with base:=KQ (I.ok.So x c OQ hc) hs,loc:=⟨m,hn.sameBut hs (YA (Ke x c hc)),λj y v' e1 e2 e3=>?_⟩,cell:=λy c' e=>?_,pin:=λp hp=>?_,hok:=tracked (I.v8 x c hc) hs,len:=by simpa using I.len} ⟨c,hs,.inr hc⟩
  ·by_cases hj:j=i
   ·subst hj
    rw[S.ix]at e1;cases e1;rw[Yu Rn]at e2;cases e2;exact⟨u,r,.inr ⟨.inl hk,c,hc,hc'⟩⟩
   ·rw[Zw (YA hj)]at e2
    obtain⟨u',r',q⟩:=hl j y v' e1 e2 e3;refine⟨u',r',?_⟩;rcases q with q|⟨k,c',e,z'⟩
    ·exact .inl q
    ·refine .inr ⟨k,c',e,z'.sameBut hs ?_⟩
     rintro rfl;exact hj (sC S.nd e1 (I.ok.inj _ _ _ e hc ▸ S.ix))
  ·by_cases Kf:c'=c
   ·subst Kf;exact⟨_,hc'⟩
   ·obtain⟨w2,z2⟩:=I.cell y c' e
    exact⟨w2,z2.sameBut hs Kf⟩
  ·obtain⟨e,n,ne,d⟩:=I.pin p hp
   refine⟨(hs.2 p.1 ?_).trans e,n,ne,d⟩;grind
def PG(X:Cx)(tg:Expr)(m:Tg):Prop:=∀{pins:bf}{φ φ':Fr}{g:G}{L:aa}{s:VY}{t:T}{u:VT},Inv X pins φ g L s->RT g n? t u->m.set t φ=s? φ'->Wa (model X.prog X.w) X.A (assign tg X.env u) (λ_ s'=>Inv X pins φ' g L s') F0 s
def nu(S:uL X i x):PG X (.Name x pos) (.one i):=λI r h=>by cases h;exact wpAny_assign_Name (nQ I S r λs' I' _=>I')
def KR(X:Cx)(ts:List Expr)(is:List Nat):Prop:=∀{pins:bf}{φ:Fr}{g:G}{L:aa}{s:VY}{xs:List T}{us:List VT},Inv X pins φ g L s->cL g xs us->xs.length=is.length ->
 Wa (model X.prog X.w) X.A (assignInOrder ((assignEach ts X.env).map (·.2)) us) (λ_ s'=>Inv X pins (sets is xs φ) g L s') F0 s
def CQ:KR X [] []:=λI r _=>by cases r with|nil=>exact assignInOrder_nil I|cons _ _=>contradiction
def zd(S:uL X i x)(h:KR X ts is):KR X (.Name x pos::ts) (i::is):=λI r hl=>by
 cases r with
 |nil=>cases hl
 |cons r1 r2=>
  show Wa _ _ (assignInOrder (assign (.Name x pos) X.env::(assignEach ts X.env).map (·.2)) _) _ _ _;exact assignInOrder_cons (thn (nu S I r1 rfl) λ_ s1 I1=>h I1 r2 ⇑hl)
theorem Inv.tup(I:Inv X pins φ g L s)(r:RT g n? (.tup xs) u):∃a its,u=.ref a/\IsTup s.heap a its/\cL g xs its.toList/\xs.length<=Wf:=by
 cases r with
 |tup hk hc hd hz hl hi=>exact⟨_,_,rfl,⟨_,I.kn hk,hc.1,_,hd⟩,fH ⇑0 λi x v e1 e2=>hi i x v e1 ⇑e2,hz⟩
def zf(h:KR X ts is)(hn:(assignEach ts X.env).length=is.length)(wc:(assignEach ts X.env).findIdx? (·.1)=n?):PG X (.Tuple ts k pos) (.many is):=λ{_ _ _ _ _ _ t _}I r hw=>by
 cases t<;>try cases hw
 rename_i xs;have hw':(if xs.length=is.length then s? (sets is xs _) else n?)=s? _:=hw
 clear hw;rename_i φ φ' _ _ _ _;split at hw'
 ·rename_i hl
  cases hw';obtain⟨a,its,rfl,ht,rv,hz⟩:=I.tup r;refine assign_Tuple_tuple I.ok.hd ht (by rw[hn,<- hl,V9 rv];simp) wc λh' hx=>?_
  exact h (I.kept (t':=_) λb o e=>hx b o (Wm (V5 e)) e) rv hl
 ·cases hw'
def uM(he:PE X e m)(hg:PG X tg t)(hs:swapsWithSole [tg] e pos.line X.env=pure f?)(hw:swappedStores [tg] e X.env=pure n?)(h1:(assignEach [tg] X.env).map (·.2)=[assign tg X.env]):PS X (.Assign [tg] e pos) (asg t m):=λ{pins φ g L s}I h=>by
 obtain⟨v,L1,e1,e2,h⟩:=iW h;cases ef:t.set v φ with
 |none=>simp_all
 |some φ1=>
  have e3:asg t m φ L=.nx φ1 L1:=by
   rw[show asg t m φ L=_ from e2];simp only[ef]
  rw[e3];refine wpAny_Assign_stores (thn (he I e1) λv s1⟨g1,l1,I1,r1⟩=>?_) hs hw;rw[h1];exact thn (hg I1 r1 ef) λ_ s2 q=>⟨g1,l1,q⟩
theorem GY(S:uL X i x)(he:PE X e m)(ho:v9 X (inplaceOp op) (ag op)):PS X (.AugAssign (.Name x pos) op e pos') (aug op i m):=λ{pins φ g L s}I h=>by
 obtain⟨t,L1,e1,e2,h⟩:=iW h;rw[show aug op i m _ _=_ from e2];obtain⟨x0,L2,q1,e3⟩:=R.of e1;obtain⟨y,L3,q2,e4⟩:=R.of e3;unfold v at q1;cases ev:φ[i]? with
 |none=>rw[ev]at q1;cases q1
 |some o=>
  cases o with
  |none=>rw[ev]at q1;cases q1
  |some t0=>
   rw[ev]at q1;cases q1;obtain⟨mm,hn,hl⟩:=I.loc;have Sv:Oa X.env.scope x:=by rcases S.loc with k|k;exact .inl k;exact .inr (.inl k)
   obtain⟨u,r,l⟩:=hl i x _ S.ix ev Sv;refine wpAny_AugAssign_Name ?_;have go:Wa (model X.prog X.w) X.A (eval e X.env) (λw s₂=>Wa (model X.prog X.w) X.A (inplaceOp op u w) (λr s₃=>Wa (model X.prog X.w) X.A (storeName X.env x r) (λ_=>SP X pins g (.nx (φ.set i (s? t)) L1) .next) F0 s₃) F0 s₂) F0 s:=by
    refine thn (he I q2) λw s1⟨g1,l1,I1,r1⟩=>thn (ho I1 (r.le l1) r1 e4) λz s2⟨g2,l2,I2,r2⟩=>?_
    exact nQ I2 S r2 λs3 I3 _=>⟨g2,l1.trans l2,I3⟩
   rcases l with⟨hk,hm⟩|⟨hk,c,hc,hcell⟩
   ·exact wpAny_loadName_local I.ok.kind hk hn hm go
   ·rcases hk with hk|hk
    ·exact wpAny_loadName_cell I.ok.kind hk hc hcell go
    ·have hk:X.env.scope.names.lookup x=s? .free:=hk
     rcases S.loc with k|k<;>(simp_all)
def GZ{k:Expr}{mk:ST}{sb:List Stmt}{mb:SS}(hk:PT X k mk)(hb:yP X sb mb)(n:Nat):PS X (.While k sb [] pos) (sk mk mb n):=λ{pins φ g L s}I h=>by
 refine wpAny_While (codeAny_whileLoop (λn' s'=>∃φ' g' L',Le g g'/\Inv X pins φ' g' L' s'/\sk mk mb n' φ' L'≠.bad/\sk mk mb n' φ' L'=sk mk mb n φ L) ?_ n ⟨φ,g,L,.refl g,I,h,rfl⟩);rintro n' s1 ⟨φ1,g1,L1,l1,I1,h1,eq⟩;rw[<- eq];cases n' with
 |zero=>exact absurd rfl h1
 |succ n'=>
  obtain⟨b,L2,e1,e2,h2⟩:=iW h1;have e2':sk mk mb (n'+1) φ1 L1=_:=e2
  rw[e2']at eq ⊢;refine wpAny_passesOwn X6 (thn (hk _ (.inl rfl) I1 e1) λb' s2⟨g2,l2,I2,e⟩=>?_);subst e;cases b' with
  |false=>exact wpAny_execs_nil ⟨g2,l1.trans l2,I2⟩
  |true=>
   rw[if_pos rfl]at h2 eq ⊢;rw[if_pos rfl];have hb':mb φ1 L2≠.bad:=λz=>by rw[z]at h2;exact absurd rfl h2
   refine wpAny_passesOwn X6 (thn (hb I2 hb') λf s3⟨g3,l3,q3⟩=>?_);have Cq:=(l1.trans l2).trans l3
   cases eb:mb φ1 L2 with
   |bad=>exact absurd eb hb'
   |nx φ3 L3=>
    rw[eb]at q3 h2 eq;cases f<;>first|exact q3.elim|exact⟨n',XW _,φ3,g3,L3,Cq,q3,h2,rfl⟩
   |ct φ3 L3=>
    rw[eb]at q3 h2 eq;cases f<;>first|exact q3.elim|exact⟨n',XW _,φ3,g3,L3,Cq,q3,h2,rfl⟩
   |bk φ3 L3=>
    rw[eb]at q3;cases f<;>first|exact q3.elim|exact⟨g3,Cq,q3⟩
   |rt t3 L3=>
    rw[eb]at q3;cases f<;>first|exact q3.elim|exact⟨g3,Cq,q3⟩
end
end M
section
local macro_rules|`(tactic| omega)=>`(tactic| lia -matchEqs -splitMatch -splitIte -abstractProof)
namespace M
open PySem PySem.Spec PyProof.Rows
section
variable{X:Cx}{pins:bf}{φ:Fr}{g g1:G}{L L':aa}{s s':VY}{w t:T}{u:VT}{e a b:Expr}{es:List Expr}{m ma mb:SE}{pos:Pos}{x:Str}{h':Heap}{xs:List T}
theorem qB{α:Type}:∀{L:List α}{n:Nat},n<L.length->∃c,at_ L n=s? c
 |c::L,n,h=>by
  unfold at_
  split
  ·exact⟨c,rfl⟩
  ·exact qB (by simp at h;omega)
def Inv.view(I:Inv X pins φ g L s)(r:RT g n? t u):∃p,RT g p (vw L t) u:=by
 cases r with
 |ref h=>
  rename_i n p;obtain⟨c,hc⟩:=qB (L:=L) (by rw[<- I.rel.len];exact cu h);obtain⟨q,h1,h2⟩:=I.rel.cells n c hc;rw[h]at h1;cases h1;exact⟨_,by show RT g _ ((at_ L n).getD .aY) _;rw[hc];exact h2⟩
 |_=>exact⟨n?,by first|exact .aY|exact .bl _|exact .int _ _|exact .str _ _ ‹_›|exact .ty _|exact .own ‹_›|exact .tup ‹_› ‹_› ‹_› ‹_› ‹_› ‹_›|exact .lst ‹_› ‹_› ‹_› ‹_› ‹_›|exact .ay ‹_› ‹_› ‹_› ‹_› ‹_› ‹_› ‹_› ‹_› ‹_› ‹_› ‹_›|exact .obj ‹_› ‹_› ‹_› ‹_› ‹_› ‹_› ‹_› ‹_› ‹_› ‹_› ‹_› ‹_›⟩
theorem Inv.lst{p:Option (Wr × Wr)}(I:Inv X pins φ g L s)(r:RT g p (.lst xs) u):∃a its n,u=.ref a/\s.heap.get? a=s? {cls:=.type "list",data:=.seq its n}/\cL g xs its.toList/\xs.length<=Wf:=by
 cases r with
 |lst ht hk hz hl hi=>exact⟨_,_,_,rfl,I.kn hk,fH ⇑hl λi x v e1 e2=>hi i x v e1 ⇑e2,hz⟩
def Inv.tupP{p:Option (Wr × Wr)}(I:Inv X pins φ g L s)(r:RT g p (.tup xs) u):∃a its,u=.ref a/\IsTup s.heap a its/\cL g xs its.toList/\xs.length<=Wf:=by
 obtain⟨_,_,_,_,_,rfl,hk,hc,hd,hz,hl,hi⟩:=r.tI;exact⟨_,_,rfl,⟨_,I.kn hk,hc.1,_,hd⟩,fH ⇑hl λi x v e1 e2=>hi i x v e1 ⇑e2,hz⟩
def aj{h:Heap}{a:Wr}{its:Array VT}{n:Nat}(e:h.get? a=s? {cls:=.type "list",data:=.seq its n}):h.IsList a its:=⟨_,e,rfl,n,rfl⟩
end
structure Turn(P:WU)(w:XQ)(tg:Expr)(g0:G)(xs:List T)(k:aa->Prop)(fp:List Wr)(it:Wr)(tn:Nat->Heap->Prop):Prop where
 mem:it∈fp
 obj:∀i h,tn i h->∀b∈fp,∃o,h.get? b=s? o/\∀v,o.data≠.cell v
 keep:∀i h h',tn i h->(∀b,b∈fp\/i=0->∀o,h.get? b=s? o->h'.get? b=s? o)->tn i h'
 item:∀{X:Cx},X.prog=P->X.w=w->∀{i:Nat}{pins:bf}{φ:Fr}{g:G}{L:aa}{s:VY}{E:VT->VY->Prop}{x:T},Le g0 g->Inv X pins φ g L s->(∀b∈fp,gW X pins g.H b)->tn i s.heap->k L->xs[i]?=s? x ->
  Wa (model P w) X.A (pyNext (.ref it)) (λr s1=>∃u,r=s? u/\Wa (model P w) X.A (letOwnedTupleGo tg (.ref it) u) (λ_ s2=>∃g',Le g g'/\Inv X pins φ g' L s2/\RT g' n? x u/\tn (i+1) s2.heap/\∀b∈fp,g'.H b=n?) E s1) E s
 done:∀{X:Cx},X.prog=P->X.w=w->∀{i:Nat}{pins:bf}{φ:Fr}{g:G}{L:aa}{s:VY}{E:VT->VY->Prop},Le g0 g->Inv X pins φ g L s->(∀b∈fp,gW X pins g.H b)->tn i s.heap->k L->i=xs.length ->
  Wa (model P w) X.A (pyNext (.ref it)) (λr s1=>r=n?/\Inv X pins φ g L s1) E s
 self:∀(A:WY)(i:Nat)(s:VY)(Q:VT->VY->Prop)(E:VT->VY->Prop),tn i s.heap->Q (.ref it) s->Wa (model P w) A (pyIter (.ref it)) Q E s
def Kg(X:Cx)(pins:bf)(φ:Fr)(g:G)(tg:Expr)(xs:List T)(k:aa->Prop)(L':aa)(OR:VT)(s2:VY):Prop :=
 ∃(it:Wr)(fp:List Wr)(tn:Nat->Heap->Prop)(g':G),OR=.ref it/\Le g g'/\Inv X pins φ g' L' s2/\Turn X.prog X.w tg g' xs k fp it tn/\tn 0 s2.heap/\∀b∈fp,gW X pins g'.H b
def PI(X:Cx)(tg iter:Expr)(m:SI):Prop:=∀{pins:bf}{φ:Fr}{g:G}{L:aa}{s:VY}{xs:List T}{k:aa->Prop}{L':aa},Inv X pins φ g L s->m φ L=.ok (xs,k) L' ->
 Wa (model X.prog X.w) X.A (eval iter X.env) (λv s1=>Wa (model X.prog X.w) X.A (pyIter v) (Kg X pins φ g tg xs k L') F0 s1) F0 s
def sD{Md:Model}{A:WY}{E:VT->VY->Prop}{s:VY}{tg:Expr}{it:Wr}{u:VT}{o:Obj}{n:String}{vs:Array VT}{Q:Unit->VY->Prop}(ho:s.heap.get? it=s? o)(hc:o.cls=.type n)(hd:o.data=.fields vs)
    (hn:["enumerate","zip","dict_itemiterator","dict_reverseitemiterator","odict_iterator","itertools.zip_longest","itertools.pairwise"].contains n=f?) (hQ:Q () s):Wa Md A (letOwnedTupleGo tg (.ref it) u) Q E s:=by
  unfold letOwnedTupleGo;cases tg<;>first
    |exact VM hQ
    | (cases u<;>first
        |exact VM hQ
        | (refine VI (wpAny_load ho ?_)
           rw[hc,hd];show Wa Md A (if (["enumerate","zip","dict_itemiterator","dict_reverseitemiterator","odict_iterator","itertools.zip_longest","itertools.pairwise"].contains n && vs[0]?==s? (rawInt _))=t? then _ else _) Q E s
           rw[if_neg (by intro h;rw[hn,Zj]at h;cases h)];exact VM hQ))
section
variable{P:WU}{wd:XQ}{tg:Expr}{g0:G}{xs:List T}{t:T}{L0:aa}{a it:Wr}
def jy{o:Obj}{h:Heap}{vs:Array VT}(e:h.get? it=s? o)(d:o.data=.fields vs):∀b∈[it],∃o,h.get? b=s? o/\∀v,o.data≠.cell v:=λb hb=>by
 have z:b=it:=by simpa using hb
 subst z;exact⟨o,e,λv z=>by rw[d]at z;cases z⟩
def eF{L:aa}(h:stays t L0 L):vw L t=vw L0 t:=by
 cases t with
 |ref n=>show(at_ L n).getD _=(at_ L0 n).getD _;rw[h n rfl]
 |_=>rfl
def xO(r0:RT g0 n? t (.ref a))(hv:vw L0 t=.lst xs):Turn P wd tg g0 xs (stays t L0) [it] it (λi h=>h.IsListIter it a i) where
 mem:=by simp
 obj:=λi h st=>by obtain⟨o,e,c,d⟩:=st;exact jy e d
 keep:=λi h h' st k=>st.at λo e=>k it (.inl ⋯) o e
 item:=by
  intro X hP hw i pins φ g L s E x l I hf st hk hx;subst hP hw;obtain⟨p,r⟩:=I.view (r0.le l);rw[eF hk,hv]at r;obtain⟨a',its,n,e1,e2,rv,_⟩:=I.lst r;cases e1;obtain⟨u,hu,ru⟩:=pD rv hx;refine wpAny_pyNext_list_item st (aj e2) (x:=u) ⇑hu λh' gg sb=>?_
  have I1:Inv X pins φ g L {s with heap:=h'}:=I.turned (t':=s.toks) (ch:=[it]) (λb o hb e=>(sb.2 b ⇑hb).trans e) hf;obtain⟨o,e,c,d⟩:=id gg;exact⟨u,rfl,sD (s:={s with heap:=h'}) e c d ∅ ⟨g,.refl g,I1,ru,gg,λb hb=>(hf b hb).1⟩⟩
 done:=by
  intro X hP hw i pins φ g L s E l I hf st hk hx;subst hP hw;obtain⟨p,r⟩:=I.view (r0.le l);rw[eF hk,hv]at r;obtain⟨a',its,n,e1,e2,rv,_⟩:=I.lst r;cases e1;have hl:=V9 rv
  exact wpAny_pyNext_list_end I.ok.hd st (aj e2) (by have z:=hl;simp at z ⊢;omega) λh' eb=>⟨rfl,I.turned (t':=s.toks) (ch:=[it]) (λb o hb e=>eb b o ⇑hb e) hf⟩
 self:=λ_ _ _ _ _ st h=>wpAny_pyIter_listiter st h
def zi(r0:RT g0 n? t (.ref a))(hv:vw L0 t=.tup xs):Turn P wd tg g0 xs (stays t L0) [it] it (λi h=>h.IsTupleIter it a i) where
 mem:=by simp
 obj:=λi h st=>by obtain⟨o,e,c,d⟩:=st;exact jy e d
 keep:=λi h h' st k=>st.at λo e=>k it (.inl ⋯) o e
 item:=by
  intro X hP hw i pins φ g L s E x l I hf st hk hx;subst hP hw;obtain⟨p,r⟩:=I.view (r0.le l);rw[eF hk,hv]at r;obtain⟨a',its,e1,e2,rv,_⟩:=I.tupP r;cases e1;obtain⟨u,hu,ru⟩:=pD rv hx;refine wpAny_pyNext_tuple_item st (show s.heap.IsTuple a its from e2) (x:=u) ⇑hu λh' gg sb=>?_
  have I1:Inv X pins φ g L {s with heap:=h'}:=I.turned (t':=s.toks) (ch:=[it]) (λb o hb e=>(sb.2 b ⇑hb).trans e) hf;obtain⟨o,e,c,d⟩:=id gg;exact⟨u,rfl,sD (s:={s with heap:=h'}) e c d ∅ ⟨g,.refl g,I1,ru,gg,λb hb=>(hf b hb).1⟩⟩
 done:=by
  intro X hP hw i pins φ g L s E l I hf st hk hx;subst hP hw;obtain⟨p,r⟩:=I.view (r0.le l);rw[eF hk,hv]at r;obtain⟨a',its,e1,e2,rv,_⟩:=I.tupP r;cases e1;have hl:=V9 rv
  exact wpAny_pyNext_tuple_end I.ok.hd st (show s.heap.IsTuple a its from e2) (by have z:=hl;simp at z ⊢;omega) λh' eb=>⟨rfl,I.turned (t':=s.toks) (ch:=[it]) (λb o hb e=>eb b o ⇑hb e) hf⟩
 self:=λ_ _ _ _ _ st h=>wpAny_pyIter_tupleiter st h
def uN{lo:Int}{n:Nat}:Turn P wd tg g0 (upTo lo n) (λ_=>True) [it] it (λi h=>IsRangeIter h it (lo+(i:Nat) * 1) ((n:Int) - (i:Nat)) 1) where
 mem:=by simp
 obj:=λi h st=>jy st rfl
 keep:=λi h h' st k=>k it (.inl ⋯) _ st
 item:=by
  intro X hP hw i pins φ g L s E x l I hf st hk hx;subst hP hw;have W:=Walks.range (prog:=X.prog) (w:=X.w) I.ok.hd it lo 1 n
  have hx':i<n/\x=.int (lo+i):=by
   simp only[upTo,Wx,List.getElem?_range']at hx;by_cases hi:i<n
   ·simp[hi]at hx;exact⟨hi,hx.symm⟩
   ·simp[hi]at hx
  obtain⟨hi,rfl⟩:=hx';refine W.item i s _ _ hi st λv h' tk hv gg kk=>?_
  obtain⟨t,rfl⟩:=hv;have I1:Inv X pins φ g L {s with heap:=h',toks:=tk}:=I.turned (ch:=[it]) (λb o hb e=>kk b o ⇑hb e) hf
  refine⟨_,rfl,sD (s:={s with heap:=h',toks:=tk}) (n:="range_iterator") gg rfl rfl ∅ ⟨g,.refl g,I1,?_,gg,λb hb=>(hf b hb).1⟩⟩;rw[Int.mul_one];exact .int _ _
 done:=by
  intro X hP hw i pins φ g L s E l I hf st hk hx;subst hP hw;exact wpAny_pyNext_range_end I.ok.hd st (by simp[upTo]at hx;omega) λh' eb=>⟨rfl,I.turned (t':=s.toks) (ch:=[it]) (λb o hb e=>eb b o ⇑hb e) hf⟩
 self:=λ_ _ _ _ _ st h=>wpAny_pyIter_rangeiter st h
def sE{z:Cs}{tk:Tok}(ty:String)(Kh:ty="str_ascii_iterator"\/ty="str_iterator"):Turn P wd tg g0 (z.map λch=>.str [ch]) (stays (.str z) L0) [it] it (λi h=>h.IsStrIter it ty ⟨z.toArray⟩ tk i) where
 mem:=by simp
 obj:=λi h st=>by obtain⟨o,e,c,d⟩:=st;exact jy e d
 keep:=λi h h' st k=>by obtain⟨o,e,r⟩:=st;exact⟨o,k it (.inl ⋯) o e,r⟩
 item:=by
  intro X hP hw i pins φ g L s E x l I hf st hk hx;subst hP hw;have wk:Walks X.prog X.w X.A it [it] [it] z.toArray.size (SignAt ⟨z.toArray⟩) (λi h=>h.IsStrIter it ty ⟨z.toArray⟩ tk i):=by
   rcases Kh with e|e
   ·subst e;exact Walks.strAscii I.ok.hd it _ tk
   ·subst e;exact Walks.strWide I.ok.hd it _ tk
  have hn:["enumerate","zip","dict_itemiterator","dict_reverseitemiterator","odict_iterator","itertools.zip_longest","itertools.pairwise"].contains ty=f?:=by
   rcases Kh with e|e<;>subst e<;>decide
  rw[Wx]at hx;obtain⟨c0,Ro,rfl⟩:=V7.mp hx;refine wk.item i s _ E ⇑((VZ.mp Ro).1) st λv h' tk' hv gg kk=>?_
  obtain⟨c,u,hc',rfl⟩:=hv;have ec:c0=c:=by
   have:z[i]?=s? c:=by simpa using hc'
   rw[Ro]at this;exact ZI this
  subst ec;have I1:Inv X pins φ g L {s with heap:=h',toks:=tk'}:=I.turned (ch:=[it]) (λb o hb e=>kk b o ⇑hb e) hf
  obtain⟨o,e,ec,d⟩:=id gg;exact⟨_,rfl,sD (s:={s with heap:=h',toks:=tk'}) e ec d hn ⟨g,.refl g,I1,.str [c0] u (by show 1<=Wf;decide),gg,λb hb=>(hf b hb).1⟩⟩
 done:=by
  intro X hP hw i pins φ g L s E l I hf st hk hx;subst hP hw;have wk:Walks X.prog X.w X.A it [it] [it] z.toArray.size (SignAt ⟨z.toArray⟩) (λi h=>h.IsStrIter it ty ⟨z.toArray⟩ tk i):=by
   rcases Kh with e|e
   ·subst e;exact Walks.strAscii I.ok.hd it _ tk
   ·subst e;exact Walks.strWide I.ok.hd it _ tk
  have hi:i=z.toArray.size:=by simpa using hx
  subst hi;exact wk.done s _ E st λh' tk kk=>⟨rfl,I.turned (ch:=[it]) (λb o hb e=>kk b o ⇑hb e) hf⟩
 self:=λA i s Q E st h=>by
  rcases Kh with e|e
  ·subst e;exact wpAny_pyIter_striter_ascii st h
  ·subst e;exact wpAny_pyIter_striter_wide st h
abbrev Em(P:WU)(wd:XQ)(h:Heap)(d:Wr)(ep:Nat):Prop:=h.DictAt (Yj P wd) d [] ep
def zk{d:Wr}{ep:Nat}{k:aa->Prop}:Turn P wd tg g0 [] k [it] it (λi h=>i=0/\h.IsKeyIter it d 0 ([]:List (Str × VT)).length ep/\Em P wd h d ep) where
 mem:=by simp
 obj:=λi h st=>by obtain⟨_,⟨o,e,c,d⟩,_⟩:=st;exact jy e d
 keep:=λi h h' st k=>by
  obtain⟨z,⟨o,e,r⟩,D⟩:=st;exact⟨z,⟨o,k it (.inl ⋯) o e,r⟩,D.keep λb o e=>k b (.inr z) o e⟩
 item:=by
  intro X hP hw i pins φ g L s E x l I hf st hk hx;simp at hx
 done:=by
  intro X hP hw i pins φ g L s E l I hf st hk hx;subst hP hw;exact wpAny_pyNext_dict_end I.ok.hd st.2.1 st.2.2 rfl λh' eb=>⟨rfl,I.turned (t':=s.toks) (ch:=[it]) (λb o hb e=>eb b o ⇑hb e) hf⟩
 self:=λ_ _ _ _ _ st h=>wpAny_pyIter_keyiter st.2.1 h
section
variable{P:WU}{w:XQ}{A:WY}{E:VT->VY->Prop}{s:VY}{d it:Wr}{o:Obj}{es:Array DictEntry}{ep:Nat}
structure DO(h:Heap)(d:Wr)(o:Obj)(es:Array DictEntry)(ep:Nat):Prop where
 ho:h.get? d=s? o
 hx:o.ExactDict
 hd:o.data=.dict es ep
def DO.iter(D:DO s.heap d o es ep)(hs:(d==sysModules)=f?){Q:VT->VY->Prop}(hQ:Q (.ref s.heap.objs.size) {s with heap:=s.heap.push {cls:=.type "dict_keyiterator",data:=.fields #[.ref d,.int 0 0,.int es.size 0,.int ep 0]}}):Wa (model P w) A (pyIter (.ref d)) Q E s:=by
 have hT:s.TypeIs (.ref d) "dict":=⟨o,D.ho,D.hx.1⟩;refine wpAny_pyIter_slot hT aaD (wpAny_call_entry aaD hT PySem.F.entry_dict_iter ?_ (PySem.F.args_dict_iter_1 _));refine VI (VI (wpAny_notOrdered_dict hT (VM ?_)));refine VI (VM (VI ?_));show Wa _ _ (if (d==sysModules)=t? then _ else _) _ _ _
 rw[if_neg (by rw[hs];exact Xl)];refine VM (VI (wpAny_dictEntries D.ho D.hd (VI (wpAny_dictEpoch D.ho D.hd ?_))));exact VI (wpAny_newObj_type (VM ⟨_,rfl,"dict_keyiterator",_,⟨_,VO _ rfl,rfl⟩,XT.lookup,by simpa[rawInt] using hQ⟩))
def DO.next(D:DO s.heap d o es ep)(hh:A.handled=n?){i:Nat}(hit:s.heap.IsKeyIter it d i es.size ep){Q:Option VT->VY->Prop}(hQ:∀(hi:i<es.size) h',h'.IsKeyIter it d (i+1) es.size ep->XD it s.heap h'->Q (s? es[i].key) {s with heap:=h'})(hE:es.size<=i->∀h',Heap.ExtBut it s.heap h'->Q n? {s with heap:=h'}):Wa (model P w) A (pyNext (.ref it)) Q E s:=by
 obtain⟨oi,ho,hc,hd⟩:=id hit;unfold pyNext;refine VI (wpAny_attempt (wpAny_callSpecial?_slot (name:=WS "__next__") hit.typeIs XT (wpAny_call_entry XT hit.typeIs PySem.F.entry_dict_keyiterator_next ?_ (PySem.F.args_dict_keyiterator_next_1 _))));refine VI (VM (VI (VI (VI (wpAny_typeNameOfWhole_keyiter hit.typeIs (VM (VI (wpAny_fieldsOf ho hd ?_))))))));rw[if_neg (show ¬ (Builtin.Dict_items.ownsTuple "dict_keyiterator"=t?) by decide)];show Wa _ _ (if (Zl d==WV)=t? then _ else _) _ _ s
 rw[if_neg (show ¬ ((Zl d==WV)=t?) from Xl)];refine VI (VM (VI (wpAny_dictEntries D.ho D.hd ?_)));rw[if_neg ⋯];refine VI (VM (VI (wpAny_dictEpoch D.ho D.hd ?_)));rw[if_neg ⋯];refine VM ?_;by_cases hi:i<es.size
 ·dsimp only
  rw[if_neg (show ¬ ((i:Int)<0) by omega),YG,VX hi];refine VI (VI (wpAny_typeNameOfWhole_keyiter hit.typeIs (VM (VI (wpAny_isOneOf_keyiter hit.typeIs ?_)))));show Wa _ _ (setField (.ref it) 1 (rawInt ((i:Int)+1)) >>= _) _ _ s
  refine VI (wpAny_setField ho hd ⋯ ?_);have KS:(s.heap.update it (Obj.mapFields (·.setIfInBounds 1 (rawInt ((i:Int)+1))))).IsKeyIter it d (i+1) es.size ep :=
   ⟨_,YB _ ho (aaK (Y2 hd _)),(Obj.cls_mapFields ..).trans hc,by rw[Y2 hd];simp[rawInt]⟩
  refine VI (wpAny_holding (VI (wpAny_isOneOf_keyiter (s:={s with heap:=s.heap.update it (Obj.mapFields (·.setIfInBounds 1 (rawInt ((i:Int)+1))))}) KS.typeIs ?_)));show Wa _ _ (pure es[i].key) _ _ _
  exact VM (VM ⟨_,rfl,VM (hQ hi _ KS (YW ..))⟩)
 ·dsimp only
  rw[if_neg (show ¬ ((i:Int)<0) by omega),YG,Array.getElem?_eq_none (by omega:es.size<=i)];refine VI (VI (wpAny_typeNameOfWhole_keyiter hit.typeIs (VM ?_)));show Wa _ _ (setField (.ref it) 0 .none >>= _) _ _ s
  refine VI (wpAny_setField ho hd ⋯ (VI ?_));unfold newExc newTuple;refine VI (wpAny_newObj_type ?_ (by size_fits));refine VI (m:=firstArgMember _ _) (wpAny_of_eq (a:=WV) (by first|rfl|(simp only[firstArgMember];rfl)) (wpAny_newObj_type ?_ (by size_fits)));unfold raiseNew;refine VI (wpAny_handled ?_);rw[show A.in1.handled=n? from hh];refine VI (VM (wpAny_throw ?_));refine VI (wpAny_isInstance (T:="StopIteration") (b:=t?) ⟨_,VO _ rfl,rfl⟩ isSubtype_stop ?_);exact VM (hE ⇑0 _ (((YW ..).extBut.push _).push _))
def DO.keep{h h':Heap}(D:DO h d o es ep)(k:∀o,h.get? d=s? o->h'.get? d=s? o):DO h' d o es ep:=⟨k _ D.ho,D.hx,D.hd⟩
end
section
variable{P:WU}{wd:XQ}{tg:Expr}{g0:G}{it d:Wr}{k:aa->Prop}{o:Obj}{es:Array DictEntry}{ep:Nat}{ks:List (T × T)}
def xP(hk:g0.kn t? d o)(hx:o.ExactDict)(hd:o.data=.dict es ep)(hl:ks.length=es.size)(h1:∀(i:Nat) x e,ks[i]?=s? x->es[i]?=s? e->RT g0 n? x.1 e.key):
  Turn P wd tg g0 (ks.map (·.1)) k [it] it (λi h=>h.IsKeyIter it d i es.size ep) where
 mem:=by simp
 obj:=λi h st=>by obtain⟨o,e,c,d⟩:=st;exact jy e d
 keep:=λi h h' st k=>st.at λo e=>k it (.inl ⋯) o e
 item:=by
  intro X hP hw i pins φ g L s E x l I hf st hk' hx';subst hP hw;have D:DO s.heap d o es ep:=⟨I.kn (l.kn hk),hx,hd⟩
  rw[Wx]at hx';obtain⟨q,q1,rfl⟩:=V7.mp hx';have hi:i<es.size:=by
   have:=(VZ.mp q1).1;omega
  refine D.next I.ok.hd st (λ_ h' gg sb=>?_) λz=>absurd hi (Nat.not_lt.mpr z)
  have I1:Inv X pins φ g L {s with heap:=h'}:=I.turned (t':=s.toks) (ch:=[it]) (λb o hb e=>(sb.2 b ⇑hb).trans e) hf;obtain⟨o',e,c,dd⟩:=id gg;exact⟨_,rfl,sD (s:={s with heap:=h'}) e c dd ∅ ⟨g,.refl g,I1,(h1 i q _ q1 (VX hi)).le l,gg,λb hb=>(hf b hb).1⟩⟩
 done:=by
  intro X hP hw i pins φ g L s E l I hf st hk' hx';subst hP hw;have D:DO s.heap d o es ep:=⟨I.kn (l.kn hk),hx,hd⟩
  have he:es.size<=i:=by simp at hx';omega
  exact D.next I.ok.hd st (λz=>absurd z (Nat.not_lt.mpr he)) λ_ h' eb=>⟨rfl,I.turned (t':=s.toks) (ch:=[it]) (λb o hb e=>eb b o ⇑hb e) hf⟩
 self:=λ_ _ _ _ _ st h=>wpAny_pyIter_keyiter st h
end
def Inv.ku{X:Cx}{pins:bf}{φ:Fr}{g:G}{L:aa}{s:VY}{p:Option (Wr × Wr)}{u:VT}(I:Inv X pins φ g L s)(r:RT g p (.ay []) u):∃a o ep,u=.ref a/\s.heap.get? a=s? o/\o.ExactDict/\(a==sysModules)=f?/\Em X.prog X.w s.heap a ep:=by
 cases r with
 |ay ht hk hx hd hz hl hn hs hh h1 h2=>
  rename_i a o es n;obtain rfl:es = #[]:=aaE.mp hl.symm;exact⟨a,o,n,rfl,I.kn hk,hx,hs,o,#[],I.kn hk,hx,hd,λe he=>by simp at he,.nil,Xz⟩
def Inv.OS{X:Cx}{pins:bf}{φ:Fr}{g:G}{L:aa}{s:VY}{p:Option (Wr × Wr)}{u:VT}{ks:List (T × T)}(I:Inv X pins φ g L s)(r:RT g p (.ay ks) u):∃a o es ep,u=.ref a/\DO s.heap a o es ep/\(a==sysModules)=f?/\ks.length=es.size/\ks.length<=Wf:=by
 cases r with
 |ay ht hk hx hd hz hl hn hs hh h1 h2=>exact⟨_,_,_,_,rfl,⟨I.kn hk,hx,hd⟩,hs,hl,hz⟩
theorem uO:∀(xs:List T)(n i:Nat),(num n xs)[i]?=(xs[i]?).map λx=>.tup [.int ((n+i:Nat):Int),x]
 | [],n,i=>by simp[num]
 |x::xs,n,0=>by simp[num]
 |x::xs,n,i+1=>by show(num (n+1) xs)[i]?=_;rw[uO xs (n+1) i,show n+1+i=n+(i+1) by omega];simp
def we:∀(xs:List T)(n:Nat),(num n xs).length=xs.length:=by
 intro l9;induction l9 with
 |nil=>intro n;exact rfl
 |cons x xs ih=>intro n;simp[num,ih]
def Inv.pair{X:Cx}{pins:bf}{φ:Fr}{g:G}{L:aa}{s:VY}{h2:Heap}{t':Nat}{ch:List Wr}{x y:T}{u v:VT}(I:Inv X pins φ g L s)(r1:RT g n? x u)(r2:RT g n? y v)(hf:∀b∈ch,gW X pins g.H b)(cM:∀b∈ch,b<s.heap.objs.size)
  (ht:h2.get? s.heap.objs.size=s? {cls:=.type "tuple",data:=.seq #[u,v]}) (k:∀b o,b∉ch->s.heap.get? b=s? o->h2.get? b=s? o):
  ∃g',Le g g'/\Inv X pins φ g' L {s with heap:=h2,toks:=t'}/\RT g' n? (.tup [x,y]) (.ref s.heap.objs.size)/\∀b∈ch,g'.H b=n?:=by
 have I1:=I.laid (a:=s.heap.objs.size) (o:={cls:=.type "tuple",data:=.seq #[u,v]}) (h':=s.heap.push {cls:=.type "tuple",data:=.seq #[u,v]}) (t':=t') (λb u q=>VJ _ q) (V3 _) (VO _ rfl);have l:=Le.lay (o:={cls:=.type "tuple",data:=.seq #[u,v]}) I.fresh
 have fr:∀b∈ch,(g.lay s.heap.objs.size {cls:=.type "tuple",data:=.seq #[u,v]}).H b=n?:=λb hb=>(aB (Wm (cM b hb))).trans (hf b hb).1
 refine⟨_,l,Inv.turned (s:={s with heap:=s.heap.push {cls:=.type "tuple",data:=.seq #[u,v]},toks:=t'}) (t':=t') (ch:=ch) I1 (λb o hb q=>?_) (λb hb=>⟨fr b hb,(hf b hb).2⟩),cL.tup (us:=[u,v]) (.cons r1 (.cons r2 .nil)) l (.inl av) ⟨rfl,rfl⟩ rfl (by show 2<=Wf;decide),fr⟩;by_cases Ob:b=s.heap.objs.size
 ·subst Ob
  have q2:(s.heap.push {cls:=.type "tuple",data:=.seq #[u,v]}).get? s.heap.objs.size=s? o:=q;rw[VO _ rfl]at q2;rw[ht,<- q2]
 ·exact k b o hb ((X7 _ _ _ Ob).symm.trans q)
def xQ{elts:List Expr}{x1:Nat}{pos:Pos}{e:Wr}(hne:e≠it)(r0:RT g0 n? t (.ref a))(hv:vw L0 t=.lst xs):Turn P wd (.Tuple elts x1 pos) g0 (num 0 xs) (stays t L0) [e,it] e (λi h=>(∃old,IsEnum h e it ((i:Nat):Int) old)/\h.IsListIter it a i) where
 mem:=by simp
 obj:=λi h st b hb=>by
  obtain⟨⟨old,pq⟩,pE⟩:=st;rcases(by simpa using hb:b=e\/b=it) with z|z
  ·subst z
   exact⟨_,pq,λv z=>nomatch z⟩
  ·subst z
   obtain⟨o,e,c,d⟩:=pE;exact⟨o,e,λv z=>by rw[d]at z;cases z⟩
 keep:=λi h h' st k=>by
  obtain⟨⟨old,pq⟩,pE⟩:=st;exact⟨⟨old,k e (.inl ⋯) _ pq⟩,pE.at λo q=>k it (.inl ⋯) o q⟩
 item:=by
  intro X hP hw i pins φ g L s E x l I hf st hk hx;subst hP hw;obtain⟨⟨old,pq⟩,pE⟩:=st;obtain⟨p,r⟩:=I.view (r0.le l);rw[eF hk,hv]at r;obtain⟨a',its,n,e1,e2,rv,_⟩:=I.lst r;cases e1;rw[uO,V7]at hx;obtain⟨y,hy,rfl⟩:=hx;obtain⟨u,hu,ru⟩:=pD rv hy;refine wpAny_pyNext_enum_item pq pE (aj e2) (x:=u) ⇑hu hne λh1 OT OU OV KU lX=>?_
  refine⟨_,rfl,wpAny_letOwnedTupleGo_enum OT λh2 OW lS=>?_⟩
  replace lS:XD e h1 h2:=lS
  have OX:e<s.heap.objs.size:=V5 pq;have Sw:it<s.heap.objs.size:=by obtain⟨o,q,_⟩:=id pE;exact V5 q
  have KV:h2.get? s.heap.objs.size=s? {cls:=.type "tuple",data:=.seq #[.int i s.toks,u]}:=(lS.2 _ (WR OX)).trans OV;obtain⟨g',l',I',r',f'⟩:=I.pair (t':=s.toks+1) (ch:=[e,it]) (.int (i:Int) s.toks) ru hf (λb hb=>by rcases(by simpa using hb:b=e\/b=it) with z|z<;>rw[z]<;>assumption) KV λb o hb q=>by
   have hb1:b≠e:=λz=>hb (by simp[z])
   have Ki:b≠it:=λz=>hb (by simp[z])
   exact(lS.2 b hb1).trans (lX b o hb1 Ki q)
  refine⟨g',l',I',⇑r',⟨⟨u,?_⟩,OU.at λo q=>(lS.2 it (YA hne)).trans q⟩,f'⟩;show IsEnum h2 e it (((i+1:Nat)):Int) u
  rw[show(((i+1:Nat)):Int)=(i:Int)+1 by push_cast;rfl];exact OW
 done:=by
  intro X hP hw i pins φ g L s E l I hf st hk hx;subst hP hw;obtain⟨⟨old,pq⟩,pE⟩:=st;obtain⟨p,r⟩:=I.view (r0.le l);rw[eF hk,hv]at r;obtain⟨a',its,n,e1,e2,rv,_⟩:=I.lst r;cases e1;have hl:=V9 rv
  rw[we]at hx;exact wpAny_pyNext_enum_end I.ok.hd pq pE (aj e2) (by have z:=hl;simp at z ⊢;omega) λh' eb=>⟨rfl,I.turned (t':=s.toks) (ch:=[e,it]) (λb o hb e=>eb b o (λz=>hb (by simp[z])) e) hf⟩
 self:=λ_ _ _ _ _ st h=>by obtain⟨⟨old,pq⟩,_⟩:=st;exact wpAny_pyIter_enum pq h
end
section
variable{X:Cx}{tg e a b:Expr}{m ma mb:SE}{pos p OY:Pos}
def aE{α:Type}{c:Prop}[Decidable c]{r:R α}{a:α}{L:aa}(h:cm c r=.ok a L):c/\r=.ok a L:=by
 unfold cm at h;split at h
 ·exact⟨by assumption,h⟩
 ·cases h
theorem KW{φ:Fr}{L L':aa}{t:T}(h:m φ L=.ok t L'):iT [m] φ L=.ok [t] L':=by show R.bind (m φ L) _=_;rw[h];rfl
theorem KY{φ:Fr}{L L1 L':aa}{t u:T}(h:ma φ L=.ok t L1)(h2:mb φ L1=.ok u L'):iT [ma,mb] φ L=.ok [t,u] L':=by show R.bind (ma φ L) _=_;rw[h];show R.bind (R.bind (mb φ L1) _) _=_;rw[h2];rfl
theorem G3{φ:Fr}{L L':aa}{xs:List T}{k:aa->Prop}(h:src m φ L=.ok (xs,k) L'):∃t,m φ L=.ok t L'/\items t L'=s? xs/\k=stays t L':=by
 obtain⟨t,L1,e1,h⟩:=R.of h;cases ei:items t L1 with
 |none=>rw[ei]at h;cases h
 |some ys=>rw[ei]at h;cases h;exact⟨t,e1,ei,rfl⟩
def Inv.G4{X:Cx}{pins:bf}{φ:Fr}{g:G}{L:aa}{s:VY}{xs:List T}{k:aa->Prop}{o:Obj}{tn:Nat->Heap->Prop}(I:Inv X pins φ g L s)(T:Turn X.prog X.w tg g xs k [s.heap.objs.size] s.heap.objs.size tn)(h0:tn 0 (s.heap.push o)):Kg X pins φ g tg xs k L (.ref s.heap.objs.size) {s with heap:=s.heap.push o}:=by
 refine⟨_,_,_,g,rfl,.refl g,I.kept (t':=s.toks) λb o e=>VJ _ e,T,h0,λb hb=>?_⟩;have z:b=s.heap.objs.size:=by simpa using hb
 subst z;exact I.qx (V3 _) I.fresh
def Kg.le{X:Cx}{pins:bf}{φ:Fr}{g g1:G}{L':aa}{xs:List T}{k:aa->Prop}{u:VT}{s':VY}(h:Kg X pins φ g1 tg xs k L' u s')(l:Le g g1):Kg X pins φ g tg xs k L' u s':=let ⟨a,b,c,d,e,f,r⟩:=h;⟨a,b,c,d,e,l.trans f,r⟩
def RT.sV{g:G}{p:Option (Wr × Wr)}{t:T}{L:aa}{z:Cs}{x:Str}{k:Tok}(r:RT g p t (.str x k))(e:vw L t=.str z):t=.str z:=by
 cases t with
 |ref n=>cases r
 |_=>exact e
def ja(he:PE X e m):PI X tg e (src m):=λ{_ _ _ _ _ xs _ L'}I h=>by
 obtain⟨t,e1,ei,rfl⟩:=G3 h;refine thn (he I e1) λv s1⟨g1,l1,I1,r1⟩=>?_
 have Sy:(∃ks,t=.ay ks/\xs=ks.map (·.1))\/gN (vw L' t)=s? xs:=by
  cases t<;>first|exact .inr ei|(cases ei;exact .inl ⟨_,rfl,rfl⟩)
 clear ei;rcases Sy with⟨ks,rfl,rfl⟩|ei
 ·cases r1 with
  |ay ht hk hx hd hz hl hn hs hh h1 h2=>exact DO.iter ⟨I1.kn hk,hx,hd⟩ hs ((I1.G4 (xP hk hx hd hl h1) ⟨_,VO _ rfl,rfl,rfl⟩).le l1)
 obtain⟨p,r⟩:=I1.view r1;unfold gN at ei;cases ev:vw _ t with
 |lst xs=>
  rw[ev]at ei r;cases ei;obtain⟨a,its,n,rfl,e2,rv,_⟩:=I1.lst r;exact wpAny_pyIter_list (aj e2) ((I1.G4 (xO r1 ev) ⟨_,VO _ rfl,rfl,rfl⟩).le l1)
 |tup xs=>
  rw[ev]at ei r;cases ei;obtain⟨a,its,rfl,e2,rv,_⟩:=I1.tupP r;exact wpAny_pyIter_tuple (show s1.heap.IsTuple a its from e2) ((I1.G4 (zi r1 ev) ⟨_,VO _ rfl,rfl,rfl⟩).le l1)
 |str z=>
  rw[ev]at ei r;cases ei;obtain⟨tk,rfl,hz⟩:=r.jM;obtain rfl:=r1.sV ev;cases ha:(⟨z.toArray⟩:Str).cps.all (·<128)
  ·exact wpAny_pyIter_wide ha ((I1.G4 (sE _ (.inr rfl)) ⟨_,VO _ rfl,rfl,rfl⟩).le l1)
  ·exact wpAny_pyIter_ascii ha ((I1.G4 (sE _ (.inl rfl)) ⟨_,VO _ rfl,rfl,rfl⟩).le l1)
 |ay ks=>
  rw[ev]at ei r;cases ks with
  |cons=>cases ei
  |nil=>
   cases ei;obtain⟨a,o,ep,rfl,_,_,hs,D⟩:=I1.ku r;exact wpAny_pyIter_dict hs D ((I1.G4 zk ⟨rfl,⟨_,VO _ rfl,rfl,rfl⟩,D.push _⟩).le l1)
 |_=>rw[ev]at ei;cases ei
def sF{X:Cx}{pins:bf}{φ:Fr}{g:G}{L:aa}{s:VY}{E:VT->VY->Prop}{lo hi:Int}{t u v:Tok}{tk:Nat}(I:Inv X pins φ g L s)(h1:xK lo)(h2:xK hi):
  Wa (model X.prog X.w) X.A (pyIter (.ref s.heap.objs.size)) (Kg X pins φ g tg (upTo lo (hi - lo).toNat) (λ_=>True) L) E {s with heap:=s.heap.push {cls:=.type "range",data:=.fields #[.int lo t,.int hi u,.int 1 v]},toks:=tk}:=by
 refine wpAny_pyIter_range (IsRange.new ..) (small_one h1.1 h1.2 h2.1 h2.2) ?_;have I1:Inv X pins φ g L {s with heap:=s.heap.push {cls:=.type "range",data:=.fields #[.int lo t,.int hi u,.int 1 v]},toks:=tk}:=I.kept λb o e=>VJ _ e
 refine I1.G4 uN ?_;have e2:(((hi - lo).toNat:Nat):Int) - ((0:Nat):Int)=Builtin.Range.rangeSize lo hi 1:=by rw[rangeSize_one];split<;>omega
 show IsRangeIter _ _ (lo+((0:Nat):Int) * 1) ((((hi - lo).toNat:Nat):Int) - ((0:Nat):Int)) 1;rw[show lo+((0:Nat):Int) * 1=lo by simp,e2];exact VO _ rfl
theorem zm{φ:Fr}{L L':aa}{xs:List T}{k:aa->Prop}(h:yX ma mb φ L=.ok (xs,k) L'):∃i j L1,ma φ L=.ok (.int i) L1/\mb φ L1=.ok (.int j) L'/\xK i/\xK j/\xs=upTo i (j - i).toNat/\k=λ_=>True:=by
 obtain⟨x,L1,e1,h⟩:=R.of h;obtain⟨y,L2,e2,h⟩:=R.of h;cases x with
 |int i=>
  cases y with
  |int j=>
   obtain⟨q,h⟩:=aE h;cases h;exact⟨_,_,L1,e1,e2,q.1,q.2,rfl,rfl⟩
  |_=>cases h
 |_=>cases h
def CS(hg:Gl X "range")(hm:X.mg "range"=n?)(ha:PE X a ma)(hs:bB a=t?):PI X tg (.Call (.Name "range" p) [a] [] pos) (yX (c (.int 0)) ma):=λI h=>by
 obtain⟨i,j,L1,e1,e2,z1,z2,rfl,rfl⟩:=zm h;cases e1;refine Call_ (i9 I hg hm boot_range (YC (thn (ik ha nO hs pos I (KW e2)) λus s1⟨g1,l1,I1,r1⟩=>?_) (aR hs) rfl) ∅ ∅);cases r1 with
 |cons r rr=>
  cases rr;obtain⟨_,rfl⟩:=r.iI;exact call_range_1 (wpAny_mono (sF I1 z1 z2) (λ_ _ z=>z.le l1) λ_ _ z=>z)
def CT(hg:Gl X "range")(hm:X.mg "range"=n?)(ha:PE X a ma)(hb:PE X b mb)(hs:bB a=t?)(lS:bB b=t?):PI X tg (.Call (.Name "range" p) [a,b] [] pos) (yX ma mb):=λI h=>by
 obtain⟨i,j,L1,e1,e2,z1,z2,rfl,rfl⟩:=zm h;refine Call_ (i9 I hg hm boot_range (YC (thn (ik ha (ik hb nO lS) hs pos I (KY e1 e2)) λus s1⟨g1,l1,I1,r1⟩=>?_) (aR hs) (by rw[aR lS];rfl)) ∅ ∅);cases r1 with
 |cons r rr=>
  cases rr with
  |cons r' rr=>
   cases rr;obtain⟨_,rfl⟩:=r.iI;obtain⟨_,rfl⟩:=r'.iI;exact call_range_2 (wpAny_mono (sF I1 z1 z2) (λ_ _ z=>z.le l1) λ_ _ z=>z)
def jX{fp:List Wr}{h:Heap}{b:Wr}{o:Obj}(hb:b∈fp)(e:h.get? b=s? o):(b,o)∈fp.filterMap λb=>(h.get? b).map λo=>(b,o):=List.mem_filterMap.mpr ⟨b,hb,by rw[e];rfl⟩
def Inv.pinned{X:Cx}{pins:bf}{φ:Fr}{g:G}{L:aa}{s:VY}{fp:List Wr}(I:Inv X pins φ g L s)(hf:∀b∈fp,gW X pins g.H b)(ho:∀b∈fp,∃o,s.heap.get? b=s? o/\∀v,o.data≠.cell v):
  Inv X (pins++fp.filterMap λb=>(s.heap.get? b).map λo=>(b,o)) φ g L s :=
 I.jx λp hp=>(VR.mp hp).elim (I.pin p) λz=>by
  obtain⟨b,hb,e⟩:=List.mem_filterMap.mp z;obtain⟨o,e',d⟩:=ho b hb;rw[e']at e;cases e;exact⟨e',(hf b hb).1,(hf b hb).2.1,d⟩
def Inv.nR{X:Cx}{pins pl:bf}{φ:Fr}{g:G}{L:aa}{s:VY}(I:Inv X (pins++pl) φ g L s):Inv X pins φ g L s:=I.jx λp hp=>I.pin p (V2 _ hp)
def jY:Expr->Bool
 | .Set ..=>f?
 |_=>t?
def wh{env:Env}(h:jY e=t?):∀x,foldedSetIterable e env x=pure x:=λx=>by
 cases e<;>first|rfl|cases h
def G5{sb:List Stmt}{mi:SI}{t:Tg}{mb:SS}(hi:PI X tg e mi)(hg:PG X tg t)(hb:yP X sb mb)(hs:jY e=t?):PS X (.For tg e sb [] pos) (aL mi t mb):=λ{pins φ g L s}I h=>by
 obtain⟨⟨xs,k⟩,L1,e1,e2,h⟩:=iW h;rw[show aL mi t mb φ L=_ from e2];clear e2;refine wpAny_For (thn (hi I e1) λv s1 h1=>thn h1 λOR s2 br=>?_) (wh hs);refine M.gK λ_ n9=>?_
 obtain⟨it,fp,tn,g2,e,l2,I2,T,pE,f2⟩:=br;refine n9 ?_;clear n9;subst e;have xR:∀{H':Hp},(∀b∈fp,H' b=n?)->∀b∈fp,gW X pins H' b:=λhn b hb=>⟨hn b hb,(f2 b hb).2⟩
 generalize ho:forL k t mb xs φ L1=o at h;refine codeAny_forLoop_any (λn s'=>∃i φ' g' L',n=xs.length - i/\i<=xs.length/\Le g2 g'/\Inv X pins φ' g' L' s'/\tn i s'.heap/\(∀b∈fp,g'.H b=n?)/\forL k t mb (xs.drop i) φ' L'=o) ?_ xs.length
  ⟨0,φ,g2,L1,rfl,Wg _,.refl g2,I2,pE,λb hb=>(f2 b hb).1,ho⟩
 rintro n s3 ⟨i,φ3,g3,L3,rfl,hi,l3,I3,KZ,Rp,eq⟩;by_cases cM:i<xs.length
 ·rw[Wz cM]at eq
  unfold forL at eq;by_cases hk:k L3
  ·rw[if_pos hk]at eq
   refine wpAny_passesOwn X6 (wpAny_mono (T.item rfl rfl l3 I3 (xR Rp) KZ hk (Ge9 cM)) (λr s4⟨u,hr,h4⟩=>?_) λ_ _ z=>z);subst hr;refine wpAny_passesOwn X6 (wpAny_mono h4 (λ_ s5 br=>?_) λ_ _ z=>z);refine M.gK λ_ n9=>?_
   obtain⟨g5,l5,I5,r5,G6,OZ⟩:=br;refine n9 ?_;clear n9;have Sz:=I5.pinned (xR OZ) (T.obj _ _ G6)
   cases ef:t.set xs[i] φ3 with
   |none=>rw[ef]at eq;exact absurd eq.symm h
   |some φ6=>
    simp only[ef]at eq;refine wpAny_passesOwn X6 (thn (hg Sz r5 ef) λ_ s6 I6=>?_);have hb':mb φ6 L3≠.bad:=λz=>by rw[z]at eq;exact absurd eq.symm h
    refine wpAny_passesOwn X6 (thn (hb I6 hb') λf s7⟨g7,l7,q7⟩=>?_);have O0:=(l3.trans l5).trans l7
    have again:∀{φ7:Fr}{L7:aa},Inv X (pins++fp.filterMap λb=>(s5.heap.get? b).map λo=>(b,o)) φ7 g7 L7 s7->forL k t mb (xs.drop (i+1)) φ7 L7=o->∃m,m<xs.length - i/\∃j φ' g' L',m=xs.length - j/\j<=xs.length/\Le g2 g'/\Inv X pins φ' g' L' s7/\tn j s7.heap/\(∀b∈fp,g'.H b=n?)/\forL k t mb (xs.drop j) φ' L'=o:=λ{φ7 L7}I7 h7=>by
     refine⟨xs.length - (i+1),⇑0,i+1,φ7,g7,L7,rfl,cM,O0,I7.nR,T.keep _ _ _ G6 λb hb o e=>have hb:=hb.resolve_right (Nat.succ_ne_zero _);(I7.pin (b,o) (V6 _ (jX hb e))).1,λb hb=>?_,h7⟩;obtain⟨o,e,d⟩:=T.obj _ _ G6 b hb;exact(I7.pin (b,o) (V6 _ (jX hb e))).2.1
    cases eb:mb φ6 L3 with
    |bad=>exact absurd eb hb'
    |nx φ7 L7=>
     rw[eb]at q7 eq;cases f<;>first|exact q7.elim|exact again q7 eq
    |ct φ7 L7=>
     rw[eb]at q7 eq;cases f<;>first|exact q7.elim|exact again q7 eq
    |bk φ7 L7=>
     rw[eb]at q7 eq;subst eq;cases f<;>first|exact q7.elim|exact⟨g7,l2.trans O0,q7.nR⟩
    |rt t7 L7=>
     rw[eb]at q7 eq;subst eq;cases f<;>first|exact q7.elim|exact⟨g7,l2.trans O0,⟨_,q7.1.choose_spec.nR⟩,q7.2⟩
  ·rw[if_neg hk]at eq;exact absurd eq.symm h
 ·have ei:i=xs.length:=by omega
  rw[Yv ⇑0]at eq;unfold forL at eq;by_cases hk:k L3
  ·rw[if_pos hk]at eq
   subst eq;refine wpAny_passesOwn X6 (wpAny_mono (T.done rfl rfl l3 I3 (xR Rp) KZ hk ei) (λr s4⟨hr,I4⟩=>?_) λ_ _ z=>z);subst hr;exact wpAny_execs_nil ⟨g3,l2.trans l3,I4⟩
  ·rw[if_neg hk]at eq;exact absurd eq.symm h
end
end M
end
namespace M
open PySem PySem.Spec PyProof.Rows
def bh(env:Env):List (Str × NameKind)->List (Str × Wr)->List (Str × Wr)
 | [],cs=>cs
 | (n,k)::r,cs=>if (k==XA)=t? then bh env r ((n,(env.cells.lookup n).getD 0)::cs) else bh env r cs
def pF:∀(names:List (Str × NameKind))(cs:List (Str × Wr)),(∀y∈names,y.2=.free->(env.cells.lookup y.1).isSome=t?) ->
  (forIn names cs (λx(cs:List (Str × Wr))=>(match x with|(name,kind)=>if (kind==XA)=t? then (do let a <- cellOf env name;pure (YD ((name,a)::cs))) else pure (YD cs):Sem (ForInStep (List (Str × Wr))))):Sem (List (Str × Wr)))=pure (bh env names cs):=by
 intro l9;induction l9 with
 |nil=>intro cs _;exact rfl
 |cons y9 r ih=>
  intro cs h;obtain⟨n,k⟩:=y9;have hr:∀y∈r,y.2=.free->(env.cells.lookup y.1).isSome=t?:=λy hy=>h y (VK _ hy)
  rw[X8];by_cases hk:(k==XA)=t?
  ·have e:k=.free:=by simpa using hk
   have hs:=h (n,k) VL e;obtain⟨a,ha⟩:=WC.mp hs;simp only[hk,if_true,bh,cellOf,ha,Zr,pure_bind];exact ih _ hr
  ·simp only[hk,bh,pure_bind,Ws,if_false]
   exact ih _ hr
def uP(h:∀y∈scope.names,y.2=.free->(env.cells.lookup y.1).isSome=t?):closureFor scope env=pure (bh env scope.names []):=by
 have e:=pF (env:=env) scope.names [] h;unfold closureFor;simp_all
def sG:∀{names:List (Str × NameKind)}{cs:List (Str × Wr)}{y:Str}{c:Wr},(∀z∈names,z.2=.free->(env.cells.lookup z.1).isSome=t?)->(∀y c,cs.lookup y=s? c->env.cells.lookup y=s? c) ->
  (bh env names cs).lookup y=s? c->env.cells.lookup y=s? c:=by
 intro l9;induction l9 with
 |nil=>intro _ _ _ _ hc h;exact hc _ _ h
 |cons y9 r ih=>
  intro cs y c hn hc h;obtain⟨n,k⟩:=y9;have hr:∀z∈r,z.2=.free->(env.cells.lookup z.1).isSome=t?:=λz hz=>hn z (VK _ hz)
  unfold bh at h;by_cases hk:(k==XA)=t?
  ·rw[if_pos hk]at h
   have e:k=.free:=by simpa using hk
   obtain⟨a,ha⟩:=WC.mp (hn (n,k) VL e);refine ih hr (λz d q=>?_) h;grind
  ·rw[if_neg hk]at h
   exact ih hr hc h
def sH:∀{names:List (Str × NameKind)}{cs:List (Str × Wr)}{y:Str},((y,XA)∈names\/(cs.lookup y).isSome=t?)->((bh env names cs).lookup y).isSome=t?:=by
 intro l9;induction l9 with
 |nil=>
  intro _ _ h;rcases h with h|h
  ·cases h
  ·exact h
 |cons y9 r ih=>
  intro cs y h;obtain⟨n,k⟩:=y9;unfold bh;have key:∀a:Wr,(cs.lookup y).isSome=t?->(Ze y ((n,a)::cs)).isSome=t?:=λa q=>by
   simp_all
  by_cases hk:(k==XA)=t?
  ·rw[if_pos hk]
   refine ih ?_;grind
  ·rw[if_neg hk]
   refine ih ?_;grind
def kz(h:(relabel scope env).names.lookup y=s? k'):∃k,scope.names.lookup y=s? k/\(k'=k\/(k=.free/\k'=.cell)):=by
 have go:∀(names:List (Str × NameKind)),(names.map λ(n,k)=>if (k==XA && env.scope.kind == .function && env.kindOf n==s? .cell) then (n,aaq) else (n,k)).lookup y=s? k' ->
   ∃k,names.lookup y=s? k/\(k'=k\/(k=.free/\k'=.cell)):=by
  intro names;induction names with
  |nil=>simp
  |cons a r ih=>
   grind
 exact go scope.names h
def kC(h:scope.names.lookup y=s? .free):(relabel scope env).names.lookup y=s? .cell\/(relabel scope env).names.lookup y=s? .free:=by
 have go:∀(names:List (Str × NameKind)),names.lookup y=s? .free->(names.map λ(n,k)=>if (k==XA && env.scope.kind == .function && env.kindOf n==s? .cell) then (n,aaq) else (n,k)).lookup y=s? .cell \/
   (names.map λ(n,k)=>if (k==XA && env.scope.kind == .function && env.kindOf n==s? .cell) then (n,aaq) else (n,k)).lookup y=s? .free:=by
  intro names;induction names with
  |nil=>simp
  |cons a r ih=>
   grind
 exact go scope.names h
def qC{R:Result->VY->Prop}(I:Nat->VY->Prop)
  (turn:∀n s,I n s->Wa (model prog w) A (pyNext it) (λr s₁=>match r with
   |none=>R (.ok .next) s₁
   |some v=>Wa (model prog w) A (letOwnedTupleGo target it v) (λ_ Rr=>Wa (model prog w) A (assign target env v) (λ_ s₂=>
     Wa (model prog w) A (forIn ifs t? λc r=>if r=t? then do let ok <- isTrue c env (eval c env);pure (YD ok) else pure (YD r)) (λok s₃=>
      if ok=t? then Wa (model prog w) A (eval elt env) (λx s₄=>
       Wa (model prog w) A (call (.builtin "list.append") [acc,x]) (λ_ s₅=>∃m,m<n/\I m s₅) (λ_ _=>False) s₄) (λ_ _=>False) s₃
      else ∃m,m<n/\I m s₃) (λ_ _=>False) s₂) (λ_ _=>False) Rr) (λ_ _=>False) s₁) (λ_ _=>False) s)
  (n:Nat) (h:I n s):codeAny (model prog w) A (.compLoop (.ListComp elt [⟨target,iter,ifs,0⟩] scope pos) 0 it acc env) R s:=by
 refine codeAny_loop rfl I (λn s hI=>?_) n h;show Wa _ A ((compTurn (.ListComp elt [⟨target,iter,ifs,0⟩] scope pos) 0 it acc env).onRaise (λx=>do noteFrame x env;theTreesLotGoes x)) _ _ s
 refine wpAny_noted ?_;rw[compTurn_list];refine VI (wpAny_standAt (VI (wpAny_mono (turn n s hI) (λr s₁ h₁=>?_) λ_ _ h'=>h'.elim)));cases r with
 |none=>exact VM h₁
 |some v=>
  refine VI (wpAny_mono h₁ (λ_ Rr SD=>?_) λ_ _ h'=>h'.elim);refine VI (wpAny_mono SD (λ_ s₂ h₂=>VI (wpAny_mono h₂ (λok s₃ h₃=>?_) λ_ _ h'=>h'.elim)) λ_ _ h'=>h'.elim);cases ok with
  |false=>exact VM ⟨rfl,h₃⟩
  |true=>
   exact VI (VI (wpAny_mono h₃ (λx s₄ h₄=>VI (wpAny_mono h₄ (λ_ s₅ h₅=>VM (VM ⟨rfl,h₅⟩)) λ_ _ h'=>h'.elim)) λ_ _ h'=>h'.elim))
def dj(X:Cx)(scope:Scope)(cl:List (Str × Wr))(N:List Str)(C:Wr)(s₀:VY)(H₀:Hp)(ex:List Wr):Cx:={X with N:=N,s₀:=s₀,H₀:=H₀,env:=compEnvC scope cl C X.env,ex:=ex,fn:=λ_=>f?}
structure nS(X:Cx)(scope:Scope)(N:List Str)(aZ:List (Option Nat)):Prop where
 kind:scope.kind=.function
 nT:∀y∈scope.names,y.2≠.cell
 locs:∀y∈scope.names,y.2=.local->scope.names.lookup y.1=s? .local
 frees:∀y∈scope.names,y.2=.free->(X.env.scope.names.lookup y.1=s? .cell\/X.env.scope.names.lookup y.1=s? .free)
 SF:∀(i:Nat) y j,N[i]?=s? y->aZ[i]?=s? (s? j)->X.N[j]?=s? y/\scope.names.lookup y=s? .free
 nd:N.Nodup
 len:N.length=aZ.length
section
variable{X:Cx}{pins:bf}{φ:Fr}{g:G}{L:aa}{s:VY}
def Inv.weak(I:Inv X pins φ g L s)(hl:φ'.length=φ.length)(w:∀(i:Nat) t,φ'[i]?=s? (s? t)->φ[i]?=s? (s? t)):Inv X pins φ' g L s :=
 {I with loc:=let ⟨m,hn,hl'⟩:=I.loc;⟨m,hn,λi x v e1 e2 e3=>hl' i x v e1 (w i v e2) e3⟩,len:=hl.trans I.len}
def Inv.K0(I:Inv X pins φ g L s)(f:gW X pins g.H a)(h:s.heap.get? a=s? o):Inv X pins φ (g.lay a o) L s:=by
 refine I.step (g1:=s.gens) (t':=s.toks) (d':=s.drawn) (h':=s.heap) (ch:=[a]) (Le.lay f.1) (λb hb=>?_) (λb u _ _ e _=>e) (λb u hb e n=>(aB (λz=>hb (by simp[z]))).trans n) (λ_ m=>m) (λb c u e=>?_) I.bare (I.rel.le (Le.lay f.1) rfl λb u e=>aB (λz=>by rw[z,f.1]at e;cases e))
 ·have z:b=a:=by simpa using hb
  subst z;exact⟨f.2.2.1,f.2.1,f.2.2.2⟩
 ·by_cases hb:b=a
  ·subst hb
   have e':s? (t?,o)=s? (c,u):=(av (H:=g.H)).symm.trans e;cases e';exact h
  ·exact I.hok b c u ((aB hb).symm.trans e)
def Inv.G7{a:Wr}{o:Obj}{c:T}(I:Inv X pins φ g L s)(f:gW X pins g.H a)(h:s.heap.get? a=s? o)(hc:RT (g.new a o) (s? (a,a)) c (.ref a)):Inv X pins φ (g.new a o) (c::L) s:=by
 refine I.step (g1:=s.gens) (t':=s.toks) (d':=s.drawn) (h':=s.heap) (ch:=[a]) (Le.new f.1) (λb hb=>?_) (λb u _ _ e _=>e) (λb u hb e n=>(aB (λz=>hb (by simp[z]))).trans n) (λ_ m=>m) (λb c u e=>?_) I.bare (I.rel.new f.1 hc)
 ·have z:b=a:=by simpa using hb
  subst z;exact⟨f.2.2.1,f.2.1,f.2.2.2⟩
 ·by_cases hb:b=a
  ·subst hb
   have e':s? (f?,o)=s? (c,u):=(av (H:=g.H)).symm.trans e;cases e';exact h
  ·exact I.hok b c u ((aB hb).symm.trans e)
def uQ(ok:nS X scope N aZ)(I:Inv X pins φ g L s3)
  (hf:∀b∈ex,gW X pins g.H b) (cM:∀b∈ex,b<s3.heap.objs.size) (hn:h1.Ns s3.heap.objs.size m) (keep:∀b o,s3.heap.get? b=s? o->h1.get? b=s? o):
  Inv (dj X scope (bh X.env scope.names []) N s3.heap.objs.size s3 g.H ex) [] (inner aZ φ) g L {s3 with heap:=h1,toks:=tk}:=by
 have wi:∀z∈scope.names,z.2=.free->(X.env.cells.lookup z.1).isSome=t?:=λz hz CU=>by
  obtain⟨c,e⟩:=I.ok.has z.1 (ok.frees z hz CU);rw[e];rfl
 have sub:∀y c,(bh X.env scope.names []).lookup y=s? c->X.env.cells.lookup y=s? c:=λy c h=>sG wi (λ_ _ q=>by simp at q) h
 refine⟨⟨I.ok.mod,ok.kind,I.ok.glob,I.ok.blt,V3 _,λy z c e1 e2=>I.ok.inj y z c (sub _ _ e1) (sub _ _ e2),λy hy=>?_,λy c OQ _=>absurd OQ (by simp[dj]),I.ok.hd,λb hb=>⟨Wm (cM b hb),λy c e=>(hf b hb).2.2.2.1 y c (sub _ _ e)⟩,
   I.bs,VV I.ok.Gv I.sz,λb o e hb=>?_⟩,
  rfl,I.bare,Un.kept keep,⟨m,hn,λi y v e1 e2 e3=>?_⟩,λy c e=>?_,I.fresh,λy c e=>I.v8 y c (sub _ _ e),λp hp=>(by simp at hp),λa b o e=>keep a o (I.hok a b o e),by show(inner aZ φ).length=N.length;rw[ok.len];simp[inner],I.rel,I.gB,I.gm,I.gw⟩
 ·have hy':(relabel scope X.env).names.lookup y=s? .cell\/(relabel scope X.env).names.lookup y=s? .free:=hy
  have fr:scope.names.lookup y=s? .free:=by
   rcases hy' with q|q
   ·obtain⟨k,e,z⟩:=kz q
    rcases z with z|⟨z,_⟩
    ·exact absurd z.symm (ok.nT _ (Wy e))
    ·rw[e,z]
   ·obtain⟨k,e,z⟩:=kz q
    rcases z with z|⟨_,z⟩
    ·rw[e,z]
    ·cases z
  exact WC.mp (sH (.inl (Wy fr)))
 ·rcases(hf b hb).2.2.1 with z|z
  ·exact I.ok.Gw b o e z
  ·exact absurd (W3 (V5 e) (VV I.ok.Gv z)) (Xf _)
 ·have e2':(aZ.map λo=>o.bind λi=>(φ[i]?).join)[i]?=s? (s? v):=e2
  rw[Wx]at e2';cases hj:aZ[i]? with
  |none=>rw[hj]at e2';cases e2'
  |some oj=>
   rw[hj]at e2';cases oj with
   |none=>cases e2'
   |some j=>
    obtain⟨eN,hy⟩:=ok.SF i y j e1 hj;have hσ:φ[j]?=s? (s? v):=by
     cases q:φ[j]? with
     |none=>simp[q]at e2'
     |some o=>simp[q]at e2';rw[e2']
    have hk:=ok.frees (y,.free) (Wy hy) rfl;obtain⟨m',_,hl⟩:=I.loc;obtain⟨u,r,q⟩:=hl j y v eN hσ (.inr hk);refine⟨u,r,.inr ⟨kC hy,?_⟩⟩;rcases q with⟨k,_⟩|⟨_,c,e,z⟩
    ·have k':X.env.scope.names.lookup y=s? .local:=k
     rw[k']at hk;rcases hk with hk|hk<;>cases hk
    ·obtain⟨c',e'⟩:=WC.mp (sH (env:=X.env) (cs:=[]) (.inl (Wy hy)))
     have ec:=sub _ _ e';rw[e]at ec;cases ec;obtain⟨o,ho,hd⟩:=z;exact⟨c,e',o,keep c o ho,hd⟩
 ·obtain⟨v,o,ho,hd⟩:=I.cell y c (sub _ _ e)
  exact⟨v,o,keep c o ho,hd⟩
def G8(X:Cx)(ifs:List Expr)(m:ST):Prop:=∀{pins:bf}{φ:Fr}{g:G}{L:aa}{s:VY}{w:Bool}{L':aa},Inv X pins φ g L s->m φ L=.ok w L' ->
 Wa (model X.prog X.w) X.A (forIn ifs t? λc r=>if r=t? then do let ok <- isTrue c X.env (eval c X.env);pure (YD ok) else pure (YD r)) (TP X pins φ g w L') F0 s
def CV:G8 X [] yes:=λI h=>by cases h;exact wpAny_tests_nil ⟨_,.refl _,I,rfl⟩
def CW(h:PT X k m):G8 X [k] m:=λI q=>wpAny_tests_one (h _ (.inl rfl) I q)
def Tg.slots:Tg->List Nat
 | .one i=>[i]
 | .many is=>is
theorem lY{ψ:Fr}:∀{is:List Nat}{ts:List T}{ψ':Fr},(∀i∈is,ψ[i]?=s? n?)->(ψ'.length=ψ.length/\∀(i:Nat) t,ψ[i]?=s? (s? t)->ψ'[i]?=s? (s? t))->(M.sets is ts ψ').length=ψ.length/\∀(i:Nat) t,ψ[i]?=s? (s? t)->(sets is ts ψ')[i]?=s? (s? t)
 | [],_,_,_,h=>by assumption
 |_::_,[],_,_,h=>by assumption
 |j::is,t0::ts,ψ',hi,h=>by
  unfold sets;refine lY (λi m=>hi i (VK _ m)) ⟨⇑h.1,λi t e=>?_⟩;rw[Zw]
  ·exact h.2 i t e
  ·rintro rfl
   rw[hi j VL]at e;cases e
def CX{tg:Tg}(hi:∀i∈tg.slots,ψ[i]?=s? n?)(h:tg.set t ψ=s? ψ1):ψ.length=ψ1.length/\∀(i:Nat) t,ψ[i]?=s? (s? t)->ψ1[i]?=s? (s? t):=by
 cases tg with
 |one j=>
  cases h;have z:=lY (is:=[j]) (ts:=[t]) hi ⟨rfl,λ_ _ e=>e⟩
  exact⟨z.1.symm,z.2⟩
 |many is=>
  cases t with
  |tup ts=>
   have h':(if ts.length=is.length then s? (sets is ts ψ) else n?)=s? ψ1:=h;split at h'
   ·cases h'
    have z:=lY (ts:=ts) hi ⟨rfl,λ_ _ e=>e⟩;exact⟨z.1.symm,z.2⟩
   ·cases h'
  |_=>cases h
theorem pW{tg iter elt:Expr}{ifs:List Expr}{scope:Scope}{N:List Str}{aZ:List (Option Nat)}{mi:SI}{t:Tg}{mt:ST}{use:Option (VT->Sem Unit)}{QQ:VT->VY->Prop}{k:aa->Prop}{ys:List T}
  (ok:nS X scope N aZ) (G9:∀i∈t.slots,aZ[i]?=s? n?) (hi:PI X tg iter mi) (hg:∀cl C s₀ H₀ ex,PG (dj X scope cl N C s₀ H₀ ex) tg t)
  (ht:∀cl C s₀ H₀ ex,G8 (dj X scope cl N C s₀ H₀ ex) ifs mt) (he:∀cl C s₀ H₀ ex,PE (dj X scope cl N C s₀ H₀ ex) elt me) (hs:jY iter=t?)
  (I:Inv X pins φ g L s) (h1:mi φ L=.ok (xs,k) L1) (h2:compLoop k t mt me (inner aZ φ) xs [] L1=.ok ys L2)
  (fin:∀(D C:Wr)(g':G)(s':VY)(m:Str->Option VT)(us:List VT)(n:Nat),Le g g'->Inv X pins φ g' L2 s'->cL g' ys us->ys.length<=Wf->s'.heap.get? D=s? {cls:=.type "list",data:=.seq us.toArray n}->gW X pins g'.H D->D≠C->s'.heap.Ns C m->gW X pins g'.H C->compPost (model X.prog X.w) X.A F0 use QQ (.ref D) C (.ok .next) s'):
  Wa (model X.prog X.w) X.A (comprehension (.ListComp elt [⟨tg,iter,ifs,0⟩] scope pos) scope X.env p (newList []) f? (eval iter X.env) use) QQ F0 s:=by
 have wi:∀z∈scope.names,z.2=.free->(X.env.cells.lookup z.1).isSome=t?:=λz hz CU=>by
  obtain⟨c,e⟩:=I.ok.has z.1 (ok.frees z hz CU);rw[e];rfl
 refine wpAny_comprehension_free (cl:=bh X.env scope.names []) (use:=use) rfl (wh hs) (uP wi) ok.kind ok.locs (thn (hi I h1) λv s1 h1=>thn h1 λOR s2 br=>?_);refine M.gK λ_ n9=>?_
 obtain⟨it,fp,tn,g2,e,l2,I2,T,pE,f2⟩:=br;refine n9 ?_;clear n9;subst e;refine wpAny_newObj_type (wpAny_newFunctionEnv ok.nT ⋯ (λh₁ Ha Hb=>?_) ok.kind);dsimp only at Ha Hb ⊢;have K1:∀b∈fp,b<s2.heap.objs.size:=λb hb=>by
  obtain⟨o,e,_⟩:=T.obj 0 _ pE b hb;exact V5 e
 generalize hD:s2.heap.objs.size=D at K1 ⊢;have fD:gW X pins g2.H D:=I2.qx (Zm hD) (I2.hok.fresh (Zm hD))
 have hsz:(s2.heap.push {cls:=.type "list",dict:=n?,data:=.seq ([]:List VT).toArray}).objs.size=D+1:=by simp_all
 have I3:Inv X pins φ g2 L1 {s2 with heap:=s2.heap.push {cls:=.type "list",dict:=n?,data:=.seq ([]:List VT).toArray}}:=I2.kept (t':=s2.toks) λb u e=>VJ _ e
 have KZ:tn 0 (s2.heap.push {cls:=.type "list",dict:=n?,data:=.seq ([]:List VT).toArray}):=T.keep _ _ _ pE λb _ o e=>VJ _ e
 have Rt:(s2.heap.push {cls:=.type "list",dict:=n?,data:=.seq ([]:List VT).toArray}).get? D=s? {cls:=.type "list",data:=.seq ([]:List VT).toArray}:=by rw[<- hD];exact VO _ rfl
 generalize Vk:s2.heap.push {cls:=.type "list",dict:=n?,data:=.seq ([]:List VT).toArray}=h3 at Ha Hb hsz I3 KZ Rt ⊢;have fx:∀b∈D::fp,gW X pins g2.H b:=λb hb=>(Wt.mp hb).elim (λz=>by rw[z];exact fD) (f2 b)
 have K2:∀b∈D::fp,b<h3.objs.size:=λb hb=>by
  grind
 have keep:∀b o,h3.get? b=s? o->h₁.get? b=s? o:=λb o e=>Hb.extBut b o (Wm (V5 e)) (VJ _ e)
 have I4:=uQ (s3:={s2 with heap:=h3}) (ex:=D::fp) (tk:=s2.toks+([]:List (Str × VT)).length) ok I3 fx K2 Ha keep;have Ru:tn 0 h₁:=T.keep _ _ _ KZ λb _ o e=>keep b o e
 generalize Cr:dj X scope (bh X.env scope.names []) N ({s2 with heap:=h3}:VY).heap.objs.size {s2 with heap:=h3} g2.H (D::fp)=X' at I4;have eA:X'.A=X.A:=by rw[<- Cr]<;>rfl
 have eP:X'.prog=X.prog:=by rw[<- Cr]<;>rfl
 have ew:X'.w=X.w:=by rw[<- Cr]<;>rfl
 have ee:X'.env=compEnvC scope (bh X.env scope.names []) h3.objs.size X.env:=by rw[<- Cr]<;>rfl
 have hG':PG X' tg t:=by rw[<- Cr];exact hg _ _ _ _ _
 have hT':G8 X' ifs mt:=by rw[<- Cr];exact ht _ _ _ _ _
 have hE':PE X' elt me:=by rw[<- Cr];exact he _ _ _ _ _
 have xR:∀{H':Hp}{b:Wr},b∈D::fp->H' b=n?->gW X' [] H' b:=λ{H' b}hb hn=>by
  refine⟨hn,?_,.inl ?_,λy c e=>?_,λp hp=>by simp at hp⟩
  ·rw[ee];exact Wm (K2 b hb)
  ·rw[<- Cr];exact hb
  ·have e':(bh X.env scope.names []).lookup y=s? c:=by rw[ee]at e;exact e
   exact(fx b hb).2.2.2.1 y c (sG wi (λ_ _ q=>by simp at q) e')
 have SH:D∉fp:=λz=>Xf _ (K1 D z)
 have leave:∀{ψ:Fr}{g':G}{s':VY}{us:List VT}{n:Nat},Le g2 g'->Inv X' [] ψ g' L2 s'->cL g' ys us->ys.length<=Wf->s'.heap.get? D=s? {cls:=.type "list",data:=.seq us.toArray n}->g'.H D=n?->compPost (model X.prog X.w) X.A F0 use QQ (.ref D) h3.objs.size (.ok .next) s':=λ{ψ g' s' us n}l J r hz hd hn=>by
  have un:Un (D::fp) g2.H g'.H h3 s'.heap:=by have z:=J.base;rw[<- Cr]at z;exact z
  have CY:s'.os=s2.os:=by have z:=J.os;rw[<- Cr]at z;exact z
  have Jx:=Inv.call (s:={s2 with heap:=h3}) (s':=s') (ch:=D::fp) I3 l CY un J.hok J.bare J.rel λb hb=>⟨(fx b hb).2.2.1,(fx b hb).2.1,(fx b hb).2.2.2⟩
  obtain⟨m,uB,_⟩:=J.loc;have hn':s'.heap.Ns h3.objs.size m:=by rw[ee]at uB;exact uB
  have CU:g'.H h3.objs.size=n?:=by have z:=J.free;rw[ee]at z;exact z
  exact fin D _ g' s' m us n (l2.trans l) Jx r hz hd ⟨hn,fD.2⟩ (Wm ⇑0) hn' (I3.qx (V3 _) CU)
 have loop:∀s₃:VY,s₃={s2 with heap:=h₁,toks:=s2.toks+([]:List (Str × VT)).length} ->
   codeAny (model X.prog X.w) X.A (.compLoop (.ListComp elt [⟨tg,iter,ifs,0⟩] scope pos) 0 (.ref it) (.ref D) (compEnvC scope (bh X.env scope.names []) h3.objs.size X.env)) (compPost (model X.prog X.w) X.A F0 use QQ (.ref D) h3.objs.size) s₃:=by
  rintro s₃ rfl;have K3:∀{ψ:Fr}{g':G}{L':aa}{s':VY}{o:Obj},Inv X' [] ψ g' L' s'->s'.heap.get? D=s? o->g'.H D=n?->(∀v,o.data≠.cell v)->Inv X' [(D,o)] ψ g' L' s':=λ{ψ g' L' s' o}J e n d=>J.jx λp hp=>by
   have z:p=(D,o):=by simpa using hp
   subst z;exact⟨e,n,(xR VL n).2.1,d⟩
  refine qC (λn s'=>∃i acc us nn g' L',n=xs.length - i/\i<=xs.length/\Le g2 g'/\Inv X' [(D,{cls:=.type "list",data:=.seq (us:List VT).toArray nn})] (inner aZ φ) g' L' s'/\tn i s'.heap/\(∀b∈fp,g'.H b=n?)/\cL g' acc us/\acc.length<=Wf /\
   compLoop k t mt me (inner aZ φ) (xs.drop i) acc L'=.ok ys L2) ?_ xs.length ⟨0,[],[],0,g2,L1,rfl,Wg _,.refl g2,K3 I4 (keep D _ Rt) fD.1 (λv z=>nomatch z),Ru,λb hb=>(f2 b hb).1,.nil,Wg _,h2⟩
  intro n s' hj;refine gK λG n9=>?_
  obtain⟨i,acc,us,nn,g3,L3,en,hi,l3,J,gg,Rw,ra,hz,eq⟩:=hj;refine n9 ?_;clear n9 G;subst en;have O1:∀{H':Hp}{o:Obj},(∀b∈fp,H' b=n?)->∀b∈fp,gW X' [(D,o)] H' b:=λ{H' o}hn b hb=>by
   have z:=xR (VK _ hb) (hn b hb);refine⟨z.1,z.2.1,z.2.2.1,z.2.2.2.1,λp hp e=>?_⟩;simp_all
  by_cases cM:i<xs.length
  ·rw[Wz cM]at eq
   unfold compLoop at eq;split at eq
   ·rename_i hk
    obtain⟨hk,Vl⟩:=hk;have z:=T.item eP ew (E:=F0) l3 J (O1 Rw) gg hk (Ge9 cM)
    rw[eA]at z;refine wpAny_mono z (λr s4⟨u,hr,h4⟩=>?_) λ_ _ z=>z
    subst hr;refine wpAny_mono h4 (λ_ s5⟨g5,l5,J5,r5,G6,OZ⟩=>?_) λ_ _ z=>z
    have SJ:=J5.pinned (O1 OZ) (T.obj _ _ G6);cases ef:t.set xs[i] (inner aZ φ) with
    |none=>simp_all
    |some ψ1=>
     simp only[ef]at eq;have wk:=CX (λi hi=>by show(aZ.map _)[i]?=_;simp_all) ef
     have zg:=hG' SJ r5 ef;rw[eP,ew,eA,ee]at zg;refine thn zg λ_ s6 J6=>?_
     obtain⟨b,L7,e7,eq⟩:=R.of eq;have zt:=hT' J6 e7
     rw[eP,ew,eA,ee]at zt;refine thn zt λb' s7⟨g7,l7,J7,e⟩=>?_
     subst e;have again:∀{g8:G}{L8:aa}{s8:VY}{m9:List M.T}{us':List VT}{n':Nat},Le g7 g8->Inv X' [] ψ1 g8 L8 s8->(∀b∈fp,∀o,s5.heap.get? b=s? o->s8.heap.get? b=s? o/\g8.H b=n?)->s8.heap.get? D=s? {cls:=.type "list",data:=.seq us'.toArray n'}->g8.H D=n?->cL g8 m9 us'->m9.length<=Wf ->
       compLoop k t mt me (inner aZ φ) (xs.drop (i+1)) m9 L8=.ok ys L2->∃m,m<xs.length - i/\∃j acc us nn g' L',m=xs.length - j/\j<=xs.length/\Le g2 g'/\Inv X' [(D,{cls:=.type "list",data:=.seq (us:List VT).toArray nn})] (inner aZ φ) g' L' s8/\tn j s8.heap/\(∀b∈fp,g'.H b=n?)/\cL g' acc us/\acc.length<=Wf/\compLoop k t mt me (inner aZ φ) (xs.drop j) acc L'=.ok ys L2:=λ{g8 L8 s8 m9 us' n'}l8 J8 kf hd hn SK hz' SM=>
      ⟨xs.length - (i+1),⇑0,i+1,m9,us',n',g8,L8,rfl,cM,((l3.trans l5).trans l7).trans l8,K3 (J8.weak wk.1 wk.2) hd hn (λv z=>nomatch z),T.keep _ _ _ G6 λb hb o e=>(kf b (hb.resolve_right (Nat.succ_ne_zero _)) o e).1,λb hb=>(let ⟨o,e,_⟩:=T.obj _ _ G6 b hb;(kf b hb o e).2),SK,hz',SM⟩
     have pk:∀{g8:G}{L8:aa}{s8:VY},Inv X' ([(D,{cls:=.type "list",data:=.seq us.toArray nn})]++fp.filterMap λb=>(s5.heap.get? b).map λo=>(b,o)) ψ1 g8 L8 s8->∀b∈fp,∀o,s5.heap.get? b=s? o->s8.heap.get? b=s? o/\g8.H b=n?:=λJ8 b hb o e=>
      let z:=J8.pin (b,o) (V6 _ (jX hb e));⟨z.1,z.2.1⟩
     cases b' with
     |false=>
      obtain⟨d1,d2,_⟩:=J7.pin (D,_) (V2 _ VL);exact again (.refl g7) (J7.jx λp hp=>by simp at hp) (pk J7) d1 d2 (ra.le ((l5).trans l7)) hz eq
     |true=>
      obtain⟨y,L8,e8,eq⟩:=R.of eq;have ze:=hE' J7 e8
      rw[eP,ew,eA,ee]at ze;refine thn ze λyv s8⟨g8,l8,J8,r8⟩=>?_
      obtain⟨d1,d2,_⟩:=J8.pin (D,_) (V2 _ VL);have lu:=V9 ra
      refine call_meets Zx ⟨_,d1,rfl⟩ F.entry_list_append (F.args_list_append_2 _ _) (PySem.list_append D us.toArray nn yv (by(simp;omega))) ⟨d1,?_⟩;have q:=abB d1 (λx=>x.push yv)
      have ot:∀b,b≠D->(s8.heap.update D (XX λx=>x.push yv)).get? b=s8.heap.get? b:=λb hb=>Xv s8.heap _ (YA hb)
      have J9:Inv X' [] ψ1 g8 L8 {s8 with heap:=s8.heap.update D (XX λx=>x.push yv)}:=(J8.jx (pins':=[]) λp hp=>by simp at hp).turned (t':=s8.toks) (ch:=[D]) (λb o hb e=>(ot b ⇑hb).trans e) λb hb=>by
       grind
      refine again (us':=us++[yv]) l8 J9 (λb hb o e=>?_) ⇑q d2 (Paired.snoc (ra.le ((l5.trans l7).trans l8)) r8) (by simp;assumption) eq;grind
   ·cases eq
  ·have ei:i=xs.length:=by omega
   rw[Yv ⇑0]at eq;unfold compLoop at eq;split at eq
   ·rename_i hk
    cases eq;have z:=T.done eP ew (E:=F0) l3 J (O1 Rw) gg hk ei
    rw[eA]at z;refine wpAny_mono z (λr s4⟨hr,J4⟩=>?_) λ_ _ z=>z
    subst hr;obtain⟨d1,d2,_⟩:=J4.pin (D,_) VL;exact leave l3 (J4.jx λp hp=>by simp at hp) ra hz d1 d2
   ·cases eq
 exact codeAny_compStart_list (loop _ rfl) (T.self _ 0 _ _ _ Ru (loop _ rfl))
def sJ(I:Inv X pins φ g L s)(r:cL g ys us)(hz:ys.length<=Wf)(hd:s.heap.get? D=s? {cls:=.type "list",data:=.seq us.toArray n})(f:gW X pins g.H D)(h:mk fz (.lst ys) L=.ok w L'):∃g',Le g g'/\Inv X pins φ g' L' s/\RT g' n? w (.ref D)/\∀b,b≠D->g'.H b=g.H b:=by
 unfold mk at h;split at h
 ·cases h
  exact⟨_,Le.lay f.1,I.K0 f hd,r.lst (o:=default) (Le.lay f.1) (.inl rfl) (.inl av) hz,λb hb=>aB hb⟩
 ·cases h
  refine⟨_,Le.new f.1,I.G7 f hd (r.lst (o:=default) (Le.new f.1) (.inr rfl) (.inl av) hz),?_,λb hb=>aB hb⟩;have:=I.rel.len
  exact .ref (p:=(D,D)) (by show at_ ((_,_)::g.α) _=_;rw[<- this];exact cY)
theorem wj{fz:Bool}{tg iter elt:Expr}{ifs:List Expr}{scope:Scope}{N:List Str}{aZ:List (Option Nat)}{mi:SI}{t:Tg}{mt:ST}{me:SE}{pos:Pos}
  (ok:nS X scope N aZ) (G9:∀i∈t.slots,aZ[i]?=s? n?) (hi:PI X tg iter mi) (hg:∀cl C s₀ H₀ ex,PG (dj X scope cl N C s₀ H₀ ex) tg t)
  (ht:∀cl C s₀ H₀ ex,G8 (dj X scope cl N C s₀ H₀ ex) ifs mt) (he:∀cl C s₀ H₀ ex,PE (dj X scope cl N C s₀ H₀ ex) elt me) (hs:jY iter=t?):PE X (.ListComp elt [⟨tg,iter,ifs,0⟩] scope pos) (comp fz mi aZ t mt me):=λI h=>by
 obtain⟨⟨xs,k⟩,L1,e1,h⟩:=R.of h;obtain⟨ys,L2,e2,h⟩:=R.of h;rw[eval_ListComp];refine pW (use:=n?) ok G9 hi hg ht he hs I e1 e2 λD C g' s' m us n l J r hz hd fD hne hn fC=>⟨m,hn,λh' sb=>?_⟩
 have J':=J.turned (t':=s'.toks) (h':=h') (ch:=[C]) (λb o hb e=>(sb.2 b ⇑hb).trans e) λb hb=>by
  simp_all
 obtain⟨g2,l2,J2,r2,_⟩:=sJ J' r hz ((sb.2 D hne).trans hd) fD h;exact⟨g2,l.trans l2,J2,r2⟩
theorem CZ{i:Nat}{y:Str}{py Hc:Pos}{fz:Bool}{tg iter elt:Expr}{ifs:List Expr}{scope:Scope}{N:List Str}{aZ:List (Option Nat)}{mi:SI}{t:Tg}{mt:ST}{me:SE}{pos:Pos}(S:uL X i y)
  (ok:nS X scope N aZ) (G9:∀i∈t.slots,aZ[i]?=s? n?) (hi:PI X tg iter mi) (hg:∀cl C s₀ H₀ ex,PG (dj X scope cl N C s₀ H₀ ex) tg t)
  (ht:∀cl C s₀ H₀ ex,G8 (dj X scope cl N C s₀ H₀ ex) ifs mt) (he:∀cl C s₀ H₀ ex,PE (dj X scope cl N C s₀ H₀ ex) elt me) (hs:jY iter=t?):
  PS X (.Assign [.Name y py] (.ListComp elt [⟨tg,iter,ifs,0⟩] scope pos) Hc) (asg (.one i) (comp fz mi aZ t mt me)):=λ{pins φ g L s}I h=>by
 cases hb:(X.env.blockKind == .function && X.env.kindOf y==s? .local && py.line==pos.line && !(scope.names.any λ(n,k)=>n==y && (k == .local || k == .cell))) with
 |false=>
  have hsw:swapsWith (.ListComp elt [⟨tg,iter,ifs,0⟩] scope pos) (s? (.Name y py)) Hc.line X.env=pure f?:=by
   show(pure _:Sem Bool)=pure f?;rw[<- hb];rfl
  exact uM (wj ok G9 hi hg ht he hs) (nu S) hsw rfl rfl I h
 |true=>
  have hsw:swapsWith (.ListComp elt [⟨tg,iter,ifs,0⟩] scope pos) (s? (.Name y py)) Hc.line X.env=pure t?:=by
   show(pure _:Sem Bool)=pure t?;rw[<- hb];rfl
  obtain⟨v,L3,e0,e2,h⟩:=iW h;rw[show asg (.one i) (comp fz mi aZ t mt me) φ L=.nx (φ.set i (s? v)) L3 from e2];obtain⟨⟨xs,k⟩,L1,e1,e0⟩:=R.of e0;obtain⟨ys,L2,e3,e0⟩:=R.of e0;rw[exec_Assign_Name_used _ _ _ _ hsw];refine VI (wpAny_standAt (VI ?_));show Wa _ X.A (do let _ <- comprehension (.ListComp elt [⟨tg,iter,ifs,0⟩] scope pos) scope X.env _ (newList []) f? (eval iter X.env) (s? (assign (.Name y py) X.env))) _ _ s
  refine VI (wpAny_mono (pW (QQ:=λ_ s'=>SP X pins g (.nx (φ.set i (s? v)) L3) .next s') (use:=s? (assign (.Name y py) X.env)) ok G9 hi hg ht he hs I e1 e3 λD C g' s' m us n l J r hz hd fD hne hn fC=>?_) (λ_ s' hq=>VM (VM hq)) λ_ _ e=>e);obtain⟨g2,l2,J2,r2,kp⟩:=sJ J r hz hd fD e0;have Vm:gW X pins g2.H C:=⟨(kp C (YA hne)).trans fC.1,fC.2⟩
  refine wpAny_assign_Name (nQ J2 S r2 λs2 I2 SN=>?_);obtain⟨a,sb,ha⟩:=SN;have O2:C≠a:=by
   rcases ha with rfl|e
   ·exact fC.2.1
   ·exact λz=>fC.2.2.2.1 y a e z.symm
  exact⟨m,hn.sameBut sb O2,λVn SO=>⟨g2,l.trans l2,I2.turned (t':=s2.toks) (ch:=[C]) (λb o hb e=>(SO.2 b ⇑hb).trans e) λb hb=>by
   simp_all⟩⟩
end
def jz:∀{xs:List T},eR n xs=t?↔∀(i:Nat) x,xs[i]?=s? x->lt n x=t?:=by
 intro l9;induction l9 with
 |nil=>simp[eR]
 |cons x xs ih=>
  rw[eR,VW,ih];constructor
  ·rintro⟨h1,h2⟩ i y e
   cases i with
   |zero=>simp at e;subst e;exact h1
   |succ i=>exact h2 i y ⇑e
  ·exact λh=>⟨h 0 x rfl,λi y e=>h (i+1) y ‹_›⟩
def qD:∀{xs:List (T × T)},yO n xs=t?↔∀(i:Nat) x,xs[i]?=s? x->lt n x.1=t?/\lt n x.2=t?:=by
 intro l9;induction l9 with
 |nil=>simp[yO]
 |cons y9 xs ih=>
  obtain⟨a,b⟩:=y9;rw[yO,VW,VW,ih];constructor
  ·rintro⟨h1,h2⟩ i y e
   cases i with
   |zero=>simp at e;subst e;exact h1
   |succ i=>exact h2 i y ⇑e
  ·exact λh=>⟨h 0 _ rfl,λi y e=>h (i+1) y ‹_›⟩
def Hd:∀{xs:List (Str × T)},jW n xs=t?->∀f x,xs.lookup f=s? x->lt n x=t?:=by
 intro l9;induction l9 with
 |nil=>intro _ f x e;simp at e
 |cons y9 xs ih=>
  intro h f x e;obtain⟨a,b⟩:=y9;rw[jW,VW]at h;rw[WI]at e;split at e
  ·cases e;exact h.1
  ·exact ih h.2 f x e
def RT.re{g' dh:G}{n0:Nat}(hr:∀n p,n<n0->at_ g'.α n=s? p->at_ dh.α n=s? p)(pG:∀a o,g'.kn t? a o->dh.kn t? a o)(hm:dh.cls=g'.cls)(hw:dh.w=g'.w){p:Option (Wr × Wr)}{t:T}{v:VT}(h:RT g' p t v):
  ∀{q:Option (Wr × Wr)},lt n0 t=t?->(p=n?->q=n?)->(∀a d b o,uK p a d->(b=a\/b=d)->g'.kn p.isNone b o->uK q a d/\dh.kn q.isNone b o)->RT dh q t v:=by
 have k0:∀a d b o,uK n? a d->(b=a\/b=d)->g'.kn (n?:Option (Wr × Wr)).isNone b o->uK n? a d/\dh.kn (n?:Option (Wr × Wr)).isNone b o:=λa d b o _ _ k=>⟨.inl rfl,pG b o k⟩
 induction h with
 |aY=>intro q _ hp _;rw[hp rfl];exact .aY
 |bl b=>intro q _ hp _;rw[hp rfl];exact .bl b
 |int i t=>intro q _ hp _;rw[hp rfl];exact .int i t
 |str s t h=>intro q _ hp _;rw[hp rfl];exact .str s t h
 |ty n=>intro q _ hp _;rw[hp rfl];exact .ty n
 |own h=>intro q _ hp _;rw[hp rfl];exact .own (by rw[hm];exact h)
 |ref h=>intro q hl hp _;rw[hp rfl];exact .ref (hr _ _ (by rw[lt]at hl;simp_all) h)
 |tup hk hc hd hz hl hi ih=>
  intro q cM hp hk';rw[hp rfl];rw[lt]at cM;exact .tup (pG _ _ hk) hc hd hz hl λi x v e1 e2=>ih i x v e1 e2 (jz.mp cM i x e1) (λ_=>rfl) k0
 |lst ht hk hz hl hi ih=>
  intro q cM hp hk';have z:=hk' _ _ _ _ ht (.inl rfl) hk
  rw[lt]at cM;exact .lst z.1 z.2 hz hl λi x v e1 e2=>ih i x v e1 e2 (jz.mp cM i x e1) (λ_=>rfl) k0
 |ay ht hk hx hd hz hl hn hs hh h1 h2 i1 i2=>
  intro q cM hp hk';have z:=hk' _ _ _ _ ht (.inl rfl) hk
  rw[lt]at cM;exact .ay z.1 z.2 hx hd hz hl hn hs (by rw[hw];exact hh) (λi x v e1 e2=>i1 i x v e1 e2 (qD.mp cM i x e1).1 (λ_=>rfl) k0) λi x v e1 e2=>i2 i x v e1 e2 (qD.mp cM i x e1).2 (λ_=>rfl) k0
 |obj ht hne hc hk lR hd hs hu hz hn hl hi ih=>
  intro q cM hp hk';have z:=hk' _ _ _ _ ht (.inl rfl) hk
  have z2:=hk' _ _ _ _ ht (.inr rfl) lR;rw[lt]at cM;exact .obj z.1 hne (by rw[hm];exact hc) z.2 z2.2 hd hs hu hz hn hl λf x v e1 e2=>ih f x v e1 e2 (Hd cM f x e1) (λ_=>rfl) k0
def C0:∀{xs:List (Str × T)},(∀p∈xs,lt n p.2=t?)->jW n xs=t?:=by
 intro l9;induction l9 with
 |nil=>intro _;exact rfl
 |cons y9 xs ih=>
  intro h;obtain⟨a,b⟩:=y9;rw[jW,h _ VL,ih λp hp=>h p (VK _ hp)];rfl
def kE{α β:Type}{f:α->Option β}:∀{xs:List α}{ys:List β},xs.mapM f=s? ys->xs.length=ys.length/\∀(i:Nat) y,ys[i]?=s? y->∃x,xs[i]?=s? x/\f x=s? y:=by
 intro l9;induction l9 with
 |nil=>intro ys h;simp at h;subst h;exact⟨rfl,λi y e=>by simp at e⟩
 |cons x xs ih=>
  intro ys h;rw[Xj]at h;cases e1:f x with
  |none=>rw[e1]at h;cases h
  |some y=>
   cases e2:xs.mapM f with
   |none=>rw[e1,e2]at h;cases h
   |some zs=>
    rw[e1,e2]at h;cases h;obtain⟨l,a⟩:=ih e2;refine⟨by simp[l],λi z e=>?_⟩;cases i with
    |zero=>simp at e;subst e;exact⟨x,rfl,e1⟩
    |succ i=>exact a i z ⇑e
theorem il{g' dh:G}(hr:∀n p,n<n0->at_ g'.α n=s? p->at_ dh.α n=s? p)(pG:∀a o,g'.kn t? a o->dh.kn t? a o)(hc:∀n c,n0<=n->at_ L' n=s? c->(∀k,bE n0 L' k c=n?)\/∃p,at_ g'.α n=s? p/\RT g' (s? p) c (.ref p.1)/\∀b o,(b=p.1\/b=p.2)->g'.kn f? b o->dh.kn t? b o)(hm:dh.cls=g'.cls)(hw:dh.w=g'.w):
  ∀(k:Nat){p:Option (Wr × Wr)}{t t':T}{v:VT},RT g' p t v->(∀q,p=s? q->∀b o,(b=q.1\/b=q.2)->g'.kn f? b o->dh.kn t? b o)->bE n0 L' k t=s? t'->RT dh n? t' v
 |0,_,_,_,_,_,_,e=>by cases e
 |k+1,p,t,t',v,h,hp,e=>by
  have kn:∀a d b o,uK p a d->(b=a\/b=d)->g'.kn p.isNone b o->uK n? a d/\dh.kn (n?:Option (Wr × Wr)).isNone b o:=λa d b o ht hb hk=>by
   refine⟨.inl rfl,?_⟩;rcases ht with rfl|rfl
   ·exact pG b o hk
   ·exact hp _ rfl b o hb hk
  unfold bE at e;split at e
  ·rename_i hl
   cases e;exact h.re hr pG hm hw hl (λ_=>rfl) kn
  ·rename_i cM
   have Oc:∀q:Wr × Wr,(n?:Option (Wr × Wr))=s? q->∀b o,(b=q.1\/b=q.2)->g'.kn f? b o->dh.kn t? b o:=λq z=>by cases z
   cases h with
   |aY=>cases e
   |bl b=>cases e
   |int i t=>cases e
   |str s t h=>cases e
   |ty n=>cases e
   |own h=>cases e
   |ref h=>
    rename_i n p;have hn:n0<=n:=Nat.le_of_not_lt λz=>cM (by rw[lt];exact decide_eq_true z)
    cases ec:at_ L' n with
    |none=>simp only[ec]at e;cases e
    |some c=>
     simp only[ec]at e;rcases hc n c hn ec with z|⟨q,h1,h2,h3⟩
     ·rw[z]at e;cases e
     ·rw[h]at h1;cases h1
      exact il hr pG hc hm hw k h2 (λq z=>by cases z;exact h3) e
   |tup hk Kf hd hz hl hi=>
    obtain⟨ys,e1,rfl⟩:=V7.mp e;obtain⟨len,at'⟩:=kE e1;exact .tup (pG _ _ hk) Kf hd ⇑0 ⇑0 λi y v q1 q2=>let ⟨x,x1,x2⟩:=at' i y q1;il hr pG hc hm hw k (hi i x v x1 q2) Oc x2
   |lst ht hk hz hl hi=>
    obtain⟨ys,e1,rfl⟩:=V7.mp e;obtain⟨len,at'⟩:=kE e1;have z:=kn _ _ _ _ ht (.inl rfl) hk
    exact .lst z.1 z.2 ⇑0 ⇑0 λi y v q1 q2=>let ⟨x,x1,x2⟩:=at' i y q1;il hr pG hc hm hw k (hi i x v x1 q2) Oc x2
   |ay ht hk hx hd hz hl hn hs hh h1 h2=>
    rename_i a o es nn ks;obtain⟨ys,e1,rfl⟩:=V7.mp e;obtain⟨len,at'⟩:=kE e1;have z:=kn _ _ _ _ ht (.inl rfl) hk
    have at2:∀(i:Nat) y,ys[i]?=s? y->∃x,ks[i]?=s? x/\lt n0 x.1=t?/\x.1=y.1/\bE n0 L' k x.2=s? y.2:=λi y q=>by
     obtain⟨x,x1,x2⟩:=at' i y q;split at x2
     ·rename_i SQ
      obtain⟨z,z1,rfl⟩:=V7.mp x2;exact⟨x,x1,SQ,rfl,z1⟩
     ·cases x2
    refine .ay z.1 z.2 hx hd ⇑0 ⇑0 ?_ hs (λi y v q1 q2=>?_) (λi y v q1 q2=>?_) λi y v q1 q2=>?_
    ·have:ys.map (·.1)=ks.map (·.1):=List.ext_getElem? λi=>by
      rw[Wx,Wx];cases q:ys[i]? with
      |none=>rw[aaL (by rw[len];exact Z3.mp q)]
      |some y=>obtain⟨x,x1,_,x3,_⟩:=at2 i y q;rw[x1];show s? y.1=s? x.1;rw[x3]
     rw[this];exact hn
    ·obtain⟨x,x1,_,x3,_⟩:=at2 i y q1;rw[hw,<- x3];exact hh i x v x1 q2
    ·obtain⟨x,x1,x2,x3,_⟩:=at2 i y q1
     rw[<- x3];exact(h1 i x v x1 q2).re hr pG hm hw x2 (λ_=>rfl) λa d b o _ _ k=>⟨.inl rfl,pG b o k⟩
    ·obtain⟨x,x1,_,_,x4⟩:=at2 i y q1;exact il hr pG hc hm hw k (h2 i x v x1 q2) Oc x4
   |obj ht hne Kf hk lR hd hs hu hz hn hl hi=>
    rename_i a d C od es nn cn fs;obtain⟨ys,e1,rfl⟩:=V7.mp e;obtain⟨len,at'⟩:=kE e1;have z:=kn _ _ _ _ ht (.inl rfl) hk
    have z2:=kn _ _ _ _ ht (.inr rfl) lR;have lk:∀(fs ys:List (Str × T)),fs.length=ys.length->(∀(i:Nat) y,ys[i]?=s? y->∃x,fs[i]?=s? x/\x.1=y.1/\bE n0 L' k x.2=s? y.2)->∀f,(∀y,ys.lookup f=s? y->∃x,fs.lookup f=s? x/\bE n0 L' k x=s? y)/\(ys.lookup f).isSome=(fs.lookup f).isSome:=λfs=>by
     induction fs with
     |nil=>intro ys hl _ f;cases ys with
      |nil=>exact⟨λy e=>by simp at e,rfl⟩
      |cons _ _=>simp at hl
     |cons x fs ih=>
      intro ys hl h f;cases ys with
      |nil=>simp at hl
      |cons y ys=>
       obtain⟨x',q1,q2,q3⟩:=h 0 y rfl;simp at q1;subst q1;have r:=ih ys ⇑hl (λi y e=>by simpa using h (i+1) y ‹_›) f
       obtain⟨xa,xb⟩:=x;obtain⟨ya,yb⟩:=y;have q2:xa=ya:=q2
       subst q2;rw[WI,WI];cases f==xa with
       |true=>exact⟨λy e=>⟨xb,rfl,by cases e;exact q3⟩,rfl⟩
       |false=>exact r
    have at2:=lk _ ys len λi y q=>by
     obtain⟨x,x1,x2⟩:=at' i y q;obtain⟨z,z1,rfl⟩:=V7.mp x2;exact⟨x,x1,rfl,z1⟩
    have names:ys.map (·.1)=fs.map (·.1):=List.ext_getElem? λi=>by
     rw[Wx,Wx];cases q:ys[i]? with
     |none=>rw[aaL (by rw[len];exact Z3.mp q)]
     |some y=>
      obtain⟨x,x1,x2⟩:=at' i y q;obtain⟨z,z1,rfl⟩:=V7.mp x2;rw[x1];rfl
    exact .obj z.1 hne (by rw[hm];exact Kf) z.2 z2.2 hd hs hu ⇑0 (by rw[names];exact hn) (λf=>by rw[(at2 f).2];exact hl f) λf y v q1 q2=>let ⟨x,x1,x2⟩:=(at2 f).1 y q1;il hr pG hc hm hw k (hi f x v x1 q2) Oc x2
def He{g' dh:G}{n0:Nat}{L':aa}(hr:∀n p,n<n0->at_ g'.α n=s? p->at_ dh.α n=s? p)(pG:∀a o,g'.kn t? a o->dh.kn t? a o)(lX:∀n p b o,n0<=n->at_ g'.α n=s? p->(b=p.1\/b=p.2)->g'.kn f? b o->dh.kn t? b o)(hm:dh.cls=g'.cls)(hw:dh.w=g'.w)(r:Rel g' L')(k:Nat){t t':T}{v:VT}(h:RT g' n? t v)(e:bE n0 L' k t=s? t'):RT dh n? t' v :=
 il hr pG (λn c hn q=>let ⟨p,h1,h2⟩:=r.cells n c q;.inr ⟨p,h1,h2,λb o hb=>lX n p b o hn h1 hb⟩) hm hw k h (λq z=>by cases z) e
def nv:∀{L:List α},n<n0->n0<=L.length->at_ (L.drop (L.length - n0)) n=at_ L n:=by
 intro l9;induction l9 with
 |nil=>intro h1 h2;simp
 |cons c L ih=>
  intro h1 h2;by_cases e:n0=(c::L).length
  ·simp_all
  ·have h3:n0<=L.length:=by simp at h2 e;omega
   have e2:(c::L).length - n0=(L.length - n0)+1:=by simp;omega
   rw[e2,List.drop_succ_cons,ih h1 h3];have z:¬ n=L.length:=by omega
   conv=>rhs;unfold at_;rw[if_neg z]
theorem zo{α:Type}:∀{fs:List (Str × α)}{p:Str × α},(fs.map (·.1)).Nodup->p∈fs->fs.lookup p.1=s? p.2
 | (a,b)::fs,p,hn,hp=>by
  rw[WI];rw[VU,WZ]at hn;rcases Wt.mp hp with rfl|hp
  ·simp
  ·have:(p.1==a)=f?:=by
    grind
   rw[this];exact zo hn.2 hp
theorem RT.lt{g:G}{p:Option (Wr × Wr)}{t:T}{v:VT}(h:RT g p t v):M.lt g.α.length t=t?:=by
 induction h with
 |ref h=>rw[M.lt];exact decide_eq_true (cu h)
 |tup hk hc hd hz hl hi ih=>
  rw[M.lt,jz];intro i x e;have:=(VZ.mp e).1
  exact ih i x _ e (by rw[VX ⇑0])
 |lst ht hk hz hl hi ih=>
  rw[M.lt,jz];intro i x e;have:=(VZ.mp e).1
  exact ih i x _ e (by rw[VX ⇑0])
 |ay ht hk hx hd hz hl hn hs hh h1 h2 i1 i2=>
  rw[M.lt,qD];intro i x e;have:=(VZ.mp e).1
  exact⟨i1 i x _ e (by rw[VX ⇑0]),i2 i x _ e (by rw[VX ⇑0])⟩
 |obj ht hne hc hk lR hd hs hu hz hn hl hi ih=>
  rw[M.lt];refine C0 λq hq=>?_
  have e:=zo hn hq;obtain⟨v,ev⟩:=WC.mp ((hl q.1).symm.trans (by rw[e];rfl));exact ih q.1 q.2 v e ev
 |_=>rfl
def Hf(l:Le g g')(r0:Rel g L)(r:Rel g' L')(h:RT g' n? t u)(e:fin L t L'=.ok t' Lo):
  ∃dh,Le g dh/\Rel dh Lo/\RT dh n? t' u/\(∀a b o,dh.H a=s? (b,o)->∃b',g'.H a=s? (b',o))/\(∀a,g'.H a=n?->dh.H a=n?)/\∀a o,g'.H a=s? (t?,o)->dh.H a=s? (t?,o):=by
 classical
 unfold fin at e;split at e
 ·rename_i ho
  have n0:L.length<=L'.length:=by
   cases hn:L.length with
   |zero=>omega
   |succ m=>
    obtain⟨p,hp⟩:=qB (L:=g.α) (n:=m) (by rw[r0.len];omega);have:=cu (l.α _ _ hp)
    rw[r.len]at this;omega
  cases ef:bE L.length L' 9 t with
  |none=>rw[ef]at e;cases e
  |some t1=>
   rw[ef]at e;cases e
   let nw:Wr->Prop:=λa=>∃n p,L.length<=n/\at_ g'.α n=s? p/\(a=p.1\/a=p.2)
   let dh:G:={g' with H:=λa=>if nw a then (g'.H a).map λq=>(t?,q.2) else g'.H a,α:=g'.α.drop (g'.α.length - L.length)}
   have hH:∀a,dh.H a=if nw a then (g'.H a).map λq=>(t?,q.2) else g'.H a:=λ_=>rfl
   have hα:∀n,n<L.length->at_ dh.α n=at_ g'.α n:=λn hn=>nv hn (by rw[r.len];exact n0)
   have bE:∀a o,g'.H a=s? (t?,o)->dh.H a=s? (t?,o):=λa o q=>by
    rw[hH];split
    ·rw[q];rfl
    ·exact q
   have pG:∀a o,g'.kn t? a o->dh.kn t? a o:=λa o q=>q.elim (λq=>.inl (bE a o q)) .inr
   have lX:∀n p b o,L.length<=n->at_ g'.α n=s? p->(b=p.1\/b=p.2)->g'.kn f? b o->dh.kn t? b o:=λn p b o hn hp hb q=>by
    rcases q with q|⟨z,_⟩
    ·refine .inl ?_
     rw[hH,if_pos ⟨n,p,hn,hp,hb⟩,q];rfl
    ·cases z
   have hr:∀n p,n<L.length->at_ g'.α n=s? p->at_ dh.α n=s? p:=λn p hn hp=>(hα n hn).trans hp
   have zq:∀n p,n<L.length->at_ g'.α n=s? p->¬ nw p.1/\¬ nw p.2:=λn p hn hp=>by
    refine⟨?_,?_⟩ <;>
    ·rintro⟨m,q,hm,hq,hb⟩
     have ap:=r.apart n m p q hp hq ⇑0;simp_all
   refine⟨dh,⟨λa o q=>bE a o (l.f a o q),λn p q=>hr n p (by rw[<- r0.len];exact cu q) (l.α n p q),l.B,l.m,l.w⟩,⟨?_,λn c q=>?_,λn m p q h1 h2=>?_,λn p q=>?_⟩,He hr pG lX rfl rfl r 9 h ef,λa b o q=>?_,λa q=>?_,bE⟩
   ·show(g'.α.drop _).length=_
    rw[WG,WG,r.len]
   ·have hn:n<L.length:=by have:=cu q;rw[WG]at this;omega
    have q':at_ L' n=s? c:=(nv hn n0).symm.trans q
    obtain⟨p,h1,h2⟩:=r.cells n c q';have cM:M.lt L.length c=t?:=by
     rcases ho n c q with z|z
     ·obtain⟨p0,_,z2⟩:=r0.cells n c z
      rw[<- r0.len];exact z2.lt
     omega
    refine⟨p,hr n p hn h1,h2.re hr pG rfl rfl cM (λz=>by cases z) λa d b o ht hb hk=>⟨ht,?_⟩⟩;have no:=zq n p hn h1
    rcases ht with z|z
    ·cases z
    ·cases z
     rcases hk with hk|⟨z,_⟩
     ·refine .inl ?_
      rw[hH,if_neg (by rcases hb with hb|hb<;>rw[hb];exact no.1;exact no.2)];exact hk
     ·cases z
   ·have hn:n<L.length:=by have:=cu h1;rw[WG,r.len]at this;omega
    have hm:m<L.length:=by have:=cu h2;rw[WG,r.len]at this;omega
    exact r.apart n m p q ((hα n hn).symm.trans h1) ((hα m hm).symm.trans h2)
   ·have hn:n<L.length:=by have:=cu q;rw[WG,r.len]at this;omega
    have q':=(hα n hn).symm.trans q;obtain⟨⟨o1,h1⟩,o2,h2⟩:=r.live n p q';have no:=zq n p hn q'
    exact⟨⟨o1,by rw[hH,if_neg no.1];exact h1⟩,o2,by rw[hH,if_neg no.2];exact h2⟩
   ·rw[hH]at q
    split at q
    ·simp_all
    ·exact⟨b,q⟩
   ·rw[hH,q];split<;>rfl
 ·cases e
structure fM(k:Nat)(A:WY):Prop where
 hd:A.handled=n?
 dp:A.depth+3 * k+5<recursionLimit
 un:A.units+16 * k+200<cLine
def fM.mono(r:fM k A)(h:j<=k):fM j A:=⟨r.hd,by have:=r.dp;omega,by have:=r.un;omega⟩
theorem fM.deeper(r:fM (k+1) A)(env:Env):fM k (A.deeper env) :=
 ⟨r.hd,by have:=r.dp;show A.depth+1+3 * k+5<_;omega,by have:=r.un;(simp;omega)⟩
def uR{A:WY}{C:Wr}:(A.under (.builtin "type.__call__" ⟨.ref C::us,kw⟩)).depth=A.depth+1:=by
 rfl
def uS{A:WY}{C:Wr}:(A.under (.builtin "type.__call__" ⟨.ref C::us,kw⟩)).units=A.units+1:=by
 rfl
def fM.make(r:fM (k+1) A)(C:Wr)(us:List VT)(kw:List (Str × VT)):fM k (A.under (.builtin "type.__call__" ⟨.ref C::us,kw⟩)) :=
 ⟨r.hd,by have:=r.dp;rw[uR];omega,by have:=r.un;rw[uS];omega⟩
theorem fM.depth(r:fM k A):A.depth<recursionLimit:=by have:=r.dp;omega
theorem fM.units(r:fM k A):A.units+64<cLine:=by have:=r.un;omega
structure uT(h:Heap)(x dx C:Wr)(mA:Str->Option VT):Prop where
 obj:h.get? x=s? (Wu C dx)
 ns:h.Ns1 dx mA
 ne:dx≠x
def xS{h:Heap}{mA:Str->Option VT}(n:h.Ns1 dx mA):∃od,h.get? dx=s? od/\∀name,Z4 name od=s? (mA name):=by
 obtain⟨o,es,ep,ho,hd,hk,_,hm⟩:=n;refine⟨o,ho,λname=>?_⟩;have e:=hm name
 unfold nsFind findBy at e;rw[<- Array.find?_toList]at e;unfold Z4;rw[hd];dsimp only;split
 ·simp_all
 ·rename_i q
  rw[q]at e;have a:es.toList.any (·.refKey)=f?:=by
   rw[aac];intro y hy;obtain⟨z,t,hkey⟩:=hk y (Array.mem_toList_iff.mp hy);simp[DictEntry.refKey,hkey]
  simp_all
def uT.look(I:uT h x dx C mA):∃od,PySem.W.InstAt h x (Wu C dx) C (s? od)/\∀name,Z4 name od=s? (mA name) :=
 let ⟨od,ho,hl⟩:=xS I.ns
 ⟨od,⟨I.obj,rfl,rfl,ho⟩,hl⟩
section
variable{prog:WU}{w:XQ}{A:WY}{E:VT->VY->Prop}{s:VY}{K:Wl}{x dx C f:Wr}{mA:Str->Option VT}{name:Str}{v:VT}
def get_map(X:K.In s.heap)(I:uT s.heap x dx C mA)(hg:YV K C name=t?)(hh:Zf K C=t?)
  (ha:WN K (.ref C) name=s? n?) (hv:mA name=s? v) (hv':abC v=t?) (h:Q v {s with toks:=s.toks+1}):
  Wa (model prog w) A (getAttr (.ref x) name expr) Q E s:=by
 obtain⟨od,J,hl⟩:=I.look;exact PySem.W.get_value X J (ZJ hg).1 (PySem.W.findObj_own hh ha rfl (by rw[hl,hv])) hv' h
def zr(X:K.In s.heap)(I:uT s.heap x dx C mA)(hg:YV K C name=t?)
  (hf:WN K (.ref C) name=s? (s? (.ref f))) (ht:Yg K (.ref f)=t?) (hv:mA name=n?) (h:Q (.ref f,[.ref x]) s):
  Wa (model prog w) A (getMethod (.ref x) name pl) Q E s:=by
 obtain⟨od,J,hl⟩:=I.look;exact PySem.W.method_fn X J (ZJ hg).1 (ZJ hg).2 hf (beq_iff_eq.mp ht) (by show(Z4 name od).map (·.isSome)=s? f?;rw[hl,hv];rfl) h
def C1(X:K.In s.heap)(I:uT s.heap x dx C mA)
  (hs:WN K (.ref C) "__setattr__"=s? (s? (.builtin "object.__setattr__"))) (hp:aad K C=t?) (ht:aaM K C name=s? n?) (hh:Zf K C=t?)
  (hw:PySem.Within mA ns) (hsz:ns.length<=Wf)
  (h:∀h',uT h' x dx C (λy=>if y=name then s? v else mA y)->XD dx s.heap h'->Q () {s with heap:=h',toks:=s.toks+2}):
  Wa (model prog w) A (setAttr (.ref x) name v) Q E s:=by
 obtain⟨od,J,hl⟩:=I.look;refine PySem.W.set_plain X J hs (PySem.W.osa_open (s:={s with toks:=s.toks+1}) (r:=n?) X J hp ht λb=>?_);obtain⟨cd,hc,hd'⟩:=PySem.W.any_some hh;have hx:s.heap.get? x=s? ⟨.ref C,s? dx,.plain,#[]⟩:=I.obj
 refine VI (VM (VI (VI (wpAny_loadPart hx (VI (PySem.W.Looks.here (s:={s with toks:=s.toks+1}) (PySem.W.looks_clsIn X hc) ?_))))));rw[hd'];refine VM (a:=s? dx) (VI (VM (VI ?_)));refine wpAny_nsSet1 (s:={s with toks:=s.toks+1}) I.ns λh' uB lS=>?_
 obtain⟨oD,Vo,Vp,SR,SU,SV⟩:=uB.count (PySem.Within.cons name v hw);refine VI (wpAny_lookBehind SR (by rw[SU];exact pastItsLine_dict (VV SV (by simp_all))) ?_);exact VM (h _ ⟨(lS.2 _ (YA I.ne)).trans I.obj,uB,I.ne⟩ lS)
def sL{R:Result->VY->Prop}(X:K.In s.heap)(hm:ZK K C=t?)
  (hi:WN K (.ref C) "__init__"=s? (s? (.ref f))) (hf:PySem.W.typeIn K (.ref f)=s? (.type "function"))
  (h:codeAny (model prog w) (A.under (.builtin "type.__call__" ⟨.ref C::vs,kw⟩)) (.call (.ref f) ⟨.ref (s.heap.objs.size+1)::vs,kw⟩) (PySem.W.InitBack (s.heap.objs.size+1) R)
   {s with heap:=(s.heap.push Wh).push (Wu C s.heap.objs.size)}):
  codeAny (model prog w) A (.call (.ref C) ⟨vs,kw⟩) R s:=by
 obtain⟨hh,g,d,t,os⟩:=s;exact PySem.W.make_core (PySem.W.makes_of X hm) (PySem.W.looks_findIn X hi) (λself=>PySem.W.bind_fn X self hf) (.inl rfl) h
end
structure C2(K:Wl)(C:Wr):Prop where
 pg:YV K C Str.empty=t?
 hd:Zf K C=t?
 po:aad K C=t?
 sa:WN K (.ref C) "__setattr__"=s? (s? (.builtin "object.__setattr__"))
def C2.get{K:Wl}(c:C2 K C)(f:Str):YV K C f=t?:=c.pg
def jZ(K:Wl)(C:Wr)(f:Str):Prop:=WN K (.ref C) f=s? n?
def jZ.K4{K:Wl}{C:Wr}(n:jZ K C f):aaM K C f=s? n?:=by
 unfold aaM;rw[show WN K (.ref C) f=s? n? from n];rfl
structure Meth(K:Wl)(C:Wr)(m:Str)(f:Wr):Prop where
 at_:WN K (.ref C) m=s? (s? (.ref f))
 fn:Yg K (.ref f)=t?
 kp:WX K (.ref f)=t?
section
variable{A:WY}{E:VT->VY->Prop}
def attr_of(hb:attributeBase e f env (eval e env)=eval e env)
  (h:Wa (model prog w) A (eval e env) (λo s₁=>Wa (model prog w) A (getAttr o f t?) Q E s₁) E s):Wa (model prog w) A (eval (.Attribute e f pos) env) Q E s :=
 Attribute_any_ h (by rw[arm_eval_Attribute,hb])
end
def xU{kindOf:Str->Option NameKind}:∀{binds:List (Str × VT)}{m:Str->Option VT},(∀v,(x,v)∉binds)->bindL kindOf binds m x=m x:=by
 intro l9;induction l9 with
 |nil=>intro _ _;exact rfl
 |cons y9 r ih=>
  intro m h;obtain⟨n,v⟩:=y9;unfold bindL;rw[ih λw hw=>h w (VK _ hw)];split
  ·grind
  ·rfl
def xV{kindOf:Str->Option NameKind}:∀{binds:List (Str × VT)}{m:Str->Option VT},(∀v,(x,v)∉binds)->bindC kindOf binds m x=m x:=by
 intro l9;induction l9 with
 |nil=>intro _ _;exact rfl
 |cons y9 r ih=>
  intro m h;obtain⟨n,v⟩:=y9;unfold bindC;rw[ih λw hw=>h w (VK _ hw)];split
  ·rfl
  grind
theorem pX{kindOf:Str->Option NameKind}{x:Str}{v:VT}:∀{P:List Str}{vs:List VT}{i:Nat}{m:Str->Option VT},P.Nodup->P[i]?=s? x->vs[i]?=s? v->kindOf x=s? .local ->
  bindL kindOf (P.zip vs) m x=s? v
 | [],_,_,_,_,h,_,_=>by simp at h
 |_::_,[],_,_,_,_,h,_=>by simp at h
 |p::P,w::vs,0,m,nd,h1,h2,hk=>by
  simp at h1 h2;subst h1;subst h2;show bindL kindOf ((p,w)::P.zip vs) m p=_
  unfold bindL;rw[xU λv hv=>(WZ.mp nd).1 (Xm hv).1,if_pos hk];simp
 |p::P,w::vs,i+1,m,nd,h1,h2,hk=>by
  show bindL kindOf ((p,w)::P.zip vs) m x=_;unfold bindL;exact pX (i:=i) (WZ.mp nd).2 ‹_› ‹_› hk
theorem pY{kindOf:Str->Option NameKind}{x:Str}{v:VT}:∀{P:List Str}{vs:List VT}{i:Nat}{m:Str->Option VT},P.Nodup->P[i]?=s? x->vs[i]?=s? v->kindOf x≠s? .local ->
  bindC kindOf (P.zip vs) m x=s? v
 | [],_,_,_,_,h,_,_=>by simp at h
 |_::_,[],_,_,_,_,h,_=>by simp at h
 |p::P,w::vs,0,m,nd,h1,h2,hk=>by
  simp at h1 h2;subst h1;subst h2;show bindC kindOf ((p,w)::P.zip vs) m p=_
  unfold bindC;rw[xV λv hv=>(WZ.mp nd).1 (Xm hv).1,if_neg hk];simp
 |p::P,w::vs,i+1,m,nd,h1,h2,hk=>by
  show bindC kindOf ((p,w)::P.zip vs) m x=_;unfold bindC;exact pY (i:=i) (WZ.mp nd).2 ‹_› ‹_› hk
def sM{sc:Scope}(h:sc.names.lookup x=s? .cell):∃c,(cellsFrom n sc.names []).lookup x=s? c:=by
 have q:=Yw sc.names n [] (.inl h);exact WC.mp q
section
variable{X:Cx}{pins:bf}{φ:Fr}{g g1:G}{L L':aa}{s s':VY}{w t:T}{u:VT}{e o:Expr}{es:List Expr}{m ma mb:SE}{pos apos:Pos}{x f:Str}{A:WY}{E:VT->VY->Prop}
def RT.handed(r:RT g n? t u):abC u=t?:=by cases r<;>rfl
structure ClsOk(K:Wl)(fl:List Str)(C:Wr):Prop where
 c:C2 K C
 n:∀f∈fl,jZ K C f
theorem Inv.obj(I:Inv X pins φ g L s)(r:RT g p (.obj cn fs) u):∃a d C es,u=.ref a/\X.cls cn=s? C/\uT s.heap a d C (nsFind es)/\(∀f,(fs.lookup f).isSome=(nsFind es f).isSome)/\(∀f x v,fs.lookup f=s? x->nsFind es f=s? v->RT g n? x v)/\fs.length<=1000/\(fs.map (·.1)).Nodup/\uK p a d/\d≠a /\
  g.kn p.isNone a (Wu C d)/\∃od,g.kn p.isNone d od:=by
 cases r with
 |obj ht hne hc hk lR hd hs hu hz hn hl hi=>exact⟨_,_,_,_,rfl,by rw[<- I.gm];exact hc,⟨I.kn hk,⟨_,_,_,I.kn lR,hd,hs,hu,λ_=>rfl⟩,hne⟩,hl,hi,hz,hn,ht,hne,hk,_,lR⟩
def okBase:Expr->Bool
 | .Call (.Name _ _) [] [] _=>f?
 |_=>t?
def base_ok{env:Env}{w:Sem VT}(h:okBase o=t?):attributeBase o x env w=w:=by
 cases o with
 |Call f as ks p=>cases f with
  |Name=>cases as with
   |nil=>cases ks with
    |nil=>cases h
    |cons=>rfl
   |cons=>rfl
  |_=>rfl
 |_=>rfl
theorem pe_fld{fl:List Str}(hC:∀c C,X.cls c=s? C->ClsOk X.K fl C)(hf:f∈fl)(he:PE X o m)(hb:okBase o=t?):PE X (.Attribute o f pos) (b1 m (fld f)):=λI h=>by
 obtain⟨t,L1,e1,h⟩:=R.of h;refine attr_of (base_ok hb) (thn (he I e1) λu s1⟨g1,l1,I1,r1⟩=>?_);obtain⟨p,r⟩:=I1.view r1;unfold fld at h;cases ev:vw L1 t with
 |obj c fs=>
  rw[ev]at h r;obtain⟨a,d,C,es,rfl,hc,O,hl,hi,_⟩:=I1.obj r;have h:lift (fs.lookup f) L1=.ok _ _:=h
  cases el:fs.lookup f with
  |none=>rw[el]at h;cases h
  |some x=>
   rw[el]at h;cases h;obtain⟨v,ev⟩:=WC.mp ((hl f).symm.trans (by rw[el];rfl));have K:=hC c C hc
   have rv:=hi f _ v el ev;exact get_map I1.Gx O (K.c.get f) K.c.hd (K.n f hf) ev rv.handed ⟨g1,l1,I1.tok _,rv⟩
 |_=>rw[ev]at h;cases h
def wm:∀{fs:List (Str × T)}{f y:Str}{t:T},(fL fs f t).lookup y=if y=f then s? t else fs.lookup y:=by
 intro l9;induction l9 with
 |nil=>
  intro f y t;unfold fL;grind
 |cons y9 fs ih=>
  intro f y t;obtain⟨a,b⟩:=y9;unfold fL;split
  ·grind
  ·rename_i e
   rw[WI,WI,ih];grind
def uU:∀{fs:List (Str × T)}{f:Str}{t:T},(fs.map (·.1)).Nodup->((fL fs f t).map (·.1)).Nodup/\(fL fs f t).length<=fs.length+1/\∀y,y∈(fL fs f t).map (·.1)->y=f\/y∈fs.map (·.1):=by
 intro l9;induction l9 with
 |nil=>intro f t _;exact⟨by simp[fL],by simp[fL],λy h=>Or.inl (by simpa[fL] using h)⟩
 |cons y9 fs ih=>
  intro f t h;obtain⟨a,b⟩:=y9;rw[VU,WZ]at h;unfold fL;split
  ·simp_all
  ·rename_i e
   obtain⟨h1,h2,h3⟩:=ih (f:=f) (t:=t) h.2;grind
def zw:swapsWith e (s? (.Attribute o f p)) l env=pure f?:=by cases e<;>rfl
def C3(hC:∀c C,X.cls c=s? C->ClsOk X.K fl C)(hf:f∈fl)(ho:PE X o mb)(he:PE X e m):PS X (.Assign [.Attribute o f apos] e pos) (cQ mb f m):=λ{pins φ g L s}I h=>by
 obtain⟨t,L1,e1,e2,h⟩:=iW h;rw[show cQ mb f m φ L=_ from e2];obtain⟨x,L2,e3,e4,h⟩:=iW h;rw[e4];cases ep:iV f x t L2 with
 |none=>simp_all
 |some L3=>
  simp only[ep];refine plainObj_wpAny_Assign_Attribute (thn (he I e1) λu s1⟨g1,l1,I1,r1⟩=>thn (ho I1 e3) λov s2⟨g2,l2,I2,r2⟩=>?_) zw;have SW:=r1.le l2
  unfold iV at ep;cases x with
  |ref n=>
   cases r2 with
   |ref hp=>
    rename_i p;cases ea:at_ L2 n with
    |none=>simp_all
    |some c=>
     cases c with
     |obj cn fs=>
      simp only[ea]at ep;split at ep
      ·rename_i Fb
       cases ep;obtain⟨q,h1,h2⟩:=I2.rel.cells n _ ea;rw[hp]at h1;cases h1;obtain⟨a,d,C,es,eu,hc,O,hl,hi,hz,hn,ht,hne,hk,od,lR⟩:=I2.obj h2;rcases ht with z|z
       ·cases z
       cases z;have K:=hC cn C hc
       have hd2:g2.H d=s? (f?,od):=lR.elim id λz=>by cases z.1
       have hk':g2.H a=s? (f?,Wu C d):=hk.elim id λz=>by cases z.1
       have hw:PySem.Within (nsFind es) (fs.map (·.1)):=λy hy=>by
        have z:(nsFind es y).isSome=t?:=by cases q:nsFind es y with|none=>exact absurd q hy|some _=>rfl
        grind
       refine C1 I2.Gx O K.c.sa K.c.po (K.n f hf).K4 K.c.hd hw (by rw[Lm9,Zg];omega) λh' O' sb=>?_
       obtain⟨Rx,sA,KH,ho',hd',hs',jN,hm'⟩:=O'.ns;have qE:=Le.set (o:=Rx) hd2
       refine⟨g2.set d Rx,(l1.trans l2).trans qE,I2.set (p:=(a,d)) hp (.inr rfl) hd2 (λb v hb q=>(sb.2 b hb).trans q) ho' ?_⟩;have nm:=uU (f:=f) (t:=t) hn
       refine .obj (.inr rfl) hne (by show g2.cls cn=_;rw[I2.gm];exact hc) (.inl ((aB (YA hne)).trans hk')) (.inl av) hd' hs' jN ⇑0 nm.1 (λy=>?_) λy z v q1 q2=>?_
       ·rw[wm,hm' y]
        grind
       ·rw[wm]at q1
        rw[hm' y]at q2;by_cases hy:y=f
        ·simp only[hy,if_true]at q1 q2
         cases q1;cases q2;exact SW.le qE
        ·simp only[hy,if_false]at q1 q2
         exact(hi y z v q1 q2).le qE
      ·cases ep
     |_=>simp only[ea]at ep;cases ep
  |_=>cases ep
end
structure uV(P:WU)(w:XQ)(K:Wl)(mg:Str->Option VT)(cls:Str->Option Wr)(base:Heap)(s:VY)(g:G)(L:aa):Prop where
 mod:Mod K mg base
 bs:∀b o,base.get? b=s? o->s.heap.get? b=s? o/\g.H b=n?
 Gv:base.objs.size<=s.heap.objs.size
 hok:Cp g.H s.heap
 bare:AllBare s.gens
 rel:Rel g L
 gB:g.B=base
 gm:g.cls=cls
 gw:g.w=w
def CE(g:G)(s:VY)(t:T)(L':aa)(u:VT)(s':VY):Prop:=∃g',s'.os=s.os/\AllBare s'.gens/\Un [] g.H g'.H s.heap s'.heap/\Cp g'.H s'.heap/\Le g g'/\Rel g' L'/\RT g' n? t u
def CR(g:G)(s:VY)(t:T)(L':aa)(r:Result)(s':VY):Prop:=match r with
 | .ok (.ret u)=>CE g s t L' u s'
 |_=>False
def dO(P:WU)(w:XQ)(K:Wl)(mg:Str->Option VT)(cls:Str->Option Wr)(base:Heap)(k:Nat)(f:Wr)(m:Fn):Prop :=
 ∀{A:WY}{s:VY}{g:G}{L L':aa}{us:List VT}{xs:List T}{t:T},fM k A->uV P w K mg cls base s g L->cL g xs us->m xs L=.ok t L'->codeAny (model P w) A (.call (.ref f) ⟨us,[]⟩) (CR g s t L') s
section
variable{X:Cx}{pins:bf}{φ:Fr}{g g1:G}{L L':aa}{s s':VY}{w t:T}{u:VT}{e o:Expr}{es:List Expr}{m ma mb:SE}{pos p apos:Pos}{x f:Str}{k:Nat}{fa C:Wr}{F:Fn}{ms:List SE}
def Inv.O3(I:Inv X pins φ g L s):uV X.prog X.w X.K X.mg X.cls X.base s g L:=⟨I.ok.mod,I.bs,VV I.ok.Gv I.sz,I.hok,I.bare,I.rel,I.gB,I.gm,I.gw⟩
def Inv.after(I:Inv X pins φ g L s)(h:CE g s t L' u s'):EP X pins φ g t L' u s':=by
 obtain⟨g',os,bare,un,hok,l,rel,r⟩:=h;exact⟨g',l,I.call (ch:=[]) l os un hok bare rel (λb z=>absurd z ⋯),r⟩
def uW(hF:dO X.prog X.w X.K X.mg X.cls X.base k fa F)(hr:fM k X.A):eE X (.ref fa) F:=λI r h=>by
 refine wpAny_call (codeAny_mono (hF hr I.O3 r h) λr s' hq=>?_);cases r with
 |error e=>assumption
 |ok fl=>cases fl<;>first|exact I.after hq|assumption
def eG:∀{es:List Expr},es.all bB=t?->(backTo pos (starEach es env)).any (·.1)=f?:=by
 intro l9;induction l9 with
 |nil=>intro _;exact rfl
 |cons e es ih=>
  intro h;rw[WD,VW]at h;rw[aR h.1];show(f? || (backTo pos (starEach es env)).any (·.1))=f?
  rw[ih h.2];rfl
def C4(hF:eE X (.ref fa) F)(hg:Gl X x)(hm:X.mg x=s? (.ref fa))(hk:WX X.K (.ref fa)=t?)(K5:(x==("__debug__":Str))=f?):PE X (.Call (.Name x p) [] [] pos) (ae F []):=λI h=>
 wpAny_Call_Name_kw (qy I hg hm (aa7 I.Gx hk (hF (us:=[]) I .nil h)) K5)
theorem Hg(hF:eE X (.ref fa) F)(hg:Gl X x)(hm:X.mg x=s? (.ref fa))(hk:WX X.K (.ref fa)=t?)(ha:PA X (e::es) (iT ms))(hs:(e::es).all bB=t?)(K5:(x==("__debug__":Str))=f?):PE X (.Call (.Name x p) (e::es) [] pos) (ae F ms):=λI h=>by
 obtain⟨ts,L1,e1,h⟩:=R.of h;rw[WD,VW]at hs;exact wpAny_Call_Name_kw (qy I hg hm (abj (h₀:=X.base) I.ok.mod.E9 hk (thn (ha pos I e1) λus s1⟨g1,l1,I1,r1⟩=>⟨I1.Gx,thn (hF I1 r1 h) λ_ _ z=>z.le l1⟩) (aR hs.1) (eG hs.2)) K5)
def zx:∀{es:List Expr},es.all bB=t?->(backTo pos (starEach es env)).all (λx=>!x.1)=t?:=by
 intro l9;induction l9 with
 |nil=>intro _;exact rfl
 |cons e es ih=>
  intro h;rw[WD,VW]at h;rw[aR h.1];show(t? && (backTo pos (starEach es env)).all (λx=>!x.1))=t?
  rw[ih h.2];rfl
def zy(h:es.all bB=t?)(hl:es.length<30):((backTo pos (starEach es env)).all (λx=>!x.1) && (backToKw pos (keywordEach [] env)).all (λx=>x.1.isSome)
   && d? (es.length+([]:List Keyword).length+(if ([]:List Keyword).isEmpty then 0 else 1)<30))=t?:=by
 rw[zx h];show(t? && t? && d? (es.length+0+0<30))=t?
 simp_all
def C5{o:Expr}{m:Str}{apos pos:Pos}{es:List Expr}(hb:okBase o=t?)(h:es.all bB=t?)(hl:es.length<30)(sN:(apos.endLine==pos.line)=t?):
  eval (.Call (.Attribute o m apos) es [] pos) env=(do
   let ov <- eval o env
   standAt apos.atName
   let (f,first) <- holding [ov] (getMethod ov m (do return (<- importBound o env).getD t?))
   callWith pos f first (backTo pos (starEach es env)) (backToKw pos (keywordEach [] env))):=by
 rw[arm_eval_Call,base_ok hb];have hf:methodCallForm (es.length+([]:List Keyword).length) (backTo pos (starEach es env)) (backToKw pos (keywordEach [] env))=t?:=zy h hl
 congr 1;funext ov;congr 1;funext _;unfold methodCall;rw[hf];have hp:methodCallPos t? o env apos pos=pure pos:=by
  unfold methodCallPos;rw[sN];rfl
 rw[hp];rfl
theorem C6(hM:∀c C Fn,X.cls c=s? C->mf c=s? Fn->∃fa,C2 X.K C/\Meth X.K C x fa/\eE X (.ref fa) Fn)(ho:PE X o m)(ha:PA X es (iT ms))(h0:es=[]->ms=[])(hs:es.all bB=t?)(hl:es.length<30)(hb:okBase o=t?)(sN:(apos.endLine==pos.line)=t?):
  PE X (.Call (.Attribute o x apos) es [] pos) (aN x mf m ms):=λI h=>by
 obtain⟨t,L1,e1,h⟩:=R.of h;refine PySem.W.methodCall_KW (thn (ho I e1) λu s1⟨g1,l1,I1,r1⟩=>?_) (C5 hb hs hl sN);obtain⟨p,r⟩:=I1.view r1;cases ev:vw L1 t with
 |obj c fs=>
  simp only[ev]at h;rw[ev]at r;obtain⟨a,d,C,sA,rfl,hc,O,hl',hi,_⟩:=I1.obj r;cases em:mf c with
  |none=>simp_all
  |some F=>
   simp only[em]at h;split at h
   ·rename_i hn
    obtain⟨ts,L2,e2,h⟩:=R.of h;obtain⟨fa,c,hm,hF⟩:=hM c C F hc em;have SX:nsFind sA x=n?:=by
     have z:=hl' x;cases q:nsFind sA x with
     |none=>rfl
     |some v=>rw[q]at z;cases q2:fs.lookup x with
      |none=>simp_all
      |some _=>simp_all
    refine zr I1.Gx O (c.get x) hm.at_ hm.fn SX ?_
    cases es with
    |nil=>
     cases h0 rfl;cases e2;exact aa7 (first:=[.ref a]) I1.Gx hm.kp (thn (hF (us:=[.ref a]) I1 (.cons r1 .nil) h) λ_ _ z=>z.le l1)
    |cons e es=>
     rw[WD,VW]at hs;exact abj (first:=[.ref a]) (h₀:=X.base) I.ok.mod.E9 hm.kp (thn (ha pos I1 e2) λus s2⟨g2,l2,I2,r2⟩=>⟨I2.Gx,thn (hF (us:=.ref a::us) I2 (.cons (r1.le l2) r2) h) λ_ _ z=>z.le (l1.trans l2)⟩) (aR hs.1) (eG hs.2)
   ·cases h
 |_=>simp only[ev]at h;cases h
end
def sq{a b:Nat}(h:a<b\/b<a):a≠b:=λe=>by omega
structure kH(N ps:List Str)(sc:Scope):Prop where
 kind:sc.kind=.function
 co:sc.isCoroutine=f?
 gen:sc.isGenerator=f?
 nd:N.Nodup
 pre:N.take ps.length=ps
 par:∀x∈ps,sc.names.lookup x=s? .local\/sc.names.lookup x=s? .cell
 qF:∀y∈sc.names,y.2≠.free
def xW(P:WU)(w:XQ)(K:Wl)(mg:Str->Option VT)(cls:Str->Option Wr)(base:Heap)(N:List Str)(qual:Str)(scope:Scope)(f:Wr)(cd:VT)(A:WY)(s:VY)(H:Hp):Cx where
 prog:=P
 w:=w
 K:=K
 mg:=mg
 cls:=cls
 base:=base
 A:=A.deeper (envOfC qual scope s.heap.objs.size f cd)
 N:=N
 s₀:=s
 H₀:=H
 env:=envOfC qual scope s.heap.objs.size f cd
 ex:=[]
 fn:=λ_=>t?
section
variable{P:WU}{w:XQ}{K:Wl}{mg:Str->Option VT}{cls:Str->Option Wr}{base:Heap}{N ps:List Str}{qual:Str}{scope:Scope}{f:Wr}{cd:VT}{A:WY}{s s1:VY}{g:G}{L:aa}
def lZ(S:kH N ps scope)(hd:A.handled=n?)(e0:uV P w K mg cls base s g L)(hl:xs.length=ps.length)(r:cL g xs us)
  (x:InCallC s s.heap.objs.size (bindL (envOfC qual scope s.heap.objs.size f cd).kindOf (ps.zip us) λ_=>n?) (cellsFrom (s.heap.objs.size+1) scope.names []) (bindC (envOfC qual scope s.heap.objs.size f cd).kindOf (ps.zip us) λ_=>n?) s1):
  Inv (xW P w K mg cls base N qual scope f cd A s g.H) [] (xs.map s?++Wj (N.length - ps.length) n?) g L s1:=by
 have hpl:ps.length<=N.length:=by have:=congrArg Xg S.pre;grind
 obtain⟨h1,tk,rfl,hk⟩:=x.done;refine⟨⟨e0.mod,S.kind,rfl,rfl,V3 _,λy z c h1 h2=>?_,λy hy=>?_,λy c _ h=>?_,hd,λb z=>absurd z (by simp[xW]),e0.bs,e0.Gv,λb _ _=>by simp[xW]⟩,
  rfl,e0.bare,Un.kept hk,⟨_,x.toInCall.ns,λi y v h1 h2 h3=>?_⟩,λy c h=>⟨_,x.cell y c h⟩,e0.hok.fresh (V3 _),λy c h=>?_,λp hp=>(by simp at hp),λa b o e=>hk a o (e0.hok a b o e),?_,e0.rel,e0.gB,e0.gm,e0.gw⟩
 ·exact name_of_addr x.apart (Wy h1) (Wy h2)
 ·have hy:scope.names.lookup y=s? .cell\/scope.names.lookup y=s? .free:=hy
  rcases hy with hy|hy
  ·exact sM hy
  ·exact absurd rfl (S.qF _ (Wy hy))
 ·exact abw (x.above y c (Wy h))
 ·have hi:i<xs.length:=by
   grind
  have ha:xs[i]?=s? v:=by
   grind
  obtain⟨u,hu,rv⟩:=pD r ha;have hp:ps[i]?=s? y:=by
   rw[<- S.pre,aae ⇑0];exact h1
  have Ry:ps.Nodup:=by rw[<- S.pre];exact S.nd.sublist (List.take_sublist _ _)
  refine⟨u,rv,?_⟩;rcases S.par y (Wd hp) with k|k
  ·exact .inl ⟨k,pX Ry hp hu k⟩
  ·obtain⟨c,e⟩:=sM (n:=s.heap.objs.size+1) k
   refine .inr ⟨.inl k,c,e,?_⟩;have q:=x.cell y c e
   rw[pY Ry hp hu (by show scope.names.lookup y≠_;rw[k];decide)]at q;exact q
 ·exact e0.hok.fresh (abw (x.above y c (Wy h)))
 ·show _=N.length
  simp_all
def zA(e0:uV P w K mg cls base s g L)(os:s'.os=s.os)(bare:AllBare s'.gens)(un:Un [] g.H g1.H s.heap s'.heap)(hok:Cp g1.H s'.heap)(l:Le g g1)(rel:Rel g1 L1)(r:RT g1 n? t u)(e:fin L t L1=.ok t' Lo):CE g s t' Lo u s':=by
 obtain⟨g2,l2,r2,h2,a,b,c⟩:=Hf l e0.rel rel r e;exact⟨g2,os,bare,⟨un.keep,λx o q n z=>b x (un.free x o q n z),λx o q=>c x o (un.bE x o q)⟩,λx y o q=>let ⟨_,z⟩:=a x y o q;hok x _ o z,l2,r2,h2⟩
def K6(lk:K.lookup f=s? ⟨oc,od,.func (W5 name qual params body scope dV kV doc pm an eQ ct),pZ⟩)(hcd:XN K eQ qual=t?)(S:kH N ps scope)
  (sO:∀us:List VT,us.length=ps.length->bindArgs (W5 name qual params body scope dV kV doc pm an eQ ct) ⟨us,[]⟩=pure (ps.zip us))
  (nU:∀(A:WY)(s:VY)(H:Hp),fM k (A.deeper (envOfC qual scope s.heap.objs.size f eQ))->yP (xW P w K mg cls base N qual scope f eQ A s H) body mb):
  dO P w K mg cls base (k+1) f (run ps.length N.length mb):=λ{A s g L L' us xs t}hr e0 r kI=>by
 unfold run at kI;split at kI
 ·rename_i hl
  have K7:us.length=ps.length:=by rw[<- V9 r];exact hl
  have KX:K.In s.heap:=e0.mod.E9.keeps λb o e=>(e0.bs b o e).1
  have lim:s.heap.NoLimit:=e0.mod.nolimit.keeps λb o e=>(e0.bs b o e).1
  have hkind:∀y∈ps.zip us,scope.names.lookup y.1=s? .local\/(scope.names.lookup y.1=s? .cell/\((cellsFrom (s.heap.objs.size+1) scope.names []).lookup y.1).isSome=t?):=λ⟨n,v⟩hy=>by
   rcases S.par n (Xm hy).1 with q|q
   ·exact .inl q
   ·exact .inr ⟨q,Yw _ _ _ (.inl q)⟩
  refine codeAny_call_function hr.depth (KX _ _ lk) rfl S.co S.gen rfl (ZW KX hcd) (abk (sO us K7) _ _ _ _ ?_);refine wpAny_newFunctionEnv_cells S.kind hkind λenv he s1 x=>?_
  subst he;refine⟨lim.keeps x.toInCall.keep,codeAny_func ?_⟩;have I:=lZ (A:=A) (cd:=eQ) S hr.hd e0 hl r x
  have nb:mb (xs.map s?++Wj (N.length - ps.length) n?) L≠.bad:=λz=>by simp_all
  refine wpAny_mono (nU A s g.H (hr.deeper _) I nb) (λfl s'⟨g',l,hs⟩=>?_) λe s' hs=>hs.elim
  cases eb:mb (xs.map s?++Wj (N.length - ps.length) n?) L with
  |nx φ' L1=>
   rw[eb]at hs kI;cases fl<;>first|exact hs.elim|exact zA e0 hs.os hs.bare hs.base hs.hok l hs.rel .aY kI
  |rt t0 L1=>
   rw[eb]at hs kI;cases fl<;>first|exact hs.elim|skip
   obtain⟨⟨φ',J⟩,rt⟩:=hs;exact zA e0 J.os J.bare J.base J.hok l J.rel rt kI
  |_=>simp_all
 ·cases kI
structure Mk(K:Wl)(C f:Wr):Prop where
 makes:ZK K C=t?
 init:WN K (.ref C) "__init__"=s? (s? (.ref f))
 fn:Yg K (.ref f)=t?
 kp:WX K (.ref C)=t?
def K8{k:Nat}{C:Wr}(M:Mk K C f)(hF:dO P w K mg cls base k f init)(hc:cls cn=s? C):dO P w K mg cls base (k+1) C (make cn init):=λ{A s g L L' us xs t}hr e0 r h=>by
 have KX:K.In s.heap:=e0.mod.E9.keeps λb o e=>(e0.bs b o e).1
 refine sL KX M.makes M.init (beq_iff_eq.mp M.fn) ?_;generalize hn:s.heap.objs.size=n;have fr:∀a,n<=a->g.H a=n?:=λa ha=>e0.hok.fresh ⇑0
 have e1:(s.heap.push Wh).get? n=s? Wh:=by rw[<- hn];exact VO s.heap rfl
 have e2:((s.heap.push Wh).push (Wu C n)).get? (n+1)=s? (Wu C n):=by
  have:=VO (s.heap.push Wh) (o:=Wu C n) rfl;simp_all
 have e1':((s.heap.push Wh).push (Wu C n)).get? n=s? Wh:=VJ _ e1;have kp:∀b o,s.heap.get? b=s? o->((s.heap.push Wh).push (Wu C n)).get? b=s? o:=λb o q=>VJ _ (VJ _ q)
 have eR:∀b o,s.heap.get? b=s? o->b<n:=λb o q=>by rw[<- hn];exact V5 q
 let g1:G:={g with H:=upd (upd g.H n (f?,Wh)) (n+1) (f?,Wu C n),α:=(n+1,n)::g.α}
 have old:∀b,b<n->g1.H b=g.H b:=λb hb=>(aB (sq ⇑0)).trans (aB (sq ⇑0))
 have tr:∀b x,g.H b=s? x->b<n:=λb x q=>eR b x.2 (e0.hok b x.1 x.2 q)
 have h1:g1.H n=s? (f?,Wh):=(aB (sq ⇑0)).trans av;have h2:g1.H (n+1)=s? (f?,Wu C n):=av
 have l1:Le g g1:=⟨λb o q=>(old b (tr b _ q)).trans q,λ_ _ q=>jw q,rfl,rfl,rfl⟩;have alt:∀m q,at_ g.α m=s? q->q.1<n/\q.2<n:=λm q e=>by
  obtain⟨⟨o1,z1⟩,o2,z2⟩:=e0.rel.live m q e;simp_all
 have ob:RT g1 (s? (n+1,n)) (.obj cn []) (.ref (n+1)):=.obj (od:=Wh) (es:=#[]) (n:=0) (.inr rfl) (sq ⇑0) (by show g.cls cn=_;rw[e0.gm];exact hc) (.inl h2) (.inl h1) rfl (λe he=>absurd he ⋯) (by simp[UniqKeys]) ⋯ ⋯ (λf=>rfl) λf x v q=>by simp at q
 have Hh:Rel g1 (.obj cn []::L):=by
  refine⟨by show((n+1,n)::g.α).length=_;simp[e0.rel.len],λm c q=>?_,λm m' p q q1 q2 hne=>?_,λm p q=>?_⟩
  ·unfold at_ at q
   split at q
   ·rename_i em
    cases q;exact⟨(n+1,n),by rw[em,<- e0.rel.len];exact cY,ob⟩
   ·obtain⟨p,z1,z2⟩:=e0.rel.cells m c q
    refine⟨p,jw z1,z2.up l1 λq z=>?_⟩;grind
  ·have q1:at_ ((n+1,n)::g.α) m=s? p:=q1
   have q2:at_ ((n+1,n)::g.α) m'=s? q:=q2
   unfold at_ at q1 q2
   split at q1
   ·grind
   ·split at q2
    ·grind
    ·exact e0.rel.apart m m' p q q1 q2 hne
  ·have q:at_ ((n+1,n)::g.α) m=s? p:=q
   unfold at_ at q
   split at q
   ·grind
   ·obtain⟨⟨o1,z1⟩,o2,z2⟩:=e0.rel.live m p q
    simp_all
 have O4:uV P w K mg cls base {s with heap:=(s.heap.push Wh).push (Wu C n)} g1 (.obj cn []::L):=by
  refine⟨e0.mod,λb o q=>⟨kp b o (e0.bs b o q).1,(old b (eR b o (e0.bs b o q).1)).trans (e0.bs b o q).2⟩,?_,λa b o q=>?_,e0.bare,Hh,e0.gB,e0.gm,e0.gw⟩
  ·show _<=((s.heap.push _).push _).objs.size
   rw[W7,W7];have:=e0.Gv;omega
  ·by_cases z1:a=n+1
   ·simp_all
   ·by_cases z2:a=n
    ·simp_all
    ·have q:g.H a=s? (b,o):=by rw[<- q];exact((aB z1).trans (aB z2)).symm
     exact kp a o (e0.hok a b o q)
 unfold make at h;cases ei:init (.ref L.length::xs) (.obj cn []::L) with
 |bad=>simp_all
 |ok t0 L1=>
  rw[ei]at h;cases t0 with
  |aY=>
   have r1:cL g1 (.ref L.length::xs) (.ref (n+1)::us):=.cons (.ref (p:=(n+1,n)) (by show at_ ((n+1,n)::g.α) _=_;rw[<- e0.rel.len];exact cY)) (r.le l1);refine codeAny_mono (hF (hr.make C us []) O4 r1 ei) λr s' hq=>?_
   cases r with
   |error e=>assumption
   |ok fl=>
    cases fl with
    |ret u=>
     obtain⟨g2,os,bare,un,hok,l2,Hi,r2⟩:=hq;cases r2;refine⟨rfl,?_⟩;have O5:Un [] g.H g2.H s.heap s'.heap:=⟨λb o q z x=>un.keep b o (kp b o q) ((old b (eR b o q)).trans z) x,λb o q z x=>un.free b o (kp b o q) ((old b (eR b o q)).trans z) x,λb o q=>un.bE b o (l1.f b o q)⟩
     have ra:RT g2 n? (.ref L.length) (.ref (n+1)):=.ref (p:=(n+1,n)) (l2.α _ _ (by show at_ ((n+1,n)::g.α) _=_;rw[<- e0.rel.len];exact cY));exact zA e0 os bare O5 hok (l1.trans l2) Hi ra h
    |_=>assumption
  |_=>cases h
end
section
variable{X:Cx}{pins:bf}{φ:Fr}{g:G}{L:aa}{s:VY}
def str_beq{a b:Cs}:((⟨a.toArray⟩:Str) == ⟨b.toArray⟩)=(a==b):=by
 grind
theorem gY:∀(a b:List T),((W9 (min a.length b.length)).all (λi=>f (a.getD i .aY) (b.getD i .aY)) && a.length==b.length)=si f a b
 | [],[]=>rfl
 | [],b::q=>by rfl
 |a::r,[]=>by rfl
 |a::r,b::q=>by
  rw[si,<- gY r q];have e:min (a::r).length (b::q).length=min r.length q.length+1:=by simp
  rw[e,List.range_succ_eq_map,WD,aaN];have e2:((a::r).length==(b::q).length)=(r.length==q.length):=by simp
  rw[e2,Bool.and_assoc];rfl
def qG{xs:List T}(h:xs.all (dat n)=t?)(hi:i<xs.length):dat n (xs.getD i .aY)=t?:=by
 simp_all
def getD_at{xs:List T}(hi:i<xs.length):xs[i]?=s? (xs.getD i .aY):=by
 simp_all
def nV:∀{xs:List T},(∀x∈xs,f x x=t?)->si f xs xs=t?:=by
 intro l9;induction l9 with
 |nil=>intro _;exact rfl
 |cons x xs ih=>intro h;rw[si,h x VL,ih λy hy=>h y (VK _ hy)];rfl
def Hj(h:dat 0 a=t?):False:=by cases a<;>cases h
theorem kJ:∀(n:Nat){a:T},dat n a=t?->uz n a a=t?
 |0,a,h=>(Hj h).elim
 |n+1,a,h=>by
  cases a with
  |aY=>rfl
  |bl k=>exact beq_self_eq_true k
  |int i=>exact beq_self_eq_true i
  |str z=>exact beq_self_eq_true z
  |tup xs=>exact nV λx hx=>kJ n (VQ.mp h x hx)
  |lst xs=>exact nV λx hx=>kJ n (VQ.mp h x hx)
  |_=>cases h
def It(g:G)(n:Nat)(xs:List T)(its:Array VT):Prop:=xs.all (dat n)=t?/\xs.length=its.size/\∀(i:Nat) x v,xs[i]?=s? x->its[i]?=s? v->RT g n? x v
def Inv.dv(I:Inv X pins φ g L s){P:T->VT->Prop}(c1:P .aY .none)(c2:∀b,P (.bl b) (.bool b))(c3:∀i t,P (.int i) (.int i t))(c4:∀z t,P (.str z) (.str ⟨z.toArray⟩ t))
  (c5:∀xs a its,s.heap.IsTuple a its->It g n xs its->P (.tup xs) (.ref a)) (c6:∀xs a its,s.heap.IsList a its->It g n xs its->P (.lst xs) (.ref a)) (h:dat (n+1) a=t?) (r:RT g p a u):P a u:=by
 cases r with
 |aY=>exact c1
 |bl b=>exact c2 b
 |int i t=>exact c3 i t
 |str z t _=>exact c4 z t
 |tup hk hc hd _ hl hi=>exact c5 _ _ _ ⟨_,I.kn hk,hc.1,_,hd⟩ ⟨h,hl,hi⟩
 |lst _ hk _ hl hi=>exact c6 _ _ _ (aj (I.kn hk)) ⟨h,hl,hi⟩
 |_=>cases h
def tO:VT->Option T
 | .none=>s? .aY
 | .bool b=>s? (.bl b)
 | .int i _=>s? (.int i)
 | .str z _=>s? (.str z.cps.toList)
 |_=>n?
def Sq(s:VY)(k:Bool)(a:Wr)(its:Array VT):Prop:=∃o,s.heap.get? a=s? o/\o.cls=.type (if k=t? then "tuple" else "list")/\∃n,o.data=.seq its n
def Sq.eq{k j:Bool}{a:Wr}{x y:Array VT}(h:Sq s k a x)(h':Sq s j a y):k=j/\x=y:=by
 obtain⟨o,e,c,m,d⟩:=h;obtain⟨_,e',c',m',d'⟩:=h';grind
theorem Inv.uniq(I:Inv X pins φ g L s):∀(n:Nat){p q:Option (Wr × Wr)}{a b:T}{u:VT},dat n a=t?->dat n b=t?->RT g p a u->RT g q b u->a=b
 |0,_,_,a,_,_,h,_,_,_=>(Hj h).elim
 |n+1,_,_,_,_,_,ha,hb,ra,rb=>by
  have key:∀{p a u},dat (n+1) a=t?->RT g p a u->tO u=s? a\/∃k d its xs,u=.ref d/\Sq s k d its/\It g n xs its/\a=if k=t? then .tup xs else .lst xs:=λh r=>
   I.dv (P:=λa u=>tO u=s? a\/∃k d its xs,u=.ref d/\Sq s k d its/\It g n xs its/\a=if k=t? then .tup xs else .lst xs) (.inl rfl) (λ_=>.inl rfl) (λ_ _=>.inl rfl) (λ_ _=>.inl rfl)
    (λxs a its h j=>.inr ⟨t?,a,its,xs,rfl,h,j,rfl⟩) (λxs a its h j=>.inr ⟨f?,a,its,xs,rfl,h,j,rfl⟩) h r
  rcases key ha ra with h|⟨k,d,its,xs,rfl,hk,i,rfl⟩
  ·rcases key hb rb with h'|⟨_,_,_,_,rfl,_⟩
   ·simp_all
   ·cases h
  ·rcases key hb rb with h'|⟨j,_,SY,ys,z,hj,i',rfl⟩
   ·cases h'
   ·cases Value.ref.inj z
    obtain⟨rfl,rfl⟩:=hk.eq hj;rw[show xs=ys from Xs (i.2.1.trans i'.2.1.symm) λm hi hj=>I.uniq n (VQ.mp i.1 _ (Wn hi)) (VQ.mp i'.1 _ (Wn hj)) (i.2.2 m _ _ (Ge9 hi) (VX (i.2.1 ▸ hi))) (i'.2.2 m _ _ (Ge9 hj) (VX (i.2.1 ▸ hi)))]
def both(h:SeqAt.RcAt A s (.ref a) (.ref b) k)(he:a=b->k=t?):SeqAt.RcAt A s (.ref a) (.ref b) k/\YH A s (.ref a) (.ref b) k:=⟨h,by
 by_cases e:a=b
 ·subst e;rw[he rfl];exact SeqAt.EqAt.same _
 ·exact SeqAt.EqAt.of_refs e h⟩
def It.eq(I:Inv X pins φ g L s){n:Nat}{xs ys:List T}{its:Array VT}(i:It g n xs its)(j:It g n ys its):si (uz n) xs ys=t?:=by
 rw[show ys=xs from Xs (j.2.1.trans i.2.1.symm) λm hj hi=>I.uniq n (VQ.mp j.1 _ (Wn hj)) (VQ.mp i.1 _ (Wn hi)) (j.2.2 m _ _ (Ge9 hj) (VX (i.2.1 ▸ hi))) (i.2.2 m _ _ (Ge9 hi) (VX (i.2.1 ▸ hi)))];exact nV λx hx=>kJ n (VQ.mp i.1 x hx)
abbrev Rq(A:WY)(s:VY)(n:Nat)(a:T)(u:VT)(b:T)(v:VT):Prop:=SeqAt.RcAt A s u v (uz n a b)/\YH A s u v (uz n a b)
open SeqAt in
theorem Inv.rc(I:Inv X pins φ g L s):∀(n:Nat){A:WY}{p q:Option (Wr × Wr)}{a b:T}{u v:VT},dat n a=t?->dat n b=t?->A.units+n<cLine->RT g p a u->RT g q b v->Rq A s n a u b v
 |0,_,_,_,a,_,_,_,h,_,_,_,_=>(Hj h).elim
 |n+1,A,_,_,a,b,u,v,ha,hb,hn,ra,rb=>by
  have hu:A.units<cLine:=by omega
  have it:∀{xs ys:List T}{x y:Array VT},It g n xs x->It g n ys y->∀j(h1:j<x.size)(h2:j<y.size),EqAt A.in1 s x[j] y[j] (uz n (xs.getD j .aY) (ys.getD j .aY)):=λi k j h1 h2=>
   (I.rc n (qG i.1 (i.2.1 ▸ h1)) (qG k.1 (k.2.1 ▸ h2)) (by(simp;omega)) (i.2.2 j _ _ (getD_at (i.2.1 ▸ h1)) (VX h1)) (k.2.2 j _ _ (getD_at (k.2.1 ▸ h2)) (VX h2))).2
  refine I.dv (P:=λa u=>Rq A s (n+1) a u b v) ?_ ?_ ?_ ?_ ?_ ?_ ha ra
  ·exact I.dv (P:=Rq A s (n+1) .aY .none) ⟨.none_none,.same _⟩ (λ_=>⟨.none_bool _,.none_bool _⟩) (λ_ _=>⟨.none_int _ _,.none_int _ _⟩) (λ_ _=>⟨.none_str _ _,.none_str _ _⟩) (λ_ _ _ h _=>⟨.none_tuple h hu,.none_tuple h hu⟩) (λ_ _ _ h _=>⟨.none_list h hu,.none_list h hu⟩) hb rb
  ·exact λ_=>I.dv (P:=Rq A s (n+1) (.bl _) (.bool _)) ⟨.bool_none _,.bool_none _⟩ (λ_=>⟨.bool_bool _ _,.bool_bool _ _⟩) (λ_ _=>⟨.bool_int _ _ _,.bool_int _ _ _⟩) (λ_ _=>⟨.bool_str _ _ _,.bool_str _ _ _⟩) (λ_ _ _ h _=>⟨.bool_tuple _ h hu,.bool_tuple _ h hu⟩) (λ_ _ _ h _=>⟨.bool_list _ h hu,.bool_list _ h hu⟩) hb rb
  ·exact λ_ _=>I.dv (P:=Rq A s (n+1) (.int _) (.int _ _)) ⟨.int_none _ _,.int_none _ _⟩ (λ_=>⟨.int_bool _ _ _,.int_bool _ _ _⟩) (λ_ _=>⟨.int_int _ _ _ _,.int_int _ _ _ _⟩) (λ_ _=>⟨.int_str _ _ _ _,.int_str _ _ _ _⟩) (λ_ _ _ h _=>⟨.int_tuple _ _ h hu,.int_tuple _ _ h hu⟩) (λ_ _ _ h _=>⟨.int_list _ _ h hu,.int_list _ _ h hu⟩) hb rb
  ·exact λz _=>I.dv (P:=Rq A s (n+1) (.str z) (.str ⟨z.toArray⟩ _)) ⟨.str_none _ _,.str_none _ _⟩ (λ_=>⟨.str_bool _ _ _,.str_bool _ _ _⟩) (λ_ _=>⟨.str_int _ _ _ _,.str_int _ _ _ _⟩) (λz2 _=>by
    show RcAt A s _ _ (z==z2)/\EqAt A s _ _ (z==z2);rw[<- str_beq];exact⟨.str_str _ _ _ _,.str_str _ _ _ _⟩) (λ_ _ _ h _=>⟨.str_tuple _ _ h hu,.str_tuple _ _ h hu⟩) (λ_ _ _ h _=>⟨.str_list _ _ h hu,.str_list _ _ h hu⟩) hb rb
  ·exact λxs d x T1 i=>I.dv (P:=Rq A s (n+1) (.tup xs) (.ref d)) ⟨.tuple_none T1 hu,.tuple_none T1 hu⟩ (λ_=>⟨.tuple_bool _ T1 hu,.tuple_bool _ T1 hu⟩) (λ_ _=>⟨.tuple_int _ _ T1 hu,.tuple_int _ _ T1 hu⟩) (λ_ _=>⟨.tuple_str _ _ T1 hu,.tuple_str _ _ T1 hu⟩) (λys b y T2 k=>by
    have:=RcAt.tuples T1 T2 hu (it i k);rw[<- i.2.1,<- k.2.1,gY]at this;refine both this λe=>?_
    subst e;cases (Sq.eq (k:=t?) (j:=t?) T1 T2).2;exact i.eq I k) (λ_ _ _ h _=>⟨.tuple_list T1 h hu,.tuple_list T1 h hu⟩) hb rb
  ·exact λxs d x T1 i=>I.dv (P:=Rq A s (n+1) (.lst xs) (.ref d)) ⟨.list_none T1 hu,.list_none T1 hu⟩ (λ_=>⟨.list_bool _ T1 hu,.list_bool _ T1 hu⟩) (λ_ _=>⟨.list_int _ _ T1 hu,.list_int _ _ T1 hu⟩) (λ_ _=>⟨.list_str _ _ T1 hu,.list_str _ _ T1 hu⟩) (λ_ _ _ h _=>⟨.list_tuple T1 h hu,.list_tuple T1 h hu⟩) (λys b y T2 k=>by
    refine both ?_ λe=>?_
    ·show RcAt A s _ _ (si (uz n) xs ys)
     rw[<- gY,i.2.1,k.2.1];by_cases hs:x.size=y.size
     ·have:=RcAt.lists T1 T2 hs hu (it i k)
      simp_all
     ·rw[show(x.size==y.size)=f? by simpa using hs,Z5];exact RcAt.lists_lengths T1 T2 ⇑hs hu
    ·subst e
     cases (Sq.eq (k:=f?) (j:=f?) T1 T2).2;exact i.eq I k) hb rb
end
section
variable{X:Cx}{pins:bf}{φ:Fr}{g:G}{L:aa}{s:VY}{xs ys:List T}{us vs:List VT}
def cL.app(h:cL g xs us)(h2:cL g ys vs):cL g (xs++ys) (us++vs):=by
 induction h with
 |nil=>exact h2
 |cons a _ ih=>exact .cons a ih
def zB{w:T}{t':Nat}{h':Heap}{n:Nat}(I:Inv X pins φ g L s)(r:cL g xs us)(hz:xs.length<=Wf)(k:∀b u,s.heap.get? b=s? u->h'.get? b=s? u){a:Wr}(ha:s.heap.objs.size<=a)(new:h'.get? a=s? {cls:=.type "tuple",data:=.seq us.toArray n}):
  EP X pins φ g (.tup xs) L (.ref a) {s with heap:=h',toks:=t'} :=
 have f:=I.hok.fresh ha
 ⟨_,Le.lay f,I.laid k ha new,r.tup (Le.lay f) (.inl av) ⟨rfl,rfl⟩ rfl hz⟩
theorem p4(c:Nat):∀(k:Nat)(a:Array Nat),(Wj k (#[c]:Array Nat)).foldl (λx1 x2=>x1++x2) a=a++(Wj k c).toArray
 |0,a=>by simp
 |k+1,a=>by
  rw[aa8,XR,p4 c k,aa8];apply abr;simp
def Hk(h:aK fz op x y L=.ok w L'):(∃i j,vw L x=.int i/\vw L y=.int j/\oI op i j L=.ok w L')\/(∃a b,vw L x=.str a/\vw L y=.str b/\op=.Add/\a.length+b.length<=lim/\w=.str (a++b)/\L'=L)\/(∃ch j,vw L x=.str [ch]/\vw L y=.int j/\op=.Mult/\uH j/\w=.str (Wj j.toNat ch)/\L'=L)\/(∃a b,vw L x=.lst a/\vw L y=.lst b/\op=.Add/\fG fz (a++b) L=.ok w L')\/∃a b,vw L x=.tup a/\vw L y=.tup b/\op=.Add/\a.length+b.length<=lim/\w=.tup (a++b)/\L'=L:=by
 unfold aK at h;generalize vw L x=p at h⊢;generalize vw L y=q at h⊢;split at h
 ·grind
 ·unfold oS at h
  split at h
  ·split at h
   ·obtain⟨c,h⟩:=aE h;simp_all
   ·cases h
  ·split at h
   ·split at h
    ·obtain⟨c,h⟩:=aE h;simp_all
    ·cases h
   ·cases h
  ·cases h
 ·grind
 ·split at h
  ·split at h
   ·obtain⟨c,h⟩:=aE h;simp_all
   ·cases h
  ·cases h
 ·cases h
def Hl(I:Inv X pins φ g L s)(h:oI op i j L=.ok w L'):Wa (model X.prog X.w) X.A (binaryOp op (.int i t) (.int j t')) (EP X pins φ g w L') F0 s:=by
 cases op with
 |Add=>
  cases h;exact add_int ((I.tok _).ep (.int _ _))
 |Sub=>
  cases h;exact sub_int ((I.tok _).ep (.int _ _))
 |Mult=>
  obtain⟨hc,h⟩:=aE h;cases h;refine mul_int ((I.tok _).ep (.int _ _)) ?_;rcases hc with⟨h1,h2⟩|⟨h1,h2⟩
  ·exact .of_left (intBits_le_64 h1 h2)
  ·exact .of_right (intBits_le_64 h1 h2)
 |FloorDiv=>
  obtain⟨hc,h⟩:=aE h;cases h;unfold yW at hc;exact floordiv_int ⇑0 (by rw[Int.fdiv_eq_ediv_of_nonneg i ⇑0];exact(I.tok _).ep (.int _ _)) (.inl (PyProof.noPylong_small ⇑0))
 |Mod=>
  obtain⟨hc,h⟩:=aE h;cases h;exact mod_int' ⇑0 (by rw[Int.fmod_eq_emod_of_nonneg i ⇑0];exact(I.tok _).ep (.int _ _))
 |Pow=>
  obtain⟨hc,h⟩:=aE h;cases h;exact pow_int_small hc.1 hc.2.1 hc.2.2 ((I.tok _).ep (.int _ _))
 |_=>
  cases h
def Hm{c:Nat}{n:Int}(I:Inv X pins φ g L s)(hc:uH n):Wa (model X.prog X.w) X.A (binaryOp .Mult (.str ⟨[c].toArray⟩ t) (.int n t')) (EP X pins φ g (.str (Wj n.toNat c)) L) F0 s:=by
 unfold uH at hc;have hl:(⟨[c].toArray⟩:Str).length=1:=rfl
 refine PySem.P.mul_str ?_ (λa b=>?_) (λa b=>?_) ?_
 ·(simp;omega)
 ·rw[hl]
  have:(1:Int)<=(2 ^ 63 - 1) / n:=by
   rw[Int.le_ediv_iff_mul_le ⇑0];omega
  omega
 ·rw[hl]
  have e:(2:Nat) ^ 24=16777216:=by decide
  unfold Builtin.Str.tooLong Wf
  (simp;omega)
 ·by_cases a:n<1
  ·rw[if_pos a]
   refine⟨∅,(I.tok _).ep ?_⟩;have e:n.toNat=0:=by omega
   rw[e];exact .str [] _ ∅
  ·rw[if_neg a]
   by_cases b:(n==1 || (⟨[c].toArray⟩:Str).length==0)=t?
   ·rw[if_pos b]
    have e1:n=1:=by simp_all
    subst e1;exact I.ep (.str [c] _ (by show 1<=Wf;decide))
   ·rw[if_neg b]
    have e:(⟨(Wj n.toNat (⟨[c].toArray⟩:Str).cps).foldl (· ++ ·) #[]⟩:Str)=⟨(Wj n.toNat c).toArray⟩:=by
     show(⟨(Wj n.toNat (#[c]:Array Nat)).foldl (λx1 x2=>x1++x2) #[]⟩:Str)=_;rw[p4];simp
    rw[e];have z:(Wj n.toNat c).length<=Wf:=by rw[Zg];simp;omega
    exact⟨by assumption,(I.tok _).ep (.str _ _ z)⟩
def Hn{p q:Option (Wr × Wr)}{a b:List T}{u v:VT}(I:Inv X pins φ g L s)(rx:RT g p (.tup a) u)(ry:RT g q (.tup b) v)(hz:a.length+b.length<=Wf):Wa (model X.prog X.w) X.A (binaryOp .Add u v) (EP X pins φ g (.tup (a++b)) L) F0 s:=by
 have S0:RT g n? (.tup a) u:=by cases rx;exact .tup ‹_› ‹_› ‹_› ‹_› ‹_› ‹_›
 have S1:RT g n? (.tup b) v:=by cases ry;exact .tup ‹_› ‹_› ‹_› ‹_› ‹_› ‹_›
 obtain⟨x,i1,rfl,⟨⟨cls,dd,data,sl⟩,ho,hc,n,hd⟩,r1,_⟩:=I.tup S0;obtain⟨y,i2,rfl,⟨⟨O6,Ho,data2,Hq⟩,C7,xX,n2,hd2⟩,r2,_⟩:=I.tup S1;simp only at hc hd xX hd2;subst hc hd xX hd2;have l1:a.length=i1.size:=by simpa using V9 r1
 have l2:b.length=i2.size:=by simpa using V9 r2
 by_cases hv:i1.isEmpty=t?
 ·refine concat_meets ⟨_,ho,rfl⟩ ⟨_,C7,rfl⟩ noFill_tuple_add seq_tuple_add Za Y3 (YZ _ _) (tuple_addW0 x y i1 i2 n n2 dd Ho sl Hq hv) ⟨ho,C7,I.ep ?_⟩
  simp_all
 ·by_cases hw:i2.isEmpty=t?
  ·refine concat_meets ⟨_,ho,rfl⟩ ⟨_,C7,rfl⟩ noFill_tuple_add seq_tuple_add Za Y3 (YZ _ _) (tuple_addW1 x y i1 i2 n n2 dd Ho sl Hq hv hw) ⟨ho,C7,I.ep ?_⟩
   simp_all
  ·refine concat_meets ⟨_,ho,rfl⟩ ⟨_,C7,rfl⟩ noFill_tuple_add seq_tuple_add Za Y3 (YZ _ _) (tuple_addW2 x y i1 i2 n n2 dd Ho sl Hq hv hw ⇑0) ⟨ho,C7,?_⟩
   have ea:i1++i2=(i1.toList++i2.toList).toArray:=by simp
   rw[ea];exact⟨_,Le.lay I.fresh,I.laid (t':=s.toks) (λb u e=>VJ _ e) (V3 _) (VO _ rfl),(r1.app r2).tup (Le.lay I.fresh) (.inl av) ⟨rfl,rfl⟩ rfl (by simp_all)⟩
def Hr:v9 X (binaryOp op) (aK fz op):=λ{pins φ g L s x y w L' u v}I rx ry h=>by
 obtain⟨p,vx⟩:=I.view rx;obtain⟨q,vy⟩:=I.view ry;rcases Hk h with⟨i,j,e,e',h⟩|⟨a,b,e,e',rfl,hc,rfl,rfl⟩|⟨c,n,e,e',rfl,hc,rfl,rfl⟩|⟨_,_,e,e',rfl,hm⟩|⟨a,b,e,e',rfl,hc,rfl,rfl⟩<;>rw[e]at vx<;>rw[e']at vy
 ·obtain⟨_,rfl⟩:=vx.iI;obtain⟨_,rfl⟩:=vy.iI;exact Hl I h
 ·obtain⟨_,rfl⟩:=vx.sI;obtain⟨_,rfl⟩:=vy.sI
  have e:(⟨a.toArray⟩:Str)++(⟨b.toArray⟩:Str)=⟨(a++b).toArray⟩:=by
   show(⟨a.toArray++b.toArray⟩:Str)=_;simp
  refine add_str (λt' tk=>(I.tok _).ep ?_) ‹_›;rw[e];exact .str _ _ ⇑((show a.length+b.length<=Wf from hc))
 ·obtain⟨_,rfl⟩:=vx.sI;obtain⟨_,rfl⟩:=vy.iI;exact Hm I hc
 ·obtain⟨a,i1,n1,rfl,e1,r1,z1⟩:=I.lst vx
  obtain⟨b,i2,n2,rfl,e2,r2,z2⟩:=I.lst vy;have hz:=qA hm
  have l1:=V9 r1;have l2:=V9 r2
  refine PySem.P.add_list e1 e2 ?_ (by simp_all);have ea:i1++i2=(i1.toList++i2.toList).toArray:=by simp
  rw[ea];exact lW (t':=s.toks) I (r1.app r2) hm (λb u e=>VJ _ e) (VO _ rfl)
 ·exact Hn I vx vy hc
def Hs(h:N1 x y L=.ok k L'):dat 8 (vw L x)=t?/\dat 8 (vw L y)=t?/\k=eqT (vw L x) (vw L y)/\L'=L:=by
 obtain⟨⟨a,b⟩,h⟩:=aE h;grind
def qH{A:WY}{x:T}{v:VT}(I:Inv X pins φ g L s)(hu:A.units+8<cLine)(hx:dat 8 x=t?)(rx:RT g n? x v)(hy:ys.all (dat 8)=t?)(r:cL g ys us):∃e:VT->Bool,(∀w∈us,YH A s w v (e w))/\(us.any e=ys.any λy=>eqT y x)/\∀(i:Nat) y w,ys[i]?=s? y->us[i]?=s? w->e w=eqT y x:=by
 classical
 have uq:∀(i j:Nat) y z w,ys[i]?=s? y->us[i]?=s? w->ys[j]?=s? z->us[j]?=s? w->y=z:=λi j y z w h1 h2 h3 h4=>
  I.uniq 8 (VQ.mp hy y (Wd h1)) (VQ.mp hy z (Wd h3)) (xN r i y w h1 h2) (xN r j z w h3 h4)
 have hl:=V9 r
 let e:VT->Bool:=λw=>decide (∃(i:Nat)(y:T),ys[i]?=s? y/\us[i]?=s? w/\eqT y x=t?)
 have ev:∀(i:Nat) y w,ys[i]?=s? y->us[i]?=s? w->e w=eqT y x:=λi y w h1 h2=>by
  cases q:eqT y x with
  |true=>exact decide_eq_true ⟨i,y,h1,h2,q⟩
  |false=>
   refine decide_eq_false ?_;rintro⟨j,z,h3,h4,h5⟩;rw[<- uq i j y z w h1 h2 h3 h4,q]at h5;cases h5
 refine⟨e,λw hw=>?_,?_,ev⟩
 ·obtain⟨i,hi,rfl⟩:=Xw hw
  have e1:=Ge9 (l:=ys) (i:=i) ⇑0;have e2:=Ge9 (l:=us) (i:=i) hi
  rw[ev i _ _ e1 e2];exact(I.rc 8 (VQ.mp hy _ (Wn ⇑0)) hx hu (xN r i _ _ e1 e2) rx).2
 ·rw[X9,Xt,Xt]
  constructor
  ·rintro⟨w,hw,h⟩
   obtain⟨i,hi,rfl⟩:=Xw hw;exact⟨ys[i]'⇑0,Wn _,by rw[<- ev i _ _ (Ge9 ⇑0) (Ge9 hi)];exact h⟩
  ·rintro⟨y,hy,h⟩
   obtain⟨i,hi,rfl⟩:=Xw hy;exact⟨us[i]'⇑0,Wn _,by rw[ev i _ _ (Ge9 hi) (Ge9 ⇑0)];exact h⟩
def wo{ch:Nat}{b:Cs}:(!(Builtin.Str.occurrences ⟨b.toArray⟩ ⟨[ch].toArray⟩ 0 (⟨b.toArray⟩:Str).length 1).isEmpty)=d? (ch∈b):=by
 have:=StrLaws.found_one ⟨b.toArray⟩ ch;omega
def zC{x:T}{v:VT}(r:RT g n? x v):(v==WV)=Kc x:=by cases r<;>rfl
end
end M
section
local macro_rules|`(tactic| omega)=>`(tactic| lia -matchEqs -splitMatch -splitIte -abstractProof)
namespace M
open PySem PySem.Spec PyProof.Rows
section
variable{prog:WU}{w:XQ}{A:WY}{E:VT->VY->Prop}{s:VY}
def C8(n d:Nat)(hd:d<=n)(o:Option Int):clip n d o<=n:=by
 cases o with
 |none=>exact hd
 |some v=>
  show(if v<0 then (v+(n:Int)).toNat else min v.toNat n)<=n;grind
def wq(v:Int)(n d:Nat):(if v<0 then max (v+(n:Int)) 0 else min v (n:Int))=((clip n d (s? v):Nat):Int):=by
 show(if v<0 then max (v+(n:Int)) 0 else min v (n:Int))=(((if v<0 then (v+(n:Int)).toNat else min v.toNat n):Nat):Int);grind
def uX(lo hi:Option Int)(n:Nat):YS lo hi 1 (n:Int)=(((clip n 0 lo:Nat):Int),((clip n n hi:Nat):Int)):=by
 have h1:¬ ((1:Int)<0):=by omega
 unfold YS;simp only[h1,if_false];refine Prod.ext ?_ ?_
 ·cases lo with
  |none=>rfl
  |some v=>exact wq v n 0
 ·cases hi with
  |none=>rfl
  |some v=>exact wq v n n
def uY(i j:Nat):X3 (i:Int) (j:Int) 1=j - i:=by
 unfold X3;omega
def nW{v:VT}{o:Option Int}{Q:Option Int->VY->Prop}(p:IsPart v o)(h:Q o s):Wa (model prog w) A (Builtin.Slice.slicePartIndex v) Q E s:=by
 cases p with
 |none=>exact slicePart_none h
 |int i t=>exact slicePart_int h
def gZ{sl:Wr}{vl vu:VT}{lo hi:Option Int}{Q:Int × Int × Nat->VY->Prop}(hs:s.heap.IsSliceOf sl vl vu .none)(pl:IsPart vl lo)(pu:IsPart vu hi)
  (h:Q (((clip n 0 lo:Nat):Int),1,clip n n hi - clip n 0 lo) s):Wa (model prog w) A (ZR (.ref sl) (pure (n:Int))) Q E s:=by
 obtain⟨os,CY,Od,K9⟩:=id hs;unfold ZR Builtin.Slice.sliceFields;refine VI (VI (wpAny_field CY K9 (x:=vl) rfl (VI (wpAny_field CY K9 (x:=vu) rfl (VI (wpAny_field CY K9 (x:=.none) rfl (VM ?_)))))));refine VI (slicePart_none ?_);show Wa _ _ (if ((1:Int)==0)=t? then _ else _) _ _ s
 rw[if_neg ∅];refine VI (nW pl (VI (nW pu (VI (VM ?_)))));show Wa _ _ (match YS lo hi 1 (n:Int) with|(lo,hi)=>pure (lo,(1:Int),X3 lo hi 1)) _ _ s
 rw[uX lo hi n];show Wa _ _ (pure (((clip n 0 lo:Nat):Int),(1:Int),X3 ((clip n 0 lo:Nat):Int) ((clip n n hi:Nat):Int) 1)) _ _ s
 rw[uY];exact VM h
def zD(xs:Array VT)(i k:Nat):((W9 k).filterMap λ(m:Nat)=>xs[((i:Int)+(m:Int) * 1).toNat]?).toArray=((xs.toList.drop i).take k).toArray:=by
 have e:(λ(m:Nat)=>xs[((i:Int)+(m:Int) * 1).toNat]?)=λm=>xs[i+m]?:=by
  grind
 rw[e];have:=pick_run xs i k
 rw[List.filterMap_map]at this;have e2:((λx=>xs[x]?) ∘ λx=>i+x)=λm=>xs[i+m]?:=rfl
 simp_all
def kL{t sl:Wr}{items:Array VT}{vl vu:VT}{lo hi:Option Int}{Q:VT->VY->Prop}(ht:IsTup s.heap t items)(hs:s.heap.IsSliceOf sl vl vu .none)(pl:IsPart vl lo)(pu:IsPart vu hi)
  (hw:¬ (clip items.size 0 lo=0/\clip items.size items.size hi=items.size))
  (h:Q (.ref s.heap.objs.size) {s with heap:=s.heap.push {cls:=.type "tuple",data:=.seq ((items.toList.drop (clip items.size 0 lo)).take (clip items.size items.size hi - clip items.size 0 lo)).toArray}})
  (hsz:items.size<=Wf):Wa (model prog w) A (getItem (.ref t) (.ref sl)) Q E s:=by
 have wt:sizeOk (.seq ((items.toList.drop (clip items.size 0 lo)).take (clip items.size items.size hi - clip items.size 0 lo)).toArray):=by
  show((items.toList.drop (clip items.size 0 lo)).take (clip items.size items.size hi - clip items.size 0 lo)).toArray.size<=Wf
  (simp;omega)
 have hj:clip items.size items.size hi<=items.size:=C8 _ _ (V3 _) hi;obtain⟨os,CY,Od,K9⟩:=id hs;have CM:s.TypeIs (.ref sl) "slice":=⟨os,CY,Od⟩
 unfold getItem
 try with_reducible refine wpAny_holding ?_
 first|refine VI (VM ?_)|skip
 refine VI (wpAny_sequenceKey ht.typeIs ∅ ?_);refine VI (wpAny_callSpecial?_slot (name:=WS "__getitem__") ht.typeIs Xa
  (wpAny_call_entry Xa ht.typeIs entry_tuple_getitem ?_ (args_tuple_getitem _ _)))
 show Wa _ _ (YK (.ref t) >>= _) _ _ s;refine VI (tupleItemsOf_ ht ?_);refine VI (wpAny_typeOf CM ?_);rw[if_pos ∅];refine VI (gZ hs pl pu ?_);have Ht:¬ ((((clip items.size 0 lo:Nat):Int)==0 && (1:Int)==1 && (clip items.size items.size hi - clip items.size 0 lo)==items.size)=t?):=by
  simp_all
 show Wa _ _ (if (((clip items.size 0 lo:Nat):Int)==0 && (1:Int)==1 && (clip items.size items.size hi - clip items.size 0 lo)==items.size)=t? then _ else _) _ _ s;rw[if_neg Ht,zD]
 first
  |exact VI (m:=Ya _) (wpAny_newObj_type (VM ⟨_,rfl,VM h⟩) wt)
  |exact VI (m:=Ya _) (wpAny_newObj_type (VI (VM (VM ⟨_,rfl,VM h⟩))) wt)
  |exact VI (VI (m:=Ya _) (wpAny_newObj_type (VM (VM ⟨_,rfl,VM h⟩)) wt))
  |exact VI (VI (m:=Ya _) (wpAny_newObj_type (VM ⟨_,rfl,VM h⟩) wt))
def kO{t sl:Wr}{items:Array VT}{vl vu:VT}{lo hi:Option Int}{Q:VT->VY->Prop}(ht:IsTup s.heap t items)(hs:s.heap.IsSliceOf sl vl vu .none)(pl:IsPart vl lo)(pu:IsPart vu hi)
  (hw:clip items.size 0 lo=0/\clip items.size items.size hi=items.size) (h:Q (.ref t) s):Wa (model prog w) A (getItem (.ref t) (.ref sl)) Q E s:=by
 obtain⟨os,CY,Od,K9⟩:=id hs;have CM:s.TypeIs (.ref sl) "slice":=⟨os,CY,Od⟩
 unfold getItem
 try with_reducible refine wpAny_holding ?_
 first|refine VI (VM ?_)|skip
 refine VI (wpAny_sequenceKey ht.typeIs ∅ ?_);refine VI (wpAny_callSpecial?_slot (name:=WS "__getitem__") ht.typeIs Xa
  (wpAny_call_entry Xa ht.typeIs entry_tuple_getitem ?_ (args_tuple_getitem _ _)))
 show Wa _ _ (YK (.ref t) >>= _) _ _ s;refine VI (tupleItemsOf_ ht ?_);refine VI (wpAny_typeOf CM ?_);rw[if_pos ∅];refine VI (gZ hs pl pu ?_);have O7:(((clip items.size 0 lo:Nat):Int)==0 && (1:Int)==1 && (clip items.size items.size hi - clip items.size 0 lo)==items.size)=t?:=by
  simp_all
 show Wa _ _ (if (((clip items.size 0 lo:Nat):Int)==0 && (1:Int)==1 && (clip items.size items.size hi - clip items.size 0 lo)==items.size)=t? then _ else _) _ _ s;rw[if_pos O7];unfold Builtin.Tuple.tupleIsExact;refine VI (VI (wpAny_typeOf ht.typeIs (VM ?_)));rw[if_pos ∅];refine VI (wpAny_rule ?_)
 first
  |exact VM ⟨_,rfl,VM h⟩
  |exact VI (VM (VM ⟨_,rfl,VM h⟩))
end
def qI(lo hi:Option Int)(n:Nat):(sliceBounds lo hi n? n).1=((clip n 0 lo:Nat):Int)/\(sliceBounds lo hi n? n).2.1=((clip n n hi:Nat):Int)/\(sliceBounds lo hi n? n).2.2=1:=by
 refine⟨?_,?_,rfl⟩
 ·cases lo with
  |none=>rfl
  |some i=>
   simp only[sliceBounds,clip,aaz,show(1:Int) > 0 by decide,if_true];grind
 ·cases hi with
  |none=>rfl
  |some i=>
   simp only[sliceBounds,clip,aaz,show(1:Int) > 0 by decide,if_true];grind
def pH(its:List VT)(lo hi:Option Int):slicePick its.toArray lo hi n?=((its.drop (clip its.length 0 lo)).take (clip its.length its.length hi - clip its.length 0 lo)).toArray:=by
 obtain⟨h1,h2,h3⟩:=qI lo hi its.toArray.size;unfold slicePick;rw[h1,h2,h3];simp only[sliceRange_one,pick_run,Yb]<;>rfl
section
variable{X:Cx}{pins:bf}{φ:Fr}{g:G}{L:aa}{s:VY}{xs ys:List T}{us vs:List VT}{e a b:Expr}{m ma mb:SE}{pos p2:Pos}
def nY(h:place n i=s? j):seqIndex? i n=s? j/\j<n/\-(n:Int)<=i/\i<n/\((0<=i/\i.toNat=j)\/(i<0/\(i+n).toNat=j)):=by
 unfold place at h;by_cases h0:0<=i
 ·rw[if_pos h0]at h
  by_cases h1:i<n
  ·rw[if_pos h1]at h
   cases h;exact⟨PySem.StrLaws.seqIndex_nonneg h0 h1,⇑0,⇑0,h1,.inl ⟨h0,rfl⟩⟩
  simp_all
 ·rw[if_neg h0]at h
  by_cases h1:-(n:Int)<=i
  ·rw[if_pos h1]at h
   cases h;exact⟨seqIndex_neg ⇑0 h1,⇑0,h1,⇑0,.inr ⟨⇑0,rfl⟩⟩
  simp_all
def xY:Expr->Bool
 | .Slice ..=>f?
 |_=>t?
def zE(h:xY b=t?):∀o i,subscripted b f? o i=operate [o,i] (getItem o i):=λo i=>by
 cases b<;>first|rfl|cases h
def uZ:(Wf:Nat)<2 ^ 63:=by rw[Zg];decide
def jA(h:lift o L=.ok w L'):o=s? w/\L'=L:=by
 cases o with
 |none=>cases h
 |some t=>cases h;simp
def PO(X:Cx)(e:Option Expr)(m:Option SE):Prop:=∀{pins:bf}{φ:Fr}{g:G}{L:aa}{s:VY}{o:Option Int}{L':aa},Inv X pins φ g L s->Gu m φ L=.ok o L'->Wa (model X.prog X.w) X.A (evalPart e X.env) (λu s'=>∃g',Le g g'/\Inv X pins φ g' L' s'/\IsPart u o) F0 s
def C9:PO X n? n?:=λI h=>by cases h;rw[evalPart_none];exact VM ⟨_,.refl _,I,.none⟩
theorem Dc(h:PE X e m):PO X (s? e) (s? m):=λI q=>by
 obtain⟨t,L1,e1,q⟩:=R.of q;cases t<;>first|cases q|skip
 rw[evalPart_some];exact thn (h I e1) λu s1⟨g1,l1,I1,r1⟩=>by obtain⟨_,rfl⟩:=r1.iI;exact⟨g1,l1,I1,.int _ _⟩
theorem cL.drop(h:cL g xs us):∀n,cL g (xs.drop n) (us.drop n):=by
 induction h with
 |nil=>intro n;simp;exact .nil
 |cons a b ih=>intro n;cases n with
  |zero=>exact .cons a b
  |succ n=>simpa using ih n
theorem cL.take(h:cL g xs us):∀n,cL g (xs.take n) (us.take n):=by
 induction h with
 |nil=>intro n;simp;exact .nil
 |cons a b ih=>intro n;cases n with
  |zero=>exact .nil
  |succ n=>simp;exact .cons a (ih n)
def Dd(xs:List α)(lo hi:Option Int):(cut xs lo hi).length<=xs.length:=by
 unfold cut;(simp;omega)
def part_of{v:VT}(p:IsPart v o):∃q:Option (Int × Tok),v=partValue q/\q.map (·.1)=o:=by
 cases p with
 |none=>exact⟨n?,rfl,rfl⟩
 |int i t=>exact⟨s? (i,t),rfl,rfl⟩
theorem kU{z z2:Cs}{t:Tok}{vl vu:VT}{lo hi:Option Int}{sl:Wr}(I:Inv X pins φ g L s)(hz:z.length<=Wf)(hs:s.heap.IsSliceOf sl vl vu .none)(pl:IsPart vl lo)(pu:IsPart vu hi)(e2:(Txt.slice ⟨z.toArray⟩ lo hi == ⟨z2.toArray⟩)=t?)(h2:z2.length<=z.length):
  ∃T id,typeLookup (.type T) "__getitem__"=pure (s? (.builtin id))/\s.TypeIs (.str ⟨z.toArray⟩ t) T/\Wa (model X.prog X.w) X.A (getItem (.str ⟨z.toArray⟩ t) (.ref sl)) (EP X pins φ g (.str z2) L) F0 s:=by
 obtain⟨ql,rfl,el⟩:=part_of pl;obtain⟨qu,rfl,eu⟩:=part_of pu;refine⟨"str",_,F.slot_str_getitem.lookup,typeIs_str _ _ _,wpAny_getItem_str_slice (l:=ql) (u:=qu) (st:=n?) hs rfl ?_⟩;have e:sliceMade ⟨z.toArray⟩ t ql qu n?=if ((1:Int)==1 && (ZL lo hi 1 (⟨z.toArray⟩:Str).length).length==(⟨z.toArray⟩:Str).length)=t? then .val (.str ⟨z.toArray⟩ t) else .str ⟨((ZL lo hi 1 (⟨z.toArray⟩:Str).length).filterMap ((⟨z.toArray⟩:Str).cps[·]?)).toArray⟩:=by
  unfold sliceMade slicePicked;rw[el,eu];rfl
 rw[e];have hlen:(⟨z.toArray⟩:Str).length=z.length:=by rfl
 exact post_val_or_str ⟨VV (Txt.slice_le _ _ _) ⇑0,λt' k=>(I.tok _).ep (by show RT g n? _ (ZM (Txt.slice ⟨z.toArray⟩ lo hi) t');rw[eq_of_beq e2];exact .str _ _ (VV h2 hz))⟩
def Hu{fz:Bool}{x w:T}{u vl vu:VT}{lo hi:Option Int}{sl:Wr}{L':aa}(I:Inv X pins φ g L s)(rx:RT g n? x u)(hs:s.heap.IsSliceOf sl vl vu .none)(pl:IsPart vl lo)(pu:IsPart vu hi)(h:lV fz x lo hi L=.ok w L'):
  ∃T id,typeLookup (.type T) "__getitem__"=pure (s? (.builtin id))/\s.TypeIs u T/\Wa (model X.prog X.w) X.A (getItem u (.ref sl)) (EP X pins φ g w L') F0 s:=by
 obtain⟨p,vx⟩:=I.view rx;unfold lV at h;generalize vw L x=x' at h vx;cases x' with
 |str z=>
  obtain⟨t,rfl,hz⟩:=vx.jM;have hlen:(⟨z.toArray⟩:Str).length=z.length:=by rfl
  match lo,hi,pl,pu,h with
  |some i,s? j,pl,pu,h=>
   obtain⟨⟨h0,h1,h2⟩,h⟩:=aE h;cases h;exact kU I hz hs pl pu ⇑(slice_closesL (x:=⟨z.toArray⟩) h0 h1 ⇑0) (by(simp;omega))
  |none,s? j,pl,pu,h=>
   obtain⟨⟨h0,h2⟩,h⟩:=aE h;cases h;exact kU I hz hs pl pu ⇑(slice_closes_toL (x:=⟨z.toArray⟩) h0 ⇑0) (by simp_all)
  |some i,n?,pl,pu,h=>
   obtain⟨⟨h0,h2⟩,h⟩:=aE h;cases h;refine kU I hz hs pl pu ?_ ⋯;have e:=slice_closes_fromL (x:=⟨z.toArray⟩) h0 ⇑0 rfl
   rw[WE (by(simp;omega))]at e;omega
 |tup xs=>
  cases h;obtain⟨a,its,rfl,ht,r,hz⟩:=I.tupP vx;have hlen:its.size=xs.length:=by have:=V9 r;simp at this;omega
  refine⟨"tuple",_,Xa.lookup,ht.typeIs,?_⟩;by_cases hw:clip its.size 0 lo=0/\clip its.size its.size hi=its.size
  ·refine kO ht hs pl pu hw (I.ep ?_)
   have e:cut xs lo hi=xs:=by
    unfold cut;simp_all
   rw[e];exact vx.tI.1
  ·refine kL ht hs pl pu hw ?_ ⇑0
   rw[hlen];exact zB (w:=.aY) (t':=s.toks) I ((r.drop _).take _) (VV (Dd xs lo hi) hz) (λb u e=>VJ _ e) (V3 _) (VO _ rfl)
 |lst xs=>
  obtain⟨a,its,n,rfl,e,r,hz⟩:=I.lst vx;have hlen:its.size=xs.length:=by have:=V9 r;simp at this;omega
  refine⟨"list",_,slot_list_getitem.lookup,(aj e).typeIs,?_⟩;refine wpAny_getItem_list_slice (aj e) hs pl pu .none ⋯ ?_ ⇑0;rw[show its=its.toList.toArray by simp,pH,Yk,hlen];exact lW (t':=s.toks) I ((r.drop _).take _) h (λb u e=>VJ _ e) (VO _ rfl)
 |_=>cases h
theorem Hv{fz:Bool}{lo hi:Option Expr}(he:PE X e m)(hl:PO X lo ml)(hh:PO X hi mh):PE X (.Subscript e (.Slice lo hi n? p2) pos) (sl fz m ml mh):=λI h=>by
 obtain⟨x,L1,e1,h⟩:=R.of h;obtain⟨l,L2,e2,h⟩:=R.of h;obtain⟨r,L3,e3,h⟩:=R.of h;refine Subscript_ (thn (he I e1) λv s1⟨g1,l1,I1,r1⟩=>wpAny_Slice (thn (hl I1 e2) λvl s2⟨g2,l2,I2,pl⟩=>thn (hh I2 e3) λvu s3⟨g3,l3,I3,pu⟩=>?_));rw[evalPart_none];refine VM ?_;have I4:=I3.kept (h':=s3.heap.push {cls:=.type "slice",data:=.fields #[vl,vu,.none]}) (t':=s3.toks) λb ob q=>VJ _ q
 obtain⟨T,id,hT,ht,hg⟩:=Hu I4 (r1.le (l2.trans l3)) (Heap.IsSliceOf.new ..) pl pu h;exact tail_any (ops:=[.ref s3.heap.objs.size,v]) ht hT (thn hg λ_ _ z=>z.le ((l1.trans l2).trans l3)) (by rfl)
end
end M
end
namespace M
open PySem PySem.Spec PyProof.Rows
section
variable{P:WU}{w:XQ}{A:WY}{E:VT->VY->Prop}{s:VY}{d:Wr}{o:Obj}{es:Array DictEntry}{ep:Nat}
theorem DO.size(D:DO s.heap d o es ep)(hs:(d==sysModules)=f?)(hz:es.size<2 ^ 63){Q:VT->VY->Prop}(h:Q (.int es.size (s.toks+1)) {s with toks:=s.toks+1+1}):Wa (model P w) A (call (.builtin "len") [.ref d]) Q E s:=by
 have hT:s.TypeIs (.ref d) "dict":=⟨o,D.ho,D.hx.1⟩;refine Z6 kind_len plain_len entry_len (args_len1 _) ?_;unfold Builtin.«len»;refine VI (m:=oneArg "len" _) (VM ?_);refine VI (m:=callSpecial? (.ref d) (WS "__len__")) (wpAny_callSpecial?_slot (name:=WS "__len__") hT aaO (wpAny_call_entry aaO hT PySem.F.entry_dict_len ?_ (PySem.F.args_dict_len_1 _)));show Wa _ _ (dictSize d >>= _) _ _ s
 unfold dictSize;refine VI (VI (wpAny_dictEntries D.ho D.hd (VM ?_)));show Wa _ _ (Builtin.Dict.pendingCount d >>= _) _ _ s
 refine VI (wpAny_pendingCount_other hs ?_);refine VI (wpAny_mkInt (VM ⟨_,rfl,?_⟩));refine VI (wpAny_holding (VM ?_));refine VI (wpAny_letGo ?_);show Wa _ _ (if ((es.size:Nat):Int)<0 then _ else _) _ _ _
 rw[if_neg ⇑0];show Wa _ _ (if ((es.size:Nat):Int)≥2 ^ 63 then _ else _) _ _ _
 rw[if_neg ⇑0];exact VI (wpAny_mkInt (VM ⟨_,rfl,h⟩))
end
section
variable{X:Cx}{pins:bf}{φ:Fr}{g:G}{L L':aa}{s:VY}{xs ys:List T}{us vs:List VT}{e o:Expr}{es:List Expr}{m:SE}{ms:List SE}{pos p apos:Pos}{x:Str}{F:Fn}{t w:T}{u v:VT}
theorem Hw(hc:∃f,bootBuiltins x=s? f/\eE X f F/\((∃id,f=.builtin id)\/∃T,f=.type T))(hg:Gl X x)(hm:X.mg x=n?)(hn:x≠"__name__")(K5:(x==("__debug__":Str))=f?)(ha:PA X (e::es) (iT ms))(hs:(e::es).all bB=t?):PE X (.Call (.Name x p) (e::es) [] pos) (ae F ms):=λI h=>by
 obtain⟨ts,L1,e1,h⟩:=R.of h;obtain⟨f,hv,hF,hk⟩:=hc;rw[WD,VW]at hs;refine wpAny_Call_Name_kw (i9 I hg hm hv ?_ hn K5);have A:=thn (E:=F0) (Q':=λus s1=>Wa (model X.prog X.w) X.A (call f us) (EP X _ _ _ _ _) F0 s1) (ha pos I e1) λus s1⟨g1,l1,I1,r1⟩=>thn (hF I1 r1 h) λ_ _ z=>z.le l1
 rcases hk with⟨id,rfl⟩|⟨T,rfl⟩
 ·exact callWith_builtin1 A (aR hs.1) (eG hs.2)
 ·exact callWith_type1 A (aR hs.1) (eG hs.2)
def cb(r:cL g [t] us):∃u,us=[u]/\RT g n? t u:=by
 cases r with|cons a b=>cases b;exact⟨_,rfl,a⟩
def gO{t1 t2:T}(r:cL g [t1,t2] us):∃u1 u2,us=[u1,u2]/\RT g n? t1 u1/\RT g n? t2 u2:=by
 cases r with|cons a b=>obtain⟨u,rfl,c⟩:=cb b;exact⟨_,_,rfl,a,c⟩
def str_len{z:Cs}:(⟨z.toArray⟩:Str).length=z.length:=by show z.toArray.size=_;simp
def zF:eE X (.builtin "len") aU:=λ{_ _ _ _ _ xs _ _ _}I r h=>by
 have hn:=uZ;unfold aU at h;split at h
 ·obtain⟨u,rfl,ru⟩:=cb r
  obtain⟨p,v⟩:=I.view ru;split at h
  ·rename_i ev
   cases h;rw[ev]at v;obtain⟨t,rfl,hz⟩:=v.jM;refine len_str (by rw[str_len];omega) ?_;rw[str_len];exact(I.tok _).ep (.int _ _)
  ·rename_i ev
   cases h;rw[ev]at v;obtain⟨a,its,rfl,e,rr,hz⟩:=I.tupP v;have hl:=V9 rr
   exact len_tuple e (by simp at hl;omega) (by rw[show its.size=_ from by simpa using hl.symm];exact(I.tok _).ep (.int _ _))
  ·rename_i ev
   cases h;rw[ev]at v;obtain⟨a,its,n,rfl,e,rr,hz⟩:=I.lst v;have hl:=V9 rr
   exact Calls.call_len_list (aj e) (by simp at hl;omega) (by rw[show its.size=_ from by simpa using hl.symm];exact(I.tok _).ep (.int _ _))
  ·rename_i ev
   cases h;rw[ev]at v;obtain⟨a,o,es,ep,rfl,D,hs,hl,hz⟩:=I.OS v;exact D.size hs ⇑0 (by rw[<- hl];exact(I.tok _).ep (.int _ _))
  ·cases h
 ·cases h
theorem Inv.seq{q:Option (Wr × Wr)}(I:Inv X pins φ g L s)(r:RT g q t u)(h:t=.lst xs\/t=.tup xs):∃a its o n T,u=.ref a/\s.heap.get? a=s? o/\o.cls=.type T/\o.data=.seq its n/\(T="list"\/T="tuple")/\cL g xs its.toList/\its.size=xs.length/\xs.length<=Wf:=by
 rcases h with rfl|rfl
 ·obtain⟨a,its,n,rfl,e,rr,hz⟩:=I.lst r
  exact⟨a,its,_,n,_,rfl,e,rfl,rfl,.inl rfl,rr,⇑((V9 rr).symm),hz⟩
 ·obtain⟨a,its,rfl,⟨o,ho,hc,n,hd⟩,rr,hz⟩:=I.tupP r
  exact⟨a,its,o,n,_,rfl,ho,hc,hd,.inr rfl,rr,⇑((V9 rr).symm),hz⟩
def wu{fz:Bool}(I:Inv X pins φ g L s)(ru:RT g n? t u)(ht:vw L t=.lst xs\/vw L t=.tup xs)(h:fG fz xs L=.ok w L'):Wa (model X.prog X.w) X.A (call (.type "list") [u]) (EP X pins φ g w L') F0 s:=by
 obtain⟨p,v⟩:=I.view ru;obtain⟨a,its,o,n,T,rfl,ho,hc,hd,hT,rr,hl,hz⟩:=I.seq v ht;exact call_list_seq a hT ho hc hd (λh' c' kp e=>lW (t':=s.toks) (n:=c') I rr h kp ⇑e) ⇑0
def zG:eE X (.type "tuple") m8:=λ{_ _ _ _ s _ _ _ _}I r h=>by
 unfold m8 at h;split at h
 ·obtain⟨u,rfl,ru⟩:=cb r
  obtain⟨p,v⟩:=I.view ru;split at h
  ·rename_i ev
   rw[ev]at v;cases h;obtain⟨a,its,rfl,e,rr,hz⟩:=I.tupP v;exact call_tuple_same e (I.ep v.tI.1)
  ·rename_i ev
   rw[ev]at v;cases h;obtain⟨a,its,n,rfl,e,rr,hz⟩:=I.lst v;have hl:=V9 rr
   refine call_tuple_list (aj e) (λh' kp=>?_) (by simp at hl;omega);have J:=I.kept (t':=s.toks) kp
   exact zB (w:=.aY) (t':=s.toks) (n:=0) J rr hz (λb o e=>VJ _ e) (V3 _) ⇑(VO h' (o:={cls:=.type "tuple",data:=.seq its}) rfl)
  ·cases h
 ·cases h
def De{α:Type}{f:T->Option α}:∀{ys:List T}{bs:List α},ys.mapM f=s? bs->ys.length=bs.length/\∀(i:Nat) y,ys[i]?=s? y->∃b,bs[i]?=s? b/\f y=s? b:=by
 intro l9;induction l9 with
 |nil=>intro bs h;simp at h;subst h;exact⟨rfl,λi y e=>by simp at e⟩
 |cons y ys ih=>
  intro bs h;rw[Xj]at h;cases e1:f y with
  |none=>rw[e1]at h;cases h
  |some b=>
   rw[e1]at h;cases e2:ys.mapM f with
   |none=>rw[e2]at h;cases h
   |some r=>
    rw[e2]at h;have h:s? (b::r)=s? bs:=h
    cases h;obtain⟨h1,h2⟩:=ih e2;refine⟨by simp[h1],λi z e=>?_⟩;cases i with
    |zero=>cases e;exact⟨b,rfl,e1⟩
    |succ i=>exact h2 i z ⇑e
def Hx{α:Type}{f:T->Option α}{k:List α->T}(I:Inv X pins φ g L s)(r:cL g xs us)(h:KD f k xs L=.ok w L'):∃a its n bs,us=[.ref a]/\L'=L/\w=k bs/\s.heap.get? a=s? {cls:=.type "list",data:=.seq its n}/\its.size=bs.length/\a<s.heap.objs.size /\
  ∀(i:Nat) v,its[i]?=s? v->∃b y,bs[i]?=s? b/\f y=s? b/\RT g n? y v:=by
 unfold KD at h;split at h
 ·obtain⟨u,rfl,ru⟩:=cb r
  obtain⟨p,v⟩:=I.view ru;split at h
  ·rename_i ev
   rw[ev]at v;obtain⟨q,rfl⟩:=jA h;obtain⟨bs,q2,rfl⟩:=V7.mp q;obtain⟨h1,h2⟩:=De q2;obtain⟨a,its,n,rfl,e,rr,hz⟩:=I.lst v;have hl:=V9 rr
   refine⟨a,its,n,bs,rfl,rfl,rfl,e,by simp at hl;omega,V5 e,λi v hv=>?_⟩;have hi:=(XU.mp hv).1
   have e1:=Ge9 (l:=_) (i:=i) (show i<_ from by rw[hl];simpa using hi);obtain⟨b,b1,b2⟩:=h2 i _ e1;exact⟨b,_,b1,b2,xN rr i _ v e1 ⇑hv⟩
  ·cases h
 ·cases h
def all_range(bs:List Bool):((W9 bs.length).all λi=>(bs[i]?).getD t?)=bs.all id:=by
 rw[X9,VQ,VQ];constructor
 ·intro h b hb
  obtain⟨i,hi,rfl⟩:=Xw hb;have z:=h i (Z7.mpr hi)
  simpa[hi] using z
 ·intro h i hi
  have hi':=Z7.mp hi;have z:=h _ (Wn hi')
  simpa[hi'] using z
def Inv.over{h':Heap}{tk:Nat}{o:Obj}(I:Inv X pins φ g L s)(hk:∀b ob,b∉[s.heap.objs.size]->(s.heap.push o).get? b=s? ob->h'.get? b=s? ob):Inv X pins φ g L {s with heap:=h',toks:=tk} :=
 I.kept λb ob e=>hk b ob (λhm=>by rw[Wb.mp hm]at e;exact Xf _ (V5 e)) (VJ _ e)
def Hy{y:T}{b:Bool}{v:VT}(h:N8 y=s? b)(r:RT g n? y v):v=.bool b:=by
 cases r<;>cases h;rfl
def Hz{y:T}{b:Cs}{v:VT}(h:Co y=s? b)(r:RT g n? y v):∃t,v=.str ⟨b.toArray⟩ t/\b.length<=Wf:=by
 cases y<;>cases h;exact r.jM
def zH:eE X (.builtin "all") nL:=λ{_ _ _ _ s _ _ _ _}I r h=>by
 obtain⟨a,its,n,bs,rfl,rfl,rfl,e,hl,cM,hi⟩:=Hx I r h;refine call_all_walk (wpAny_pyIter_list (aj e) ?_);refine⟨s.heap.objs.size,[s.heap.objs.size,a],[s.heap.objs.size],its.size,_,_,λi=>(bs[i]?).getD t?,rfl,Walks.list (A:=X.A.in1) I.ok.hd _ a (Wm cM) its,
  ⟨⟨_,VO _ rfl,rfl,rfl⟩,(aj e).push _⟩,λi v s' Q' E' hP hQ=>?_,λh' tk hk=>?_⟩
 ·obtain⟨b,y,b1,b2,b3⟩:=hi i v hP
  rw[Hy b2 b3];simp only[b1,Zr]at hQ;exact wpAny_truthy_bool hQ
 ·rw[hl,all_range]
  exact(I.over hk).ep (.bl _)
def zI:eE X (.type "str") uI:=λI r h=>by
 unfold uI at h;split at h
 ·obtain⟨⟨h1,h2⟩,h⟩:=aE h
  cases h;obtain⟨u,rfl,ru⟩:=cb r;obtain⟨_,rfl⟩:=ru.iI;exact PySem.P.str_of_int h1 ((I.tok _).ep (.str _ _ h2))
 ·cases h
def zJ:eE X (.type "int") xM:=λI r h=>by
 unfold xM at h;split at h
 ·obtain⟨u,rfl,ru⟩:=cb r
  obtain⟨t,rfl,hz⟩:=ru.jM;split at h
  ·obtain⟨h1,h⟩:=aE h
   cases h;exact PySem.W.KIN.call_text ‹_› (by rw[str_len];exact h1) ((I.tok _).ep (.int _ _))
  ·cases h
 ·cases h
def La{xs:List T}{w:T}{L':aa}(h:E8 xs L=.ok w L'):∃x n,xs=[x,.cl (.type n)]/\N9 L n (vw L x)=.ok w L':=by
 match xs,h with
 | [x,y],h=>
  have h:(match ON y with|some n=>N9 L n (vw L x)|none=>.bad)=.ok w L':=h;cases e:ON y with
  |none=>rw[e]at h;cases h
  |some n=>
   rw[e]at h;refine⟨x,n,?_,h⟩;cases y with
   |cl c=>cases c with
    |type m=>cases e;rfl
    |_=>cases e
   |_=>cases e
theorem Dg:eE X (.builtin "isinstance") E8:=λ{_ _ _ L s _ w L' _}I r h=>by
 obtain⟨x,n,rfl,hq⟩:=La h;clear h;obtain⟨u,v,rfl,r1,r2⟩:=gO r;obtain rfl:=r2.cI;have key:∀{b k:Bool}{P:Prop},(n="bool"->L'=L->w=.bl b->P)->(n="int"->L'=L->w=.bl k->P)->(if n="bool" then R.ok (T.bl b) L else if n="int" then .ok (.bl k) L else .bad)=.ok w L'->P:=λf k h=>by
  split at h
  ·cases h;exact f ‹_› rfl rfl
  ·split at h
   ·cases h;exact k ‹_› rfl rfl
   ·cases h
 have one:∀{m:String},(if n=m then R.ok (T.bl t?) L else .bad)=.ok w L'->n=m/\L'=L/\w=.bl t?:=λh=>by
  split at h
  ·cases h;exact⟨‹_›,rfl,rfl⟩
  ·cases h
 obtain⟨p,r1⟩:=I.view r1;generalize vw L x=x at hq r1;cases x with
 |bl b=>
  obtain rfl:u=.bool b:=by cases r1;rfl
  exact key (λa b c=>by subst a b c;exact PySem.IsiPair.bool_bool (I.ep (.bl _))) (λa b c=>by subst a b c;exact PySem.IsiPair.bool_int (I.ep (.bl _))) hq
 |int i=>
  obtain⟨_,rfl⟩:∃t,u=.int i t:=by cases r1;exact⟨_,rfl⟩
  exact key (λa b c=>by subst a b c;exact PySem.IsiPair.int_bool ((I.tok _).ep (.bl _))) (λa b c=>by subst a b c;exact PySem.IsiPair.int_int (I.ep (.bl _))) hq
 |tup xs=>
  obtain⟨rfl,rfl,rfl⟩:=one hq;obtain⟨a,its,rfl,⟨o,e,hc,_⟩,_⟩:=I.tupP r1;exact aaP (aaQ (Tx:="tuple") PySem.F.isi_meta_tuple PySem.F.sub_tuple_tuple) ⟨⟨o,e,hc⟩,I.ep (.bl _)⟩
 |lst xs=>
  obtain⟨rfl,rfl,rfl⟩:=one hq;obtain⟨a,its,n,rfl,e,_⟩:=I.lst r1;exact aaP (aaQ (Tx:="list") PySem.F.isi_meta_list PySem.F.sub_list_list) ⟨⟨_,e,rfl⟩,I.ep (.bl _)⟩
 |_=>cases hq
def yQ(X:Cx)(id:String)(m:T->Fn):Prop:=∀{pins:bf}{φ:Fr}{g:G}{L:aa}{s:VY}{x:T}{xs:List T}{w:T}{L':aa}{v:VT}{us:List VT},Inv X pins φ g L s->RT g n? x v->cL g xs us->m x xs L=.ok w L'->Wa (model X.prog X.w) X.A (call (.builtin id) (v::us)) (EP X pins φ g w L') F0 s
def Ty.nm:Ty->String
 | .s=>"str"|.l=>"list"|.t=>"tuple"|.d=>"dict"
def HA{n:Ty}(I:Inv X pins φ g L s)(r:RT g n? t u)(h:CH L t=s? n):s.TypeIs u n.nm/\(∀a,u=.ref a->∃o,s.heap.get? a=s? o/\o.dict=n?):=by
 obtain⟨p,v⟩:=I.view r;unfold CH at h;split at h<;>first|cases h|skip
 all_goals (rename_i ev;rw[ev]at v)
 ·obtain⟨t,rfl,_⟩:=v.jM
  exact⟨typeIs_str _ _ _,λa e=>by cases e⟩
 ·obtain⟨a,its,n,rfl,e,_⟩:=I.lst v
  exact⟨⟨_,e,rfl⟩,λb q=>by cases q;exact⟨_,e,rfl⟩⟩
 ·obtain⟨_,_,_,_,_,rfl,hk,hc,_⟩:=v.tI
  exact⟨⟨_,I.kn hk,hc.1⟩,λb q=>by cases q;exact⟨_,I.kn hk,hc.2⟩⟩
 ·cases v with
  |ay _ hk hx=>exact⟨⟨_,I.kn hk,hx.1⟩,λb q=>by cases q;exact⟨_,I.kn hk,hx.2.1⟩⟩
def HB(X:Cx)(x:Str)(y:Ty)(F:T->Fn):Prop:=∃id,PlainAttrs y.nm/\Slot y.nm x id/\typeOf (.builtin id)=pure (.type "method_descriptor")/\yQ X id F
theorem Dh{f:Ty->Option (T->Fn)}(hM:∀T F,f T=s? F->HB X x T F)(ho:PE X o m)(ha:PA X es (iT ms))(h0:es=[]->ms=[])(hs:es.all bB=t?)(hl:es.length<30)(hb:okBase o=t?)(sN:(apos.endLine==pos.line)=t?):
  PE X (.Call (.Attribute o x apos) es [] pos) (aF f m ms):=λI h=>by
 obtain⟨t,L1,e1,h⟩:=R.of h;cases ef:(CH L1 t).bind f with
 |none=>simp only[ef]at h;cases h
 |some F=>
  simp only[ef]at h;obtain⟨T,hT,hF⟩:=XH.mp ef;obtain⟨ts,L2,e2,h⟩:=R.of h;obtain⟨id,pa,slot,Kh,hm⟩:=hM T F hF;refine wpAny_Call_method_late (base_ok hb) (zy hs hl) sN rfl (thn (ho I e1) λv s1⟨g1,l1,I1,r1⟩=>?_);obtain⟨h1,h2⟩:=HA I1 r1 hT;refine⟨T.nm,id,pa,slot,Kh,h1,h2,?_⟩;refine Calls.callWith_builtin (eG hs) ?_;cases es with
  |nil=>
   rw[h0 rfl]at e2;cases e2;exact PySem.evalArgs_none (thn (hm I1 r1 .nil h) λ_ _ z=>z.le l1)
  |cons e es=>
   rw[WD,VW]at hs;have A:=ha pos I1 e2
   rw[aR hs.1]at A ⊢;exact Calls.evalArgs_plain (thn A λus s2⟨g2,l2,I2,r2⟩=>thn (hm I2 (r1.le l2) r2 h) λ_ _ z=>z.le (l1.trans l2))
def Inv.qE{n:Nat}{its:Array VT}{cnt:Nat}{a:Wr}{f:Array VT->Array VT}{t':Nat}(I:Inv X pins φ g L s)(hc:at_ L n=s? (.lst xs))(ru:RT g n? (.ref n) (.ref a))(e:s.heap.get? a=s? {cls:=.type "list",data:=.seq its cnt})(r:cL g ys (f its).toList)(hz:ys.length<=Wf):
  EP X pins φ g .aY (put L n (.lst ys)) .none {s with heap:=s.heap.update a (XX f),toks:=t'}:=by
 obtain⟨p,hp,rc⟩:=I.rel.cells n _ hc;cases ru with
 |ref hq=>
  rw[hp]at hq;cases hq;generalize wx:(s? p:Option (Wr × Wr))=pp at rc;generalize O8:Zl p.1=pa at rc;cases rc with
  |lst ht hk Vq hl hi=>
   cases O8;subst wx;have q:=abB e f
   obtain⟨n',hn'⟩:∃n',(s.heap.update p.1 (XX f)).get? p.1=s? {cls:=.type "list",data:=.seq (f its) n'}:=⟨_,q⟩;have hH:∃o,g.H p.1=s? (f?,o):=by
    rcases hk with hk|⟨z,_⟩
    ·exact⟨_,hk⟩
    ·cases z
   obtain⟨o,hH⟩:=hH;have l:=Le.set (o:={cls:=.type "list",data:=.seq (f its) n'}) hH
   refine⟨_,l,I.set (t':=t') hp (.inl rfl) hH (λb v hb hv=>(Xv s.heap (XX f) (YA hb)).trans hv) hn' ?_,.aY⟩;have:=r.lst (o:=default) (g1:=g.set p.1 {cls:=.type "list",data:=.seq (f its) n'}) (n:=n') l ht (.inl (by rw[show(f its).toList.toArray=f its by simp];exact av)) hz
   exact this
def Inv.sP{n:Nat}(I:Inv X pins φ g L s)(rx:RT g n? (.ref n) v)(ea:at_ L n=s? (.lst ys)):∃a its cnt,v=.ref a/\s.heap.get? a=s? {cls:=.type "list",data:=.seq its cnt}/\cL g ys its.toList/\its.size=ys.length/\ys.length<=Wf:=by
 obtain⟨p,v⟩:=I.view rx;rw[show vw L (.ref n)=.lst ys by show(at_ L n).getD T.aY=_;rw[ea];rfl]at v;obtain⟨a,its,cnt,rfl,e,rr,hz⟩:=I.lst v;exact⟨a,its,cnt,rfl,e,rr,⇑((V9 rr).symm),hz⟩
theorem HC:yQ X "list.append" CK:=λI rx rv h=>by
 unfold CK at h;split at h
 ·split at h
  ·rename_i n t _ ys ea
   obtain⟨hz,h⟩:=aE h;cases h;obtain⟨u,rfl,ru⟩:=cb rv;obtain⟨a,its,cnt,rfl,e,rr,hl,_⟩:=I.sP rx ea;have cM:ys.length<Wf:=hz
   refine call_meets Zx ⟨_,e,rfl⟩ F.entry_list_append (F.args_list_append_2 _ _) (PySem.list_append a its cnt u ⇑0) ⟨e,?_⟩;exact I.qE ea rx e ⇑(rr.app (.cons ru .nil)) (by simp;omega)
  ·cases h
 ·cases h
def nZ(l:Wr)(xs:Array VT)(n:Nat)(b:Wr)(ys:Array VT)(k:Nat)(dd:Option Wr)(sl:Array (Option VT))(ip:¬(!xs.isEmpty && Yc (xs.size+ys.size))=t?)(h1:xs.size<=Wf)(h2:xs.size+ys.size<=Wf+1):
  Meets (Builtin.«list.extend» ⟨[.ref l,.ref b],[]⟩)
   (λ_ R st=>st.heap.get? l=s? {cls:=.type "list",dict:=n?,data:=.seq xs n,slots:=#[]}/\st.heap.get? b=s? {cls:=.type "tuple",dict:=dd,data:=.seq ys k,slots:=sl} /\
    R (.ok (.ret WV)) {st with heap:=st.heap.update l (XX λx=>x++ys),toks:=st.toks}) :=
 .of_wp λprog w A R st h=>by
  obtain⟨hp,gs,dr,tk,os⟩:=st;obtain⟨gl,gb,hR⟩:=h;have i1:=AutoSeq1.idx_int
  have i2:=aaf;have i3:=AutoSeq1.sub_list_list
  have i4:=AutoSeq1.sub_tuple_list;have i5:=AutoSeq1.sub_list_tuple
  have both:(xs++ys).size<=Wf+1:=by rw[Array.size_append];exact h2
  wp_walk using (wpAny_updateSeq gl rfl (hz:=h1) (_hz':=both)),aag gl,aag gb
  exact⟨_,rfl,hR⟩
theorem HD:yQ X "list.extend" qv:=λI rx rv h=>by
 have long:∀{n:Nat}(b:Bool),n<=Wf->¬ (b && Yc n)=t?:=λb h=>by
  rw[show Yc _=f? by unfold Yc;exact decide_eq_false ⇑0,Z5];exact Xl
 unfold qv at h;split at h
 ·split at h
  ·rename_i n t _ _ ys zs ea ev
   obtain⟨hz,h⟩:=aE h;have hz:ys.length+zs.length<=Wf:=hz
   cases h;obtain⟨u,rfl,ru⟩:=cb rv;obtain⟨p,v⟩:=I.view ru;rw[ev]at v;obtain⟨a,its,cnt,rfl,e,rr,hl,_⟩:=I.sP rx ea;obtain⟨b,qJ,O9,rfl,e2,Di,Pa⟩:=I.lst v;have pv:qJ.size=zs.length:=by simpa using (V9 Di).symm
   refine call_meets Zy ⟨_,e,rfl⟩ F.entry_list_extend (F.args_list_extend_2 _ _) (AutoSeq1.list_extend_list_list_0 a its cnt b qJ O9 (long _ ⇑0) ⇑0 ⇑0) ⟨e,e2,?_⟩;exact I.qE ea rx e ⇑(rr.app Di) (by simp;omega)
  ·rename_i n t _ _ ys zs ea ev
   obtain⟨hz,h⟩:=aE h;have hz:ys.length+zs.length<=Wf:=hz
   cases h;obtain⟨u,rfl,ru⟩:=cb rv;obtain⟨p,v⟩:=I.view ru;rw[ev]at v;obtain⟨a,its,cnt,rfl,e,rr,hl,_⟩:=I.sP rx ea;obtain⟨b,qJ,rfl,⟨⟨oc,od,dt,sl⟩,e2,hc,n2,hd⟩,Di,Pa⟩:=I.tupP v;simp only at hc hd;subst hc hd;have pv:qJ.size=zs.length:=by simpa using (V9 Di).symm
   refine call_meets Zy ⟨_,e,rfl⟩ F.entry_list_extend (F.args_list_extend_2 _ _) (nZ a its cnt b qJ n2 od sl (long _ ⇑0) ⇑0 ⇑0) ⟨e,e2,?_⟩;exact I.qE ea rx e ⇑(rr.app Di) (by simp;omega)
  ·cases h
 ·cases h
def count_eq{α β:Type}{l:List α}{k:List β}{f:α->Bool}{g:β->Bool}(hl:l.length=k.length)(h:∀(i:Nat) a b,l[i]?=s? a->k[i]?=s? b->f a=g b):l.countP f=k.countP g:=by
 induction l generalizing k with
 |nil=>cases k with
  |nil=>rfl
  |cons _ _=>cases hl
 |cons a l ih=>cases k with
  |nil=>cases hl
  |cons b k=>
   rw[aaA,aaA,ih ⇑hl (λi x y e1 e2=>h (i+1) x y ⇑e1 ⇑e2),h 0 a b rfl rfl]
def l6{M:Model}{A:WY}{E:VT->VY->Prop}{s:VY}{β:Type}{n:Nat}(f:Nat->β->Sem (ForInStep β))(I:Nat->β->VY->Prop)(Q:β->VY->Prop){b:β}
  (turn:∀i b s',i<n->I i b s'->Wa M A (f i b) (λr Oe=>match r with|.done b'=>Q b' Oe|.yield b'=>I (i+1) b' Oe) E s')
  (fin:∀b s',I n b s'->Q b s') (h:I 0 b s):Wa M A (forIn [0:n] b f) Q E s:=by
 rw[Std.Legacy.Range.forIn_eq_forIn_range'];have hsz:([0:n]:abD).size=n:=by simp[Std.Legacy.Range.size]
 show Wa M A (forIn (List.range' 0 ([0:n]:abD).size 1) b f) Q E s;rw[hsz];refine wpAny_forIn_list f (λrest b s'=>∃i,i<=n/\rest=List.range' i (n - i) 1/\I i b s') Q ?_ ?_ _ _ ⟨0,Wg _,⋯,h⟩
 ·rintro x rest b s' ⟨i,hi,er,hI⟩
  have cM:i<n:=by
   cases e:n - i with
   |zero=>rw[e]at er;cases er
   |succ m=>omega
  have e2:n - i=(n - (i+1))+1:=by omega
  rw[e2,List.range'_succ]at er;injection er with e3 e4;subst e3;refine wpAny_mono (turn x b s' cM hI) (λr Oe q=>?_) λ_ _ q=>q
  cases r with
  |done b'=>exact q
  |yield b'=>exact⟨x+1,cM,e4,q⟩
 ·rintro b s' ⟨i,hi,er,hI⟩
  have:i=n:=by
   cases e:n - i with
   |zero=>omega
   |succ m=>rw[e,List.range'_succ]at er;cases er
  subst this;exact fin b s' hI
open SeqAt in
def pJ(l:Wr)(items:Array VT)(n:Nat)(dd:Option Wr)(sl:Array (Option VT))(x:VT)(e:VT->Bool)(j:Nat)(hj:j<items.size)(hit:e items[j]=t?)(Ht:∀m(hm:m<items.size),m<j->e items[m]=f?):
  Meets (Builtin.«tuple.index» ⟨[.ref l,x],[]⟩)
   (λA R s=>s.heap.get? l=s? {cls:=.type "tuple",dict:=dd,data:=.seq items n,slots:=sl}/\(∀y,y∈items->EqAt A.in1 s y x (e y))/\R (.ok (.ret (.int (j:Nat) s.toks))) {s with toks:=s.toks+1}) :=
 .of_wp λprog w A R s h=>by
  obtain⟨hp,g,d,tk,os⟩:=s;obtain⟨hl,he,h⟩:=h
  wp_walk using wpAny_loadPart' hl,l6 _ (λi b s'=>b.1=n?/\s'=⟨hp,g,d,tk,os⟩/\i<=j) _
  case turn=>
   rintro i b s' hi ⟨hb,rfl,kW⟩;have hi':i<items.size:=by omega
   rw[VX hi'];refine VI (he items[i] (Array.getElem_mem hi') prog w _ _ ?_);by_cases hy:i=j
   ·subst hy
    rw[hit]
    wp_walk
    exact⟨_,rfl,h⟩
   ·rw[Ht i hi' ⇑0]
    wp_walk
    exact⟨rfl,rfl,⇑0⟩
  case fin=>
   rintro⟨b1,b2⟩ s' ⟨hb,rfl,kW⟩;omega
  case h=>
   exact⟨rfl,rfl,Wg _⟩
def zK{A:WY}{its:Array VT}(hu:A.units+8<cLine)(I:Inv X pins φ g L s)(h1:dat 8 t=t?)(h2:xs.all (dat 8)=t?)(ru:RT g n? t u)(rr:cL g xs its.toList):∃e:VT->Bool,(∀w∈its,YH A s w u (e w))/\its.toList.countP e=xs.countP λy=>eqT y t:=by
 obtain⟨e,he,_,hi⟩:=qH I hu h1 ru h2 rr;exact⟨e,λw hw=>he w ⇑hw,(count_eq (V9 rr) λi a b e1 e2=>(hi i a b e1 e2).symm).symm⟩
def Dj(hu:X.A.units+20<cLine):yQ X "list.count" v5:=λI rx rv h=>by
 have jN:X.A.in1.units+8<cLine:=by show X.A.units+1+8<cLine;omega
 obtain⟨p,v⟩:=I.view rx;unfold v5 at h;split at h
 ·rename_i ev
  obtain⟨⟨h1,h2⟩,h⟩:=aE h;cases h;obtain⟨u,rfl,ru⟩:=cb rv;rw[ev]at v;obtain⟨a,its,n,rfl,e,rr,_⟩:=I.lst v;obtain⟨f,f1,f2⟩:=zK jN I h1 h2 ru rr;exact call_meets aar (aj e).typeIs PySem.F.entry_list_count (PySem.F.args_list_count_2 _ _) (SeqAt.list_countAt a its n n? #[] u f) ⟨e,f1,by rw[f2];exact(I.tok _).ep (.int _ _)⟩
 ·cases h
def Dk(hu:X.A.units+20<cLine):yQ X "tuple.count" v7:=λI rx rv h=>by
 have jN:X.A.in1.units+8<cLine:=by show X.A.units+1+8<cLine;omega
 obtain⟨p,v⟩:=I.view rx;unfold v7 at h;split at h
 ·rename_i ev
  obtain⟨⟨h1,h2⟩,h⟩:=aE h;cases h;obtain⟨u,rfl,ru⟩:=cb rv;rw[ev]at v;obtain⟨a,its,rfl,⟨⟨oc,od,dt,sl⟩,e2,hc,n2,hd⟩,rr,_⟩:=I.tupP v;simp only at hc hd;subst hc hd;obtain⟨f,f1,f2⟩:=zK jN I h1 h2 ru rr;exact call_meets aah ⟨_,e2,rfl⟩ PySem.F.entry_tuple_count (PySem.F.args_tuple_count_2 _ _) (SeqAt.tuple_countAt a its n2 od sl u f) ⟨e2,f1,by rw[f2];exact(I.tok _).ep (.int _ _)⟩
 ·cases h
def HE(hu:X.A.units+20<cLine):yQ X "tuple.index" CL:=λI rx rv h=>by
 have jN:X.A.in1.units+8<cLine:=by show X.A.units+1+8<cLine;omega
 obtain⟨p,v⟩:=I.view rx;unfold CL at h;split at h
 ·rename_i xs t
  obtain⟨⟨h1,h2⟩,h⟩:=aE h;obtain⟨u,rfl,ru⟩:=cb rv;split at h
  ·rename_i j hj
   cases h;obtain⟨a,its,rfl,⟨⟨oc,od,dt,sl⟩,e2,hc,n2,hd⟩,rr,_⟩:=I.tupP v;simp only at hc hd;subst hc hd;obtain⟨f,f1,_,f3⟩:=qH I jN h1 ru h2 rr;have hl:its.size=xs.length:=by simpa using (V9 rr).symm
   obtain⟨j1,j2,j3⟩:=W4.mp hj;have at_:∀m(hm:m<its.size),f its[m]=eqT (xs[m]'⇑0) t:=λm hm=>f3 m _ _ (Ge9 ⇑0) (by simp[hm])
   refine call_meets aai ⟨_,e2,rfl⟩ PySem.F.entry_tuple_index (PySem.F.args_tuple_index_2 _ _) (pJ a its n2 od sl u f j ⇑0 (by rw[at_];exact j2) (λm hm S2=>?_)) ⟨e2,λw hw=>f1 w ⇑hw,(I.tok _).ep (.int _ _)⟩;rw[at_];simpa using j3 m S2
  ·cases h
 ·cases h
def zL{prog:WU}{w:XQ}{A:WY}{P:Nat->VT->Prop}(f:Nat->Cs)(hf:∀i v,P i v->∃t,v=.str ⟨(f i).toArray⟩ t):CmpOf prog w A .Lt P (λi j=>decide (f i<f j)):=λi j vi vj s Q E hi hj h=>by
 obtain⟨t,rfl⟩:=hf i vi hi;obtain⟨u,rfl⟩:=hf j vj hj;have h:Q (.bool (d? ((⟨(f i).toArray⟩:Str).cps.toList<(⟨(f j).toArray⟩:Str).cps.toList))) s:=h
 exact(aa9 h:Wa (model prog w) A (compareOp .Lt _ _) Q E s)
def zM:eE X (.builtin "min") yY:=λ{_ _ g _ s _ _ _ _}I r h=>by
 unfold yY at h;split at h
 case h_2=>cases h
 unfold OM at h;split at h
 ·cases h
  rename_i i j;obtain⟨u,v,rfl,r1,r2⟩:=gO r;cases r1;cases r2;refine min_two_ints I.ok.hd λh' tk k=>(I.kept k).ep ?_
  by_cases hj:j<i
  ·rw[if_pos hj,if_pos hj];exact .int _ _
  ·rw[if_neg hj,if_neg hj];exact .int _ _
 ·cases h
  rename_i a b;obtain⟨u,v,rfl,r1,r2⟩:=gO r;obtain⟨t,rfl,ha⟩:=r1.jM;obtain⟨t',rfl,hb⟩:=r2.jM;have hT:(s.heap.push {cls:=.type "tuple",data:=.seq #[.str ⟨a.toArray⟩ t,.str ⟨b.toArray⟩ t']}).IsTuple s.heap.objs.size #[.str ⟨a.toArray⟩ t,.str ⟨b.toArray⟩ t']:=⟨_,VO _ rfl,rfl,0,rfl⟩
  refine call_min_two (wpAny_pyIter_tuple hT ?_);have hsz:(s.heap.push {cls:=.type "tuple",data:=.seq #[.str ⟨a.toArray⟩ t,.str ⟨b.toArray⟩ t']}).objs.size=s.heap.objs.size+1:=W7 ..
  refine⟨_,[_,s.heap.objs.size],[_],_,_,_,λi j=>decide ([a,b].getD i [] < [a,b].getD j []),rfl,Walks.tuple (A:=X.A.in1) I.ok.hd _ s.heap.objs.size (by rw[hsz];exact Wm (XW _)) #[.str ⟨a.toArray⟩ t,.str ⟨b.toArray⟩ t'],
   ⟨⟨_,VO _ rfl,rfl,rfl⟩,hT.push _⟩,λb hb=>?_,(by show 0<2;decide),zL (λi=>[a,b].getD i []) (λi v hP=>?_),λv h' tk hP hk=>?_⟩
  ·show _<((s.heap.push _).push _).objs.size
   rw[W7,hsz];rcases Wt.mp hb with rfl|hb
   ·rw[hsz];exact XW _
   ·rcases Wt.mp hb with rfl|hb
    ·exact Xh (XW _)
    ·cases hb
  ·have hP:#[ZM ⟨a.toArray⟩ t,ZM ⟨b.toArray⟩ t'][i]?=s? v:=hP
   match i,hP with
   |0,hP=>exact⟨t,⇑hP.symm⟩
   |1,hP=>exact⟨t',⇑hP.symm⟩
   |i+2,hP=>simp at hP
  ·have hold:∀c o,s.heap.get? c=s? o->h'.get? c=s? o:=λc o e=>by
    refine hk c o (λhm=>?_) (VJ _ (VJ _ e));rcases Wt.mp hm with e1|hm
    ·have:=V5 e;rw[e1,hsz]at this;exact Xf _ (Nat.lt_of_succ_lt this)
    ·cases hm
   have hP:#[ZM ⟨a.toArray⟩ t,ZM ⟨b.toArray⟩ t'][argBest (λi j=>decide ([a,b].getD i [] < [a,b].getD j [])) 1]?=s? v:=hP;refine(I.kept (t':=tk) hold).ep ?_;by_cases hb':b<a
   ·rw[if_pos hb']
    have e:argBest (λi j=>decide ([a,b].getD i [] < [a,b].getD j [])) 1=1:=by
     show(if d? (b<a)=t? then 1 else 0)=1;rw[decide_eq_true hb'];rfl
    rw[e]at hP;have:ZM ⟨b.toArray⟩ t'=v:=by simpa using hP
    rw[<- this];exact .str _ _ hb
   ·rw[if_neg hb']
    have e:argBest (λi j=>decide ([a,b].getD i [] < [a,b].getD j [])) 1=0:=by
     show(if d? (b<a)=t? then 1 else 0)=0;rw[decide_eq_false hb'];rfl
    rw[e]at hP;have:ZM ⟨a.toArray⟩ t=v:=by simpa using hP
    rw[<- this];exact .str _ _ ha
 ·cases h
def RT.Lb{z:Str}{t:Tok}(h:z.cps.toList.length<=lim):RT g n? (.str z.cps.toList) (.str z t):=by
 have:=RT.str (g:=g) z.cps.toList t h;simpa using this
def zN:yQ X "str.strip" nN:=λI rx rv h=>by
 unfold nN at h;split at h
 ·obtain⟨hz,h⟩:=aE h
  cases h;obtain⟨u,rfl,ru⟩:=cb rv;obtain⟨t,rfl,h1⟩:=rx.jM;obtain⟨t',rfl,h2⟩:=ru.jM;exact SC.stripChars (λt2 k=>(I.tok _).ep (.Lb hz)) (by rw[str_len];exact h1)
 ·cases h
open Builtin Builtin.Str in
def zO{prog:WU}{w:XQ}{A:WY}{E:VT->VY->Prop}{s:VY}{x y:Str}{t u:Tok}{Q:VT->VY->Prop}(hy:(y.length==0)=f?)(hsz:x.length<=Wf)(hsz2:(YQ x y).length<=Wf)
  (h:∀l k,l.map (·.1)=YQ x y->Q (.ref s.heap.objs.size) {s with heap:=s.heap.push {cls:=.type "list",data:=.seq (strValues l).toArray},toks:=k}):
  Wa (model prog w) A (call (.builtin "str.split") [.str x t,.str y u]) Q E s:=by
 unfold YQ at hsz2 h;cases h1:(d? (x.length<y.length) || d? (strKind x<strKind y))
 ·rw[if_neg (ne_true_of_eq_false h1)]at hsz2 h
  cases hf:(occurrences x y 0 x.length (x.length+1)).isEmpty
  ·rw[if_neg (ne_true_of_eq_false hf)]at hsz2 h
   refine call_meets Yx (typeIs_str _ _ _) Y4 (Y0 _ _) (meets_str_split_sep x y t u h1 hy hf hsz hsz2) ?_;show wants Q E _ {s with toks:=_,heap:=s.heap.push {cls:=.type "list",data:=.seq (strsFrom s.toks (partsBetween x (occurrences x y 0 x.length (x.length+1)) y.length)).toArray}}
   rw[strsFrom_eq];exact h (numbered s.toks _) _ (numbered_texts _ _)
  ·rw[if_pos hf]at h
   exact call_meets Yx (typeIs_str _ _ _) Y4 (Y0 _ _) (meets_str_split_not_found x y t u h1 hy hf) (h [(x,t)] s.toks rfl)
 ·rw[if_pos h1]at h
  exact call_meets Yx (typeIs_str _ _ _) Y4 (Y0 _ _) (meets_str_split_cannot_occur x y t u h1) (h [(x,t)] s.toks rfl)
def zP:∀{l:List (Str × Tok)}{zs:List Str},l.map (·.1)=zs->(zs.all λs=>decide (s.cps.toList.length<=lim))=t?->cL g (zs.map λs=>.str s.cps.toList) (strValues l):=by
 intro l9;induction l9 with
 |nil=>intro _ e _;subst e;exact .nil
 |cons y9 r ih=>
  intro _ e h;obtain⟨z,t⟩:=y9;subst e;rw[VU,WD,VW]at h;exact .cons (.Lb (of_decide_eq_true h.1)) (ih rfl h.2)
def zQ{fz:Bool}:yQ X "str.split" (nM fz):=λ{_ _ _ _ s _ _ _ _ _ _}I rx rv h=>by
 unfold nM at h;split at h
 ·rename_i z y
  obtain⟨⟨h1,h2⟩,h⟩:=aE h;obtain⟨u,rfl,ru⟩:=cb rv;obtain⟨t,rfl,h3⟩:=rx.jM;obtain⟨t',rfl,_⟩:=ru.jM;have hz:=qA h
  refine zO (by rw[str_len];cases y with|nil=>exact absurd rfl h1|cons a b=>rfl) (by rw[str_len];exact h3) (by rw[Lm9]at hz;exact hz) λl k e=>?_
  exact lW (t':=k) I (zP e h2) h (λb u e=>VJ _ e) (VO _ rfl)
 ·cases h
def Lc(sep:Cs)(zs:List Cs):Txt.join (toS sep) (zs.map toS)=toS (jn sep zs)/\(jn sep zs).length<=(zs.map (·.length)).sum+zs.length * sep.length:=by
 have e:Txt.join (toS sep) (zs.map toS)=Str.join (toS sep) (zs.map toS):=eq_of_beq (PyProof.Rows.join_plain_closes _ _);rw[e];clear e;induction zs with
 |nil=>exact⟨rfl,by simp[jn]⟩
 |cons x r ih=>
  cases r with
  |nil=>exact⟨rfl,by simp[jn]⟩
  |cons y r=>
   obtain⟨h1,h2⟩:=ih;constructor
   ·show toS x++toS sep++Str.join (toS sep) ((y::r).map toS)=_
    rw[h1];show(⟨x.toArray++sep.toArray++(jn sep (y::r)).toArray⟩:Str)=⟨(x++sep++jn sep (y::r)).toArray⟩
    simp
   ·show(x++sep++jn sep (y::r)).length<=_
    rw[VN,VN,VU,List.sum_cons,VS,Nat.add_mul];omega
def wy:∀{ys:List T}{zs:List Cs}{us:List VT},ys.mapM Co=s? zs->cL g ys us->StrsAre us (zs.map toS):=by
 intro l9;induction l9 with
 |nil=>intro zs us h r;simp at h;subst h;cases r;exact .nil
 |cons y ys ih=>
  intro zs us h r;rw[Xj]at h;cases e1:Co y with
  |none=>rw[e1]at h;cases h
  |some b=>
   rw[e1]at h;cases e2:ys.mapM Co with
   |none=>rw[e2]at h;cases h
   |some q=>
    rw[e2]at h;have h:s? (b::q)=s? zs:=h
    cases h;cases r with
    |cons a1 a2=>
     obtain⟨t,rfl,_⟩:=Hz e1 a1;exact .cons _ t (ih e2 a2)
theorem Dl:yQ X "str.join" mO:=λ{_ _ g L s _ _ w1 L1 _ _}I rx rv h=>by
 unfold mO at h;split at h
 ·rename_i sep t
  obtain⟨u,rfl,ru⟩:=cb rv;obtain⟨tk,rfl,_⟩:=rx.jM;obtain⟨p,v⟩:=I.view ru;split at h
  ·rename_i zs ez
   obtain⟨ys,y1,y2⟩:=XH.mp ez;have y1:(∃z,vw L t=.ay z)\/gN (vw L t)=s? ys:=by
    cases t<;>first|exact .inr y1|exact .inl ⟨_,rfl⟩
   rcases y1 with⟨z,ez⟩|y1
   ·simp only[ez]at h
    cases h
   unfold gN at y1;have fin:cm ((zs.map (·.length)).sum+zs.length * sep.length<=16777216) (R.ok (T.str (jn sep zs)) L)=.ok w1 L1->(vw L t=.lst ys\/vw L t=.tup ys)->Wa (model X.prog X.w) X.A (call (.builtin "str.join") [.str ⟨sep.toArray⟩ tk,u]) (EP X _ _ g w1 L1) F0 s:=λh hv=>by
    obtain⟨hz,h⟩:=aE h;cases h;obtain⟨e1,e2⟩:=Lc sep zs;have hz':((zs.map toS).map (·.length)).sum+(zs.map toS).length * (toS sep).length<=16777216:=by
     have:(λz:Cs=>(toS z).length)=λz=>z.length:=funext λz=>str_len
     simp only[Wc,Lm9,Zh,this];rw[show(toS sep).length=sep.length from str_len];exact hz
    have rj:∀t',RT g n? (.str (jn sep zs)) (.str (Txt.join (toS sep) (zs.map toS)) t'):=λt'=>by
     rw[e1];exact .str _ _ (VV e2 hz)
    rcases hv with hv|hv
    ·rw[hv]at v
     obtain⟨a,its,n,rfl,e,rr,_⟩:=I.lst v;exact join_list (items:=its) (aj e) (wy y2 rr) hz' λt' k=>(I.tok _).ep (rj t')
    ·rw[hv]at v
     obtain⟨a,its,rfl,e,rr,_⟩:=I.tupP v;exact join_tuple (items:=its) e (wy y2 rr) hz' λt' k=>(I.tok _).ep (rj t')
   cases ev:vw L t with
   |str z=>simp only[ev]at h;cases h
   |ay z=>simp only[ev]at h;cases h
   |lst S3=>simp only[ev]at h y1;cases y1;exact fin h (.inl ev)
   |tup S3=>simp only[ev]at h y1;cases y1;exact fin h (.inr ev)
   |_=>simp only[ev]at y1;cases y1
  ·cases h
 ·cases h
def zR{op:Operator}:v9 X (inplaceOp op) (ag op):=λI rx ry h=>by
 unfold ag at h;split at h
 case h_2=>cases h
 split at h
 case h_2=>cases h
 obtain⟨_,rfl⟩:=rx.iI;obtain⟨_,rfl⟩:=ry.iI;cases op with
 |Add=>cases h;exact iadd_int ((I.tok _).ep (.int _ _))
 |Sub=>cases h;exact isub_int ((I.tok _).ep (.int _ _))
 |_=>cases h
end
instance S4:DecidableEq T:=λa b=>Xk _
mutual
noncomputable def dr:T->Nat
 | .tup xs=>yR xs+1
 |_=>1
noncomputable def yR:List T->Nat
 | []=>0
 |x::xs=>dr x+yR xs
end
inductive eX(h:Heap):T->VT->Prop
 |int (i t):eX h (.int i) (.int i t)
 |bl (b):eX h (.bl b) (.bool b)
 |str (s t):eX h (.str s) (.str ⟨s.toArray⟩ t)
 |tup {a o its n xs} (ho:h.get? a=s? o) (hc:o.cls=.type "tuple") (hd:o.data=.seq its n) (hl:xs.length=its.size) (hi:∀(i:Nat) x v,xs[i]?=s? x->its[i]?=s? v->eX h x v):eX h (.tup xs) (.ref a)
section
variable{X:Cx}{pins:bf}{φ:Fr}{g:G}{L L':aa}{s:VY}{h h':Heap}{xs ys:List T}{t t2:T}{u v:VT}{n:Nat}{a d:Wr}{P:WU}{w:XQ}{A:WY}{E:VT->VY->Prop}
def Pb(h:kh 0 t=t?):False:=by cases t<;>cases h
def zS(hk:xs.all (kh n)=t?){i:Nat}(e:xs[i]?=s? x):kh n x=t?:=VQ.mp hk x (Wd e)
theorem wz:∀(n:Nat){t:T},kd n t=t?->kh n t=t?
 |0,t,h=>by assumption
 |n+1,t,h=>by
  cases t with
  |tup xs=>exact VQ.mpr λx hx=>wz n (VQ.mp h x hx)
  |bl b=>cases h
  |_=>exact h
def Pc(h:kd 0 t=t?):False:=by cases t<;>cases h
def mQ(hk:xs.all (kd n)=t?){i:Nat}(e:xs[i]?=s? x):kd n x=t?:=VQ.mp hk x (Wd e)
theorem Inv.Pd(I:Inv X pins φ g L s):∀(n:Nat){t:T}{u:VT},kh n t=t?->RT g n? t u->eX s.heap t u
 |0,t,_,h,_=>(Pb h).elim
 |n+1,t,u,h,r=>by
  cases r with
  |int i t=>exact .int i t
  |bl b=>exact .bl b
  |str z t hz=>exact .str z t
  |tup hk hc hd hz hl hi=>exact .tup (I.kn hk) hc.1 hd hl λi x v e1 e2=>I.Pd n (zS h e1) (hi i x v e1 e2)
  |_=>cases h
def Inv.Rz(I:Inv X pins φ g L s)(n:Nat)(h:kd n t=t?)(r:RT g n? t u):eX s.heap t u:=I.Pd n (wz n h) r
def eX.same(k1:eX h t u):∀{t2:T},eX h t2 u->t=t2:=by
 induction k1 with
 |int i t=>intro t2 k;cases k;rfl
 |bl b=>intro t2 k;cases k;rfl
 |str z t=>
  intro t2 k;generalize hv:ZM ⟨z.toArray⟩ t=v at k;cases k<;>cases hv;rfl
 |tup ho hc hd hl hi ih=>
  rename_i a o its nn xs;intro t2 k;cases k with
  |tup ho' hc' hd' hl' hi'=>
   rw[ho]at ho';cases ho';rw[hd]at hd';cases hd';congr 1;refine Xs ⇑0 λi h1 h2=>?_
   have e:=VX (xs:=its) (i:=i) ⇑0;exact ih i _ _ (Ge9 h1) e (hi' i _ _ (Ge9 h2) e)
def eX.keeps(k:eX h t u)(ho:h.get? d=s? o)(hd:o.data=.dict es ep)(hs:XD d h h'):eX h' t u:=by
 induction k with
 |int i t=>exact .int i t
 |bl b=>exact .bl b
 |str z t=>exact .str z t
 |tup ho' hc hd' hl hi ih=>
  refine .tup ((hs.2 _ λe=>?_).trans ho') hc hd' hl ih;simp_all
def Dm:∀xs:List T,CM w xs=xs.map (hT w):=by
 intro l9;induction l9 with
 |nil=>rfl
 |cons x xs ih=>exact congrArg (hT w x :: ·) (ih)
theorem sQ:∀(xs:List T)(i:Nat)(x:T),xs[i]?=s? x->yR (xs.take (i+1))=yR (xs.take i)+dr x
 |x::xs,0,y,h=>by cases h;simp[yR]
 |x::xs,i+1,y,h=>by
  rw[aba,aba,yR,yR,sQ xs i y ‹_›];omega
def xZ(h:Q (hashInt (if b=t? then 1 else 0)) {s with toks:=s.toks+1}):Wa (model P w) A (pyHash (.bool b)) Q E s:=by
 have hr:=rawHash_range (if b=t? then 1 else 0);have hT:s.TypeIs (.bool b) "bool":=aaj s b
 unfold pyHash;refine VI ?_;rw[cRoomFor,if_neg (show ¬ ([Value.bool b].any Value.onHeap=t?) from Xl)];refine VM (VI (wpAny_specialOf hT Yy.lookup ?_));show Wa _ _ (if (s? (Y5 "int.__hash__")==s? WV)=t? then _ else _) Q E s
 rw[if_neg ⋯];refine VI (wpAny_specialOf hT Yy.lookup ?_);show Wa _ _ (callSpecialIfBoundUnlessNone? (.bool b) "__hash__" _ >>= _) Q E s
 refine VI (wpAny_callSpecialIfBoundUnlessNone?_slot hT Yy
  (wpAny_call_entry Yy hT entry_int_hash
   (show Wa _ _ (do PySem.ret (<- mkInt (rawHash (if b=t? then 1 else 0)))) _ _ s from wpAny_ret_mkInt ?_) (args_int_hash _)))
 show Wa _ _ (if (d? (-(2:Int) ^ 63<=rawHash (if b=t? then 1 else 0)) && d? (rawHash (if b=t? then 1 else 0)<2 ^ 63))=t? then _ else _) Q E _;rw[if_pos (by simp_all)];exact VM h
theorem eX.hash:∀(n:Nat){A:WY}{s:VY}{t:T}{u:VT}{Q:Int->VY->Prop},kh n t=t?->A.units+n<cLine->eX s.heap t u->Q (hT w t) {s with toks:=s.toks+dr t}->Wa (model P w) A (pyHash u) Q E s
 |0,_,_,t,_,_,hk,_,_,_=>(Pb hk).elim
 |n+1,A,s,t,u,Q,hk,hu,k,h=>by
  cases k with
  |bl b=>exact xZ h
  |int i t=>exact wpAny_pyHash_int h
  |str z t=>exact wpAny_pyHash_str h
  |tup ho hc hd hl hi=>
   rename_i a o its nn xs;have hT':s.TypeIs (.ref a) "tuple":=⟨o,ho,hc⟩
   unfold pyHash
   first|unfold pyHashByItsType|skip
   first|refine VI (wpAny_cRoomFor_or (.inr ⇑0) ?_)|skip
   refine VI (wpAny_specialOf hT' Zi.lookup ?_);show Wa _ _ (if (s? (Y5 "tuple.__hash__")==s? WV)=t? then _ else _) Q E s
   rw[if_neg ⋯];refine VI (wpAny_specialOf hT' Zi.lookup ?_);show Wa _ _ (callSpecialIfBoundUnlessNone? (.ref a) "__hash__" _ >>= _) Q E s
   refine VI (wpAny_callSpecialIfBoundUnlessNone?_slot hT' Zi (wpAny_call_entry Zi hT' F.entry_tuple_hash ?_ (F.args_tuple_hash_1 _)));show Wa _ _ (YK (.ref a) >>= _) _ _ s
   refine VI (wpAny_tupleItemsOf ho hd ?_);refine VI ?_;rw[<- abl];refine wpAny_forIn_list _ (λrest(b:Array Int)s'=>∃i,i<=xs.length/\rest=its.toList.drop i/\b.toList=(xs.take i).map (hT w)/\s'={s with toks:=s.toks+yR (xs.take i)}) _ ?_ ?_ _ _ ⟨0,Wg _,rfl,⋯,by rfl⟩
   ·rintro v rest b s' ⟨i,Kj,hr,hb,rfl⟩
    have cM:i<its.size:=by
     rcases Nat.lt_or_ge i its.size with z|z
     ·exact z
     ·rw[Zb ⇑0]at hr;cases hr
    rw[Wz ⇑0]at hr;injection hr with e1 e2;have ex:=Ge9 (l:=xs) (i:=i) ⇑0
    have kv:eX s.heap xs[i] v:=hi i _ v ex (by rw[e1];simp[cM]);refine VI (eX.hash n (s:={s with toks:=s.toks+yR (xs.take i)}) (zS hk ex) (by(simp;omega)) kv ?_);have fin:∃j,j<=xs.length/\rest=its.toList.drop j/\(b.push (hT w xs[i])).toList=(xs.take j).map (hT w)/\({s with toks:=s.toks+yR (xs.take i)+dr xs[i]}:VY)={s with toks:=s.toks+yR (xs.take j)} :=
     ⟨i+1,⇑0,e2,by rw[List.take_succ,ex,V1,Array.toList_push,hb];rfl,by rw[sQ xs i _ ex,XI]⟩
    first
     |exact VM fin
     |exact VI (VM (VM fin))
   ·rintro b s' ⟨i,Kj,hr,hb,rfl⟩
    have uC:its.size<=i:=by
     simp_all
    rw[WE ⇑0]at hb;show Wa _ _ (retInt (X2 b.toList)) _ _ _
    rw[hb,WE (show xs.length<=i by omega)];refine wpAny_ret_mkInt ?_;have h:Q (reduceHash (X2 (CM w xs))) {s with toks:=s.toks+(yR xs+1)}:=h
    rw[Dm]at h;generalize X2 (xs.map (hT w))=g at h;show Wa _ _ (if (d? (-(2:Int) ^ 63<=g) && d? (g<2 ^ 63))=t? then _ else _) Q E _
    unfold reduceHash at h;by_cases hr:(d? (-(2:Int) ^ 63<=g) && d? (g<2 ^ 63))=t?
    ·rw[if_pos hr]
     rw[if_pos hr]at h;exact VM ⇑0
    ·rw[if_neg hr]
     rw[if_neg hr]at h;exact VI (wpAny_rule (VM ⇑0))
theorem eX.quiet:∀(n m:Nat){s:VY}{t:T}{u:VT},kh n t=t?->n<=m->eX s.heap t u->Wa (model P w) A (eqIsQuiet m u) (λb s'=>b=t?/\s'=s) E s
 |0,_,_,t,_,hk,_,_=>(Pb hk).elim
 |n+1,m,s,t,u,hk,hm,k=>by
  cases k with
  |bl b=>cases m with
   |zero=>omega
   |succ m=>exact VM ⟨rfl,rfl⟩
  |int i t=>cases m with
   |zero=>omega
   |succ m=>exact VM ⟨rfl,rfl⟩
  |str z t=>cases m with
   |zero=>omega
   |succ m=>exact VM ⟨rfl,rfl⟩
  |tup ho hc hd hl hi=>
   rename_i a o its nn xs;have hT':s.TypeIs (.ref a) "tuple":=⟨o,ho,hc⟩
   obtain⟨m,rfl⟩:∃k,m=k+1:=⟨m - 1,⇑0⟩;unfold eqIsQuiet;refine VI (wpAny_specialOf hT' F.slot_tuple_eq.lookup ?_);show Wa _ _ (isInstance (.ref a) (.type "tuple") >>= _) _ _ s
   refine VI (wpAny_isInstance hT' isSubtype_tuple_tuple ?_);simp only[ZE,Ws,if_false];refine VI (wpAny_seqItems ho hd ?_);refine VI ?_;show Wa _ _ (forIn its _ _) _ _ s
   rw[<- abl];refine wpAny_forIn_list _ (λrest r s'=>r.1=n?/\s'=s/\∀v∈rest,v∈its) _ ?_ ?_ _ _ ⟨rfl,rfl,λv hv=>by simpa using hv⟩
   ·rintro v rest r s' ⟨hr,rfl,hall⟩
    obtain⟨i,Kj,rfl⟩:=Zz (hall v VL);have ex:=Ge9 (l:=xs) (i:=i) ⇑0
    refine VI (wpAny_mono (eX.quiet n m (zS hk ex) ⇑0 (hi i _ _ ex (VX Kj))) (λb Oe hb=>?_) λ_ _ e=>e);obtain⟨rfl,rfl⟩:=hb;simp only[ZE,Ws,if_false];exact VM ⟨rfl,rfl,λu jN=>hall u (VK _ jN)⟩
   ·rintro⟨r1,r2⟩ s' ⟨hr,rfl,_⟩
    simp only at hr;subst hr;exact VM ⟨rfl,rfl⟩
theorem wA:∀xs ys:List T,si (λa b=>decide (a=b)) xs ys=d? (xs=ys)
 | [],[]=>by rfl
 | [],_::_=>by rfl
 |_::_,[]=>by rfl
 |x::xs,y::ys=>by rw[si,wA xs ys];simp
open SeqAt in
theorem eX.eq:∀(n:Nat){A:WY}{a b:T}{u v:VT},kd n a=t?->kd n b=t?->A.units+n<cLine->eX s.heap a u->eX s.heap b v->EqAt A s u v (d? (a=b))
 |0,_,a,_,_,_,h,_,_,_,_=>(Pc h).elim
 |n+1,A,a,b,u,v,ha,hb,hu,ka,kb=>by
  have jN:A.units<cLine:=by omega
  have sm:u=v->decide (a=b)=t?:=λe=>decide_eq_true (ka.same (by rw[e];exact kb))
  cases ka with
  |bl=>cases ha
  |int i t=>
   cases kb with
   |bl=>cases hb
   |int j t2=>rw[show d? (T.int i=T.int j)=(i==j) by rw[X9];simp];exact .int_int _ _ _ _
   |str=>rw[decide_eq_false ⋯];exact .int_str _ _ _ _
   |tup ho hc hd hl hi=>rw[decide_eq_false ⋯];exact .int_tuple _ _ ⟨_,ho,hc,_,hd⟩ jN
  |str z t=>
   cases kb with
   |bl=>cases hb
   |int=>rw[decide_eq_false ⋯];exact .str_int _ _ _ _
   |str z2 t2=>rw[show d? (T.str z=T.str z2)=(z==z2) by rw[X9];simp,<- str_beq];exact .str_str _ _ _ _
   |tup ho hc hd hl hi=>rw[decide_eq_false ⋯];exact .str_tuple _ _ ⟨_,ho,hc,_,hd⟩ jN
  |tup ho hc hd hl hi=>
   have T1:s.heap.IsTuple _ _:=⟨_,ho,hc,_,hd⟩;cases kb with
   |bl=>cases hb
   |int=>rw[decide_eq_false ⋯];exact .tuple_int _ _ T1 jN
   |str=>rw[decide_eq_false ⋯];exact .tuple_str _ _ T1 jN
   |tup ho' hc' hd' hl' hi'=>
    rename_i a1 o1 i1 n1 x1 a2 o2 i2 n2 x2;have:=RcAt.tuples (e:=λj=>decide (x1.getD j .aY=x2.getD j .aY)) T1 ⟨_,ho',hc',_,hd'⟩ jN λj j1 j2=>
     eX.eq n (mQ ha (getD_at ⇑0)) (mQ hb (getD_at ⇑0)) (by(simp;omega)) (hi j _ _ (getD_at ⇑0) (VX j1)) (hi' j _ _ (getD_at ⇑0) (VX j2))
    rw[<- hl,<- hl',gY (f:=λa b=>decide (a=b)),wA]at this;rw[show d? (T.tup x1=T.tup x2)=d? (x1=x2) by simp];exact(both this λe=>by simp_all).2
def Fd(P:WU)(w:XQ):HeapKind P w T where
 is:=λh k a=>eX h k (.ref a)/\kd 7 k=t?
 hash:=hT w
 draws:=dr
 room:=λA=>A.units+8<cLine
 inj:=λa b=>a.1.same b.1
 keeps:=λk ho hd hs=>⟨k.1.keeps ho hd hs,k.2⟩
 pyHash:=λhu k h=>eX.hash 7 (wz 7 k.2) ⇑0 k.1 h
 eqBool:=λhu a b h=>eX.eq 7 a.2 b.2 ⇑0 a.1 b.1 _ _ _ _ h
 quiet:=λk h=>wpAny_mono (eX.quiet 7 8 (wz 7 k.2) ⇑0 k.1) (λb s' hb=>by simp_all) λ_ _ e=>e
end
end M
namespace M
open PySem PySem.Spec PyProof.Rows
def Ld:T->VT->Bool
 | .int i,.int j _=>i==j
 | .str z,.str x _=>x == ⟨z.toArray⟩
 |_,_=>f?
def ir{k:T}{v:VT}(h:Ld k v=t?):(∃i t,k=.int i/\v=.int i t)\/∃z t,k=.str z/\v=.str ⟨z.toArray⟩ t:=by
 cases k with
 |int i=>cases v with
  |int j t=>exact .inl ⟨i,t,rfl,by rw[eq_of_beq (show(i==j)=t? from h)]⟩
  |_=>cases h
 |str z=>cases v with
  |str x t=>exact .inr ⟨z,t,rfl,by rw[eq_of_beq (show(x == ⟨z.toArray⟩)=t? from h)]⟩
  |_=>cases h
 |_=>cases h
def toA{z z':Cs}(e:(⟨z.toArray⟩:Str)=⟨z'.toArray⟩):z=z':=by simp_all
def sR(P:WU)(w:XQ):KeyKind P w T where
 is:=Ld
 hash:=hT w
 inj:=λv a b ha hb=>by
  rcases ir ha with⟨i,t,rfl,rfl⟩|⟨z,t,rfl,rfl⟩
  ·rcases ir hb with⟨j,t',rfl,e⟩|⟨z',t',rfl,e⟩
   ·simp_all
   ·cases e
  ·rcases ir hb with⟨j,t',rfl,e⟩|⟨z',t',rfl,e⟩
   ·cases e
   simp_all
 byValue:=λk v h=>by rcases ir h with⟨i,t,rfl,rfl⟩|⟨z,t,rfl,rfl⟩<;>rfl
 pyHash:=λh q=>by
  rcases ir h with⟨i,t,rfl,rfl⟩|⟨z,t,rfl,rfl⟩
  ·exact wpAny_pyHash_int q
  ·exact wpAny_pyHash_str q
 eqBool:=λ{A E s a b u v Q}ha hb q=>by
  rcases ir ha with⟨i,t,rfl,rfl⟩|⟨z,t,rfl,rfl⟩
  ·rcases ir hb with⟨j,t',rfl,rfl⟩|⟨z',t',rfl,rfl⟩
   ·rw[show d? (T.int i=T.int j)=(i==j) by rw[X9];simp]at q;exact wpAny_eqBool_int q
   ·rw[decide_eq_false ⋯]at q;exact SeqAt.EqAt.int_str _ _ _ _ _ _ _ _ q
  ·rcases ir hb with⟨j,t',rfl,rfl⟩|⟨z',t',rfl,rfl⟩
   ·rw[decide_eq_false ⋯]at q;exact SeqAt.EqAt.str_int _ _ _ _ _ _ _ _ q
   ·rw[show d? (T.str z=T.str z')=(z==z') by rw[X9];simp,<- str_beq]at q;exact SeqAt.EqAt.str_str _ _ _ _ _ _ _ _ q
 «strs»:=λk x t v h=>by
  rcases ir h with⟨i,t',rfl,e⟩|⟨z,t',rfl,e⟩
  ·cases e
  ·injection e with e1 _
   subst e1;cases v<;>rfl
def pl(ks:List (T × T))(y:T):Option Nat:=ks.findIdx? λp=>decide (p.1=y)
section
variable{X:Cx}{pins:bf}{φ:Fr}{g:G}{L L':aa}{s:VY}{ks:List (T × T)}{t y x:T}{u v:VT}{n:Nat}{a d:Wr}{A:WY}{q:Option (Wr × Wr)}{E:VT->VY->Prop}
def wB(h:uF t=t?)(r:RT g n? t u):Ld t u=t?:=by
 cases r<;>first|cases h|skip
 ·exact beq_self_eq_true _
 ·exact beq_self_eq_true _
def wC(I:Inv X pins φ g L s)(h:uG t=t?)(r:RT g n? t u):∃a,u=.ref a/\eX s.heap t u/\kd 7 t=t?:=by
 cases t<;>first|cases h|skip
 have k:kd 7 (.tup _)=t?:=h;have z:=I.Rz 7 k r
 cases z with
 |tup ho hc hd hl hi=>exact⟨_,rfl,.tup ho hc hd hl hi,k⟩
def Lf(ho:s.heap.get? a=s? o)(hd:o.data=.dict #[] ep)(h:Q n? s):Wa (model P w) A (dictFind a (.ref b) hs) Q E s:=by
 unfold dictFind
 try with_reducible refine wpAny_holding ?_
 refine VI (wpAny_dictEntries ho hd ?_);dsimp only;rw[if_neg (by simp[carriedByValue]),if_neg ⋯];have e0:placesWithHash (#[]:Array DictEntry).size (λi=>(#[]:Array DictEntry)[i]?.map (·.hash)) hs=[]:=by rfl
 rw[e0];exact VI (VM (VI (VM (VM h))))
structure cJ(X:Cx)(g:G)(s:VY)(ks:List (T × T))(a:Wr)(o:Obj)(es:Array DictEntry)(ep:Nat):Prop where
 ho:s.heap.get? a=s? o
 hx:o.ExactDict
 hd:o.data=.dict es ep
 hz:ks.length<=Wf
 hl:ks.length=es.size
 hn:(ks.map (·.1)).Nodup
 hm:gM (ks.map (·.1))=t?
 hs:(a==sysModules)=f?
 hh:∀(i:Nat) x e,ks[i]?=s? x->es[i]?=s? e->e.hash=hT X.w x.1
 h1:∀(i:Nat) x e,ks[i]?=s? x->es[i]?=s? e->RT g n? x.1 e.key
 h2:∀(i:Nat) x e,ks[i]?=s? x->es[i]?=s? e->RT g n? x.2 e.val
theorem Inv.ay(I:Inv X pins φ g L s)(r:RT g q (.ay ks) u):∃a o es ep,u=.ref a/\uK q a a/\g.kn q.isNone a o/\cJ X g s ks a o es ep:=by
 cases r with
 |ay ht hk hx hd hz hl hn hs hh h1 h2=>exact⟨_,_,_,_,rfl,ht,hk,I.kn hk,hx,hd,hz,hl,hn.1,hn.2,hs,by rw[<- I.gw];exact hh,h1,h2⟩
def cJ.at(D:cJ X g s ks a o es ep){i:Nat}(h:ks[i]?=s? p):∃e,es[i]?=s? e:=by
 have:=(VZ.mp h).1;exact⟨_,VX (by rw[<- D.hl];omega)⟩
def cJ.find(D:cJ X g s ks a o es ep)(I:Inv X pins φ g L s)(hu:A.units+8<cLine)(hf:eD ks y)(ry:RT g n? y v):
  ∃n,(∀(Q:Int->VY->Prop)(E:VT->VY->Prop),Q (hT X.w y) {s with toks:=s.toks+n}->Wa (model X.prog X.w) A (pyHash v) Q E s) /\
   ∀(tk:Nat)(Q:Option Nat->VY->Prop)(E:VT->VY->Prop),Q (pl ks y) {s with toks:=tk}->Wa (model X.prog X.w) A (dictFind a v (hT X.w y)) Q E {s with toks:=tk}:=by
 unfold eD gM at hf;rw[W6,W6]at hf;rcases hf with(hf|hf)|hf
 ·rw[WD,VW]at hf
  have hv:=wB hf.1 ry;have sc:∀(i:Nat) p e,ks[i]?=s? p->es[i]?=s? e->Ld p.1 e.key=t?:=λi p e e1 e2=>
   wB (VQ.mp hf.2 _ (V4 (Wd e1))) (D.h1 i p e e1 e2)
  refine⟨1,λQ E hq=>(sR X.prog X.w).pyHash hv hq,λtk Q E hq=>?_⟩;refine wpAny_dictFind_of (knd:=sR X.prog X.w) (s:={s with toks:=tk}) hv D.ho D.hd (λe he=>?_) ?_
  ·obtain⟨i,hi,rfl⟩:=Zz he
   have e1:=Ge9 (l:=ks) (i:=i) (by rw[D.hl];exact hi);exact⟨_,sc i _ _ e1 (VX hi),D.hh i _ _ e1 (VX hi)⟩
  ·have e:(es.findIdx? λe=>(sR X.prog X.w).is y e.key)=pl ks y:=by
    obtain⟨es⟩:=es;rw[List.findIdx?_toArray];unfold pl;have go:∀(l:List DictEntry)(ks:List (T × T)),ks.length=l.length->(∀(i:Nat) p e,ks[i]?=s? p->l[i]?=s? e->Ld p.1 e.key=t?)->(l.findIdx? λe=>(sR X.prog X.w).is y e.key)=ks.findIdx? λp=>decide (p.1=y):=λl=>by
     induction l with
     |nil=>simp
     |cons e l ih=>intro ks hl h;cases ks with
      |nil=>cases hl
      |cons p ks=>
       rw[ZX,ZX,ih ks ⇑hl (λi p e e1 e2=>h (i+1) p e ‹_› ‹_›),KeyKind.is_eq_decide (knd:=sR X.prog X.w) (h 0 p e rfl rfl) y];rw[show d? (y=p.1)=d? (p.1=y) by rw[X9];simp[eq_comm]]
    exact go es ks ⇑D.hl λi p e e1 e2=>sc i p e e1 ⇑e2
   rw[e];exact hq
 ·rw[WD,VW]at hf
  obtain⟨b,rfl,kb,db⟩:=wC I hf.1 ry;refine⟨dr y,λQ E hq=>(Fd X.prog X.w).pyHash hu ⟨kb,db⟩ hq,λtk Q E hq=>?_⟩;have ex:∃xs:List (T × Wr × VT),xs.length=ks.length/\∀(i:Nat) p e,ks[i]?=s? p->es[i]?=s? e->∃c,xs[i]?=s? (p.1,c,e.val)/\e.key=.ref c/\eX s.heap p.1 (.ref c)/\kd 7 p.1=t?:=by
   refine⟨(ks.zip es.toList).map λz=>(z.1.1,(match z.2.key with|.ref c=>c|_=>0),z.2.val),by simp[D.hl],λi p e e1 e2=>?_⟩;obtain⟨c,ec,kc,dc⟩:=wC I (VQ.mp hf.2 _ (V4 (Wd e1))) (D.h1 i p e e1 e2);refine⟨c,?_,ec,by rw[<- ec];exact kc,dc⟩;have ez:(ks.zip es.toList)[i]?=s? (p,e):=Z8.mpr ⟨e1,⇑e2⟩
   rw[Wx,ez];show s? (p.1,(match e.key with|.ref c=>c|_=>0),e.val)=_
   rw[ec]
  obtain⟨xs,RA,RB⟩:=ex;have Of:∀(i:Nat) z,xs[i]?=s? z->∃p e,ks[i]?=s? p/\es[i]?=s? e/\z=(p.1,z.2.1,e.val)/\e.key=.ref z.2.1/\eX s.heap p.1 (.ref z.2.1)/\kd 7 p.1=t?:=λi z hz=>by
   have hi:=(VZ.mp hz).1;have e1:=Ge9 (l:=ks) (i:=i) ⇑0
   obtain⟨e,e2⟩:=D.at e1;obtain⟨c,c1,c2,c3,c4⟩:=RB i _ e e1 e2;rw[hz]at c1;cases c1;exact⟨_,e,e1,e2,rfl,c2,c3,c4⟩
  have keys:xs.map (·.1)=ks.map (·.1):=Xs (by simp[RA]) λi h1 h2=>by
   rw[XY,XY];have hi:i<xs.length:=by simpa using h1
   obtain⟨p,e,e1,_,e3,_⟩:=Of i _ (Ge9 hi);have:=(VZ.mp e1).2
   rw[e3,<- this]
  have S5:∀(j:Nat)(p:Wr × VT),xs[j]?=s? (y,p)->pl ks y=s? j:=λj p hj=>by
   obtain⟨p',e,e1,_,e3,_⟩:=Of j _ hj;have ey:p'.1=y:=by injection e3 with e4;exact e4.symm
   obtain⟨Lg,Lh⟩:=VZ.mp e1;refine W4.mpr ⟨Lg,by rw[Lh];exact decide_eq_true ey,λi hi=>?_⟩;have ne:¬ ks[i].1=y:=λz=>by
    have h1:(ks.map (·.1))[i]?=s? y:=by rw[Wx,Ge9 ⇑0];exact congrArg s? z
    have h2:(ks.map (·.1))[j]?=s? y:=by rw[Wx,e1];exact congrArg s? ey
    have:=(List.getElem?_inj (by simp;omega) D.hn).mp (h1.trans h2.symm);omega
   simpa using ne
  refine wpAny_dictFind_heap (knd:=Fd X.prog X.w) (xs:=xs) (s:={s with toks:=tk}) hu ⟨kb,db⟩ D.ho D.hd ?_ (λz hz=>?_) (by rw[keys];exact D.hn) (λHt=>?_) λj p hj=>?_
  ·refine Xs (by simp[RA,D.hl]) λi h1 h2=>?_
   have hi:i<xs.length:=by simpa using h2
   obtain⟨p,e,e1,e2,e3,e4,_⟩:=Of i _ (Ge9 hi);rw[XY];have S6:es.toList[i]=e:=by
    have:=(XU.mp e2).2;simpa using this
   rw[S6];have Li:=D.hh i p e e1 e2
   rw[e3];show e=⟨hT X.w p.1,.ref xs[i].2.1,e.val⟩
   rw[<- e4,<- Li]
  ·obtain⟨i,hi,rfl⟩:=Xw hz
   obtain⟨p,e,_,_,e3,_,e5,e6⟩:=Of i _ (Ge9 hi);rw[e3];exact⟨e5,e6⟩
  ·have:pl ks y=n?:=by
    refine Z9.mpr λp hp=>?_
    obtain⟨i,hi,rfl⟩:=Xw hp;obtain⟨e,e2⟩:=D.at (Ge9 hi);obtain⟨c,c1,_⟩:=RB i _ e (Ge9 hi) e2;refine decide_eq_false λz=>Ht i (c,e.val) ?_
    rw[c1,z]
   rw[this]at hq;exact hq
  ·rw[S5 j p hj]at hq;exact hq
 ·rw[VW,WD,VW]at hf
  obtain rfl:ks=[]:=by simpa using hf.1
  obtain rfl:es = #[]:=aaE.mp D.hl.symm;cases y with
  |tup xs=>
   have k:kh 7 (.tup xs)=t?:=hf.2.1;have z:=I.Pd 7 k ry
   obtain⟨b,o,its,n,rfl,_⟩:=ry.tI.2;exact⟨dr (.tup xs),λQ E hq=>eX.hash 7 k ⇑0 z hq,λtk Q E hq=>Lf (s:={s with toks:=tk}) D.ho D.hd hq⟩
  |_=>cases hf.2.1
end
section
variable{X:Cx}{pins:bf}{φ:Fr}{g:G}{L L':aa}{s:VY}{ks:List (T × T)}{t y x w:T}{u v:VT}{n:Nat}{a d:Wr}{A:WY}{q:Option (Wr × Wr)}{E:VT->VY->Prop}{o:Obj}{es:Array DictEntry}{ep:Nat}
def qK(h:pl ks y=s? i):∃p,ks[i]?=s? p/\p.1=y/\dN ks y=s? p.2:=by
 obtain⟨h1,h2,h3⟩:=W4.mp h;refine⟨ks[i],Ge9 h1,of_decide_eq_true h2,?_⟩;have:(ks.find? λp=>decide (p.1=y))=s? ks[i]:=by
  rw[List.find?_eq_some_iff_getElem];grind
 unfold dN;simp_all
def qL(h:pl ks y=n?):dN ks y=n?/\∀p∈ks,p.1≠y:=by
 have h':=Z9.mp h;have h2:∀p∈ks,p.1≠y:=λp hp=>of_decide_eq_false (h' p hp)
 refine⟨?_,h2⟩;have:(ks.find? λp=>decide (p.1=y))=n?:=X0.mpr λp hp=>by simpa using h2 p hp
 unfold dN;grind
def Lj(g:G)(o:Option VT)(x:Option T):Prop:=(o=n?/\x=n?)\/∃u t,o=s? u/\x=s? t/\RT g n? t u
theorem cJ.val(D:cJ X g s ks a o es ep):Lj g ((pl ks y).bind λi=>es[i]?.map (·.val)) (dN ks y):=by
 cases e:pl ks y with
 |none=>exact .inl ⟨rfl,(qL e).1⟩
 |some i=>
  obtain⟨p,p1,p2,p3⟩:=qK e;obtain⟨d,d1⟩:=D.at p1;exact .inr ⟨d.val,p.2,by simp_all,p3,D.h2 i p d p1 d1⟩
def cJ.get(D:cJ X g s ks a o es ep)(I:Inv X pins φ g L s)(hu:A.units+8<cLine)(hf:eD ks y)(ry:RT g n? y v)(h:∀tk u,Lj g u (dN ks y)->Q u {s with toks:=tk}):Wa (model X.prog X.w) A (dictGet a v) Q E s:=by
 obtain⟨n,h1,h2⟩:=D.find I hu hf ry;unfold dictGet
 try with_reducible refine wpAny_holding ?_
 refine VI (h1 _ _ (VI (h2 _ _ _ ?_)));have z:=D.val (y:=y)
 cases e:pl ks y with
 |none=>rw[e]at z;exact VM (h _ _ z)
 |some i=>rw[e]at z;exact VI (wpAny_dictEntries (s:={s with toks:=s.toks+n}) D.ho D.hd (VM (h _ _ z)))
def cJ.typeIs(D:cJ X g s ks a o es ep):s.TypeIs (.ref a) "dict":=⟨o,D.ho,D.hx.1⟩
def cJ.in(D:cJ X g s ks a o es ep)(I:Inv X pins φ g L s)(hu:X.A.units+20<cLine)(hf:eD ks y)(ry:RT g n? y v):(∀Q:VT->VY->Prop,(∀tk,Q (.bool (dN ks y).isSome) {s with toks:=tk})->Wa (model X.prog X.w) X.A (compareOp .In v (.ref a)) Q F0 s) /\
  ∀Q:VT->VY->Prop,(∀tk,Q (.bool (!(dN ks y).isSome)) {s with toks:=tk})->Wa (model X.prog X.w) X.A (compareOp .NotIn v (.ref a)) Q F0 s:=by
 have jN:X.A.in1.units+8<cLine:=by(simp;omega)
 have go:∀Q:Bool->VY->Prop,(∀tk,Q (dN ks y).isSome {s with toks:=tk})->Wa (model X.prog X.w) X.A (contains (.ref a) v) Q F0 s:=λQ h=>by
  unfold contains
  try with_reducible refine wpAny_holding ?_
  refine VI (wpAny_specialOf D.typeIs slot_dict_contains.lookup ?_);show Wa _ _ (if (s? (Y5 "dict.__contains__")==s? WV)=t? then _ else _) _ _ s
  rw[if_neg ⋯];refine VI (wpAny_callSpecialUnlessNone?_slot (name:=WS "__contains__") D.typeIs slot_dict_contains
   (wpAny_call_entry slot_dict_contains D.typeIs entry_dict_contains ?_ (args_dict_contains _ _)))
  show Wa _ _ (dictGet a v >>= _) _ _ s;refine VI (D.get I jN hf ry λtk u hu=>?_);rcases hu with⟨rfl,e⟩|⟨u,t,rfl,e,_⟩
  ·show Wa _ _ (Builtin.Dict.pendingKey? a v >>= _) _ _ _
   refine VI (wpAny_pendingKey_other D.hs (VM ⟨_,rfl,wpAny_truthy_bool ?_⟩));simp_all
  ·show Wa _ _ (PySem.ret (.bool t?)) _ _ _
   refine VM ⟨_,rfl,wpAny_truthy_bool ?_⟩;simp_all
 exact⟨λQ h=>VI (go _ λtk=>VM (h tk)),λQ h=>VI (go _ λtk=>VM (h tk))⟩
def cJ.item(D:cJ X g s ks a o es ep)(I:Inv X pins φ g L s)(hu:X.A.units+20<cLine)(hf:eD ks y)(ry:RT g n? y v)(hx:dN ks y=s? x)(h:∀tk u,RT g n? x u->Q u {s with toks:=tk}):Wa (model X.prog X.w) X.A (getItem (.ref a) v) Q F0 s:=by
 have jN:X.A.in1.units+8<cLine:=by(simp;omega)
 unfold getItem
 try with_reducible refine wpAny_holding ?_
 refine VI (wpAny_sequenceKey D.typeIs ∅ ?_);refine VI (wpAny_callSpecial?_slot (name:=WS "__getitem__") D.typeIs slot_dict_getitem
  (wpAny_call_entry slot_dict_getitem D.typeIs entry_dict_getitem ?_ (args_dict_getitem _ _)))
 show Wa _ _ (dictGet a v >>= _) _ _ s;refine VI (D.get I jN hf ry λtk u hu=>?_);rcases hu with⟨rfl,e⟩|⟨u,t,rfl,e,r⟩
 ·simp_all
 ·rw[hx]at e;cases e
  exact VM ⟨u,rfl,VM (h tk u r)⟩
def zT{ks:List T}(h:gM (y::ks)=t?):gM ks=t?/\gM (ks++[y])=t?:=by
 unfold gM at h⊢;grind
def fN(h:∀p∈ks,p.1≠y):dput ks y t=ks++[(y,t)]:=by
 unfold dput;grind
def zU(hn:(ks.map (·.1)).Nodup)(h:pl ks y=s? i):dput ks y t=ks.set i (y,t):=by
 obtain⟨h1,h2,h3⟩:=W4.mp h;unfold dput;rw[if_pos (Xt.mpr ⟨_,Wn h1,⇑0⟩)];refine Xs ⋯ λj j1 j2=>?_
 rw[XY,List.getElem_set];have hj:j<ks.length:=by simpa using j1
 by_cases e:i=j
 ·simp_all
 ·rw[if_neg e,if_neg]
  intro z;have hi':(ks.map (·.1))[i]?=s? y:=by simp_all
  have hj':(ks.map (·.1))[j]?=s? y:=by simp_all
  exact e ((List.getElem?_inj ⇑h1 hn).mp (hi'.trans hj'.symm))
def Inv.Ll(I:Inv X pins φ g L s)(hp:at_ g.α n=s? p)(hk:g.H p.1=s? (f?,o))(wx:p.2=p.1)(D:cJ X g s ks p.1 o es ep)(keep:∀b v,b≠p.1->s.heap.get? b=s? v->h'.get? b=s? v)(new:h'.get? p.1=s? o')(hx:o'.ExactDict)(hd:o'.data=.dict sA KH)
  (hz:mR.length<=Wf) (hl:mR.length=sA.size) (hn:(mR.map (·.1)).Nodup) (hm:gM (mR.map (·.1))=t?) (hh:∀(i:Nat) x e,mR[i]?=s? x->sA[i]?=s? e->e.hash=hT X.w x.1/\RT g n? x.1 e.key/\RT g n? x.2 e.val):
  ∃g',Le g g'/\Inv X pins φ g' (put L n (.ay mR)) {s with heap:=h',toks:=tk}/\∀b,b≠p.1->g'.H b=g.H b:=by
 have l:=Le.set (o:=o') hk;refine⟨_,l,I.set (t':=tk) hp (.inl rfl) hk keep new ?_,λb hb=>aB hb⟩;have ht:uK (s? p) p.1 p.1:=.inr (congrArg s? (Prod.ext rfl wx))
 exact .ay ht (.inl av) hx hd hz hl ⟨hn,hm⟩ D.hs (λi x e e1 e2=>by show e.hash=hT g.w x.1;rw[I.gw];exact(hh i x e e1 e2).1) (λi x e e1 e2=>(hh i x e e1 e2).2.1.le l) λi x e e1 e2=>(hh i x e e1 e2).2.2.le l
def Inv.wD(I:Inv X pins φ g L s)(ru:RT g n? (.ref n) u)(hc:at_ L n=s? (.ay ks)):∃p o es ep,u=.ref p.1/\at_ g.α n=s? p/\p.2=p.1/\g.H p.1=s? (f?,o)/\cJ X g s ks p.1 o es ep:=by
 obtain⟨p,hp,rc⟩:=I.rel.cells n _ hc;cases ru with
 |ref hq=>
  rw[hp]at hq;cases hq;obtain⟨a,o,es,ep,e,ht,hk,D⟩:=I.ay rc;have ea:p.1=a:=by injection e
  subst ea;refine⟨p,o,es,ep,rfl,hp,?_,?_,D⟩
  ·rcases ht with z|z
   ·cases z
   grind
  ·rcases hk with hk|⟨z,_⟩
   ·exact hk
   ·cases z
def cJ.new(D:cJ X g s ks p.1 o es ep)(I:Inv X pins φ g L s)(hp:at_ g.α n=s? p)(wx:p.2=p.1)(hk:g.H p.1=s? (f?,o))(hf:eD ks y)(hz:ks.length<Wf)(Ht:pl ks y=n?)(ry:RT g n? y v)(rt:RT g n? t u):
  ∃g',Le g g'/\Inv X pins φ g' (put L n (.ay (dput ks y t))) {s with heap:=s.heap.update p.1 (Obj.mapDictKeys (·.push ⟨hT X.w y,v,u⟩)),toks:=tk}/\∀b,b≠p.1->g'.H b=g.H b:=by
 have hne:=(qL Ht).2;rw[fN hne];refine I.Ll hp hk wx D (λb v hb hv=>(Xv s.heap _ (YA hb)).trans hv) (YB _ D.ho (Obj.isFreed_of_dict (aa0 D.hd _))) (D.hx.mapDictKeys _) (aa0 D.hd _) (by simp;omega) (by simp[D.hl]) ?_ ?_ λi x e e1 e2=>?_
 ·rw[V1,WW]
  refine⟨D.hn,⋯,λx hx y' hy=>?_⟩;obtain⟨q,hq,rfl⟩:=VP.mp hx;have:y'=y:=by simpa using hy
  rw[this];exact hne q hq
 ·rw[V1];exact(zT hf).2
 ·rw[List.getElem?_append]at e1
  rw[Array.getElem?_push]at e2;split at e1
  ·rename_i hi
   rw[if_neg (by rw[<- D.hl];omega)]at e2;exact⟨D.hh i x e e1 e2,D.h1 i x e e1 e2,D.h2 i x e e1 e2⟩
  ·rename_i hi
   have Dp:i=es.size:=by
    have:=(VZ.mp e1).1;simp at this;have:=D.hl
    omega
   rw[if_pos Dp]at e2;cases e2;have e1':i - ks.length=0:=by have:=D.hl;omega
   rw[e1']at e1;cases e1;exact⟨rfl,ry,rt⟩
def cJ.old(D:cJ X g s ks p.1 o es ep)(I:Inv X pins φ g L s)(hp:at_ g.α n=s? p)(wx:p.2=p.1)(hk:g.H p.1=s? (f?,o))(hi:pl ks y=s? i)(rt:RT g n? t u):
  ∃g',Le g g'/\Inv X pins φ g' (put L n (.ay (dput ks y t))) {s with heap:=s.heap.update p.1 (Obj.mapDict (·.modify i λe=>{e with val:=u})),toks:=tk}/\∀b,b≠p.1->g'.H b=g.H b:=by
 rw[zU D.hn hi];obtain⟨q,q1,q2,_⟩:=qK hi;have keys:(ks.set i (y,t)).map (·.1)=ks.map (·.1):=by
  refine Xs ⋯ λj h1 h2=>?_
  rw[XY,XY,List.getElem_set];by_cases e:i=j
  ·subst e
   rw[if_pos rfl,(VZ.mp q1).2,q2]
  ·rw[if_neg e]
 refine I.Ll hp hk wx D (λb v hb hv=>(Xv s.heap _ (YA hb)).trans hv) (YB _ D.ho (Obj.isFreed_of_dict (Obj.data_mapDict D.hd _))) (D.hx.mapDict _) (Obj.data_mapDict D.hd _) ⇑D.hz (by simp[D.hl]) (by rw[keys];exact D.hn) (by rw[keys];exact D.hm) λj x e e1 e2=>?_
 rw[Array.getElem?_modify]at e2;rw[List.getElem?_set]at e1;by_cases ej:i=j
 ·subst ej
  rw[if_pos rfl]at e1 e2;obtain⟨e0,f1,f2⟩:=V7.mp e2;have cM:=(VZ.mp q1).1
  rw[if_pos cM]at e1;cases e1;subst f2;exact⟨by rw[<- q2];exact D.hh i q e0 q1 f1,by rw[<- q2];exact D.h1 i q e0 q1 f1,rt⟩
 ·rw[if_neg ej]at e1 e2
  exact⟨D.hh j x e e1 e2,D.h1 j x e e1 e2,D.h2 j x e e1 e2⟩
def wF{A:WY}(I:Inv X pins φ g L s)(hu:A.units+8<cLine)(hc:at_ L n=s? (.ay ks))(rd:RT g n? (.ref n) (.ref a))(ry:RT g n? y v){tv:VT}(rt:RT g n? t tv)(hz:ks.length<Wf)(hf:eD ks y):
  Wa (model X.prog X.w) A (dictSet a v tv) (λ_ s'=>(∃g',Le g g'/\Inv X pins φ g' (put L n (.ay (dput ks y t))) s'/\∀b,b≠a->g'.H b=g.H b)/\∀b,b≠a->s'.heap.get? b=s.heap.get? b) E s:=by
 obtain⟨p,o,es,ep,ea,hp,wx,hk,D⟩:=I.wD rd hc;cases ea;obtain⟨m,h1,h2⟩:=D.find I hu hf ry;unfold dictSet
 try with_reducible refine wpAny_holding ?_
 refine VI (h1 _ _ ?_);unfold dictSetHashed
 try with_reducible refine wpAny_holding ?_
 refine VI (h2 _ _ _ ?_);cases e:pl ks y with
 |none=>
  exact VI (wpAny_rule (wpAny_updateDictKeys (hz:=by have:=D.hl;omega) (s:={s with toks:=s.toks+m}) D.ho D.hd ⟨D.new I hp wx hk hf hz e ry rt,λb hb=>Xv s.heap _ (YA hb)⟩))
 |some i=>
  exact VI (wpAny_rule (VI (wpAny_updateDict (s:={s with toks:=s.toks+m}) D.ho D.hd (wpAny_point ⟨D.old I hp wx hk e rt,λb hb=>Xv s.heap _ (YA hb)⟩))))
def Dq(I:Inv X pins φ g L s)(hu:X.A.units+20<cLine)(hc:at_ L n=s? (.ay ks))(rd:RT g n? (.ref n) u)(ry:RT g n? y v){tv:VT}(rt:RT g n? t tv)(hz:ks.length<Wf)(hf:eD ks y):
  Wa (model X.prog X.w) X.A (setItem u v tv) (λ_ s'=>∃g',Le g g'/\Inv X pins φ g' (put L n (.ay (dput ks y t))) s') F0 s:=by
 have jN:X.A.in1.units+8<cLine:=by(simp;omega)
 obtain⟨p,o,es,ep,rfl,hp,wx,hk,D⟩:=I.wD rd hc;unfold setItem
 try with_reducible refine wpAny_holding ?_
 refine VI (wpAny_sequenceKey D.typeIs ∅ ?_);refine VI (wpAny_callSpecial?_slot (name:=WS "__setitem__") D.typeIs slot_dict_setitem
  (wpAny_call_entry slot_dict_setitem D.typeIs entry_dict_setitem ?_ (args_dict_setitem _ _ _)))
 show Wa _ _ (Builtin.Dict.notOrdered "__setitem__" ⟨[.ref p.1,v,tv],[]⟩ >>= _) _ _ s;refine VI (wpAny_notOrdered_dict D.typeIs ?_);show Wa _ _ (dictSet p.1 v tv >>= _) _ _ s
 refine VI (wpAny_mono (wF I jN hc rd ry rt hz hf) (λ_ s'⟨⟨g',l,J,_⟩,_⟩=>VM ⟨.none,rfl,VM ⟨g',l,J⟩⟩) λ_ _ e=>e)
end
section
variable{P:WU}{w:XQ}{A:WY}{E:VT->VY->Prop}{s:VY}{d it:Wr}{o:Obj}{es:Array DictEntry}{ep:Nat}
def DO.src(hs:(d==sysModules)=f?):PySem.W.KdlSrc P w "dict" d d es.size (λi v=>∃e,es[i]?=s? e/\v=e.key) (λh=>DO h d o es ep) where
 type:=λ_ D=>⟨o,D.ho,D.hx.1⟩
 there:=λ_ D=>⟨V5 D.ho,V5 D.ho⟩
 keep:=λ_ _ D k=>D.keep λo e=>k d (.inl rfl) o e
 notList:=by decide
 notTuple:=by decide
 hint:=λ_ _ _ _ D q=>PySem.W.kdl_hint_dict ⟨o,D.ho,D.hx.1⟩ q
 iter:=λ_ s hh D=>⟨_,λi h=>h.IsKeyIter s.heap.objs.size d i es.size ep/\DO h d o es ep,(λ_ _ q=>D.iter hs q),{
  sub:=λb hb=>by simp at hb;simp[hb]
  frame:=λ_ _ _ st k=>⟨st.1.at λo e=>k _ ⋯ o e,st.2.keep λo e=>k d ⋯ o e⟩
  item:=λi s' Q E hi st hQ=>st.2.next hh st.1 (λ_ h' a b=>hQ _ h' s'.toks ⟨_,VX hi,rfl⟩ ⟨a,st.2.keep λo e=>(b.2 d (Wm (V5 D.ho))).trans e⟩ λc o hc e=>(b.2 c λz=>hc (by simp[z])).trans e) λz=>absurd hi (Nat.not_lt.mpr z)
  done:=λs' Q E st hQ=>st.2.next hh st.1 (λz=>absurd z (Xf _)) λ_ h' b=>hQ h' s'.toks λc o hc e=>b c o (λz=>hc (by simp[z])) e
  self:=λ_ _ _ _ st q=>wpAny_pyIter_keyiter st.1 q},⟨⟨_,VO _ rfl,rfl,rfl⟩,D.keep λo e=>VJ _ e⟩⟩
end
section
variable{X:Cx}{pins:bf}{φ:Fr}{g:G}{L:aa}{s:VY}
def x6{fz:Bool}{ks:List (T × T)}{a:Wr}{o:Obj}{es:Array DictEntry}{ep:Nat}{w:T}{L':aa}(I:Inv X pins φ g L s)(D:cJ X g s ks a o es ep)(h:fG fz (ks.map (·.1)) L=.ok w L'):Wa (model X.prog X.w) X.A (call (.type "list") [.ref a]) (EP X pins φ g w L') F0 s:=by
 refine PySem.W.kdl_call (DO.src (o:=o) (es:=es) (ep:=ep) D.hs) I.ok.hd ⟨D.ho,D.hx,D.hd⟩ (by have:=D.hz;have:=D.hl;omega) λh' tk acc c' kp hg x7=>?_
 refine lW (t':=tk) (n:=c') (us:=acc.toList) I (fH ?_ λi x v e1 e2=>?_) h kp ⇑hg
 ·have:=x7.1
  have:=D.hl;simp;omega
 ·obtain⟨e,f1,rfl⟩:=x7.2 i v (by rw[<- Zn];exact e2)
  rw[Wx]at e1;obtain⟨q,q1,q2⟩:=V7.mp e1;rw[<- q2];exact D.h1 i q e q1 f1
end
section
variable{X:Cx}{pins:bf}{φ:Fr}{g:G}{L:aa}{s:VY}{xs ys:List T}{us vs:List VT}{e a b:Expr}{m ma mb:SE}{pos p2:Pos}
def HF{α:Type}{y:T}{f:Int->R α}{w:α}{L':aa}(h:(match y with|.int i=>f i|_=>.bad)=.ok w L'):∃i,y=.int i/\f i=.ok w L':=by
 cases y with
 |int i=>exact⟨i,rfl,h⟩
 |_=>cases h
def Lm{α:Type}{y:T}{f:R α}{w:α}{L':aa}(h:(match y with|.aY=>f|_=>.bad)=.ok w L'):y=.aY/\f=.ok w L':=by
 cases y with
 |aY=>exact⟨rfl,h⟩
 |_=>cases h
def S7{α:Type}{y:T}{f:Nat->R α}{w:α}{L':aa}(h:(match y with|.str [ch]=>f ch|_=>.bad)=.ok w L'):∃ch,y=.str [ch]/\f ch=.ok w L':=by
 split at h
 ·exact⟨_,rfl,h⟩
 ·cases h
def Fe(hu:X.A.units+20<cLine){x y:T}{u v:VT}{k:Bool}{L':aa}(I:Inv X pins φ g L s)(rx:RT g n? x u)(ry:RT g n? y v)(h:lQ x y L=.ok k L'):
  L'=L/\(∀Q:VT->VY->Prop,(∀tk,Q (.bool k) {s with toks:=tk})->Wa (model X.prog X.w) X.A (compareOp .In u v) Q F0 s)/\∀Q:VT->VY->Prop,(∀tk,Q (.bool (!k)) {s with toks:=tk})->Wa (model X.prog X.w) X.A (compareOp .NotIn u v) Q F0 s:=by
 obtain⟨p,vy⟩:=I.view ry;unfold lQ at h;generalize vw L y=y' at h vy;have jN:X.A.in1.units+8<cLine:=by show X.A.units+1+8<cLine;omega
 cases y' with
 |str b=>
  obtain⟨ch,rfl,h⟩:=S7 h;cases h;obtain⟨_,rfl⟩:=rx.sI;obtain⟨_,rfl⟩:=vy.sI;exact⟨rfl,λQ q=>in_str (by rw[wo];exact q s.toks),λQ q=>notIn_str (by rw[wo];exact q s.toks)⟩
 |lst ys=>
  obtain⟨⟨h1,h2⟩,h⟩:=aE h;cases h;obtain⟨a,its,n,rfl,e,r,_⟩:=I.lst vy;obtain⟨f,f1,f2,_⟩:=qH I jN h1 rx h2 r;rw[<- f2,<- show its.any f=its.toList.any f by simp];exact⟨rfl,λQ q=>SeqAt.in_listAt f (aj e) (λw hw=>f1 w ⇑hw) (q s.toks),λQ q=>SeqAt.notIn_listAt f (aj e) (λw hw=>f1 w ⇑hw) (q s.toks)⟩
 |tup ys=>
  obtain⟨⟨h1,h2⟩,h⟩:=aE h;cases h;obtain⟨a,its,rfl,e,r,_⟩:=I.tupP vy;obtain⟨f,f1,f2,_⟩:=qH I jN h1 rx h2 r;rw[<- f2,<- show its.any f=its.toList.any f by simp];exact⟨rfl,λQ q=>SeqAt.in_tupleAt f e (λw hw=>f1 w ⇑hw) (q s.toks),λQ q=>SeqAt.notIn_tupleAt f e (λw hw=>f1 w ⇑hw) (q s.toks)⟩
 |ay ks=>
  obtain⟨h1,h⟩:=aE h;cases h;obtain⟨a,o,es,ep,rfl,_,_,D⟩:=I.ay vy;obtain⟨d1,d2⟩:=D.in I hu h1 rx;exact⟨rfl,λQ q=>d1 Q q,λQ q=>d2 Q q⟩
 |_=>cases h
def fO{op:CmpOp}(hu:X.A.units+20<cLine):v9 X (compareOp op) (cmp op):=λ{pins φ g L s x y w L' u v}I rx ry h=>by
 obtain⟨k,h',rfl⟩:=qz h;clear h;have fin:∀k,EP X pins φ g (.bl k) L (.bool k) s:=λk=>I.ep (.bl k)
 cases op with
 |Eq=>
  obtain⟨h1,h2,rfl,rfl⟩:=Hs h';obtain⟨p,vx⟩:=I.view rx;obtain⟨q,vy⟩:=I.view ry;exact(I.rc 8 h1 h2 ⇑0 vx vy).1 _ _ _ _ (fin _)
 |NotEq=>
  have h:N2 x y L=.ok k L':=h';unfold N2 at h;split at h
  ·obtain⟨_,rfl⟩:=rx.iI;obtain⟨_,rfl⟩:=ry.iI;cases h;exact ne_int (fin _)
  ·obtain⟨_,rfl⟩:=rx.sI;obtain⟨_,rfl⟩:=ry.sI;cases h;refine ne_str ?_;simp only[bne,str_beq];exact fin _
  ·cases h
 |Lt=>
  have h:N3 x y L=.ok k L':=h';unfold N3 at h;split at h
  ·obtain⟨_,rfl⟩:=rx.iI;obtain⟨_,rfl⟩:=ry.iI;cases h;exact lt_int (fin _)
  ·obtain⟨_,rfl⟩:=rx.sI;obtain⟨_,rfl⟩:=ry.sI;cases h;exact lt_str (fin _)
  ·cases h
 |Gt=>
  have h:N4 x y L=.ok k L':=h';unfold N4 at h;split at h
  ·obtain⟨_,rfl⟩:=rx.iI;obtain⟨_,rfl⟩:=ry.iI;cases h;exact gt_int (fin _)
  ·cases h
 |LtE=>
  have h:Gs x y L=.ok k L':=h';unfold Gs at h;split at h
  ·obtain⟨_,rfl⟩:=rx.iI;obtain⟨_,rfl⟩:=ry.iI;cases h;exact le_int (fin _)
  ·cases h
 |GtE=>
  have h:Gs y x L=.ok k L':=h';unfold Gs at h;split at h
  ·obtain⟨_,rfl⟩:=rx.iI;obtain⟨_,rfl⟩:=ry.iI;cases h;exact ge_int (fin _)
  ·cases h
 |Is=>
  obtain⟨rfl,h'⟩:=Lm h';obtain rfl:=ry.nI;cases h';exact is_none_gen (by rw[zC rx];exact fin _)
 |IsNot=>
  obtain⟨rfl,h'⟩:=Lm h';obtain rfl:=ry.nI;cases h';exact isnot_none_gen (by rw[zC rx];exact fin _)
 |In=>
  obtain⟨rfl,a,_⟩:=Fe hu I rx ry h';exact a _ λtk=>(I.tok tk).ep (.bl _)
 |NotIn=>
  obtain⟨k,h2,rfl⟩:=qz h';obtain⟨rfl,_,a⟩:=Fe hu I rx ry h2;exact a _ λtk=>(I.tok tk).ep (.bl _)
def Lq(hu:X.A.units+20<cLine)(hb:xY b=t?):v9 X (λo i=>subscriptTail a b o i) ix:=λ{pins φ g L s x y w L' u v}I rx ry h=>by
 obtain⟨p,vx⟩:=I.view rx;have hn:=uZ
 unfold ix at h;generalize vw L x=x' at h vx;have hs:=λo i=>zE hb o i
 cases x' with
 |str z=>
  obtain⟨i,rfl,h⟩:=HF h;obtain⟨q1,rfl⟩:=jA h;obtain⟨ch,q2,rfl⟩:=V7.mp q1;obtain⟨j,hj,hc⟩:=XH.mp q2;obtain⟨h1,h2,h3,h4,_⟩:=nY hj;obtain⟨_,rfl⟩:=ry.iI;obtain⟨t,rfl,hz⟩:=vx.jM
  ·have hl:(⟨z.toArray⟩:Str).length=z.length:=by show z.toArray.size=_;simp
   exact tail_any (typeIs_str s _ t) slot_str_getitem.lookup (getItem_str (c:=ch) (by
    have e1:d? (i < -(2 ^ 63:Int))=f?:=decide_eq_false ⇑0;have e2:d? (i≥2 ^ 63)=f?:=decide_eq_false ⇑0
    rw[e1,e2,Bool.or_false]) (by rw[hl,h1];simpa using hc) ((I.tok _).ep (.str [ch] _ (by show 1<=Wf;decide)))) (hs _ _)
 |tup xs=>
  obtain⟨i,rfl,h⟩:=HF h;obtain⟨q1,rfl⟩:=jA h;obtain⟨j,hj,hc⟩:=XH.mp q1;obtain⟨h1,h2,h3,h4,_⟩:=nY hj;obtain⟨_,rfl⟩:=ry.iI;obtain⟨a,its,rfl,e,r,hz⟩:=I.tupP vx;obtain⟨u,hu,ru⟩:=pD r hc;have hl:xs.length=its.size:=by have:=V9 r;simp at this;omega
  exact subscriptTail_builtinR (x:=u) e.typeIs slot_tuple_getitem.lookup
   (getItem_tuple (j:=j) (Q:=λr s'=>r=u/\EP X pins φ g w L' r s') e ⇑0 ⇑0 (by rw[<- hl];exact h1) ⇑hu ⟨rfl,I.ep ru⟩) (hs _ _)
 |lst xs=>
  obtain⟨i,rfl,h⟩:=HF h;obtain⟨q1,rfl⟩:=jA h;obtain⟨j,hj,hc⟩:=XH.mp q1;obtain⟨h1,h2,h3,h4,h5⟩:=nY hj;obtain⟨_,rfl⟩:=ry.iI;obtain⟨a,its,n,rfl,e,r,hz⟩:=I.lst vx;obtain⟨u,hu,ru⟩:=pD r hc;have hl:xs.length=its.size:=by have:=V9 r;simp at this;omega
  rcases h5 with⟨h0,hj⟩|⟨h0,hj⟩
  ·exact item_listR (aj e) h0 ⇑0 (by rw[hj];simpa using hu) (I.ep ru) (hs _ _)
  ·exact subscriptTail_builtinR (x:=u) (aj e).typeIs slot_list_getitem.lookup
    (wpAny_getItem_list_neg (Q:=λr s'=>r=u/\EP X pins φ g w L' r s') (aj e) ⇑0 ⇑0 ⇑0 (by rw[<- hl,hj];simpa using hu) ⟨rfl,I.ep ru⟩) (hs _ _)
 |ay ks=>
  obtain⟨h1,q1⟩:=aE h;obtain⟨q2,rfl⟩:=jA q1;obtain⟨d,o,es,ep,rfl,_,_,D⟩:=I.ay vx;exact tail_any D.typeIs slot_dict_getitem.lookup (D.item I hu h1 ry q2 λtk u r=>(I.tok tk).ep r) (hs _ _)
 |_=>cases h
def HG(hu:X.A.units+20<cLine):yQ X "dict.get" ij:=λ{_ _ g _ s _ _ _ _ _ _}I rx rv h=>by
 have jN:X.A.in1.units+8<cLine:=by show X.A.units+1+8<cLine;omega
 unfold ij at h;split at h
 ·rename_i ks y t ev
  obtain⟨h1,h⟩:=aE h;cases h;obtain⟨p,v⟩:=I.view rx;rw[ev]at v;obtain⟨a,o,es,ep,rfl,_,_,D⟩:=I.ay v;obtain⟨u1,u2,rfl,r1,r2⟩:=gO rv;have M:MeetsIn X.prog X.w (Builtin.«dict.get» ⟨[.ref a,u1,u2],[]⟩) (λA R s'=>A=X.A/\s'=s/\∀tk u,RT g n? ((dN ks y).getD t) u->R (.ok (.ret u)) {s with toks:=tk}) :=
   .of_wp λA R s'⟨eA,sA,h⟩=>by
    subst eA sA;show Wa _ _ (dictGet a u1 >>= _) _ _ _
    refine VI (D.get I jN h1 r1 λtk u hu=>?_);rcases hu with⟨rfl,e⟩|⟨u,z,rfl,e,r⟩
    ·rw[e]at h
     show Wa _ _ (Builtin.Dict.missed a u1 >>= _) _ _ _;exact VI (wpAny_missed_other D.hs (VM ⟨u2,rfl,h tk u2 r2⟩))
    ·rw[e]at h
     exact VM ⟨u,rfl,h tk u r⟩
  exact call_meetsIn aaR D.typeIs PySem.F.entry_dict_get (PySem.F.args_dict_get_3 _ _ _) M ⟨rfl,rfl,λtk u r=>(I.tok tk).ep r⟩
 ·cases h
def HH(hu:X.A.units+20<cLine):yQ X "dict.setdefault" pC:=λ{pins φ g L s _ _ _ _ _ _}I rx rv h=>by
 have jN:X.A.in1.units+8<cLine:=by show X.A.units+1+8<cLine;omega
 unfold pC at h;split at h
 ·split at h
  ·rename_i n y t _ ks ea
   obtain⟨⟨hz,h1⟩,h⟩:=aE h;obtain⟨p,o,es,ep,rfl,hp,wx,hk,D⟩:=I.wD rx ea;obtain⟨u1,u2,rfl,r1,r2⟩:=gO rv;obtain⟨m,f1,f2⟩:=D.find I jN h1 r1;have hz:ks.length<Wf:=hz
   have M:MeetsIn X.prog X.w (Builtin.«dict.setdefault» ⟨[.ref p.1,u1,u2],[]⟩) (λA R s'=>A=X.A/\s'=s/\(∀tk u x,dN ks y=s? x->RT g n? x u->R (.ok (.ret u)) {s with toks:=tk})/\(dN ks y=n?->∀s',(∃g',Le g g'/\Inv X pins φ g' (put L n (.ay (dput ks y t))) s')->R (.ok (.ret u2)) s')) :=
    .of_wp λA R s'⟨eA,sA,h1',h2'⟩=>by
     subst eA sA;unfold Builtin.«dict.setdefault»;refine VI ?_;unfold Builtin.Dict.keyAndDefault;refine VI (wpAny_notOrdered_dict D.typeIs ?_);show Wa _ _ (pure (p.1,u1,s? u2)) _ _ _
     refine VM ?_;show Wa _ _ (if (p.1==sysModules)=t? then _ else (dictSetDefault p.1 u1 u2 >>= _)) _ _ _
     rw[if_neg (by rw[D.hs];exact Xl)];refine VI ?_;unfold dictSetDefault
     try with_reducible refine wpAny_holding ?_
     refine VI (f1 _ _ (VI (f2 _ _ _ ?_)));cases e:pl ks y with
     |none=>
      exact VI (wpAny_rule (VI (wpAny_updateDictKeys (hz:=by have:=D.hl;omega) (s:={s' with toks:=s'.toks+m}) D.ho D.hd (VM (VM ⟨u2,rfl,h2' (qL e).1 _ (let ⟨g',l,J,_⟩:=D.new I hp wx hk h1 hz e r1 r2;⟨g',l,J⟩)⟩)))))
     |some i=>
      obtain⟨q,q1,q2,q3⟩:=qK e;obtain⟨d,d1⟩:=D.at q1;refine VI (wpAny_dictEntries (s:={s' with toks:=s'.toks+m}) D.ho D.hd ?_);rw[d1];exact VI (wpAny_rule (VM (VM ⟨d.val,rfl,h1' _ _ _ q3 (D.h2 i q d q1 d1)⟩)))
   refine call_meetsIn ZF D.typeIs PySem.F.entry_dict_setdefault (PySem.F.args_dict_setdefault_3 _ _ _) M ⟨rfl,rfl,λtk u x e r=>?_,λe s'⟨g',l,J⟩=>?_⟩
   ·simp only[e]at h
    cases h;exact(I.tok tk).ep r
   ·simp only[e]at h
    cases h;exact⟨g',l,J,r2.le l⟩
  ·cases h
 ·cases h
def x8{fz:Bool}:eE X (.type "list") (bG fz):=λ{_ _ g _ s _ _ _ _}I r h=>by
 unfold bG at h;split at h
 ·obtain⟨u,rfl,ru⟩:=cb r
  split at h
  ·exact wu I ru (.inr ‹_›) h
  ·exact wu I ru (.inl ‹_›) h
  ·rename_i ks ev
   obtain⟨p,v⟩:=I.view ru;rw[ev]at v;obtain⟨a,o,es,ep,rfl,_,_,D⟩:=I.ay v;exact x6 I D h
  ·cases h
 ·cases h
def Dr{i:Expr}(h:xY i=t?):∀ov iv new,augStore i ov iv new=(do holding [new,ov,iv] (setItem ov iv new);release [new,ov,iv] [];pure .next):=λ_ _ _=>by
 cases i<;>first|rfl|cases h
def set_list{Md:WU}{w:XQ}{A:WY}{E:VT->VY->Prop}{l:Wr}{items:Array VT}{n:Nat}{k:Int}{t:Tok}{v:VT}{Q:Unit->VY->Prop}(ho:s.heap.get? l=s? {cls:=.type "list",data:=.seq items n})(h0:0<=k)(hfit:k<2 ^ 63)(hn:k<items.size)
  (hQ:Q () {s with heap:=s.heap.update l (XX (·.setIfInBounds k.toNat v))}):Wa (model Md w) A (setItem (.ref l) (.int k t) v) Q E s:=by
 have hl:=aj ho;unfold setItem
 try with_reducible refine wpAny_holding ?_
 first|refine VI (VM ?_)|skip
 refine VI (wpAny_sequenceKey hl.typeIs ∅ ?_);refine VI (wpAny_callSpecial?_slot (name:=WS "__setitem__") hl.typeIs slot_list_setitem
  (wpAny_call_entry slot_list_setitem hl.typeIs entry_list_setitem ?_ (args_list_setitem _ _ _)))
 show Wa _ _ (Builtin.List.listSubscript? (.int k t) >>= _) _ _ s;refine VI (wpAny_listSubscript_int (fitsIndex_of h0 hfit) ?_);clear hfit;obtain⟨j,rfl⟩:=Int.eq_ofNat_of_zero_le h0;have hj:j<items.size:=by omega
 have hx':items[j]?=s? items[j]:=VX hj;show Wa _ _ ((seqItemAt l j >>= λr=>pure (r.map (j,·))) >>= _) _ _ s
 refine VI (VI (wpAny_seqItemAt ho rfl (VM ?_)));rw[hx'];show Wa _ _ (setSeqItemAt l j v >>= _) _ _ s
 refine VI (wpAny_setSeqItemAt ho rfl ?_)
 first
  |exact VI (VM (VM ⟨.none,rfl,VM hQ⟩))
  |exact VM ⟨.none,rfl,VM hQ⟩
theorem cL.set{i:Nat}{t:T}{u:VT}(h:cL g xs us)(r:RT g n? t u):∀i,cL g (xs.set i t) (us.set i u):=by
 induction h with
 |nil=>intro i;simp;exact .nil
 |cons a b ih=>intro i;cases i with
  |zero=>exact .cons r b
  |succ i=>exact .cons a (ih i)
def zV(hu:X.A.units+20<cLine){x y t:T}{xv yv tv:VT}{L':aa}(I:Inv X pins φ g L s)(rx:RT g n? x xv)(ry:RT g n? y yv)(rt:RT g n? t tv)(h:jL x y t L=s? L'):Wa (model X.prog X.w) X.A (setItem xv yv tv) (λ_ s'=>SP X pins g (.nx φ L') .next s') F0 s:=by
 unfold jL at h;split at h
 ·split at h
  ·split at h
   ·rename_i hc
    cases h;exact thn (Dq I hu ‹_› rx ry rt hc.1 hc.2) λ_ s' z=>z
   ·cases h
  ·rename_i ea
   split at h
   ·split at h
    ·rename_i hc
     cases h;obtain⟨_,rfl⟩:=ry.iI;obtain⟨a,its,cnt,rfl,e,rr,hl,hz⟩:=I.sP rx ea;have hn:=uZ
     refine set_list e hc.1 ⇑0 ⇑0 ?_;obtain⟨g',l,J,_⟩:=I.qE (t':=s.toks) (f:=(·.setIfInBounds _ tv)) ea rx e ⇑(rr.set rt (i:=0) _) ⇑hz;exact⟨g',l,J⟩
    ·cases h
   ·cases h
  ·cases h
 ·cases h
def Ds{o i:Expr}{mo mi:SE}(hu:X.A.units+20<cLine)(ho:PE X o mo)(hi:PE X i mi)(he:PE X e m)(hs:mP e=t?):PS X (.Assign [.Subscript o i p2] e pos) (nK mo mi m):=λ{pins φ g L s}I h=>by
 obtain⟨t,L1,e1,q1,h⟩:=iW h;rw[show nK mo mi m φ L=_ from q1];obtain⟨x,L2,e2,q2,h⟩:=iW h;rw[q2];obtain⟨y,L3,e3,q3,h⟩:=iW h;rw[q3];cases ep:jL x y t L3 with
 |none=>simp only[ep]at h;exact absurd rfl h
 |some L4=>
  simp only[ep];exact wpAny_Assign_Subscript (thn (he I e1) λtv s1⟨g1,l1,I1,r1⟩=>thn (ho I1 e2) λxv s2⟨g2,l2,I2,r2⟩=>thn (hi I2 e3) λyv s3⟨g3,l3,I3,r3⟩=>
   thn (zV hu I3 (r2.le l3) r3 (r1.le (l2.trans l3)) ep) λ_ s4 z=>z.le ((l1.trans l2).trans l3)) (nP hs)
def Dt{o i:Expr}{mo mi:SE}{op:Operator}(hu:X.A.units+20<cLine)(ho:PE X o mo)(hi:PE X i mi)(he:PE X e m)(hx:xY i=t?):PS X (.AugAssign (.Subscript o i p2) op e pos) (CJ op mo mi m):=λ{pins φ g L s}I h=>by
 obtain⟨x,L1,e1,q1,h⟩:=iW h;rw[show CJ op mo mi m φ L=_ from q1];obtain⟨y,L2,e2,q2,h⟩:=iW h;rw[q2];obtain⟨z,L3,e3,q3,h⟩:=iW h;rw[q3];obtain⟨t,L4,e4,q4,h⟩:=iW h;rw[q4];obtain⟨r,L5,e5,q5,h⟩:=iW h;rw[q5];cases ep:jL x y r L5 with
 |none=>simp only[ep]at h;exact absurd rfl h
 |some L6=>
  simp only[ep];refine wpAny_AugAssign_Subscript_any (thn (ho I e1) λxv s1⟨g1,l1,I1,r1⟩=>thn (hi I1 e2) λyv s2⟨g2,l2,I2,r2⟩=>?_) (Dr hx);have hg:Wa (model X.prog X.w) X.A (getItem xv yv) (EP X pins φ g2 z L3) F0 s2:=by
   unfold OL at e3;obtain⟨p,v⟩:=I2.view (r1.le l2);split at e3
   ·rename_i ev
    rw[ev]at v;obtain⟨h1,k1⟩:=aE e3;obtain⟨k2,k3⟩:=jA k1;subst k3;obtain⟨d,o,es,ep,rfl,_,_,D⟩:=I2.ay v;exact D.item I2 hu h1 r2 k2 λtk u r=>(I2.tok tk).ep r
   ·cases e3
  exact thn hg λzv s3⟨g3,l3,I3,r3⟩=>thn (he I3 e4) λtv s4⟨g4,l4,I4,r4⟩=>thn (zR I4 (r3.le l4) r4 e5) λrv s5⟨g5,l5,I5,r5⟩=>
   thn (zV hu I5 ((r1.le l2).le ((l3.trans l4).trans l5)) (r2.le ((l3.trans l4).trans l5)) r5 ep) λ_ s6 w=>w.le ((((l1.trans l2).trans l3).trans l4).trans l5)
def HI{fz:Bool}{ks:List (T × T)}{o:Obj}{es:Array DictEntry}{ep tk:Nat}{h':Heap}{w:T}{L2:aa}(I:Inv X pins φ g L s)(h:mk fz (.ay ks) L=.ok w L2)(k:∀b u,s.heap.get? b=s? u->h'.get? b=s? u)(new:h'.get? s.heap.objs.size=s? o)(hx:o.ExactDict)(hd:o.data=.dict es ep)
  (hz:ks.length<=Wf) (hl:ks.length=es.size) (hn:(ks.map (·.1)).Nodup) (hm:gM (ks.map (·.1))=t?) (hh:∀(i:Nat) x e,ks[i]?=s? x->es[i]?=s? e->e.hash=hT X.w x.1/\RT g n? x.1 e.key/\RT g n? x.2 e.val):
  EP X pins φ g w L2 (.ref s.heap.objs.size) {s with heap:=h',toks:=tk}:=by
 have big:(s.heap.objs.size==sysModules)=f?:=by
  have h1:sysModules<s.heap.objs.size:=YE ∅ (I.mod.glob.keeps I.bk).lt;simpa using WR h1
 have rt:∀(g1:G)(q:Option (Wr × Wr)),Le g g1->uK q s.heap.objs.size s.heap.objs.size->g1.kn q.isNone s.heap.objs.size o->RT g1 q (.ay ks) (.ref s.heap.objs.size):=λg1 q l ht hk=>
  .ay ht hk hx hd hz hl ⟨hn,hm⟩ big (λi x e e1 e2=>by rw[l.w,I.gw];exact(hh i x e e1 e2).1) (λi x e e1 e2=>(hh i x e e1 e2).2.1.le l) λi x e e1 e2=>(hh i x e e1 e2).2.2.le l
 unfold mk at h;split at h
 ·cases h
  exact⟨_,Le.lay I.fresh,I.laid k (V3 _) new,rt _ n? (Le.lay I.fresh) (.inl rfl) (.inl av)⟩
 ·cases h
  refine⟨_,Le.new I.fresh,I.new k (V3 _) new (rt _ _ (Le.new I.fresh) (.inr rfl) (.inl av)),?_⟩;have:=I.rel.len
  exact .ref (p:=(s.heap.objs.size,s.heap.objs.size)) (by show at_ ((_,_)::g.α) _=_;rw[<- this];exact cY)
def Du{fz:Bool}:PE X (.Dict [] [] pos) (ku fz):=λ{_ _ _ _ s _ _}I h=>
 wpAny_Dict_empty (HI (tk:=s.toks) I h (λb u e=>VJ _ e) (VO _ rfl) ⟨rfl,rfl,rfl⟩ rfl (Wg _) rfl Xz rfl λi x e e1 _=>by simp at e1)
end
theorem HJ{prog:WU}{w:XQ}{A:WY}{E:VT->VY->Prop}{s:VY}{a:Wr}{o:Obj}{xs:Array VT}{k:Nat}{Q:Option VT->VY->Prop}
  (hx:s.heap.get? a=s? o) (hc:o.cls=.type "list") (Ls:o.data=.seq xs k) (hd:o.dict=n?) (hA:A.handled=n?)
  (h:∀h' tk e,abm s.heap h' e "AttributeError"->Q n? {s with heap:=h',toks:=tk}):
  Wa (model prog w) A (getAttr? (.ref a) "keys") Q E s:=by
 obtain⟨c,ay,dat,sl⟩:=o;simp only at hc Ls hd;subst hc Ls hd;obtain⟨hp,g,d,tk,os⟩:=s;have hT:∀tk',(⟨hp,g,d,tk',os⟩:VY).TypeIs (.ref a) "list":=λ_=>⟨_,hx,rfl⟩
 have f1:=sub_AttributeError;have f3:=Yh.lookup
 have f4:=Yh.bind (.ref a);have f5:=am_list_getattr_none
 have hmiss:typeLookup (.type "list") "keys"=pure n?:=by rw[typeLookup_type,builtinLookup_eq_fast];kernel_rfl
 unfold getAttr? getAttrBy? getAttrBy
 repeat (any_goals (first|assumption|exact hT _|((with_reducible show Wa _ _ (call (Y5 "list.__getattribute__") _ _) _ _ _);refine call_meets Yh (hT _) am_entry_list_getattribute (PySem.F.args_list_getattribute_2 _ _) (meets_getattribute_miss_list a xs k sl "keys" _ hmiss ⇑2 ∅) ⟨hx,hA,λh' tk' e hx'=>?_⟩)|wp_step))
 obtain⟨t',u',he⟩:=hx'.there;show Wa _ _ (getattributeRaised _ _ _ _ _ _ _) _ _ _
 unfold getattributeRaised
 repeat (any_goals (first|assumption|wp_step))
 exact h _ _ _ hx'.of
theorem noKeysT{prog:WU}{w:XQ}{A:WY}{E:VT->VY->Prop}{s:VY}{a:Wr}{xs:Array VT}{k:Nat}{sl:Array (Option VT)}{Q:Option VT->VY->Prop}
  (hx:s.heap.get? a=s? ⟨.type "tuple",n?,.seq xs k,sl⟩) (hA:A.handled=n?)
  (h:∀h' tk e,abm s.heap h' e "AttributeError"->Q n? {s with heap:=h',toks:=tk}):
  Wa (model prog w) A (getAttr? (.ref a) "keys") Q E s:=by
 obtain⟨hp,g,d,tk,os⟩:=s;have hT:∀tk',(⟨hp,g,d,tk',os⟩:VY).TypeIs (.ref a) "tuple":=λ_=>⟨_,hx,rfl⟩
 have f1:=sub_AttributeError;have f3:=Yd.lookup
 have f4:=Yd.bind (.ref a);have f5:=am_tuple_getattr_none
 have hmiss:typeLookup (.type "tuple") "keys"=pure n?:=by rw[typeLookup_type,builtinLookup_eq_fast];kernel_rfl
 unfold getAttr? getAttrBy? getAttrBy
 repeat (any_goals (first|assumption|exact hT _|((with_reducible show Wa _ _ (call (Y5 "tuple.__getattribute__") _ _) _ _ _);refine call_meets Yd (hT _) am_entry_tuple_getattribute (PySem.F.args_tuple_getattribute_2 _ _) (meets_getattribute_miss_tuple a xs k sl "keys" _ hmiss ⇑2 ∅) ⟨hx,hA,λh' tk' e hx'=>?_⟩)|wp_step))
 obtain⟨t',u',he⟩:=hx'.there;show Wa _ _ (getattributeRaised _ _ _ _ _ _ _) _ _ _
 unfold getattributeRaised
 repeat (any_goals (first|assumption|wp_step))
 exact h _ _ _ hx'.of
def entry_dul:entryFor table "dict.update.loop"=s? Builtin.«dict.update.loop»:=entryFor_of_tree ⇑3
def plain_dul:plainId "dict.update.loop"=t?:=by decide +kernel
def prsOf_at:∀{ys:List T}{ps:List (T × T)},prsOf ys=s? ps->ys.length=ps.length/\∀(i:Nat) p,ps[i]?=s? p->ys[i]?=s? (.tup [p.1,p.2]):=by
 intro l9;induction l9 with
 |nil=>intro ps h;cases h;exact⟨rfl,λi p e=>by simp at e⟩
 |cons y ys ih=>
  intro ps h;unfold prsOf at h;split at h
  ·rename_i k x Vr h2
   cases h;obtain⟨h3,h4⟩:=ih h2;refine⟨by simp[h3],λi p e=>?_⟩;cases i with
   |zero=>cases e;rfl
   |succ i=>exact h4 i p ⇑e
  ·cases h
def zW(ks:List (T × T))(y t:T):(dput ks y t).length<=ks.length+1:=by
 unfold dput;split
 ·simp
 ·simp
def yc{ks:List (T × T)}{y t:T}{q:T->Prop}(h:∀p∈ks,q p.1)(hy:q y):∀p∈dput ks y t,q p.1:=by
 unfold dput;split
 ·intro p hp
  obtain⟨p',h1,rfl⟩:=VP.mp hp;split
  ·exact h p' h1
  ·exact h p' h1
 ·intro p hp
  rcases VR.mp hp with h1|h1
  ·exact h p h1
  ·have:p=(y,t):=by simpa using h1
   rw[this];exact hy
def Dv(ps:List (T × T)):(qw ps).length<=ps.length:=by
 have key:∀(ps acc:List (T × T)),(ps.foldl (λacc p=>dput acc p.1 p.2) acc).length<=acc.length+ps.length:=by
  intro ps;induction ps with
  |nil=>intro acc;simp
  |cons p r ih=>
   intro acc;have z:=ih (dput acc p.1 p.2)
   have z2:=zW acc p.1 p.2;rw[XR,VS];omega
 have:=key ps [];unfold qw;simpa using this
def zX{ps:List (T × T)}{q:T->Prop}(h:∀p∈ps,q p.1):∀p∈qw ps,q p.1:=by
 have key:∀(ps acc:List (T × T)),(∀p∈ps,q p.1)->(∀p∈acc,q p.1)->∀p∈ps.foldl (λacc p=>dput acc p.1 p.2) acc,q p.1:=by
  intro ps;induction ps with
  |nil=>intro acc _ h;exact h
  |cons p r ih=>
   intro acc h1 h2;exact ih _ (λp hp=>h1 p (VK _ hp)) (yc h2 (h1 p VL))
 exact key ps [] h λp hp=>by simp at hp
def zY{ps:List (T × T)}{i:Nat}{p:T × T}(h:ps[i]?=s? p):qw (ps.take (i+1))=dput (qw (ps.take i)) p.1 p.2:=by
 unfold qw;rw[List.take_succ,h,List.foldl_append];rfl
def zZ{ps:List (T × T)}{i:Nat}{p:T × T}(hm:gM (ps.map (·.1))=t?)(h:ps[i]?=s? p):eD (qw (ps.take i)) p.1:=by
 unfold eD;unfold gM at hm ⊢;rw[W6,W6]at hm ⊢;have part:∀(f:T->Bool),(ps.map (·.1)).all f=t?->(p.1::(qw (ps.take i)).map (·.1)).all f=t?:=λf hf=>by
  have hf:=VQ.mp hf;refine VQ.mpr λx hx=>?_
  rcases Wt.mp hx with rfl|hx
  ·exact hf _ (V4 (Wd h))
  ·obtain⟨q,hq,rfl⟩:=VP.mp hx
   exact zX (q:=λx=>f x=t?) (λq hq=>hf _ (V4 (WQ hq))) q hq
 rcases hm with(hm|hm)|hm
 ·exact .inl (.inl (part _ hm))
 ·exact .inl (.inr (part _ hm))
 ·rw[VW]at hm ⊢
  have h1:ps.length<=1:=by simpa using hm.1
  have h2:=(VZ.mp h).1;have h0:i=0:=by omega
  exact .inr ⟨by rw[h0];rfl,part _ hm.2⟩
section
variable{X:Cx}{pins:bf}{φ:Fr}{g g0:G}{L L':aa}{s:VY}{ys:List T}{us:List VT}{ps:List (T × T)}{a it l:Wr}{ol:Obj}{A:WY}{R:Result->VY->Prop}
def u3(hu:A.in1.units+8<cLine)(ch:List Wr)(W:Nat->Heap->Prop)(hm:gM (ps.map (·.1))=t?)(hlen:ps.length<=100000)(yZ:∀c∈ch,c≠a)
  (frame:∀i h h',W i h->(∀c,c≠a->h'.get? c=h.get? c)->W i h')
  (next:∀{E:VT->VY->Prop}(i:Nat)(s':VY)(g':G)(p:T × T)(Q:Option VT->VY->Prop),ps[i]?=s? p->Le g0 g'->a<s'.heap.objs.size->(∀h1,(∀b o,b∉ch->s'.heap.get? b=s? o->h1.get? b=s? o)->Inv X pins φ g' (.ay (qw (ps.take i))::L) {s' with heap:=h1})->W i s'.heap ->
   (∀h1 t o uk uv n,W (i+1) h1->(∀b o,b∉ch->s'.heap.get? b=s? o->h1.get? b=s? o)->h1.get? t=s? o->o.cls=.type "tuple"->o.data=.seq #[uk,uv] n->RT g' n? p.1 uk->RT g' n? p.2 uv->Q (s? (.ref t)) {s' with heap:=h1})->Wa (model X.prog X.w) A.in1 (pyNext (.ref it)) Q E s')
  (last:∀{E:VT->VY->Prop}(s':VY)(Q:Option VT->VY->Prop),W ps.length s'.heap->(∀h2,(∀b o,b∉ch->s'.heap.get? b=s? o->h2.get? b=s? o)->Q n? {s' with heap:=h2})->Wa (model X.prog X.w) A.in1 (pyNext (.ref it)) Q E s')
  (fin:∀s' g',Le g0 g'->Inv X pins φ g' (.ay (qw ps)::L) s'->RT g' n? (.ref L.length) (.ref a)->R (.ok (.ret .none)) s'):
  ∀(k i:Nat)(s':VY)(g':G),ps.length - i=k->i<=ps.length->Le g0 g'->Inv X pins φ g' (.ay (qw (ps.take i))::L) s'->RT g' n? (.ref L.length) (.ref a)->(∀c∈ch,gW X pins g'.H c)->W i s'.heap ->
   Wa (model X.prog X.w) A.in1 (Builtin.«dict.update.loop» ⟨[.ref a,.ref it,rawInt (i:Int),.none],[]⟩) (λfin s'=>match fin with|.done f=>R (.ok f) s'|.again c'=>c'.quiet=t?/\codeAny (model X.prog X.w) A c' R s') (λe s'=>R (.error e) s') s':=by
 intro k;induction k with
 |zero=>
  intro i s' g' hk hi l0 J rd hf hW;obtain rfl:i=ps.length:=by omega
  unfold Builtin.«dict.update.loop»;dsimp only[rawInt];refine VI (last s' _ hW λh2 hx=>?_);dsimp only;show Wa _ _ (Builtin.Dict.addKeywords a [] >>= _) _ _ _
  refine VI (VM (VM ?_));rw[WE (V3 _)]at J;exact fin _ g' l0 (J.turned (t':=s'.toks) (ch:=ch) hx hf) rd
 |succ k ih=>
  intro i s' g' hk hi l0 J rd hf hW;have S8:i<ps.length:=by omega
  have ep:=Ge9 S8;have Pe:a<s'.heap.objs.size:=by
   obtain⟨p,o,es,ep,ea,hp,wx,Dw,D2⟩:=J.wD rd (by unfold at_;rw[if_pos rfl]);cases ea;exact V5 D2.ho
  unfold Builtin.«dict.update.loop»;dsimp only[rawInt];refine VI (next i s' g' _ _ ep l0 Pe (λh1 k=>J.turned (t':=s'.toks) (ch:=ch) k hf) hW λh1 t ot uk uv n S9 lX Og Pg Ph rk rv=>?_);dsimp only;have J1:=J.turned (t':=s'.toks) (ch:=ch) lX hf
  have Ta:abn {s' with heap:=h1} (.ref t) "tuple":=⟨ot,Og,Pg⟩;refine VI (wpAny_holding (VI ?_));have Tb:∀{E':VT->VY->Prop}{Q':List VT->VY->Prop},Q' [uk,uv] {s' with heap:=h1}->Wa (model X.prog X.w) A.in1 (aaF (.ref t)) Q' E' {s' with heap:=h1}:=λ{E' Q'}hq'=>by
   unfold aaF;refine VI (wpAny_typeOf Ta ?_);rw[if_pos ∅];refine VI (wpAny_seqItems Og Ph (VM ?_));exact hq'
  refine wpAny_tryCatch (Tb ?_);dsimp only;have hz:(qw (ps.take i)).length<Wf:=by
   have z:=Dv (ps.take i);rw[W8]at z;rw[Zg];omega
  refine wpAny_holding (wpAny_mono (wF (n:=L.length) (E:=λe s'=>R (.error e) s') J1 hu (by unfold at_;rw[if_pos rfl]) rd rk rv hz (zZ hm ep)) (λ_ s2 h2=>?_) λ_ _ e=>e);obtain⟨⟨g2,l2,J2,hH⟩,Tc⟩:=h2;refine VM ?_;refine⟨plainId_quiet plain_dul _,codeAny_builtin entry_dul ?_⟩;rw[YN plain_dul _];have ei:((i:Int)+1)=((i+1:Nat):Int):=by push_cast;rfl
  rw[ei];have J3:Inv X pins φ g2 (.ay (qw (ps.take (i+1)))::L) s2:=by
   rw[zY ep];have z:put (.ay (qw (ps.take i))::L) L.length (.ay (dput (qw (ps.take i)) ps[i].1 ps[i].2))=.ay (dput (qw (ps.take i)) ps[i].1 ps[i].2)::L:=by unfold put;rw[if_pos rfl]
   rw[<- z];exact J2
  exact ih (i+1) s2 g2 ⇑0 ⇑0 (l0.trans l2) J3 (rd.le l2) (λc hc=>⟨by rw[hH c (yZ c hc)];exact(hf c hc).1,(hf c hc).2⟩) (frame _ _ _ S9 Tc)
def z6{u:VT}{x y:T}{g':G}{s':VY}(J:Inv X pins φ g' L s')(ru:RT g' n? (.tup [x,y]) u):∃t o uk uv n,u=.ref t/\s'.heap.get? t=s? o/\o.cls=.type "tuple"/\o.data=.seq #[uk,uv] n/\RT g' n? x uk/\RT g' n? y uv:=by
 obtain⟨t,Td,et,⟨ot,Og,Pg,n,Ph⟩,rt,_⟩:=J.tup ru;obtain⟨uk,uv,e2,rk,rv⟩:=gO rt;have e3:Td = #[uk,uv]:=by apply abr;simpa using e2
 subst e3;exact⟨t,ot,uk,uv,n,et,Og,Pg,Ph,rk,rv⟩
def z7{i:Nat}{p:T × T}(r0:cL g0 ys us)(hp:prsOf ys=s? ps)(ep:ps[i]?=s? p):∃u,us[i]?=s? u/\RT g0 n? (.tup [p.1,p.2]) u:=by
 have ey:=(prsOf_at hp).2 i p ep;have hl:=V9 r0
 have hi:=(VZ.mp ey).1;have eu:=Ge9 (l:=us) (i:=i) ⇑0
 exact⟨_,eu,xN r0 i _ _ ey eu⟩
def z8(r0:cL g0 ys us)(hp:prsOf ys=s? ps):us.length<=ps.length:=by
 have h1:=V9 r0;have h2:=(prsOf_at hp).1
 omega
def wG{t:T}{u:VT}{w:T}(hu:X.A.units+20<cLine)(I:Inv X pins φ g L s)(ru:RT g n? t u)(ht:vw L t=.lst ys\/vw L t=.tup ys)(h:uJ ys L=.ok w L'):Wa (model X.prog X.w) X.A (call (.type "dict") [u]) (EP X pins φ g w L') F0 s:=by
 have jN:X.A.in1.in1.units+8<cLine:=by show X.A.units+1+1+8<cLine;omega
 unfold uJ at h;split at h
 ·rename_i ps HK
  obtain⟨⟨hm,hlen⟩,h⟩:=aE h;cases h;have CU:g.H s.heap.objs.size=n?:=I.fresh
  have big:(s.heap.objs.size==sysModules)=f?:=by
   have h1:sysModules<s.heap.objs.size:=YE ∅ (I.mod.glob.keeps I.bk).lt;simpa using WR h1
  have J0:=I.new (c:=.ay []) (o:={cls:=.type "dict",data:=.dict #[]}) (h':=s.heap.push {cls:=.type "dict",data:=.dict #[]}) (t':=s.toks) (λb u e=>VJ _ e) (V3 _) (VO _ rfl)
   (.ay (.inr rfl) (.inl av) ⟨rfl,rfl,rfl⟩ rfl (Wg _) rfl ⟨Xz,rfl⟩ big (λi x e e1 _=>by simp at e1) (λi x e e1 _=>by simp at e1) λi x e e1 _=>by simp at e1)
  have l0:=Le.new (o:={cls:=.type "dict",data:=.dict #[]}) CU;have rd:RT (g.new s.heap.objs.size {cls:=.type "dict",data:=.dict #[]}) n? (.ref L.length) (.ref s.heap.objs.size):=by
   have:=I.rel.len;exact .ref (p:=(s.heap.objs.size,s.heap.objs.size)) (by show at_ ((_,_)::g.α) _=_;rw[<- this];exact cY)
  refine callType_codes (Q₁:=λobj s₁=>obj=.ref s.heap.objs.size/\s₁={s with heap:=s.heap.push {cls:=.type "dict",data:=.dict #[]}}) aaG (ZS _) aas (kt_code_dict_new _ ⟨rfl,rfl⟩) ?_;rintro obj s₁ ⟨rfl,rfl⟩;have u4:abn {s with heap:=s.heap.push {cls:=.type "dict",data:=.dict #[]}} (.ref s.heap.objs.size) "dict":=⟨_,VO _ rfl,rfl⟩
  refine⟨u4,aak _ _,?_⟩;unfold Builtin.«dict.__init__»;refine VI ?_;unfold aal;refine VI (wpAny_notOrdered_dict u4 ?_);show Wa _ _ (pure (s.heap.objs.size,[u])) _ _ _
  refine VM ?_;show Wa _ _ (Yl "dict.__init__" s.heap.objs.size u [] .none) _ _ _
  unfold Yl;obtain⟨q,v⟩:=I.view ru;rcases ht with ht|ht
  ·rw[ht]at v
   obtain⟨l,its,n,rfl,hg,rr,hz⟩:=I.lst v;have z9:(s.heap.push {cls:=.type "dict",data:=.dict #[]}).get? l=s? {cls:=.type "list",data:=.seq its n}:=VJ _ hg
   refine VI (wpAny_typeOf (T:="list") ⟨_,z9,rfl⟩ ?_);rw[if_pos ∅];refine VI (HJ z9 rfl rfl rfl I.ok.hd λh1 Dx e hx=>?_);rw[if_pos (show(n?:Option VT).isNone=t? from rfl)];refine VI (wpAny_rule ?_);have HL:=hx.keeps _ _ z9
   have J1:=J0.kept (t':=Dx) (h':=h1) λb o e=>hx.keeps b o e
   refine VI (wpAny_pyIter_list (s:={s with heap:=h1,toks:=Dx}) (aj HL) ?_);refine VM ⟨plainId_quiet plain_dul _,codeAny_builtin entry_dul ?_⟩;rw[YN plain_dul _];have J2:=J1.kept (t':=Dx) (h':=h1.push {cls:=.type "list_iterator",data:=.fields #[.ref l,.int 0 0]}) λb o e=>VJ _ e
   have hsz:s.heap.objs.size<h1.objs.size:=V5 (hx.keeps _ _ (VO s.heap (o:={cls:=.type "dict",data:=.dict #[]}) rfl));refine u3 (A:=X.A.in1) (a:=s.heap.objs.size) (it:=h1.objs.size) (L:=L) jN [h1.objs.size] (λi h=>h.get? l=s? {cls:=.type "list",data:=.seq its n}/\h.IsListIter h1.objs.size l i) hm hlen (λc hc=>by rw[Wb.mp hc];exact WR hsz)
    (λi h h'⟨q0,o,q1,q2⟩e=>⟨(e l (Wm (V5 hg))).trans q0,o,(e _ (WR hsz)).trans q1,q2⟩) (λi s' g' p Q ep lg _ J⟨yd,ht⟩hQ=>?_) (λs' Q⟨yd,ht⟩hQ=>?_) (λs' g' lg J Lu=>?_)
    ps.length 0 _ _ rfl (Wg _) (Le.refl _) J2 rd (λc hc=>by rw[Wb.mp hc];exact J1.qx (V3 _) (J1.hok.fresh (V3 _))) ⟨VJ _ HL,_,VO _ rfl,rfl,rfl⟩
   ·obtain⟨u,eu,ru⟩:=z7 (rr.le l0) HK ep
    refine wpAny_pyNext_list_item (x:=u) ht (aj yd) ⇑eu λh2 a b=>?_
    have kp:∀c o,c∉[h1.objs.size]->s'.heap.get? c=s? o->h2.get? c=s? o:=λc o hc e=>(b.2 c λz=>hc (by simp[z])).trans e
    obtain⟨t,o,uk,uv,n,rfl,e1,e2,e3,rk,rv⟩:=z6 (J h2 kp) (ru.le lg);exact hQ h2 t o uk uv n ⟨kp l _ ⇑(Wm (YE (V5 hg) hsz)) yd,a⟩ kp e1 e2 e3 rk rv
   ·exact wpAny_pyNext_list_end I.ok.hd ht (aj yd) ⇑(z8 (rr.le l0) HK) λh2 hx=>hQ h2 λc o hc e=>hx c o (λz=>hc (by simp[z])) e
   ·exact⟨rfl,g',l0.trans lg,J,Lu⟩
  ·rw[ht]at v
   obtain⟨l,its,n,sl,rfl,hg,rr,hz⟩:∃l its n sl,u=.ref l/\s.heap.get? l=s? ⟨.type "tuple",n?,.seq its n,sl⟩/\cL g ys its.toList/\ys.length<=Wf:=by
    have v':=v;cases v with
    |tup hk hc hd hz hl hi=>
     rename_i a o its n;obtain⟨oc,od,dt,sl⟩:=o;obtain⟨h1,h2⟩:=hc;simp only at h1 h2 hd;subst h1 h2 hd;exact⟨_,_,_,_,rfl,I.kn hk,fH ⇑hl λi x v e1 e2=>hi i x v e1 ⇑e2,hz⟩
   have u5:∀{h:Heap},h.get? l=s? ⟨.type "tuple",n?,.seq its n,sl⟩->h.IsTuple l its:=λe=>⟨_,e,rfl,n,rfl⟩
   have z9:(s.heap.push {cls:=.type "dict",data:=.dict #[]}).get? l=s? ⟨.type "tuple",n?,.seq its n,sl⟩:=VJ _ hg;refine VI (wpAny_typeOf (T:="tuple") ⟨_,z9,rfl⟩ ?_);rw[if_pos ∅];refine VI (noKeysT z9 I.ok.hd λh1 Dx e hx=>?_);rw[if_pos (show(n?:Option VT).isNone=t? from rfl)];refine VI (wpAny_rule ?_);have HL:=hx.keeps _ _ z9
   have J1:=J0.kept (t':=Dx) (h':=h1) λb o e=>hx.keeps b o e
   refine VI (wpAny_pyIter_tuple (s:={s with heap:=h1,toks:=Dx}) (u5 HL) ?_);refine VM ⟨plainId_quiet plain_dul _,codeAny_builtin entry_dul ?_⟩;rw[YN plain_dul _];have J2:=J1.kept (t':=Dx) (h':=h1.push {cls:=.type "tuple_iterator",data:=.fields #[.ref l,.int 0 0]}) λb o e=>VJ _ e
   have hsz:s.heap.objs.size<h1.objs.size:=V5 (hx.keeps _ _ (VO s.heap (o:={cls:=.type "dict",data:=.dict #[]}) rfl));refine u3 (A:=X.A.in1) (a:=s.heap.objs.size) (it:=h1.objs.size) (L:=L) jN [h1.objs.size] (λi h=>h.get? l=s? ⟨.type "tuple",n?,.seq its n,sl⟩/\h.IsTupleIter h1.objs.size l i) hm hlen (λc hc=>by rw[Wb.mp hc];exact WR hsz)
    (λi h h'⟨q0,o,q1,q2⟩e=>⟨(e l (Wm (V5 hg))).trans q0,o,(e _ (WR hsz)).trans q1,q2⟩) (λi s' g' p Q ep lg _ J⟨yd,ht⟩hQ=>?_) (λs' Q⟨yd,ht⟩hQ=>?_) (λs' g' lg J Lu=>?_)
    ps.length 0 _ _ rfl (Wg _) (Le.refl _) J2 rd (λc hc=>by rw[Wb.mp hc];exact J1.qx (V3 _) (J1.hok.fresh (V3 _))) ⟨VJ _ HL,_,VO _ rfl,rfl,rfl⟩
   ·obtain⟨u,eu,ru⟩:=z7 (rr.le l0) HK ep
    refine wpAny_pyNext_tuple_item (x:=u) ht (u5 yd) ⇑eu λh2 a b=>?_
    have kp:∀c o,c∉[h1.objs.size]->s'.heap.get? c=s? o->h2.get? c=s? o:=λc o hc e=>(b.2 c λz=>hc (by simp[z])).trans e
    obtain⟨t,o,uk,uv,n,rfl,e1,e2,e3,rk,rv⟩:=z6 (J h2 kp) (ru.le lg);exact hQ h2 t o uk uv n ⟨kp l _ ⇑(Wm (YE (V5 hg) hsz)) yd,a⟩ kp e1 e2 e3 rk rv
   ·exact wpAny_pyNext_tuple_end I.ok.hd ht (u5 yd) ⇑(z8 (rr.le l0) HK) λh2 hx=>hQ h2 λc o hc e=>hx c o (λz=>hc (by simp[z])) e
   ·exact⟨rfl,g',l0.trans lg,J,Lu⟩
 ·cases h
def RC:T->Str
 | .str z=>⟨z.toArray⟩
 |_=>⟨#[]⟩
theorem Aa(P:WU)(w:XQ):∀(ks:List (T × T))(es:List DictEntry),ks.length=es.length->(∀p∈ks,∃z,p.1=.str z)->(∀(i:Nat) x e,ks[i]?=s? x->es[i]?=s? e->RT g n? x.1 e.key) ->
  ∃Ff:List (Str × VT),Pairs (Yj P w) es Ff/\Ff.map (·.1)=ks.map λp=>RC p.1
 | [],[],_,_,_=>⟨[],.nil,rfl⟩
 | [],_::_,h,_,_=>by cases h
 |_::_,[],h,_,_=>by cases h
 |p::ks,e::es,h,hk,h1=>by
  obtain⟨Ff,a,b⟩:=Aa P w ks es (abx h) (λq hq=>hk q (.tail _ hq)) λi x e=>h1 (i+1) x e
  obtain⟨z,hz⟩:=hk p (.head _);have r:=h1 0 p e rfl rfl
  rw[hz]at r;obtain⟨t,e1⟩:=r.sI;refine⟨(⟨z.toArray⟩,e.val)::Ff,.cons (by rw[e1];simp[Yj,abo]) rfl a,?_⟩;rw[VU,VU,b,hz];rfl
def HM:∀(ks:List (T × T)),(∀p∈ks,∃z,p.1=.str z)->(ks.map (·.1)).Nodup->(ks.map λp=>RC p.1).Nodup:=by
 intro l9;induction l9 with
 |nil=>intro _ _;exact .nil
 |cons p ks ih=>
  intro hk hn;rw[VU,WZ]at hn ⊢;refine⟨λhm=>hn.1 ?_,ih (λq hq=>hk q (.tail _ hq)) hn.2⟩;obtain⟨q,hq,e⟩:=VP.mp hm;obtain⟨z,hz⟩:=hk p (.head _);obtain⟨y,hy⟩:=hk q (.tail _ hq);rw[hz,hy]at e;have e2:y.toArray=z.toArray:=congrArg Str.cps e
  rw[hz,<- show y=z by simpa using e2,<- hy];exact V4 hq
def ye{q:Option (Wr × Wr)}{ks:List (T × T)}{u:VT}(I:Inv X pins φ g L s)(ru:RT g q (.ay ks) u)(hk:∀p∈ks,∃z,p.1=.str z):Wa (model X.prog X.w) X.A (call (.type "dict") [u]) (EP X pins φ g (.ref L.length) (.ay ks::L)) F0 s:=by
 obtain⟨a,o,es,ep,rfl,_,_,D⟩:=I.ay ru;obtain⟨Ff,pr,km⟩:=Aa (g:=g) X.prog X.w ks es.toList ⇑D.hl hk λi x e e1 e2=>D.h1 i x e e1 ⇑e2
 have kl:Ff.length=ks.length:=by simpa using congrArg Xg km
 have hkey:∀(i:Nat) x e,ks[i]?=s? x->es[i]?=s? e->∃z t,x.1=.str z/\e.key=.str ⟨z.toArray⟩ t/\z.length<=Wf:=λi x e e1 e2=>by
  obtain⟨z,hz⟩:=hk x (Wd e1);have r:=D.h1 i x e e1 e2
  rw[hz]at r;obtain⟨t,h1,h2⟩:=r.jM;exact⟨z,t,hz,h1,h2⟩
 have Te:s.heap.DictOf (Yj X.prog X.w) a Ff:=by
  refine⟨o,es,ep,D.ho,D.hx,D.hd,λe he=>?_,pr,by rw[km];exact HM ks hk D.hn⟩;obtain⟨i,hi,rfl⟩:=Zz he;have e2:es[i]?=s? es[i]:=VX hi
  obtain⟨x,e1⟩:∃x,ks[i]?=s? x:=⟨_,Ge9 (by rw[D.hl];exact hi)⟩;obtain⟨z,t,hz,hy,_⟩:=hkey i x _ e1 e2;refine⟨⟨z.toArray⟩,by rw[hy];simp[Yj,abo],?_⟩;rw[D.hh i x _ e1 e2,hz];rfl
 refine PySem.kt_call_dict D.hs Te (by rw[kl];exact D.hz) λh' hm sb=>?_
 obtain⟨od,sA,en,e1,e2,e3,e4,e5,_⟩:=hm;have kp:∀b u,s.heap.get? b=s? u->h'.get? b=s? u:=λb u e=>(sb.2 b (Wm (V5 e))).trans (VJ _ e)
 have big:(s.heap.objs.size==sysModules)=f?:=by
  have h1:sysModules<s.heap.objs.size:=YE ∅ (I.mod.glob.keeps I.bk).lt;simpa using WR h1
 have sz:sA.size=es.size:=by
  have h1:=Pairs.length e5;have h2:=Pairs.length pr
  simp only[Yk]at h1 h2;omega
 have l0:Le g (g.new s.heap.objs.size od):=Le.new I.fresh;have row:∀(i:Nat) x e,ks[i]?=s? x->sA[i]?=s? e->e.hash=hT X.w x.1/\RT g n? x.1 e.key/\RT g n? x.2 e.val:=λi x e h1 h2=>by
  have hi:i<es.size:=by
   have:=(XU.mp h2).1;omega
  have h3:es[i]?=s? es[i]:=VX hi;obtain⟨z,t,hz,hy,hl⟩:=hkey i x _ h1 h3;obtain⟨kv,h4⟩:∃kv,Ff[i]?=s? kv:=⟨_,Ge9 (by rw[kl,D.hl];exact hi)⟩;obtain⟨k,v⟩:=kv;obtain⟨a1,a2⟩:=Pairs.get? e5 (i:=i) (e:=e) ⇑h2 h4;obtain⟨b1,b2⟩:=Pairs.get? pr (i:=i) (e:=es[i]) ⇑h3 h4;have Tf:k=⟨z.toArray⟩:=by
   rw[hy]at b1;exact((Yj X.prog X.w).inj _ _ _ b1 (by simp[Yj,abo]))
  subst Tf;obtain⟨t',ht'⟩:=Value.isStrOf_shape a1;refine⟨?_,?_,?_⟩
  ·obtain⟨k',c1,c2⟩:=e4 e (Array.mem_of_getElem? h2)
   rw[c2,hz,(Yj X.prog X.w).inj _ _ _ c1 a1];rfl
  ·rw[hz,ht']
   exact .str _ _ hl
  ·rw[a2,<- b2]
   exact D.h2 i x _ h1 h3
 refine⟨_,l0,I.new (t':=s.toks) kp (V3 _) e1 (.ay (.inr rfl) (.inl av) e2 e3 D.hz (by rw[sz];exact D.hl) ⟨D.hn,D.hm⟩ big (λi x e h1 h2=>?_) (λi x e h1 h2=>((row i x e h1 h2).2.1).le l0) λi x e h1 h2=>((row i x e h1 h2).2.2).le l0),?_⟩
 ·rw[(row i x e h1 h2).1,l0.w,I.gw]
 ·have:=I.rel.len
  exact .ref (p:=(s.heap.objs.size,s.heap.objs.size)) (by show at_ ((_,_)::g.α) _=_;rw[<- this];exact cY)
def yf(hu:X.A.units+20<cLine):eE X (.type "dict") iK:=λ{_ _ g L s _ _ _ _}I r h=>by
 unfold iK at h;split at h
 ·obtain⟨u,rfl,ru⟩:=cb r
  split at h
  ·exact wG hu I ru (.inl ‹_›) h
  ·exact wG hu I ru (.inr ‹_›) h
  ·rename_i ks ev
   obtain⟨hc,h⟩:=aE h;cases h;obtain⟨q,v⟩:=I.view ru;rw[ev]at v;refine ye I v λp hp=>?_
   have:=VQ.mp hc p hp;obtain⟨a,b⟩:=p;cases a with
   |str z=>exact⟨z,rfl⟩
   |_=>cases this
  ·cases h
 ·cases h
end
end M
namespace Ts
open PySem PySem.W PySem.Calls PyProof.Rows
structure WO(lt:Nat->Nat->Bool):Prop where
 kY:∀a b,lt a b=t?->lt b a=f?
 tr:∀a b c,lt b a=f?->lt c b=f?->lt c a=f?
abbrev bq(p:Array Nat)(lo k:Nat):Nat:=p.getD (lo+k) 0
def dK(lt:Nat->Nat->Bool)(p:Array Nat)(lo m:Nat):Prop:=∀i j,i<j->j<m->lt (bq p lo j) (bq p lo i)=f?
def yg(prog:WU)(w:XQ)(A:WY)(s:VY)(κ:SortKind)(f:Nat->Keyed)(lt:Nat->Nat->Bool)(N:Nat):Prop :=
 ∀i j,i<N->j<N->Wa (model prog w) A (keyLt' κ (f i).1 (f j).1) (λb s'=>s'=s/\b=lt i j) (λ_ _=>False) s
abbrev St(κ:SortKind)(f:Nat->Keyed)(p:Array Nat)(pd:Array (Nat × Nat × Nat))(g:Nat):SortSt:=aaZ κ (p.map f) pd g n?
def Al(N:Nat)(p:Array Nat):Prop:=∀k,k<p.size->p.getD k 0<N
abbrev Sp:=WU × XQ × WY × (VT->VY->Prop) × VY × SortKind × (Nat->Keyed) × (Nat->Nat->Bool) × Nat
def Go:Sp->Prop:=λ(prog,w,A,E,s,κ,f,lt,N)=>∀(p:Array Nat)(Q:Unit->SortSt->Prop),WO lt->yg prog w A s κ f lt N->Al N p->(∀p' st,arrOf st=p'.map f->failedOf st=n?->p'.toList.Perm p.toList->dK lt p' 0 p.size->Q () st)->wpS (model prog w) A E s sortRuns' Q (St κ f p #[] 7)
def Sp.ne:Nonempty Sp:=⟨by repeat' first|exact default|constructor⟩
def cc:Sp:=M.uA Sp.ne Go
def prog:=cc.1
def w:=cc.2.1
def A:=cc.2.2.1
def E:=cc.2.2.2.1
def s:=cc.2.2.2.2.1
def κ:=cc.2.2.2.2.2.1
def f:=cc.2.2.2.2.2.2.1
def lt:=cc.2.2.2.2.2.2.2.1
def N:=cc.2.2.2.2.2.2.2.2
def WO.Cu  (W:WO lt) (a:Nat):lt a a=f?:=by
 cases h:lt a a with
 |false=>rfl
 |true=>have:=W.kY a a h;rw[h]at this;exact this
def WO.up  (W:WO lt) {a b c:Nat} (h1:lt a b=t?) (h2:lt c b=f?):lt a c=t?:=by
 cases h:lt a c with
 |true=>rfl
 |false=>have:=W.tr b c a h2 h;rw[h1]at this;exact this.symm
def WO.dn  (W:WO lt) {a b c:Nat} (h1:lt a b=t?) (h2:lt a c=f?):lt c b=t?:=by
 cases h:lt c b with
 |true=>rfl
 |false=>have:=W.tr b c a h h2;rw[h1]at this;exact this.symm
def yh(lt:Nat->Nat->Bool)(p:Array Nat)(lo m:Nat):Prop:=∀i j,i<j->j<m->lt (bq p lo i) (bq p lo j)=f?
def wH(lt:Nat->Nat->Bool)(p:Array Nat)(lo a b:Nat):Prop:=∀i j,a<=i->i<b->a<=j->j<b->lt (bq p lo i) (bq p lo j)=f?
structure Sm(lo hi:Nat)(p q:Array Nat):Prop where
 sz:q.size=p.size
 pm:q.toList.Perm p.toList
 out:∀k,k<lo\/hi<=k->q.getD k 0=p.getD k 0
theorem Sm.refl{lo hi:Nat}(p:Array Nat):Sm lo hi p p:=⟨rfl,.refl _,λ_ _=>rfl⟩
theorem Sm.trans{lo hi:Nat}{p q r:Array Nat}(a:Sm lo hi p q)(b:Sm lo hi q r):Sm lo hi p r:=⟨b.sz.trans a.sz,b.pm.trans a.pm,λk h=>(b.out k h).trans (a.out k h)⟩
def Sm.mono{lo hi lo' hi':Nat}{p q:Array Nat}(a:Sm lo hi p q)(h1:lo'<=lo)(h2:hi<=hi'):Sm lo' hi' p q:=⟨a.sz,a.pm,λk h=>a.out k ⇑0⟩
def sS{p:Array Nat}{i j:Nat}(hj:j<=p.size)(k:Nat):(kas_rev p i j).getD k 0=if i<=k/\k<j then p.getD (i+j - 1 - k) 0 else p.getD k 0:=by
 rw[WB,WB,WB];unfold kas_rev;rw[getElem?_mirror_all hj k];split<;>rfl
def Ab{p:Array Nat}{src d:Nat}(hs:src<p.size)(hd:d<=src)(k:Nat):(bubble p src d).getD k 0=if k=src - d then p.getD src 0 else if src - d<k/\k<=src then p.getD (k - 1) 0 else p.getD k 0:=by
 rw[WB,WB,WB,WB];rw[getElem?_bubble hs d hd k];split
 ·rfl
 ·split<;>rfl
def mc{p:Array Nat}{lo i j:Nat}(hj:lo+j<=p.size)(k:Nat):bq (kas_rev p (lo+i) (lo+j)) lo k=if i<=k/\k<j then bq p lo (i+j - 1 - k) else bq p lo k:=by
 unfold bq;rw[sS hj];by_cases h:i<=k/\k<j
 ·rw[if_pos h,if_pos ⇑0]
  congr 1;omega
 ·rw[if_neg h,if_neg ⇑0]
def qM{p:Array Nat}{lo i j hi:Nat}(hj:j<=p.size)(h1:lo<=i)(h2:j<=hi):Sm lo hi p (kas_rev p i j):=⟨mirror_size _ _ _ _,ZT.mp (mirror_perm _ _ _ _),λk h=>by rw[sS hj,if_neg ⇑0]⟩
section
variable  {p:Array Nat} {lo m a:Nat}
def dK.more(W:WO lt)(h:dK lt p lo m)(h1:1<=m)(hl:lt (bq p lo m) (bq p lo (m - 1))=f?):dK lt p lo (m+1):=λi j kW hj=>by
 by_cases e:j=m
 ·subst e
  by_cases e2:i=j - 1
  ·subst e2;exact hl
  ·exact W.tr _ _ _ (h i (j - 1) ⇑0 ⇑0) hl
 ·exact h i j kW ⇑0
def yh.more(W:WO lt)(h:yh lt p lo m)(h1:1<=m)(hl:lt (bq p lo (m - 1)) (bq p lo m)=f?):yh lt p lo (m+1):=λi j kW hj=>by
 by_cases e:j=m
 ·subst e
  by_cases e2:i=j - 1
  ·subst e2;exact hl
  ·exact W.tr _ _ _ hl (h i (j - 1) ⇑0 ⇑0)
 ·exact h i j kW ⇑0
def yh.rev(hm:lo+m<=p.size)(h:yh lt p lo m)(he:wH lt p lo a m):yh lt (kas_rev p (lo+a) (lo+m)) lo m:=λi j kW hj=>by
 rw[mc hm,mc hm];by_cases h1:a<=i
 ·rw[if_pos ⟨h1,⇑0⟩,if_pos ⟨⇑0,hj⟩]
  exact he _ _ ⇑0 ⇑0 ⇑0 ⇑0
 ·rw[if_neg ⇑0]
  by_cases h2:a<=j
  ·rw[if_pos ⟨h2,hj⟩]
   exact h _ _ ⇑0 ⇑0
  ·rw[if_neg ⇑0]
   exact h i j kW hj
def wH.one(W:WO lt):wH lt p lo (m+1 - (0+1)) (m+1):=λi j a1 a2 a3 a4=>by
 obtain rfl:i=j:=by omega
 exact W.Cu _
def dK.one(h:m<=1):dK lt p lo m:=λi j a b=>absurd a ⇑0
def wH.more(W:WO lt){q:Nat}(he:wH lt p lo (m - (q+1)) m)(hq:q+1<=m)(e:lt (bq p lo m) (bq p lo (m - 1))=f?)(e2:lt (bq p lo (m - 1)) (bq p lo m)=f?):wH lt p lo (m+1 - (q+1+1)) (m+1):=λi j a1 a2 a3 a4=>by
 by_cases c1:i=m
 ·by_cases c2:j=m
  ·rw[c1,c2];exact W.Cu _
  ·rw[c1];exact W.tr _ _ _ (he (m - 1) j ⇑0 ⇑0 ⇑0 ⇑0) e
 ·by_cases c2:j=m
  ·rw[c2];exact W.tr _ _ _ e2 (he i (m - 1) ⇑0 ⇑0 ⇑0 ⇑0)
  ·exact he i j ⇑0 ⇑0 ⇑0 ⇑0
def wH.all(W:WO lt)(h:dK lt p lo m)(h1:1<=m)(e:lt (bq p lo 0) (bq p lo (m - 1))=f?):wH lt p lo 0 m:=λi j _ hi _ hj=>by
 have z1:lt (bq p lo (m - 1)) (bq p lo j)=f?:=by
  by_cases cj:j=m - 1
  ·subst cj;exact W.Cu _
  ·exact h j (m - 1) ⇑0 ⇑0
 have z2:lt (bq p lo i) (bq p lo 0)=f?:=by
  by_cases ci:i=0
  ·subst ci;exact W.Cu _
  ·exact h 0 i ⇑0 hi
 exact W.tr _ _ _ (W.tr _ _ _ z1 e) z2
def yh.up(hm:lo+m<=p.size)(h:yh lt p lo m):dK lt (kas_rev p lo (lo+m)) lo m:=λi j kW hj=>by
 have:=mc (lo:=lo) (i:=0) hm;rw[ZY]at this;rw[this,this,if_pos ⟨⇑0,hj⟩,if_pos ⟨⇑0,⇑0⟩];exact h _ _ ⇑0 ⇑0
end
section
variable          {p:Array Nat} {pd:Array (Nat × Nat × Nat)} {g lo:Nat}
def Ac{st:SortSt}{i j:Nat}{Q:Option Bool->SortSt->Prop}(hc:yg prog w A s κ f lt N)(hk:kindOf st=κ)(hi:i<N)(hj:j<N)(h:Q (s? (lt i j)) st):wpS (model prog w) A E s (lt' (f i) (f j)) Q st:=by
 rw[lt'_eq];refine wpS_bind (wpS_get ?_);rw[hk];refine wpS_bind (wpS_lift (wpAny_attempt (wpAny_mono (hc i j hi hj) (λb s' hb=>?_) λ_ _ hF=>hF.elim)));obtain⟨rfl,rfl⟩:=hb;exact⟨rfl,wpS_pure h⟩
def yi{st:SortSt}{i:Nat}{Q:Keyed->SortSt->Prop}(hi:i<p.size)(h:Q (f (p.getD i 0)) st):wpS (model prog w) A E s (elem' (p.map f) i) Q st:=by
 have e:p.getD i 0=p[i]:=by simp[XZ,hi]
 rw[e]at h;rw[elem'_eq];have e2:(p.map f)[i]?=s? (f p[i]):=by simp[hi]
 rw[e2];exact wpS_pure h
def mj{i j:Nat}{Q:Option Bool->SortSt->Prop}(hc:yg prog w A s κ f lt N)(ha:Al N p)(hi:i<p.size)(hj:j<p.size)(h:Q (s? (lt (p.getD i 0) (p.getD j 0))) (St κ f p pd g)):wpS (model prog w) A E s (ltAt' i j) Q (St κ f p pd g):=by
 rw[ltAt'_eq];exact wpS_bind (wpS_get (wpS_bind (yi hi (wpS_bind (yi hj (Ac hc rfl (ha i hi) (ha j hj) h))))))
def wI{i j:Nat}{Q:Unit->SortSt->Prop}(h:Q () (St κ f (kas_rev p i j) pd g)):wpS (model prog w) A E s (reverseSlice' i j) Q (St κ f p pd g):=by
 rw[reverseSlice'_eq];refine wpS_modify ?_;have e:mirror (p.map f) i j ((j - i) / 2)=(mirror p i j ((j - i) / 2)).map f:=kas_swaps_map f (λk=>i+k) (λk=>j - 1 - k) _ p
 show Q () (aaZ κ (mirror (p.map f) i j ((j - i) / 2)) pd g n?);rw[e];exact h
def Lw{k l:Nat}{Q:Unit->SortSt->Prop}(h:Q () (St κ f (bubble p k (k - l)) pd g)):wpS (model prog w) A E s (moveDown' k l) Q (St κ f p pd g):=by
 rw[moveDown'_eq];refine wpS_modify ?_;have e:bubble (p.map f) k (k - l)=(bubble p k (k - l)).map f:=kas_swaps_map f (λi=>k - i) (λi=>k - i - 1) _ p
 show Q () (aaZ κ (bubble (p.map f) k (k - l)) pd g n?);rw[e];exact h
def Al.of{q:Array Nat}(ha:Al N p)(h:q.toList.Perm p.toList):Al N q:=λk hk=>by
 have e:q.getD k 0=q[k]:=by simp[XZ,hk]
 rw[e];have m:q[k]∈p.toList:=h.mem_iff.mp ⋯
 obtain⟨i,hi,e⟩:=ZA.mp m;have hi':i<p.size:=by simpa using hi
 have:=ha i hi';rw[show p.getD i 0=p[i] by simp[XZ,hi']]at this;rw[<- e];exact this
def Sm.al{q:Array Nat}{lo hi:Nat}(h:Sm lo hi p q)(ha:Al N p):Al N q:=ha.of h.pm
def share{M:Model}{σ α ι:Type}{G:Prop}{C:ι->Prop}{m:StateT σ Sem α}{Q:α->σ->Prop}{g:ι->σ}(h:(∀i,C i->wpS M A E s m Q (g i))->G)(k:∀i,C i->wpS M A E s m Q (g i)):G:=h k
def Mc(p:Array Nat)(lo g6:Nat):Prop:=∀(pd:Array (Nat × Nat × Nat))(g:Nat)(Q:Option Nat->SortSt->Prop)(W:WO lt)(hc:yg prog w A s κ f lt N)(ha:Al N p)(h1:1<=g6)(hz:lo+g6<=p.size)
  (fin:∀n p',1<=n->n<=g6->Sm lo (lo+g6) p p'->dK lt p' lo n->Q (s? n) (St κ f p' pd g)),wpS (model prog w) A E s (countRun' lo g6) Q (St κ f p pd g)
end
namespace ct
def c:=M.uA ⟨(#[],0,0)⟩ λx:Array Nat × Nat × Nat=>Mc x.1 x.2.1 x.2.2
def p:=c.1
def lo:=c.2.1
def g6:=c.2.2
def t:Mc p lo g6:=by
 intro pd g Q W hc ha h1 hz fin;rw[countRun'_eq];dsimp only;refine wpS_bind (wpS_mono (wpS_forRange (I:=λi c st=>c=(n?,i)/\st=St κ f p pd g/\dK lt p lo i) (Q:=λc st=>∃n,c=(n?,n)/\st=St κ f p pd g/\1<=n/\n<=g6/\dK lt p lo n/\(n<g6->lt (bq p lo n) (bq p lo (n - 1))=t?)) ?_ ?_ ⟨rfl,rfl,dK.one (V3 _)⟩) ?_)
 ·rintro i c st hi Dp ⟨rfl,rfl,hr⟩
  refine wpS_bind (mj hc ha ⇑0 ⇑0 ?_);dsimp only;rw[show lo+i - 1=lo+(i - 1) by omega];cases e:lt (p.getD (lo+i) 0) (p.getD (lo+(i - 1)) 0) with
  |true=>exact wpS_pure ⟨_,rfl,rfl,hi,⇑0,hr,λ_=>e⟩
  |false=>exact wpS_pure ⟨rfl,rfl,hr.more W hi e⟩
 ·rintro c st ⟨rfl,rfl,hr⟩
  exact⟨_,rfl,rfl,⇑0,⇑0,hr,λz=>⇑0⟩
 ·intro c st br
  refine M.gK λ_ n9=>?_
  obtain⟨n,bM,bS,yS,uB,hr,hl⟩:=br;refine n9 ?_;clear n9;subst bM bS;dsimp only;split
  ·exact wpS_pure (fin n p yS uB (Sm.refl p) hr)
  rename_i hne;have cM:n<g6:=Nat.lt_of_le_of_ne uB λz=>hne (beq_iff_eq.mpr z)
  have hd:=hl cM;apply share (C:=λp':Array Nat=>Sm lo (lo+g6) p p'/\yh lt p' lo (n+1)) (g:=λp'=>St κ f p' pd g)
  ·intro key
   split
   ·refine wpS_bind (mj hc ha ⇑0 ⇑0 ?_)
    dsimp only;rw[show lo+n - 1=lo+(n - 1) by omega];cases e:lt (p.getD lo 0) (p.getD (lo+(n - 1)) 0) with
    |true=>exact wpS_pure (fin n p yS uB (Sm.refl p) hr)
    |false=>
     have hsz:lo+n<=p.size:=by omega
     have all:=wH.all W hr yS e;have hf:=yh.rev hsz (λi j kW hj=>all i j (Wg _) (YE kW hj) (Wg _) hj) all
     have a0:=mc (i:=0) hsz;rw[ZY]at hf a0;refine wpS_bind (wI (key _ ⟨qM hsz (V3 _) ⇑0,hf.more W yS ?_⟩));rw[a0,a0,if_pos ⟨Wg _,⇑0⟩,if_neg (λz=>Xf _ z.2),show 0+n - 1 - (n - 1)=0 by omega];exact W.tr _ _ _ (W.kY _ _ hd) e
   ·obtain rfl:n=1:=by omega
    refine key p ⟨Sm.refl p,λi j kW hj=>?_⟩;obtain rfl:i=0:=by omega
    obtain rfl:j=1:=by omega
    exact W.kY _ _ hd
  ·rintro p1 ⟨Th,Ti⟩
   refine wpS_bind (wpS_lift (wpAny_rule ⟨rfl,?_⟩));refine wpS_bind (wpS_mono (wpS_forRange (I:=λi c st=>∃q p',c=(n?,i,q)/\st=St κ f p' pd g/\Sm lo (lo+g6) p p'/\q+1<=i/\yh lt p' lo i/\wH lt p' lo (i - (q+1)) i) (Q:=λc st=>∃m q p',c=(n?,m,q)/\st=St κ f p' pd g/\Sm lo (lo+g6) p p'/\m<=g6/\q+1<=m/\yh lt p' lo m/\wH lt p' lo (m - (q+1)) m) ?_ ?_ ⟨0,p1,rfl,rfl,Th,⇑0,Ti,wH.one W⟩) ?_)
   ·intro m c st hi Dp br
    refine M.gK λ_ n9=>?_
    obtain⟨q,p2,bM,bS,hs,hq,h,he⟩:=br;refine n9 ?_;clear n9;subst bM bS;have Oh:=hs.al ha
    have sz:=hs.sz;dsimp only;refine wpS_bind (mj hc Oh ⇑0 ⇑0 ?_);dsimp only;rw[show lo+m - 1=lo+(m - 1) by omega];have hsz:lo+m<=p2.size:=by omega
    cases e:lt (p2.getD (lo+m) 0) (p2.getD (lo+(m - 1)) 0) with
    |true=>
     simp only[if_true];split
     ·rw[show lo+m - (q+1)=lo+(m - (q+1)) by omega]
      have Tj:=h.rev hsz he;refine wpS_bind (wI (wpS_pure ⟨0,_,rfl,rfl,hs.trans (qM hsz ⇑0 ⇑0),⇑0,Tj.more W ⇑0 ?_,wH.one W⟩));rw[mc hsz,mc hsz,if_pos ⟨⇑0,⇑0⟩,if_neg (λz=>Xf _ z.2),show m - (q+1)+m - 1 - (m - 1)=m - (q+1) by omega];exact W.tr _ _ _ (W.kY _ _ e) (he (m - (q+1)) (m - 1) (V3 _) ⇑0 ⇑0 ⇑0)
     ·exact wpS_pure ⟨0,p2,rfl,rfl,hs,⇑0,h.more W ⇑0 (W.kY _ _ e),wH.one W⟩
    |false=>
     simp only[Ws,if_false];refine wpS_bind (mj hc Oh ⇑0 ⇑0 ?_);dsimp only;cases e2:lt (p2.getD (lo+(m - 1)) 0) (p2.getD (lo+m) 0) with
     |true=>exact wpS_pure ⟨m,q,p2,rfl,rfl,hs,⇑0,hq,h,he⟩
     |false=>exact wpS_pure ⟨q+1,p2,rfl,rfl,hs,⇑0,h.more W ⇑0 e2,he.more W hq e e2⟩
   ·intro c st br
    refine M.gK λ_ n9=>?_
    obtain⟨q,p2,bM,bS,hs,hq,h,he⟩:=br;refine n9 ?_;clear n9;subst bM bS;exact⟨_,q,p2,rfl,rfl,hs,⇑0,hq,h,he⟩
   ·intro c st br
    refine M.gK λ_ n9=>?_
    obtain⟨m,q,p2,bM,bS,hs,hm,hq,h,he⟩:=br;refine n9 ?_;clear n9;subst bM bS;dsimp only;have sz:=hs.sz
    have hsz:lo+m<=p2.size:=by omega
    apply share (C:=λp':Array Nat=>Sm lo (lo+g6) p p'/\yh lt p' lo m) (g:=λp'=>St κ f p' pd g)
    ·intro key
     split
     ·rw[show lo+m - (q+1)=lo+(m - (q+1)) by omega]
      exact wpS_bind (wI (key _ ⟨hs.trans (qM hsz ⇑0 ⇑0),h.rev hsz he⟩))
     ·exact key _ ⟨hs,h⟩
    ·rintro p3 ⟨Lx,h3⟩
     have Vs:=Lx.sz;have Pj:=Lx.trans (qM (lo:=lo) (i:=lo) (j:=lo+m) (hi:=lo+g6) ⇑0 (V3 _) ⇑0)
     have Vt:=Pj.sz;have Tn:=Pj.al ha
     refine wpS_bind (wI ?_);refine wpS_bind (wpS_mono (wpS_forRange (I:=λi c st=>c=(n?,i)/\st=St κ f (kas_rev p3 lo (lo+m)) pd g/\dK lt (kas_rev p3 lo (lo+m)) lo i) (Q:=λc st=>∃n,c=(n?,n)/\st=St κ f (kas_rev p3 lo (lo+m)) pd g/\1<=n/\n<=g6/\dK lt (kas_rev p3 lo (lo+m)) lo n) ?_ ?_ ⟨rfl,rfl,h3.up ⇑0⟩) ?_)
     ·rintro i c st hi Dp ⟨rfl,rfl,hr⟩
      refine wpS_bind (mj hc Tn ⇑0 ⇑0 ?_);dsimp only;rw[show lo+i - 1=lo+(i - 1) by omega];cases e:lt ((kas_rev p3 lo (lo+m)).getD (lo+i) 0) ((kas_rev p3 lo (lo+m)).getD (lo+(i - 1)) 0) with
      |true=>exact wpS_pure ⟨_,rfl,rfl,⇑0,⇑0,hr⟩
      |false=>exact wpS_pure ⟨rfl,rfl,hr.more W ⇑0 e⟩
     ·rintro c st ⟨rfl,rfl,hr⟩
      exact⟨_,rfl,rfl,⇑0,⇑0,hr⟩
     ·intro c st br
      refine M.gK λ_ n9=>?_
      obtain⟨n',bM,bS,h1',h2',hr'⟩:=br;refine n9 ?_;clear n9;subst bM bS;exact wpS_pure (fin n' _ h1' h2' Pj hr')
end ct
def jB(p:Array Nat)(lo g6:Nat):Mc p lo g6:=M.cW (P:=λx=>Mc x.1 x.2.1 x.2.2) ct.t (p,lo,g6)
end Ts
namespace Ts
open PySem PySem.W PySem.Calls PyProof.Rows
section
variable          {p:Array Nat} {pd:Array (Nat × Nat × Nat)} {g lo:Nat}
def Ly{n ok:Nat}{Q:Bool->SortSt->Prop}(W:WO lt)(hc:yg prog w A s κ f lt N)(ha:Al N p)(h1:1<=ok)(h2:ok<=n)(hz:lo+n<=p.size)(hr:dK lt p lo ok)
  (fin:∀p',Sm lo (lo+n) p p'->dK lt p' lo n->Q t? (St κ f p' pd g)):wpS (model prog w) A E s (binarySort' lo n ok) Q (St κ f p pd g):=by
 rw[binarySort'_eq];dsimp only;refine wpS_bind (wpS_mono (wpS_forRange (I:=λk c st=>∃p',c=(n?,())/\st=St κ f p' pd g/\Sm lo (lo+n) p p'/\dK lt p' lo k) (Q:=λc st=>∃p',c=(n?,())/\st=St κ f p' pd g/\Sm lo (lo+n) p p'/\dK lt p' lo n) ?_ ?_ ⟨p,rfl,rfl,.refl p,by rw[Nat.max_eq_left h1];exact hr⟩) ?_)
 ·intro k c st lX lR br
  refine M.gK λ_ n9=>?_
  obtain⟨q,bM,bS,hs,hr⟩:=br;refine n9 ?_;clear n9;subst bM bS;have sz:=hs.sz
  have hq:=hs.al ha;refine wpS_bind (wpS_mono (wpS_forRange (I:=λi c st=>∃l r,c=(n?,l,r)/\st=St κ f q pd g/\l<=r/\r<=k/\r - l+i<=k/\(∀x,x<l->lt (bq q lo k) (bq q lo x)=f?)/\∀x,r<=x->x<k->lt (bq q lo k) (bq q lo x)=t?)
   (Q:=λc st=>∃l r,c=(n?,l,r)/\st=St κ f q pd g/\l<=k/\(∀x,x<l->lt (bq q lo k) (bq q lo x)=f?)/\∀x,l<=x->x<k->lt (bq q lo k) (bq q lo x)=t?) ?_ ?_ ⟨0,k,rfl,rfl,Wg _,V3 _,⇑0,λx z=>absurd z (Nat.not_lt_zero _),λx z1 z2=>absurd z1 (Nat.not_le_of_lt z2)⟩) ?_)
  ·intro i c st Kj Dp br
   refine M.gK λ_ n9=>?_
   obtain⟨l,r,bM,bS,a1,a2,a3,a4,a5⟩:=br;refine n9 ?_;clear n9;subst bM bS;dsimp only;split
   ·obtain rfl:l=r:=by omega
    exact wpS_pure ⟨l,l,rfl,rfl,a2,a4,a5⟩
   ·have m1:l<=(l+r) / 2:=by omega
    have m2:(l+r) / 2<r:=by omega
    refine wpS_bind (mj hc hq ⇑0 ⇑0 ?_);dsimp only;cases e:lt (q.getD (lo+k) 0) (q.getD (lo+(l+r) / 2) 0) with
    |true=>
     refine wpS_pure ⟨l,_,rfl,rfl,m1,⇑0,⇑0,a4,λx b1 b2=>?_⟩;by_cases c1:x=(l+r) / 2
     ·subst c1;exact e
     ·exact W.up e (hr _ x ⇑0 b2)
    |false=>
     refine wpS_pure ⟨_,r,rfl,rfl,m2,a2,⇑0,λx b1=>?_,a5⟩;by_cases c1:x=(l+r) / 2
     ·subst c1;exact e
     ·exact W.tr _ _ _ (hr x ((l+r) / 2) ⇑0 ⇑0) e
  ·intro c st br
   refine M.gK λ_ n9=>?_
   obtain⟨l,r,bM,bS,a1,a2,a3,a4,a5⟩:=br;refine n9 ?_;clear n9;subst bM bS;obtain rfl:l=r:=by omega
   exact⟨l,l,rfl,rfl,a2,a4,a5⟩
  ·intro c st br
   refine M.gK λ_ n9=>?_
   obtain⟨l,r,bM,bS,a1,a2,a3⟩:=br;refine n9 ?_;clear n9;subst bM bS;have hb:∀x,(bubble q (lo+k) (lo+k - (lo+l))).getD x 0=_:=Ab ⇑0 ⇑0
   refine wpS_bind (Lw (wpS_pure ⟨_,rfl,rfl,hs.trans ⟨bubble_size _ _ _,ZT.mp (bubble_perm _ _ _),λx hx=>?_⟩,λi j kW hj=>?_⟩))
   ·rw[hb,if_neg ⇑0,if_neg ⇑0]
   ·have Ki:∀x,bq (bubble q (lo+k) (lo+k - (lo+l))) lo x=if x=l then bq q lo k else if l<x/\x<=k then bq q lo (x - 1) else bq q lo x:=λx=>by
     unfold bq;rw[hb];by_cases c1:x=l
     ·rw[if_pos c1,if_pos ⇑0]
     ·rw[if_neg c1,if_neg ⇑0]
      by_cases c2:l<x/\x<=k
      ·rw[if_pos c2,if_pos ⇑0,show lo+x - 1=lo+(x - 1) by omega]
      ·rw[if_neg c2,if_neg ⇑0]
    rw[Ki,Ki];by_cases j1:j=l
    ·rw[if_pos j1,if_neg ⇑0,if_neg ⇑0]
     exact a2 i ⇑0
    ·rw[if_neg j1]
     by_cases j2:l<j/\j<=k
     ·rw[if_pos j2]
      by_cases i1:i=l
      ·rw[if_pos i1]
       exact W.kY _ _ (a3 (j - 1) ⇑0 ⇑0)
      ·rw[if_neg i1]
       by_cases i2:l<i/\i<=k
       ·rw[if_pos i2];exact hr _ _ ⇑0 ⇑0
       ·rw[if_neg i2];exact hr _ _ ⇑0 ⇑0
     ·rw[if_neg j2,if_neg ⇑0,if_neg ⇑0]
      exact hr i j kW ⇑0
 ·intro c st br
  refine M.gK λ_ n9=>?_
  obtain⟨q,bM,bS,hs,hr⟩:=br;refine n9 ?_;clear n9;subst bM bS;rw[show max (max ok 1) n=n by omega]at hr;exact⟨q,rfl,rfl,hs,hr⟩
 ·intro c st br
  refine M.gK λ_ n9=>?_
  obtain⟨q,bM,bS,hs,hr⟩:=br;refine n9 ?_;clear n9;subst bM bS;exact wpS_pure (fin q hs hr)
end
def wJ:Bool->Keyed->Array Keyed->Nat->Nat->Nat->StateT SortSt Sem (Option Nat):=sortPriv% PySem.Builtin.gallop
section
variable          {p:Array Nat} {pd:Array (Nat × Nat × Nat)} {g lo:Nat}
def To(left:Bool)(key:Keyed)(arr:Array Keyed)(i:Nat):StateT SortSt Sem (Option Bool):=do
 let x <- elem' arr i
 if left then lt' x key else return (<- lt' key x).map (!·)
def bv(lt:Nat->Nat->Bool)(left:Bool)(k x:Nat):Bool:=if left then lt x k else !lt k x
def sT{left:Bool}{k i:Nat}{st:SortSt}{Q:Option Bool->SortSt->Prop}(hc:yg prog w A s κ f lt N)(hk:kindOf st=κ)(ha:Al N p)(h1:k<N)(h2:i<p.size)(h:Q (s? (bv lt left k (p.getD i 0))) st):wpS (model prog w) A E s (To left (f k) (p.map f) i) Q st:=by
 refine wpS_bind (yi h2 ?_);cases left with
 |true=>exact Ac hc hk (ha i h2) h1 h
 |false=>exact wpS_bind (Ac hc hk h1 (ha i h2) (wpS_pure h))
def Fg{n:Nat}{B:Nat->Bool}{st:SortSt}{body:Nat->Option (Option Nat) × Nat × Nat->StateT SortSt Sem (ForInStep (Option (Option Nat) × Nat × Nat))}{Q:Option (Option Nat) × Nat × Nat->SortSt->Prop}
  (sU:∀i j,i<=j->j<n->B j=t?->B i=t?)
  (step:∀x lo hi R,hi<=n->(lo≥hi->R (.done (n?,lo,hi)) st)->(lo<hi->B (lo+(hi - lo) / 2)=t?->R (.yield (n?,lo+(hi - lo) / 2+1,hi)) st)->(lo<hi->B (lo+(hi - lo) / 2)=f?->R (.yield (n?,lo,lo+(hi - lo) / 2)) st)->wpS (model prog w) A E s (body x (n?,lo,hi)) R st)
  {lo hi:Nat} (h1:lo<=hi) (h2:hi<=n) (h3:∀i,i<lo->B i=t?) (h4:∀i,hi<=i->i<n->B i=f?)
  (fin:∀x,x<=n->(∀i,i<x->B i=t?)->(∀i,x<=i->i<n->B i=f?)->Q (n?,x,x) st):wpS (model prog w) A E s (forIn [:n] (n?,lo,hi) body) Q st:=by
 refine wpS_forRange (I:=λi c gg=>gg=st/\∃lo hi,c=(n?,lo,hi)/\lo<=hi/\hi<=n/\hi - lo+i<=n/\(∀i,i<lo->B i=t?)/\∀i,hi<=i->i<n->B i=f?) ?_ ?_ ⟨rfl,lo,hi,rfl,h1,h2,⇑0,h3,h4⟩
 ·intro i c gg _ hi' br
  refine M.gK λ_ n9=>?_
  obtain⟨bM,lo,hi,bS,a1,a2,a3,a4,a5⟩:=br;refine n9 ?_;clear n9;subst bM bS;refine step i lo hi _ a2 (λz=>?_) (λz e=>⟨rfl,_,_,rfl,⇑0,a2,⇑0,λx hx=>?_,a5⟩) (λz e=>⟨rfl,_,_,rfl,⇑0,⇑0,⇑0,a4,λx b1 b2=>?_⟩)
  ·obtain rfl:lo=hi:=by omega
   exact fin lo a2 a4 a5
  ·exact sU x (lo+(hi - lo) / 2) ⇑0 ⇑0 e
  ·cases q:B x with
   |false=>rfl
   |true=>rw[sU _ _ b1 b2 q]at e;cases e
 ·intro c gg br
  refine M.gK λ_ n9=>?_
  obtain⟨bM,lo,hi,bS,a1,a2,a3,a4,a5⟩:=br;refine n9 ?_;clear n9;subst bM bS;obtain rfl:lo=hi:=by omega
  exact fin lo a2 a4 a5
def Ad{left:Bool}{k base n hint:Nat}{st:SortSt}{Q:Option Nat->SortSt->Prop}(hc:yg prog w A s κ f lt N)(hk:kindOf st=κ)(ha:Al N p)(h1:k<N)(hz:base+n<=p.size)(hh:hint<n)
  (sU:∀i j,i<=j->j<n->bv lt left k (bq p base j)=t?->bv lt left k (bq p base i)=t?)
  (fin:∀x,x<=n->(∀i,i<x->bv lt left k (bq p base i)=t?)->(∀i,x<=i->i<n->bv lt left k (bq p base i)=f?)->Q (s? x) st):
  wpS (model prog w) A E s (wJ left (f k) (p.map f) base n hint) Q st:=by
 refine wpS_bind (sT hc hk ha h1 ⇑0 ?_);dsimp only;have no:∀i j,i<=j->j<n->bv lt left k (bq p base i)=f?->bv lt left k (bq p base j)=f?:=λi j a b c=>by
  cases q:bv lt left k (bq p base j) with
  |false=>rfl
  |true=>rw[sU _ _ a b q]at c;cases c
 cases e0:bv lt left k (p.getD (base+hint) 0) with
 |true=>
  simp only[if_true];refine wpS_bind (wpS_mono (wpS_forRange (I:=λi c gg=>gg=st/\∃la o,c=(n?,la,o)/\i<o/\la<o/\la<n - hint/\bv lt left k (bq p base (hint+la))=t?) (Q:=λc gg=>gg=st/\∃la o,c=(n?,la,o)/\la<o/\la<n - hint/\bv lt left k (bq p base (hint+la))=t?/\(n - hint<=o\/bv lt left k (bq p base (hint+o))=f?)) ?_ ?_ ⟨rfl,0,1,rfl,abb,abb,⇑0,e0⟩) ?_)
  ·intro i c gg _ hi br
   refine M.gK λ_ n9=>?_
   obtain⟨bM,la,o,bS,a1,a2,a3,a4⟩:=br;refine n9 ?_;clear n9;subst bM bS;dsimp only;split
   ·exact wpS_pure ⟨rfl,la,o,rfl,a2,a3,a4,.inl ‹_›⟩
   ·refine wpS_bind (sT hc hk ha h1 ⇑0 ?_)
    dsimp only;cases e:bv lt left k (p.getD (base+(hint+o)) 0) with
    |true=>exact wpS_pure ⟨rfl,o,_,rfl,⇑0,⇑0,⇑0,e⟩
    |false=>exact wpS_pure ⟨rfl,la,o,rfl,a2,a3,a4,.inr e⟩
  ·intro c gg br
   refine M.gK λ_ n9=>?_
   obtain⟨bM,la,o,bS,a1,a2,a3,a4⟩:=br;refine n9 ?_;clear n9;subst bM bS;exact⟨rfl,la,o,rfl,a2,a3,a4,.inl ⇑0⟩
  ·intro c gg br
   refine M.gK λ_ n9=>?_
   obtain⟨bM,la,o,bS,a2,a3,a4,a5⟩:=br;refine n9 ?_;clear n9;subst bM bS;dsimp only;refine wpS_bind (Fg (B:=λi=>bv lt left k (bq p base i)) sU (λx lo hi R hn r1 r2 r3=>?_) ⇑0 ⇑0 (λi hi=>sU i (hint+la) ⇑0 ⇑0 a4) (λi b1 b2=>?_) λx b1 b2 b3=>wpS_pure (fin x b1 b2 b3))
   ·dsimp only
    split
    ·exact wpS_pure (r1 ‹_›)
    ·refine wpS_bind (sT hc hk ha h1 ⇑0 ?_)
     dsimp only;cases e:bv lt left k (p.getD (base+(lo+(hi - lo) / 2)) 0) with
     |true=>exact wpS_pure (r2 ⇑0 e)
     |false=>exact wpS_pure (r3 ⇑0 e)
   ·rcases a5 with a5|a5
    ·omega
    ·exact no (hint+o) i ⇑0 b2 a5
 |false=>
  simp only[Ws,if_false];refine wpS_bind (wpS_mono (wpS_forRange (I:=λi c gg=>gg=st/\∃la o,c=(n?,la,o)/\i<o/\la<o/\la<=hint/\bv lt left k (bq p base (hint - la))=f?) (Q:=λc gg=>gg=st/\∃la o,c=(n?,la,o)/\la<o/\la<=hint/\bv lt left k (bq p base (hint - la))=f?/\(hint+1<=o\/bv lt left k (bq p base (hint - o))=t?)) ?_ ?_ ⟨rfl,0,1,rfl,abb,abb,Wg _,e0⟩) ?_)
  ·intro i c gg _ hi br
   refine M.gK λ_ n9=>?_
   obtain⟨bM,la,o,bS,a1,a2,a3,a4⟩:=br;refine n9 ?_;clear n9;subst bM bS;dsimp only;split
   ·exact wpS_pure ⟨rfl,la,o,rfl,a2,a3,a4,.inl ‹_›⟩
   ·refine wpS_bind (sT hc hk ha h1 ⇑0 ?_)
    dsimp only;cases e:bv lt left k (p.getD (base+(hint - o)) 0) with
    |true=>exact wpS_pure ⟨rfl,la,o,rfl,a2,a3,a4,.inr e⟩
    |false=>exact wpS_pure ⟨rfl,o,_,rfl,⇑0,⇑0,⇑0,e⟩
  ·intro c gg br
   refine M.gK λ_ n9=>?_
   obtain⟨bM,la,o,bS,a1,a2,a3,a4⟩:=br;refine n9 ?_;clear n9;subst bM bS;exact⟨rfl,la,o,rfl,a2,a3,a4,.inl ⇑0⟩
  ·intro c gg br
   refine M.gK λ_ n9=>?_
   obtain⟨bM,la,o,bS,a2,a3,a4,a5⟩:=br;refine n9 ?_;clear n9;subst bM bS;dsimp only;refine wpS_bind (Fg (B:=λi=>bv lt left k (bq p base i)) sU (λx lo hi R hn r1 r2 r3=>?_) ⇑0 ⇑0 (λi hi=>?_) (λi b1 b2=>no (hint - la) i ⇑0 b2 a4) λx b1 b2 b3=>wpS_pure (fin x b1 b2 b3))
   ·dsimp only
    split
    ·exact wpS_pure (r1 ‹_›)
    ·refine wpS_bind (sT hc hk ha h1 ⇑0 ?_)
     dsimp only;cases e:bv lt left k (p.getD (base+(lo+(hi - lo) / 2)) 0) with
     |true=>exact wpS_pure (r2 ⇑0 e)
     |false=>exact wpS_pure (r3 ⇑0 e)
   ·rcases a5 with a5|a5
    ·omega
    ·exact sU i (hint - o) ⇑0 ⇑0 a5
end
def kZ:Array Keyed->Array Keyed->StateT SortSt Sem (Array Keyed):=sortPriv% PySem.Builtin.mergeLo
def lh:Array Keyed->Array Keyed->StateT SortSt Sem (Array Keyed):=sortPriv% PySem.Builtin.mergeHi
structure J(r:Nat->Nat->Prop)(T U V O:List Nat):Prop where
 pm:(O++(U++V)).Perm T
 so:O.Pairwise r
 ou:∀x∈O,∀y,y∈U\/y∈V->r x y
 su:U.Pairwise r
 sv:V.Pairwise r
section
variable{r:Nat->Nat->Prop}{T U V O C:List Nat}{u:Array Nat}{i k:Nat}
def J.swap(h:J r T U V O):J r T V U O:=⟨((Zo).append_left O).trans h.pm,h.so,λx hx y hy=>h.ou x hx y hy.symm,h.sv,h.su⟩
def J.chunk(h:J r T (C++U) V O)(hC:∀x∈C,∀y∈V,r x y):J r T U V (O++C):=by
 obtain⟨h1,h2,h3⟩:=Xr.mp h.su;refine⟨⇑h.pm,Xr.mpr ⟨h.so,h1,λx hx y hy=>h.ou x hx y (.inl (V2 _ hy))⟩,λx hx y hy=>?_,h2,h.sv⟩;rcases VR.mp hx with hx|hx
 ·exact h.ou x hx y (hy.imp (V6 _) id)
 ·rcases hy with hy|hy
  ·exact h3 x hx y hy
  ·exact hC x hx y hy
def J.all(h:J r T U [] O):(O++U).Pairwise r/\(O++U).Perm T:=by
 have z:=(show J r T (U++[]) [] O by rw[V8];exact h).chunk (λx _ y hy=>by cases hy);exact⟨z.so,⇑z.pm⟩
def J.last{z:Nat}(h:J r T [z] V O)(hz:∀y∈V,r y z):(O++V++[z]).Pairwise r/\(O++V++[z]).Perm T:=by
 have a:=h.swap;have a:=(show J r T (V++[]) [z] O by rw[V8];exact a).chunk (λx hx y hy=>by rw[Wb.mp hy];exact hz x hx)
 exact a.swap.all
def J.tk(h:J r T (u.toList.drop i) V O)(hC:∀x∈(u.toList.drop i).take k,∀y∈V,r x y):J r T (u.toList.drop (i+k)) V (O++(u.toList.drop i).take k):=by
 have e:u.toList.drop i=(u.toList.drop i).take k++u.toList.drop (i+k):=by rw[<- X4,XE]
 exact(show J r T ((u.toList.drop i).take k++u.toList.drop (i+k)) V O by rw[<- e];exact h).chunk hC
def j0{x:Nat}(h:x∈(u.toList.drop i).take k):∃j,j<k/\i+j<u.size/\x=bq u i j:=by
 obtain⟨j,hj,e⟩:=ZA.mp h;simp only[W8,WG,Yk]at hj;have hs:i+j<u.size:=by omega
 refine⟨j,⇑0,hs,?_⟩;rw[<- e];simp[bq,XZ,hs]
def u6{x:Nat}(h:x∈u.toList.drop i):∃j,i+j<u.size/\x=bq u i j:=by
 have:x∈(u.toList.drop i).take u.size:=by rw[WE ⋯];exact h
 obtain⟨j,_,h2,h3⟩:=j0 this;exact⟨j,h2,h3⟩
def n6(h:i<u.size):(u.toList.drop i).take 1=[u.getD i 0]:=by
 rw[Wz ⇑h];simp[XZ,h]
end
section
variable{r:Nat->Nat->Prop}{T:List Nat}{u v:Array Nat}{a b:Array Keyed}{ia ib k:Nat}{out:Array Keyed}
def Iv(f:Nat->Keyed)(r:Nat->Nat->Prop)(T:List Nat)(u v:Array Nat)(out:Array Keyed)(ia ib:Nat):Prop:=∃o:Array Nat,out=o.map f/\J r T (u.toList.drop ia) (v.toList.drop ib) o.toList
def Gd(f:Nat->Keyed)(r:Nat->Nat->Prop)(T:List Nat)(out:Array Keyed):Prop:=∃o:Array Nat,out=o.map f/\o.toList.Pairwise r/\o.toList.Perm T
theorem Iv.swap(h:Iv f r T u v out ia ib):Iv f r T v u out ib ia:=let ⟨o,e,h⟩:=h;⟨o,e,h.swap⟩
def Iv.ext(ea:u.map f=a)(h:Iv f r T u v out ia ib)(hC:∀j,j<k->ia+j<u.size->∀y∈v.toList.drop ib,r (bq u ia j) y):Iv f r T u v (out++a.extract ia (ia+k)) (ia+k) ib:=by
 subst ea;obtain⟨o,rfl,h⟩:=h;have z:=h.tk (k:=k) λx hx y hy=>by
  obtain⟨j,h1,h2,rfl⟩:=j0 hx;exact hC j h1 h2 y hy
 refine⟨o++u.extract ia (ia+k),⋯,?_⟩;have e:(o++u.extract ia (ia+k)).toList=o.toList++(u.toList.drop ia).take k:=by simp[XC]
 rw[e];exact z
def Iv.Ae(h:Iv f r T u v out ia ib)(hi:ia<u.size)(hC:∀y∈v.toList.drop ib,r (u.getD ia 0) y):Iv f r T u v (out.push (f (u.getD ia 0))) (ia+1) ib:=by
 obtain⟨o,rfl,h⟩:=h;have z:=h.tk (k:=1) λx hx y hy=>by
  rw[n6 hi]at hx;rw[Wb.mp hx];exact hC y hy
 rw[n6 hi]at z;exact⟨o.push (u.getD ia 0),⋯,⇑z⟩
def xd{α:Type}(u:Array α)(i:Nat):(u.extract i u.size).toList=u.toList.drop i:=by rw[aa1,XC,WE ⋯]
def xm(u:Array Nat)(i j:Nat):(u.map f).extract i j=(u.extract i j).map f:=by simp
def xn(u:Array Nat):u.extract u.size u.size = #[]:=by apply abr;rw[xd];simp
def Iv.dn(ea:u.map f=a)(eb:v.map f=b)(h:Iv f r T u v out ia ib)(e:ib=v.size):Gd f r T (out++a.extract ia a.size++b.extract ib b.size):=by
 subst ea eb;rw[Xd,Xd];obtain⟨o,rfl,h⟩:=h;subst e;rw[Yv (l:=v.toList) ⋯]at h;obtain⟨h1,h2⟩:=h.all;have e:(o++u.extract ia u.size).toList=o.toList++u.toList.drop ia:=by rw[Xx,xd]
 exact⟨o++u.extract ia u.size,by rw[xm,xm,xn,Array.map_append];simp,by rw[e];exact h1,by rw[e];exact h2⟩
def Iv.Kk(ea:u.map f=a)(eb:v.map f=b)(h:Iv f r T u v out ia ib)(e:ia=u.size):Gd f r T (out++a.extract ia a.size++b.extract ib b.size):=by
 subst ea eb;rw[Xd,Xd];obtain⟨o,rfl,h⟩:=h;subst e;rw[Yv ⋯]at h;obtain⟨h1,h2⟩:=h.swap.all;have e:(o++v.extract ib v.size).toList=o.toList++v.toList.drop ib:=by rw[Xx,xd]
 exact⟨o++v.extract ib v.size,by rw[xm,xm,xn,Array.map_append];simp,by rw[e];exact h1,by rw[e];exact h2⟩
def Iv.la(ea:u.map f=a)(eb:v.map f=b)(h:Iv f r T u v out ia ib)(e:ia+1=u.size)(hz:∀y∈v.toList.drop ib,r y (u.getD (u.size - 1) 0)):Gd f r T (out++b.extract ib b.size++a.extract ia a.size):=by
 subst ea eb;rw[Xd,Xd];obtain⟨o,rfl,h⟩:=h;have hi:ia<u.size:=by omega
 have e1:u.toList.drop ia=[u.getD ia 0]:=by
  rw[<- n6 hi,WE (by simp;omega)]
 rw[e1]at h;rw[show u.size - 1=ia by omega]at hz;obtain⟨h1,h2⟩:=h.last hz;have e:(o++v.extract ib v.size++u.extract ia u.size).toList=o.toList++v.toList.drop ib++[u.getD ia 0]:=by rw[Xx,Xx,xd,xd,e1]
 exact⟨o++v.extract ib v.size++u.extract ia u.size,⋯,by rw[e];exact h1,by rw[e];exact h2⟩
end
section
variable          {p u v:Array Nat} {pd:Array (Nat × Nat × Nat)} {g:Nat}
def dK.sub{lo m base n:Nat}(h:dK lt u lo m)(h1:lo<=base)(h2:base+n<=lo+m):dK lt u base n:=λi j kW hj=>by
 have:=h (base - lo+i) (base - lo+j) ⇑0 ⇑0;simpa only[bq,show lo+(base - lo+i)=base+i by omega,show lo+(base - lo+j)=base+j by omega] using this
def dK.le(W:WO lt){lo m i j:Nat}(h:dK lt u lo m)(h1:i<=j)(h2:j<m):lt (bq u lo j) (bq u lo i)=f?:=by
 by_cases e:i=j
 ·subst e;exact W.Cu _
 ·exact h i j ⇑0 h2
def u7(W:WO lt){left:Bool}{k base n:Nat}(su:dK lt u base n):∀i j,i<=j->j<n->bv lt left k (bq u base j)=t?->bv lt left k (bq u base i)=t?:=λi j h1 h2 h=>by
 have z:=su.le W h1 h2;cases left with
 |true=>exact W.dn h z
 |false=>
  have h:(!lt k (bq u base j))=t?:=h;show(!lt k (bq u base i))=t?
  rw[Ye]at h ⊢;exact W.tr _ _ _ z h
def wK(W:WO lt)(su:dK lt u 0 u.size){i y:Nat}(h:y∈u.toList.drop i):lt y (u.getD i 0)=f?:=by
 obtain⟨j,hj,rfl⟩:=u6 h;by_cases e:j=0
 ·subst e;exact W.Cu _
 ·have:=su i (i+j) ⇑0 hj
  simpa[bq] using this
abbrev pz(lt:Nat->Nat->Bool)(x y:Nat):Prop:=lt y x=f?
def u9(su:dK lt u 0 u.size):u.toList.Pairwise (pz lt):=by
 rw[YT];intro i j hi hj kW;have hi':i<u.size:=by simpa using hi
 have hj':j<u.size:=by simpa using hj
 have:=su i j kW hj';simpa[bq,XZ,hi',hj'] using this
def cN{M:Model}{σ α:Type}{m m':StateT σ Sem α}{Q:α->σ->Prop}{st:σ}(h:m=m')(w:wpS M A E s m' Q st):wpS M A E s m Q st:=h ▸ w
def p5{M:Model}{σ α β:Type}{a b:Nat}{f:Nat->β->StateT σ Sem (ForInStep β)}{k:β->StateT σ Sem α}{R:α->σ->Prop}{c:β}{st:σ}(I:Nat->β->σ->Prop)(Q:β->σ->Prop)(h:I a c st)(e:∀c st,I (max a b) c st->Q c st)
  (step:∀(f':Nat->β->StateT σ Sem (ForInStep β))(W:Nat->ForInStep β->σ->Prop),(∀i c,f' i c=f i c)->(∀i c st,Q c st->W i (.done c) st)->(∀i c st,I (i+1) c st->W i (.yield c) st)->∀i c st,a<=i->i<b->I i c st->wpS M A E s (f' i c) (W i) st)
  (rest:∀k':β->StateT σ Sem α,(∀c,k' c=k c)->∀c st,Q c st->wpS M A E s (k' c) R st):wpS M A E s (forIn [a:b] c f >>= k) R st :=
 wpS_bind (wpS_mono (wpS_forRange I (step f (λi r gg=>match r with|.done c'=>Q c' gg|.yield c'=>I (i+1) c' gg) (λ_ _=>rfl) (λ_ _ _ h=>h) λ_ _ _ h=>h) e h) (rest k λ_=>rfl))
def share1{M:Model}{σ α ι:Type}{G:Prop}{C:ι->σ->Prop}{m:ι->StateT σ Sem α}{Q:α->σ->Prop}(h:(∀i st,C i st->wpS M A E s (m i) Q st)->G)(k:∀i st,C i st->wpS M A E s (m i) Q st):G:=h k
def qN{M:Model}{σ α ι ι':Type}{G:Prop}{C:ι->ι'->σ->Prop}{m:ι->ι'->StateT σ Sem α}{Q:α->σ->Prop}(h:(∀i j st,C i j st->wpS M A E s (m i j) Q st)->G)(k:∀i j st,C i j st->wpS M A E s (m i j) Q st):G:=h k
def iY{M:Model}{σ α:Type}{c:Prop}[Decidable c]{m1 m2:StateT σ Sem α}{Q:α->σ->Prop}{st:σ}(h1:c->wpS M A E s m1 Q st)(h2:¬c->wpS M A E s m2 Q st):wpS M A E s (if c then m1 else m2) Q st:=by
 by_cases h:c
 ·rw[if_pos h];exact h1 h
 ·rw[if_neg h];exact h2 h
def w_eq{M:Model}{σ α:Type}{x y z:Nat}{m1 m2:StateT σ Sem α}{Q:α->σ->Prop}{st:σ}(e:y=z)(h1:x=z->wpS M A E s m1 Q st)(h2:x≠z->wpS M A E s m2 Q st):wpS M A E s (if (x==y)=t? then m1 else m2) Q st:=by
 subst e;exact iY (λh=>h1 (beq_iff_eq.mp h)) λh=>h2 λq=>h (beq_iff_eq.mpr q)
def iZ{st:SortSt}{a:Array Keyed}{i:Nat}{Q:Keyed->SortSt->Prop}(ea:p.map f=a)(hi:i<p.size)(h:Q (f (p.getD i 0)) st):wpS (model prog w) A E s (elem' a i) Q st:=by subst ea;exact yi hi h
def Dy{a:Array Keyed}{left:Bool}{k base n hint:Nat}{st:SortSt}{Q:Option Nat->SortSt->Prop}(ea:p.map f=a)(W:WO lt)(hc:yg prog w A s κ f lt N)(hk:kindOf st=κ)(ha:Al N p)(h1:k<N)(hz:base+n<=p.size)(hh:hint<n)(su:dK lt p 0 p.size)
  (fin:∀x,x<=n->(∀i,i<x->bv lt left k (bq p base i)=t?)->(∀i,x<=i->i<n->bv lt left k (bq p base i)=f?)->Q (s? x) st):
  wpS (model prog w) A E s (wJ left (f k) a base n hint) Q st:=by subst ea;exact Ad hc hk ha h1 hz hh (u7 W (su.sub (Wg _) ⇑0)) fin
def Mg(M:Array Keyed->Array Keyed->StateT SortSt Sem (Array Keyed))(u v:Array Nat):Prop:=∀(Q:Array Keyed->SortSt->Prop)(p:Array Nat)(pd:Array (Nat × Nat × Nat))(g:Nat)(W:WO lt)(hc:yg prog w A s κ f lt N)(hu:Al N u)(hv:Al N v)(u1:1<=u.size)(v1:1<=v.size)(su:dK lt u 0 u.size)(sv:dK lt v 0 v.size)
  (h0:∀y∈u.toList,lt y (v.getD 0 0)=f?) (hl:∀y∈v.toList,lt (u.getD (u.size - 1) 0) y=f?)
  (fin:∀o g',Gd f (pz lt) (u.toList++v.toList) o->Q o (St κ f p pd g')),wpS (model prog w) A E s (M (u.map f) (v.map f)) Q (St κ f p pd g)
end
namespace lo
def c:=M.uA ⟨(#[],#[])⟩ λx=>Mg kZ x.1 x.2
def u:=c.1
def v:=c.2
def t:Mg kZ u v:=by
 intro Q p pd g W hc hu hv u1 v1 su sv h0 hl fin;generalize ea:u.map f=a;generalize eb:v.map f=b;have sa:a.size=u.size:=by rw[<- ea,Xd]
 have sb:b.size=v.size:=by rw[<- eb,Xd]
 refine wpS_bind (wpS_lift (wpAny_rule ⟨rfl,?_⟩));refine wpS_bind (iZ eb v1 ?_);dsimp only;generalize hT:u.toList++v.toList=T at fin;have h1:Iv f (pz lt) T u v #[f (v.getD 0 0)] 0 1:=by
  have z:Iv f (pz lt) T v u #[] 0 0:=⟨#[],⋯,by rw[<- hT];simpa using Zo,⋯,⋯,⇑(u9 sv),⇑(u9 su)⟩;exact(z.Ae v1 λy hy=>h0 y ⇑hy).swap
 have hl':∀{ib},∀y∈v.toList.drop ib,pz lt y (u.getD (u.size - 1) 0):=λy hy=>hl y (aa2 hy)
 refine w_eq sb (λe=>wpS_pure (fin _ _ (h1.dn ea eb e))) λe1=>?_
 refine w_eq sa (λe=>wpS_pure (fin _ _ (h1.la ea eb e hl'))) λe2=>?_
 refine wpS_bind (wpS_get ?_);refine p5 (λi c st=>∃out ia ib mg g',c=(n?,out,ia,ib,mg)/\st=St κ f p pd g'/\Iv f (pz lt) T u v out ia ib/\ia+1<u.size/\ib<v.size/\i+1<=ia+ib)
  (λc st=>∃r x g',c=(s? r,x)/\st=St κ f p pd g'/\Gd f (pz lt) T r) ⟨_,0,1,_,g,rfl,rfl,h1,⇑0,⇑0,⇑0⟩ ?_ ?_ ?_
 rotate_left
 ·intro f' V0 hf hd0 Pl i c st _ hi br
  obtain⟨out,ia,ib,mg,g1,bM,bS,hI,b1,b2,b3⟩:=br;subst bM bS;refine cN (hf _ _) ?_;clear hf;dsimp only;refine p5 (λj c st=>∃out ia ib ac bc,c=(n?,out,ia,ib,ac,bc)/\st=St κ f p pd g1/\Iv f (pz lt) T u v out ia ib/\ia+1<u.size/\ib<v.size/\i+1+j<=ia+ib)
   (λc st=>st=St κ f p pd g1/\((∃r x,c=(s? r,x)/\Gd f (pz lt) T r)\/∃out ia ib ac bc,c=(n?,out,ia,ib,ac,bc)/\Iv f (pz lt) T u v out ia ib/\ia+1<u.size/\ib<v.size/\i+2<=ia+ib)) ⟨out,ia,ib,0,0,rfl,rfl,hI,b1,b2,b3⟩ ?_ ?_ ?_
  rotate_left
  ·intro f' V hf hd hy j c st _ hj br
   obtain⟨out,ia,ib,ac,bc,bM,bS,hI,b1,b2,b3⟩:=br;subst bM bS;refine cN (hf _ _) ?_;clear hf;dsimp only;have qO:ia<u.size:=by omega
   refine wpS_bind (iZ eb b2 (wpS_bind (iZ ea qO (wpS_bind (Ac hc rfl (hv _ b2) (hu _ qO) ?_)))));dsimp only;cases e:lt (v.getD ib 0) (u.getD ia 0) with
   |true=>
    have hI:=(hI.swap.Ae b2 λy hy=>W.tr _ _ _ (W.kY _ _ e) (wK W su hy)).swap;refine wpS_bind (iZ eb b2 ?_);exact w_eq sb (λz=>wpS_pure (hd _ _ _ ⟨rfl,.inl ⟨_,_,rfl,hI.dn ea eb z⟩⟩)) λz=>iY (λ_=>wpS_pure (hd _ _ _ ⟨rfl,.inr ⟨_,_,_,_,_,rfl,hI,b1,⇑0,⇑0⟩⟩)) λ_=>wpS_pure (hy _ _ _ ⟨_,_,_,_,_,rfl,rfl,hI,b1,⇑0,⇑0⟩)
   |false=>
    have hI:=hI.Ae qO λy hy=>W.tr _ _ _ e (wK W sv hy)
    refine wpS_bind (iZ ea qO ?_);exact w_eq sa (λz=>wpS_pure (hd _ _ _ ⟨rfl,.inl ⟨_,_,rfl,hI.la ea eb z hl'⟩⟩)) λz=>iY (λ_=>wpS_pure (hd _ _ _ ⟨rfl,.inr ⟨_,_,_,_,_,rfl,hI,⇑0,b2,⇑0⟩⟩)) λ_=>wpS_pure (hy _ _ _ ⟨_,_,_,_,_,rfl,rfl,hI,⇑0,b2,⇑0⟩)
  ·intro k' hk c st br
   rcases br with⟨e1,⟨r,x,e2,hr⟩|⟨out,ia,ib,ac,bc,e2,hI,b1,b2,b3⟩⟩
   ·subst e1 e2
    exact cN (hk _) (wpS_pure (hd0 _ _ _ ⟨r,_,g1,rfl,rfl,hr⟩))
   subst e1 e2;refine cN (hk _) ?_;clear hk;dsimp only;refine wpS_bind (wpS_lift (wpAny_rule ⟨rfl,?_⟩));refine p5 (λj c st=>∃out ia ib mg ac bc g',c=(n?,out,ia,ib,mg,ac,bc)/\st=St κ f p pd g'/\Iv f (pz lt) T u v out ia ib/\ia+1<u.size/\ib<v.size/\i+2<=ia+ib)
    (λc st=>∃g',st=St κ f p pd g'/\((∃r x,c=(s? r,x)/\Gd f (pz lt) T r)\/∃out ia ib mg ac bc,c=(n?,out,ia,ib,mg,ac,bc)/\Iv f (pz lt) T u v out ia ib/\ia+1<u.size/\ib<v.size/\i+2<=ia+ib)) ⟨out,ia,ib,_,ac,bc,g1,rfl,rfl,hI,b1,b2,b3⟩ ?_ ?_ ?_
   rotate_left
   ·clear hI b1 b2 b3
    intro f' V hf hd hy j c st _ hj br;obtain⟨out,ia,ib,mg,ac,bc,g',bM,bS,hI,b1,b2,b3⟩:=br;subst bM bS;refine cN (hf _ _) ?_;clear hf;dsimp only;apply share1 (M:=model prog w) (C:=λ(_:Nat)st=>st=St κ f p pd g')
    ·intro key
     refine iY (λ_=>?_) (λ_=>?_)
     rotate_left
     ·generalize mg=x;exact key x _ rfl
     ·exact key _ _ rfl
    ·rintro mg _ rfl
     refine wpS_bind (wpS_modify ?_);refine wpS_bind (iZ eb b2 ?_);have qO:ia<u.size:=by omega
     refine wpS_bind (Dy ea W hc rfl hu (hv _ b2) ⇑0 ⇑0 su λk lX lR Fh=>?_);dsimp only;have sW:=hI.ext (k:=k) ea λj hj _ y hy=>W.tr _ _ _ (by simpa[bv] using lR j hj) (wK W sv hy)
     have low:∀y∈u.toList.drop (ia+k),lt y (v.getD ib 0)=f?:=λy hy=>by
      obtain⟨j,hj,rfl⟩:=u6 hy;have:=Fh (k+j) ⇑0 ⇑0
      simp only[bv,Ws,if_false,Bool.not_eq_false']at this;have:=W.kY _ _ this
      simpa[bq,XI] using this
     apply qN (M:=model prog w) (C:=λ(out:Array Keyed)(ia:Nat)st=>(∃g',st=St κ f p pd g')/\Iv f (pz lt) T u v out ia ib/\ia+1<u.size/\i+2<=ia+ib/\∀y∈u.toList.drop ia,lt y (v.getD ib 0)=f?)
     ·intro key
      refine iY (λz=>?_) (λz=>?_)
      rotate_left
      ·have k0:ia+k=ia:=by omega
       rw[k0]at low;generalize ho:out=out';generalize hi':ia=Tp;exact key out' Tp _ ⟨⟨_,rfl⟩,by rw[<- ho,<- hi'];exact hI,⇑0,⇑0,by rw[<- hi'];exact low⟩
      ·refine w_eq sa (λz=>wpS_pure (hd _ _ _ ⟨_,rfl,.inl ⟨_,_,rfl,sW.la ea eb z hl'⟩⟩)) λz=>?_
       refine w_eq sa (λz=>wpS_pure (hd _ _ _ ⟨_,rfl,.inl ⟨_,_,rfl,sW.Kk ea eb z⟩⟩)) λz=>?_
       exact key _ _ _ ⟨⟨_,rfl⟩,sW,⇑0,⇑0,low⟩
     ·clear hI sW low b1 b3 qO lX lR Fh
      intro out ia Pm br;refine M.gK λ_ n9=>?_
      obtain⟨⟨g2,e1⟩,hI,b1,b3,low⟩:=br;refine n9 ?_;clear n9;subst e1;refine wpS_bind (iZ eb b2 ?_);have hI:=(hI.swap.Ae b2 low).swap
      refine w_eq sb (λz=>wpS_pure (hd _ _ _ ⟨_,rfl,.inl ⟨_,_,rfl,hI.dn ea eb z⟩⟩)) λz=>?_
      have qO:ia<u.size:=by omega
      refine wpS_bind (iZ ea qO ?_);refine wpS_bind (Dy eb W hc rfl hv (hu _ qO) ⇑0 ⇑0 sv λk2 lX lR Fh=>?_);dsimp only;have sW:=(hI.swap.ext (k:=k2) eb λj hj _ y hy=>W.tr _ _ _ (W.kY _ _ (by simpa[bv] using lR j hj)) (wK W su hy)).swap
      have low:∀y∈v.toList.drop (ib+1+k2),lt y (u.getD ia 0)=f?:=λy hy=>by
       obtain⟨j,hj,rfl⟩:=u6 hy;have:=Fh (k2+j) ⇑0 ⇑0
       simp only[bv,if_true]at this;simpa[bq,XI] using this
      apply qN (M:=model prog w) (C:=λ(out:Array Keyed)(ib:Nat)st=>(∃g',st=St κ f p pd g')/\Iv f (pz lt) T u v out ia ib/\ib<v.size/\i+2<=ia+ib/\∀y∈v.toList.drop ib,lt y (u.getD ia 0)=f?)
      ·intro key
       refine iY (λz=>?_) (λz=>?_)
       rotate_left
       ·have k0:ib+1+k2=ib+1:=by omega
        rw[k0]at low;generalize ho:out.push (f (v.getD ib 0))=out';generalize hi':ib+1=Tq;exact key out' Tq _ ⟨⟨_,rfl⟩,by rw[<- ho,<- hi'];exact hI,⇑0,⇑0,by rw[<- hi'];exact low⟩
       ·refine w_eq sb (λz=>wpS_pure (hd _ _ _ ⟨_,rfl,.inl ⟨_,_,rfl,sW.dn ea eb z⟩⟩)) λz=>?_
        exact key _ _ _ ⟨⟨_,rfl⟩,sW,⇑0,⇑0,low⟩
      ·clear hI sW low
       intro out ib Pm br;refine M.gK λ_ n9=>?_
       obtain⟨⟨g2,e1⟩,hI,c2,c3,low⟩:=br;refine n9 ?_;clear n9;subst e1;refine wpS_bind (iZ ea qO ?_);have hI:=hI.Ae qO low
       refine w_eq sa (λz=>wpS_pure (hd _ _ _ ⟨_,rfl,.inl ⟨_,_,rfl,hI.la ea eb z hl'⟩⟩)) λz=>?_
       exact iY (λ_=>wpS_pure (hd _ _ _ ⟨_,rfl,.inr ⟨_,_,_,_,_,_,rfl,hI,⇑0,c2,⇑0⟩⟩)) λ_=>wpS_pure (hy _ _ _ ⟨_,_,_,_,_,_,_,rfl,rfl,hI,⇑0,c2,⇑0⟩)
   ·intro k' hk c st br
    rcases br with⟨g',e1,⟨r,x,e2,hr⟩|⟨out,ia,ib,mg,ac,bc,e2,hI,b1,b2,b3⟩⟩
    ·subst e1 e2
     exact cN (hk _) (wpS_pure (hd0 _ _ _ ⟨r,_,g',rfl,rfl,hr⟩))
    ·subst e1 e2
     exact cN (hk _) (wpS_bind (wpS_modify (wpS_pure (Pl _ _ _ ⟨_,_,_,_,_,rfl,rfl,hI,b1,b2,b3⟩))))
   ·intro c st br
    obtain⟨out,ia,ib,mg,ac,bc,g',bM,bS,hI,b1,b2,b3⟩:=br;subst bM bS;exact⟨g',rfl,.inr ⟨_,_,_,_,_,_,rfl,hI,b1,b2,b3⟩⟩
  ·intro c st br
   obtain⟨out,ia,ib,ac,bc,bM,bS,hI,b1,b2,b3⟩:=br;subst bM bS;exact⟨rfl,.inr ⟨_,_,_,_,_,rfl,hI,b1,b2,⇑0⟩⟩
 ·intro k' hk c st br
  obtain⟨r,x,g',bM,bS,hr⟩:=br;subst bM bS;exact cN (hk _) (wpS_pure (fin r g' hr))
 ·intro c st br
  obtain⟨out,ia,ib,mg,g',bM,bS,hI,b1,b2,b3⟩:=br;subst bM bS;omega
end lo
def Pn(u v:Array Nat):Mg kZ u v:=M.cW (P:=λx=>Mg kZ x.1 x.2) lo.t (u,v)
end Ts
namespace Ts
open PySem PySem.W PySem.Calls PyProof.Rows
section
variable{r:Nat->Nat->Prop}{T:List Nat}{u v:Array Nat}{a b:Array Keyed}{ia ib k:Nat}{out:Array Keyed}
def Ih(f:Nat->Keyed)(r:Nat->Nat->Prop)(T:List Nat)(u v:Array Nat)(out:Array Keyed)(ia ib:Nat):Prop:=∃o:Array Nat,out=o.map f/\J r T (u.toList.take ia).reverse (v.toList.take ib).reverse o.toList
theorem Ih.swap(h:Ih f r T u v out ia ib):Ih f r T v u out ib ia:=let ⟨o,e,h⟩:=h;⟨o,e,h.swap⟩
def Ih.ext(ea:u.map f=a)(h:Ih f r T u v out ia ib)(hk:k<=ia)(hi:ia<=u.size)(hC:∀j,k<=j->j<ia->∀y∈(v.toList.take ib).reverse,r (bq u 0 j) y):Ih f r T u v (out++(a.extract k ia).reverse) k ib:=by
 subst ea;obtain⟨o,rfl,h⟩:=h;have e1:(u.extract k ia).toList=(u.toList.drop k).take (ia - k):=by simp[XC]
 have e2:(u.toList.take ia).reverse=(u.extract k ia).toList.reverse++(u.toList.take k).reverse:=by
  rw[<- Ym,e1];congr 1;rw[show ia=k+(ia - k) by omega,aat,show k+(ia - k) - k=ia - k by omega]
 rw[e2]at h;have z:=h.chunk λx hx y hy=>by
  rw[Yp,e1]at hx;obtain⟨j,h1,h2,rfl⟩:=j0 hx;have:=hC (k+j) ⇑0 ⇑0 y hy
  simpa[bq] using this
 exact⟨o++(u.extract k ia).reverse,by simp[Array.map_reverse],⇑z⟩
def Ih.Ae(h:Ih f r T u v out ia ib)(h1:1<=ia)(hi:ia<=u.size)(hC:∀y∈(v.toList.take ib).reverse,r (u.getD (ia - 1) 0) y):Ih f r T u v (out.push (f (u.getD (ia - 1) 0))) (ia - 1) ib:=by
 obtain⟨o,rfl,h⟩:=h;have e2:(u.toList.take ia).reverse=[u.getD (ia - 1) 0]++(u.toList.take (ia - 1)).reverse:=by
  have e:=n6 (u:=u) (i:=ia - 1) ⇑0;have:u.toList.take ia=u.toList.take (ia - 1)++[u.getD (ia - 1) 0]:=by
   rw[<- e,<- aat,show ia - 1+1=ia by omega]
  rw[this,Ym];rfl
 rw[e2]at h;have z:=h.chunk λx hx y hy=>by
  rw[Wb.mp hx];exact hC y hy
 exact⟨o.push (u.getD (ia - 1) 0),⋯,⇑z⟩
def xt{α:Type}(u:Array α)(i:Nat):(u.extract 0 i).toList=u.toList.take i:=by rw[aa1,XC];simp
def Fi{l:Array Nat}{O:List Nat}{s:Nat->Nat->Prop}(e:l.toList.reverse=O)(h1:O.Pairwise r)(h2:O.Perm T)(hs:∀x y,r x y->s y x)(eo:out=l.map f):Gd f s T out:=by
 subst e;refine⟨l,eo,?_,(aam _).symm.trans h2⟩;rw[aaS]at h1;exact h1.imp λh=>hs _ _ h
def Ih.dn{s:Nat->Nat->Prop}(hs:∀x y,r x y->s y x)(ea:u.map f=a)(eb:v.map f=b)(h:Ih f r T u v out ia ib)(e:ib=0):Gd f s T (a.extract 0 ia++b.extract 0 ib++out.reverse):=by
 subst ea eb e;obtain⟨o,rfl,h⟩:=h;rw[List.take_zero,List.reverse_nil]at h;obtain⟨h1,h2⟩:=h.all;exact Fi (l:=u.extract 0 ia++o.reverse) (by rw[Xx,xt,Ym,aa3,aa4]) h1 h2 hs ⋯
def Ih.Kk{s:Nat->Nat->Prop}(hs:∀x y,r x y->s y x)(ea:u.map f=a)(eb:v.map f=b)(h:Ih f r T u v out ia ib)(e:ia=0):Gd f s T (a.extract 0 ia++b.extract 0 ib++out.reverse):=by
 have z:=Ih.dn hs eb ea h.swap e;subst e;simpa using z
def Ih.fb{s:Nat->Nat->Prop}(hs:∀x y,r x y->s y x)(ea:u.map f=a)(eb:v.map f=b)(h:Ih f r T u v out ia ib)(v1:1<=v.size)(e:ib=1)(hz:∀y∈(u.toList.take ia).reverse,r y (v.getD 0 0)):Gd f s T (b.extract 0 ib++a.extract 0 ia++out.reverse):=by
 subst ea eb e;obtain⟨o,rfl,h⟩:=h;have e1:(v.toList.take 1).reverse=[v.getD 0 0]:=by
  have:=n6 (u:=v) (i:=0) ⇑0;rw[List.drop_zero]at this;rw[this];rfl
 rw[e1]at h;obtain⟨h1,h2⟩:=h.swap.last hz;refine Fi (l:=v.extract 0 1++u.extract 0 ia++o.reverse) ?_ h1 h2 hs ⋯;rw[Xx,Xx,xt,xt,Ym,Ym,aa3,aa4,e1,We]
end
section
variable          {p u v:Array Nat} {pd:Array (Nat × Nat × Nat)} {g:Nat}
def wL(W:WO lt)(su:dK lt u 0 u.size){m y:Nat}(h:y∈(u.toList.take m).reverse)(hm:m<=u.size):lt (u.getD (m - 1) 0) y=f?:=by
 rw[Yp]at h;obtain⟨j,h1,h2,rfl⟩:=j0 (i:=0) h;by_cases e:j=m - 1
 ·subst e;simpa[bq] using W.Cu _
 ·have:=su j (m - 1) ⇑0 ⇑0
  simpa[bq] using this
abbrev yT(lt:Nat->Nat->Bool)(x y:Nat):Prop:=lt x y=f?
end
namespace hi
def c:=M.uA ⟨(#[],#[])⟩ λx=>Mg lh x.1 x.2
def u:=c.1
def v:=c.2
def t:Mg lh u v:=by
 intro Q p pd g W hc hu hv u1 v1 su sv h0 hl fin;generalize ea:u.map f=a;generalize eb:v.map f=b;have sa:a.size=u.size:=by rw[<- ea,Xd]
 have sb:b.size=v.size:=by rw[<- eb,Xd]
 have hs:∀x y,yT lt x y->pz lt y x:=λ_ _ h=>h
 refine wpS_bind (wpS_lift (wpAny_rule ⟨rfl,?_⟩));refine wpS_bind (iZ ea ⇑0 ?_);dsimp only;generalize hT:u.toList++v.toList=T at fin;rw[sa];have h1:Ih f (yT lt) T u v #[f (u.getD (u.size - 1) 0)] (u.size - 1) v.size:=by
  have pw:∀{u:Array Nat},dK lt u 0 u.size->(u.toList.take u.size).reverse.Pairwise (yT lt):=λ{u}su=>by
   rw[WE ⋯,aaS];exact u9 su
  have z:Ih f (yT lt) T u v #[] u.size v.size:=⟨#[],⋯,by rw[<- hT,WE ⋯,WE ⋯];exact(aam _).append (aam _),⋯,⋯,pw su,pw sv⟩;exact z.Ae u1 (V3 _) λy hy=>hl y (WQ (Yp.mp hy))
 have hl':∀{ia},∀y∈(u.toList.take ia).reverse,yT lt y (v.getD 0 0):=λy hy=>h0 y (WQ (Yp.mp hy))
 refine w_eq rfl (λe=>wpS_pure (fin _ _ (sb ▸ h1.Kk hs ea eb e))) λe1=>?_
 refine w_eq rfl (λe=>wpS_pure (fin _ _ (sb ▸ h1.fb hs ea eb v1 (sb ▸ e) hl'))) λe2=>?_
 refine wpS_bind (wpS_get ?_);refine p5 (λi c st=>∃na nb out mg g',c=(n?,na,nb,out,mg)/\st=St κ f p pd g'/\Ih f (yT lt) T u v out na nb/\1<=na/\na<=u.size/\2<=nb/\nb<=v.size/\i+1+na+nb<=u.size+v.size)
  (λc st=>∃r x g',c=(s? r,x)/\st=St κ f p pd g'/\Gd f (pz lt) T r) ⟨_,_,_,_,g,rfl,rfl,sb ▸ h1,⇑0,⇑0,⇑0,⇑0,⇑0⟩ ?_ ?_ ?_
 rotate_left
 ·intro f' V0 hf hd0 Pl i c st _ hi br
  obtain⟨na,nb,out,mg,g1,bM,bS,hI,b1,pK,b2,qP,b3⟩:=br;subst bM bS;refine cN (hf _ _) ?_;clear hf;dsimp only;refine p5 (λj c st=>∃na nb out ac bc,c=(n?,na,nb,out,ac,bc)/\st=St κ f p pd g1/\Ih f (yT lt) T u v out na nb/\1<=na/\na<=u.size/\2<=nb/\nb<=v.size/\i+1+j+na+nb<=u.size+v.size)
   (λc st=>st=St κ f p pd g1/\((∃r x,c=(s? r,x)/\Gd f (pz lt) T r)\/∃na nb out ac bc,c=(n?,na,nb,out,ac,bc)/\Ih f (yT lt) T u v out na nb/\1<=na/\na<=u.size/\2<=nb/\nb<=v.size/\i+2+na+nb<=u.size+v.size)) ⟨na,nb,out,0,0,rfl,rfl,hI,b1,pK,b2,qP,b3⟩ ?_ ?_ ?_
  rotate_left
  ·intro f' V hf hd hy j c st _ hj br
   obtain⟨na,nb,out,ac,bc,bM,bS,hI,b1,pK,b2,qP,b3⟩:=br;subst bM bS;refine cN (hf _ _) ?_;clear hf;dsimp only;have qO:na - 1<u.size:=by omega
   have HN:nb - 1<v.size:=by omega
   refine wpS_bind (iZ eb HN (wpS_bind (iZ ea qO (wpS_bind (Ac hc rfl (hv _ HN) (hu _ qO) ?_)))));dsimp only;cases e:lt (v.getD (nb - 1) 0) (u.getD (na - 1) 0) with
   |true=>
    have hI:=hI.Ae b1 pK λy hy=>W.tr _ _ _ (wL W sv hy qP) (W.kY _ _ e)
    refine wpS_bind (iZ ea qO ?_);exact w_eq rfl (λz=>wpS_pure (hd _ _ _ ⟨rfl,.inl ⟨_,_,rfl,hI.Kk hs ea eb z⟩⟩)) λz=>iY (λ_=>wpS_pure (hd _ _ _ ⟨rfl,.inr ⟨_,_,_,_,_,rfl,hI,⇑0,⇑0,b2,qP,⇑0⟩⟩)) λ_=>wpS_pure (hy _ _ _ ⟨_,_,_,_,_,rfl,rfl,hI,⇑0,⇑0,b2,qP,⇑0⟩)
   |false=>
    have hI:=(hI.swap.Ae ⇑0 qP λy hy=>W.tr _ _ _ (wL W su hy pK) e).swap;refine wpS_bind (iZ eb HN ?_);exact w_eq rfl (λz=>wpS_pure (hd _ _ _ ⟨rfl,.inl ⟨_,_,rfl,hI.fb hs ea eb v1 z hl'⟩⟩)) λz=>iY (λ_=>wpS_pure (hd _ _ _ ⟨rfl,.inr ⟨_,_,_,_,_,rfl,hI,b1,pK,⇑0,⇑0,⇑0⟩⟩)) λ_=>wpS_pure (hy _ _ _ ⟨_,_,_,_,_,rfl,rfl,hI,b1,pK,⇑0,⇑0,⇑0⟩)
  ·intro k' hk c st br
   rcases br with⟨e1,⟨r,x,e2,hr⟩|⟨na,nb,out,ac,bc,e2,hI,b1,pK,b2,qP,b3⟩⟩
   ·subst e1 e2
    exact cN (hk _) (wpS_pure (hd0 _ _ _ ⟨r,_,g1,rfl,rfl,hr⟩))
   subst e1 e2;refine cN (hk _) ?_;clear hk;dsimp only;refine wpS_bind (wpS_lift (wpAny_rule ⟨rfl,?_⟩));refine p5 (λj c st=>∃na nb out mg ac bc g',c=(n?,na,nb,out,mg,ac,bc)/\st=St κ f p pd g'/\Ih f (yT lt) T u v out na nb/\1<=na/\na<=u.size/\2<=nb/\nb<=v.size/\i+2+na+nb<=u.size+v.size)
    (λc st=>∃g',st=St κ f p pd g'/\((∃r x,c=(s? r,x)/\Gd f (pz lt) T r)\/∃na nb out mg ac bc,c=(n?,na,nb,out,mg,ac,bc)/\Ih f (yT lt) T u v out na nb/\1<=na/\na<=u.size/\2<=nb/\nb<=v.size/\i+2+na+nb<=u.size+v.size)) ⟨na,nb,out,_,ac,bc,g1,rfl,rfl,hI,b1,pK,b2,qP,b3⟩ ?_ ?_ ?_
   rotate_left
   ·clear hI b1 pK b2 qP b3
    intro f' V hf hd hy j c st _ hj br;obtain⟨na,nb,out,mg,ac,bc,g',bM,bS,hI,b1,pK,b2,qP,b3⟩:=br;subst bM bS;refine cN (hf _ _) ?_;clear hf;dsimp only;apply share1 (M:=model prog w) (C:=λ(_:Nat)st=>st=St κ f p pd g')
    ·intro key
     refine iY (λ_=>?_) (λ_=>?_)
     rotate_left
     ·generalize mg=x;exact key x _ rfl
     ·exact key _ _ rfl
    ·rintro mg _ rfl
     refine wpS_bind (wpS_modify ?_);have HN:nb - 1<v.size:=by omega
     refine wpS_bind (iZ eb HN ?_);refine wpS_bind (Dy ea W hc rfl hu (hv _ HN) ⇑0 ⇑0 su λk lX lR Fh=>?_);dsimp only;have sW:=hI.ext (k:=k) ea lX pK λj Lg Lh y hy=>by
      have:=Fh j Lg Lh;simp only[bv,Ws,if_false,Bool.not_eq_false']at this;exact W.tr _ _ _ (wL W sv hy qP) (W.kY _ _ this)
     have low:∀y∈(u.toList.take k).reverse,lt (v.getD (nb - 1) 0) y=f?:=λy hy=>by
      obtain⟨j,hj,_,rfl⟩:=j0 (i:=0) (Yp.mp hy);simpa[bv] using lR j hj
     generalize hx:na - k=x';apply qN (M:=model prog w) (C:=λ(na:Nat)(out:Array Keyed)st=>(∃g',st=St κ f p pd g')/\Ih f (yT lt) T u v out na nb/\1<=na/\na<=u.size/\i+2+na+nb<=u.size+v.size/\∀y∈(u.toList.take na).reverse,lt (v.getD (nb - 1) 0) y=f?)
     ·intro key
      refine iY (λz=>?_) (λz=>?_)
      rotate_left
      ·have k0:k=na:=by omega
       rw[k0]at low;generalize ho:out=out';generalize hi':na=Tr;exact key Tr out' _ ⟨⟨_,rfl⟩,by rw[<- ho,<- hi'];exact hI,⇑0,⇑0,⇑0,by rw[<- hi'];exact low⟩
      ·refine w_eq rfl (λz=>wpS_pure (hd _ _ _ ⟨_,rfl,.inl ⟨_,_,rfl,sW.Kk hs ea eb z⟩⟩)) λz=>?_
       exact key _ _ _ ⟨⟨_,rfl⟩,sW,⇑0,⇑0,⇑0,low⟩
     ·clear hI sW low
      intro na out Pm br;refine M.gK λ_ n9=>?_
      obtain⟨⟨g2,e1⟩,hI,b1,pK,b3,low⟩:=br;refine n9 ?_;clear n9;subst e1;refine wpS_bind (iZ eb HN ?_);have hI:=(hI.swap.Ae ⇑0 qP low).swap
      refine w_eq rfl (λz=>wpS_pure (hd _ _ _ ⟨_,rfl,.inl ⟨_,_,rfl,hI.fb hs ea eb v1 z hl'⟩⟩)) λz=>?_
      have qO:na - 1<u.size:=by omega
      refine wpS_bind (iZ ea qO ?_);refine wpS_bind (Dy eb W hc rfl hv (hu _ qO) ⇑0 ⇑0 sv λk2 lX lR Fh=>?_);dsimp only;have sW:=(hI.swap.ext (k:=k2) eb lX ⇑0 λj Lg Lh y hy=>W.tr _ _ _ (wL W su hy pK) (by simpa[bv] using Fh j Lg Lh)).swap
      have low:∀y∈(v.toList.take k2).reverse,lt (u.getD (na - 1) 0) y=f?:=λy hy=>by
       obtain⟨j,hj,_,rfl⟩:=j0 (i:=0) (Yp.mp hy);exact W.kY _ _ (by simpa[bv] using lR j hj)
      generalize Vu:nb - 1 - k2=x2;apply qN (M:=model prog w) (C:=λ(nb:Nat)(out:Array Keyed)st=>(∃g',st=St κ f p pd g')/\Ih f (yT lt) T u v out na nb/\2<=nb/\nb<=v.size/\i+2+na+nb<=u.size+v.size/\∀y∈(v.toList.take nb).reverse,lt (u.getD (na - 1) 0) y=f?)
      ·intro key
       refine iY (λz=>?_) (λz=>?_)
       rotate_left
       ·have k0:k2=nb - 1:=by omega
        rw[k0]at low;generalize ho:out.push (f (v.getD (nb - 1) 0))=out';generalize hi':nb - 1=Tt;exact key Tt out' _ ⟨⟨_,rfl⟩,by rw[<- ho,<- hi'];exact hI,⇑0,⇑0,⇑0,by rw[<- hi'];exact low⟩
       ·refine w_eq rfl (λz=>wpS_pure (hd _ _ _ ⟨_,rfl,.inl ⟨_,_,rfl,sW.fb hs ea eb v1 z hl'⟩⟩)) λz=>?_
        refine w_eq rfl (λz=>wpS_pure (hd _ _ _ ⟨_,rfl,.inl ⟨_,_,rfl,sW.dn hs ea eb z⟩⟩)) λz=>?_
        exact key _ _ _ ⟨⟨_,rfl⟩,sW,⇑0,⇑0,⇑0,low⟩
      ·clear hI sW low
       intro nb out Pm br;refine M.gK λ_ n9=>?_
       obtain⟨⟨g2,e1⟩,hI,c2,RD,c3,low⟩:=br;refine n9 ?_;clear n9;subst e1;refine wpS_bind (iZ ea qO ?_);have hI:=hI.Ae b1 pK low
       refine w_eq rfl (λz=>wpS_pure (hd _ _ _ ⟨_,rfl,.inl ⟨_,_,rfl,hI.Kk hs ea eb z⟩⟩)) λz=>?_
       exact iY (λ_=>wpS_pure (hd _ _ _ ⟨_,rfl,.inr ⟨_,_,_,_,_,_,rfl,hI,⇑0,⇑0,c2,RD,⇑0⟩⟩)) λ_=>wpS_pure (hy _ _ _ ⟨_,_,_,_,_,_,_,rfl,rfl,hI,⇑0,⇑0,c2,RD,⇑0⟩)
   ·intro k' hk c st br
    rcases br with⟨g',e1,⟨r,x,e2,hr⟩|⟨na,nb,out,mg,ac,bc,e2,hI,b1,pK,b2,qP,b3⟩⟩
    ·subst e1 e2
     exact cN (hk _) (wpS_pure (hd0 _ _ _ ⟨r,_,g',rfl,rfl,hr⟩))
    ·subst e1 e2
     exact cN (hk _) (wpS_bind (wpS_modify (wpS_pure (Pl _ _ _ ⟨_,_,_,_,_,rfl,rfl,hI,b1,pK,b2,qP,⇑0⟩))))
   ·intro c st br
    obtain⟨na,nb,out,mg,ac,bc,g',bM,bS,hI,b1,pK,b2,qP,b3⟩:=br;subst bM bS;exact⟨g',rfl,.inr ⟨_,_,_,_,_,_,rfl,hI,b1,pK,b2,qP,b3⟩⟩
  ·intro c st br
   obtain⟨na,nb,out,ac,bc,bM,bS,hI,b1,pK,b2,qP,b3⟩:=br;subst bM bS;exact⟨rfl,.inr ⟨_,_,_,_,_,rfl,hI,b1,pK,b2,qP,⇑0⟩⟩
 ·intro k' hk c st br
  obtain⟨r,x,g',bM,bS,hr⟩:=br;subst bM bS;exact cN (hk _) (wpS_pure (fin r g' hr))
 ·intro c st br
  obtain⟨na,nb,out,mg,g',bM,bS,hI,b1,pK,b2,qP,b3⟩:=br;subst bM bS;omega
end hi
def Po(u v:Array Nat):Mg lh u v:=M.cW (P:=λx=>Mg lh x.1 x.2) hi.t (u,v)
end Ts
namespace Ts
open PySem PySem.W PySem.Calls PyProof.Rows
def wr{α:Type}(s:Nat):∀(l:List α)(j:Nat)(a:Array α),s+j+l.length<=a.size->((l.zipIdx j).foldl (λa x=>a.setIfInBounds (s+x.2) x.1) a).toList=a.toList.take (s+j)++l++a.toList.drop (s+j+l.length):=by
 intro l9;induction l9 with
 |nil=>intro j a _;simp
 |cons x l ih=>
  intro j a h;rw[Yq,XR,ih (j+1) _ (by simp at h⊢;omega)];have hj:s+j<a.toList.length:=by simp at h⊢;omega
  rw[Array.toList_setIfInBounds,show s+(j+1)=s+j+1 by omega,List.take_add_one,abc (V3 _),Yu hj,abd ⇑0];simp[show s+j+1+l.length=s+j+(l.length+1) by omega]
section
variable          {p p':Array Nat} {pd:Array (Nat × Nat × Nat)} {g lo m:Nat}
def sd(l:List Nat)(a b:Nat):(l.drop a).take b++l.drop (a+b)=l.drop a:=by rw[<- X4,XE]
abbrev seg(p:Array Nat)(lo m:Nat):List Nat:=(p.toList.drop lo).take m
def seg_at(h:lo+m<=p.size){i:Nat}(hi:i<m):(seg p lo m)[i]?=s? (bq p lo i):=by
 have h2:lo+i<p.size:=by omega
 simp[seg,bq,List.getElem?_take,hi,XZ,h2]
def dW(h:lo+m<=p.size):(seg p lo m).length=m:=by simp[seg];omega
def jC(h:lo+m<=p.size):dK lt p lo m↔(seg p lo m).Pairwise (pz lt):=by
 rw[YT];have e:∀i(hi:i<(seg p lo m).length),(seg p lo m)[i]=bq p lo i:=λi hi=>by
  have:=seg_at h (i:=i) (by rwa [dW h]at hi);rw[Ge9 hi]at this;exact ZI this
 constructor
 ·intro z i j hi hj kW
  rw[e,e];exact z i j kW (by rwa [dW h]at hj)
 ·intro z i j kW hj
  have:=z i j (by rw[dW h];omega) (by rw[dW h];omega) kW;rwa [e,e]at this
def eY{x:Nat}(h:x∈seg p lo m):∃j,j<m/\lo+j<p.size/\x=bq p lo j:=j0 h
def wM(a b:Nat):seg p lo (a+b)=seg p lo a++seg p (lo+a) b:=by
 unfold seg;rw[aat,X4]
def wN(W:WO lt){a b:Nat}(hz:lo+(a+b)<=p.size)(h1:dK lt p lo a)(h2:dK lt p (lo+a) b)(h:∀i j,i<a->j<b->lt (bq p (lo+a) j) (bq p lo i)=f?):dK lt p lo (a+b):=by
 rw[jC hz,wM,Xr];refine⟨(jC ⇑0).mp h1,(jC ⇑0).mp h2,λx hx y hy=>?_⟩;obtain⟨i,hi,_,rfl⟩:=eY hx;obtain⟨j,hj,_,rfl⟩:=eY hy;exact h i j hi hj
def sX(h:lo+m<=p.size){i:Nat}(hi:i<m):(p.extract lo (lo+m)).getD i 0=bq p lo i:=by
 have h2:lo+i<p.size:=by omega
 have h3:i<(p.extract lo (lo+m)).size:=by simp;omega
 simp[bq,XZ,h2,h3];rw[dif_pos ⇑0]
def n7(h:lo+m<=p.size):(p.extract lo (lo+m)).size=m:=by simp;omega
def wO:(p.extract lo (lo+m)).toList=seg p lo m:=by simp[seg,XC]
def Af(h:lo+m<=p.size)(r:dK lt p lo m):dK lt (p.extract lo (lo+m)) 0 (p.extract lo (lo+m)).size:=λi j kW hj=>by
 rw[n7 h]at hj;show lt (XZ _ (0+j) 0) (XZ _ (0+i) 0)=f?
 rw[aaT,aaT,sX h hj,sX h (YE kW hj)];exact r i j kW hj
def wQ(h:lo+m<=p.size)(ha:Al N p):Al N (p.extract lo (lo+m)):=λi hi=>by
 rw[n7 h]at hi;rw[sX h hi];exact ha _ ⇑0
def Dz{M:Model}{σ:Type}{Q:PUnit->σ->Prop}{x st:σ}(h:Q ⟨⟩ x):wpS M A E s (set x:StateT σ Sem PUnit) Q st:=by
 unfold wpS;rw[StateT.run_set];exact VM ⟨rfl,h⟩
def HO(W:WO lt){sa na nb k n':Nat}{o:List Nat}(hz:sa+na+nb<=p.size)(hk:k<=na)(hn:n'<=nb)(ra:dK lt p sa na)(rb:dK lt p (sa+na) nb)(so:o.Pairwise (pz lt))(po:o.Perm (seg p (sa+k) (na - k)++seg p (sa+na) n'))
  (g1:∀i,i<k->lt (bq p (sa+na) 0) (bq p sa i)=f?) (g2:∀j,n'<=j->j<nb->lt (bq p (sa+na) j) (bq p sa (na - 1))=f?) (n1:1<=na)
  (e:p'.toList=p.toList.take (sa+k)++o++p.toList.drop (sa+k+o.length)):Sm sa (sa+na+nb) p p'/\dK lt p' sa (na+nb):=by
 have ol:o.length=na - k+n':=by
  rw[po.length_eq,VN,dW ⇑0,dW ⇑0]
 have lp:p.toList.length=p.size:=by simp
 have es:seg p (sa+k) (na - k)++seg p (sa+na) n'=seg p (sa+k) (na - k+n'):=by
  rw[wM,show sa+k+(na - k)=sa+na by omega]
 have ep:p.toList=p.toList.take (sa+k)++seg p (sa+k) (na - k+n')++p.toList.drop (sa+k+o.length):=by
  rw[ol,We,sd,XE]
 have pm:p'.toList.Perm p.toList:=by
  rw[e]
  conv=>rhs;rw[ep]
  rw[<- es];exact(po.append_left _).append_right _
 have sz:p'.size=p.size:=by simpa using pm.length_eq
 have e2:p'.toList=p.toList.take sa++((seg p sa k++o++seg p (sa+k+o.length) (nb - n'))++p.toList.drop (sa+na+nb)):=by
  have z1:p.toList.take (sa+k)=p.toList.take sa++seg p sa k:=aat;have z2:p.toList.drop (sa+k+o.length)=seg p (sa+k+o.length) (nb - n')++p.toList.drop (sa+na+nb):=by
   rw[show sa+na+nb=sa+k+o.length+(nb - n') by omega,sd]
  rw[e,z1,z2];simp only[We]
 have l1:(seg p sa k++o++seg p (sa+k+o.length) (nb - n')).length=na+nb:=by
  rw[VN,VN,dW ⇑0,dW ⇑0];omega
 have Pp:seg p' sa (na+nb)=seg p sa k++o++seg p (sa+k+o.length) (nb - n'):=by
  unfold seg;rw[e2,List.drop_left' (by simp;omega),List.take_left' l1]
 refine⟨⟨sz,pm,λx hx=>?_⟩,?_⟩
 ·rw[WB,WB,<- Zn,<- Zn,e2]
  rcases hx with hx|hx
  ·rw[List.getElem?_append_left (by simp;omega),aae hx]
  ·rw[<- We,List.getElem?_append_right (by rw[VN,l1];simp;omega),VN,l1,List.getElem?_drop]
   congr 2;simp;omega
 ·have mem:∀x∈o,(∃j,k<=j/\j<na/\x=bq p sa j)\/∃j,j<n'/\x=bq p (sa+na) j:=λx hx=>by
   rcases VR.mp (po.mem_iff.mp hx) with h|h
   ·obtain⟨j,h1,_,rfl⟩:=eY h
    exact .inl ⟨k+j,⇑0,⇑0,by simp only[bq,XI]⟩
   ·obtain⟨j,h1,_,rfl⟩:=eY h
    exact .inr ⟨j,h1,rfl⟩
  have tl:∀x∈seg p (sa+k+o.length) (nb - n'),∃j,n'<=j/\j<nb/\x=bq p (sa+na) j:=λx hx=>by
   obtain⟨j,h1,_,rfl⟩:=eY hx;exact⟨n'+j,⇑0,⇑0,by simp only[bq];congr 1;omega⟩
  rw[jC ⇑0,Pp,Xr,Xr];refine⟨⟨(jC ⇑0).mp (ra.sub (V3 _) ⇑0),so,λx hx y hy=>?_⟩,(jC ⇑0).mp (rb.sub ⇑0 ⇑0),λx hx y hy=>?_⟩
  ·obtain⟨i,hi,_,rfl⟩:=eY hx
   rcases mem y hy with⟨j,h1,h2,rfl⟩|⟨j,h1,rfl⟩
   ·exact ra.le W ⇑0 h2
   ·exact W.tr _ _ _ (g1 i hi) (rb.le W (Wg _) ⇑0)
  ·obtain⟨j,h1,h2,rfl⟩:=tl y hy
   rcases VR.mp hx with hx|hx
   ·obtain⟨i,hi,_,rfl⟩:=eY hx
    exact W.tr _ _ _ (g1 i hi) (rb.le W (Wg _) h2)
   ·rcases mem x hx with⟨i,h3,h4,rfl⟩|⟨i,h3,rfl⟩
    ·exact W.tr _ _ _ (ra.le W (i:=i) (j:=na - 1) ⇑0 ⇑0) (g2 j h1 h2)
    ·exact rb.le W ⇑0 h2
def Lz{i sa na sb nb pw q:Nat}{Q:Bool->SortSt->Prop}(W:WO lt)(hc:yg prog w A s κ f lt N)(ha:Al N p)(h1:pd[i]?=s? (sa,na,pw))(h2:pd[i+1]?=s? (sb,nb,q))(hs:sb=sa+na)(n1:1<=na)(n2:1<=nb)(hz:sb+nb<=p.size)(ra:dK lt p sa na)(rb:dK lt p sb nb)
  (fin:∀p' g',Sm sa (sb+nb) p p'->dK lt p' sa (na+nb)->Q t? (St κ f p' ((pd.setIfInBounds i (sa,na+nb,pw)).eraseIdxIfInBounds (i+1)) g')):wpS (model prog w) A E s (mergeAt' i) Q (St κ f p pd g):=by
 refine wpS_bind (wpS_get ?_);subst hs;dsimp only;rw[h1,h2];dsimp only;refine wpS_bind (Dz ?_);refine wpS_bind (yi ⇑0 ?_);refine wpS_bind (Ad hc rfl ha (ha _ ⇑0) ⇑0 ⇑0 (u7 W ra) λk k1 k2 k3=>?_);dsimp only;have k2:∀i,i<k->lt (bq p (sa+na) 0) (bq p sa i)=f?:=λi hi=>by simpa[bv] using k2 i hi
 have k3:∀i,k<=i->i<na->lt (bq p (sa+na) 0) (bq p sa i)=t?:=λi hi h2=>by simpa[bv] using k3 i hi h2
 refine w_eq rfl (λz=>wpS_pure (fin p _ (.refl p) (wN W ⇑0 ra rb λi j hi hj=>W.tr _ _ _ (k2 i ⇑0) (rb.le W (Wg _) hj)))) λz=>?_
 refine wpS_bind (yi ⇑0 ?_);rw[show sa+k+(na - k) - 1=sa+(na - 1) by omega];refine wpS_bind (Ad hc rfl ha (ha _ ⇑0) ⇑0 ⇑0 (u7 W rb) λn' m1 m2 m3=>?_);dsimp only;have m2:∀i,i<n'->lt (bq p (sa+na) i) (bq p sa (na - 1))=t?:=m2
 have m3:∀i,n'<=i->i<nb->lt (bq p (sa+na) i) (bq p sa (na - 1))=f?:=m3;refine w_eq rfl (λz=>wpS_pure (fin p _ (.refl p) (wN W ⇑0 ra rb λi j hi hj=>W.tr _ _ _ (ra.le W (i:=i) (j:=na - 1) ⇑0 ⇑0) (m3 j ⇑0 hj)))) λz'=>?_
 have ex:(p.map f).extract (sa+k) (sa+na)=(p.extract (sa+k) (sa+k+(na - k))).map f:=by rw[show sa+k+(na - k)=sa+na by omega,xm]
 rw[ex,xm];have zu:sa+k+(na - k)<=p.size:=by omega
 have zv:sa+na+n'<=p.size:=by omega
 have ru:=Af zu (ra.sub ⇑0 ⇑0);have rv:=Af zv (rb.sub (V3 _) ⇑0)
 have u0:∀y∈(p.extract (sa+k) (sa+k+(na - k))).toList,lt y ((p.extract (sa+na) (sa+na+n')).getD 0 0)=f?:=λy hy=>by
  rw[wO]at hy;obtain⟨j,hj,_,rfl⟩:=eY hy;rw[sX zv ⇑0];have:=W.kY _ _ (k3 (k+j) ⇑0 ⇑0)
  simpa only[bq,XI] using this
 have ul:∀y∈(p.extract (sa+na) (sa+na+n')).toList,lt ((p.extract (sa+k) (sa+k+(na - k))).getD ((p.extract (sa+k) (sa+k+(na - k))).size - 1) 0) y=f?:=λy hy=>by
  rw[wO]at hy;obtain⟨j,hj,_,rfl⟩:=eY hy;rw[n7 zu,sX zu ⇑0];have:=W.kY _ _ (m2 j hj)
  rw[bq,bq,show sa+(na - 1)=sa+k+(na - k - 1) by omega]at this;exact this
 have end_:∀(o:Array Keyed),Gd f (pz lt) ((p.extract (sa+k) (sa+k+(na - k))).toList++(p.extract (sa+na) (sa+na+n')).toList) o->∃p',o.toList.zipIdx.foldl (λa x=>a.setIfInBounds (sa+k+x.2) x.1) (p.map f)=p'.map f/\Sm sa (sa+na+nb) p p'/\dK lt p' sa (na+nb):=λo⟨q,eq,so,po⟩=>by
  subst eq;rw[wO,wO]at po;have ol:q.toList.length=na - k+n':=by
   rw[po.length_eq,VN,dW ⇑0,dW ⇑0]
  refine⟨Yi (p.toList.take (sa+k)++q.toList++p.toList.drop (sa+k+q.toList.length)),?_,HO W hz k1 m1 ra rb so po k2 m3 n1 rfl⟩;apply abr;rw[wr (sa+k) _ 0 _ (by simp at ol ⊢;omega)];simp[XJ,aau]
 refine iY (λ_=>?_) (λ_=>?_)
 ·refine wpS_bind (Pn _ _ _ _ _ _ W hc (wQ zu ha) (wQ zv ha) (by rw[n7 zu];omega) (by rw[n7 zv];omega) ru rv u0 ul λo g' hg=>?_)
  obtain⟨p',e,h3,h4⟩:=end_ o hg;refine wpS_bind (wpS_modify (wpS_bind (wpS_get (wpS_pure ?_))));dsimp only;rw[e];exact fin p' g' h3 h4
 ·refine wpS_bind (Po _ _ _ _ _ _ W hc (wQ zu ha) (wQ zv ha) (by rw[n7 zu];omega) (by rw[n7 zv];omega) ru rv u0 ul λo g' hg=>?_)
  obtain⟨p',e,h3,h4⟩:=end_ o hg;refine wpS_bind (wpS_modify (wpS_bind (wpS_get (wpS_pure ?_))));dsimp only;rw[e];exact fin p' g' h3 h4
end
section
variable          {p p':Array Nat} {pd:Array (Nat × Nat × Nat)} {g lo m:Nat}
def Ch(lt:Nat->Nat->Bool)(p:Array Nat):List (Nat × Nat × Nat)->Nat->Nat->Prop
 | [],a,b=>a=b
 |x::r,a,b=>x.1=a/\1<=x.2.1/\dK lt p a x.2.1/\Ch lt p r (a+x.2.1) b
theorem Ch.len:∀{l:List (Nat × Nat × Nat)}{a b:Nat},Ch lt p l a b->a+l.length<=b
 | [],_,_,h=>Zm h
 |x::r,a,b,h=>by have:=Ch.len h.2.2.2;have:=h.2.1;simp only[VS];omega
theorem Ch.app{r:List (Nat × Nat × Nat)}:∀{l:List (Nat × Nat × Nat)}{a b c:Nat},Ch lt p l a b->Ch lt p r b c->Ch lt p (l++r) a c
 | [],_,_,_,h,k=>by cases h;exact k
 |x::l,a,b,c,h,k=>⟨h.1,h.2.1,h.2.2.1,Ch.app h.2.2.2 k⟩
theorem Ch.cut{r:List (Nat × Nat × Nat)}:∀{l:List (Nat × Nat × Nat)}{a c:Nat},Ch lt p (l++r) a c->∃b,Ch lt p l a b/\Ch lt p r b c
 | [],a,_,h=>⟨a,rfl,h⟩
 |x::l,a,c,h=>let ⟨b,h1,h2⟩:=Ch.cut h.2.2.2;⟨b,⟨h.1,h.2.1,h.2.2.1,h1⟩,h2⟩
def dK.keep{n:Nat}(h:dK lt p lo n)(e:∀k,lo<=k->k<lo+n->p'.getD k 0=p.getD k 0):dK lt p' lo n:=λi j kW hj=>by
 rw[bq,bq,e _ ⇑0 ⇑0,e _ ⇑0 ⇑0];exact h i j kW hj
theorem Ch.keep:∀{l:List (Nat × Nat × Nat)}{a b:Nat},Ch lt p l a b->(∀k,a<=k->k<b->p'.getD k 0=p.getD k 0)->Ch lt p' l a b
 | [],_,_,h,_=>h
 |x::r,a,b,h,e=>by
  have:=h.2.2.2.len;exact⟨h.1,h.2.1,h.2.2.1.keep λk h1 h2=>e k h1 ⇑0,h.2.2.2.keep λk h1 h2=>e k ⇑0 h2⟩
theorem Ch.mod{F:Nat × Nat × Nat->Nat × Nat × Nat}(hF:∀x,(F x).1=x.1/\(F x).2.1=x.2.1):∀{l:List (Nat × Nat × Nat)}{i a b:Nat},Ch lt p l a b->Ch lt p (l.modify i F) a b
 | [],i,_,_,h=>by cases i<;>exact h
 |x::r,0,a,b,h=>by
  show(F x).1=a/\1<=(F x).2.1/\dK lt p a (F x).2.1/\Ch lt p r (a+(F x).2.1) b;rw[(hF x).1,(hF x).2];exact h
 |x::r,i+1,a,b,h=>⟨h.1,h.2.1,h.2.2.1,h.2.2.2.mod hF⟩
def Fj{i e:Nat}{Q:Bool->SortSt->Prop}(W:WO lt)(hc:yg prog w A s κ f lt N)(ha:Al N p)(hz:e<=p.size)(h:Ch lt p pd.toList 0 e)(hi:i+1<pd.size)
  (fin:∀p' Kl g',Sm 0 e p p'->Ch lt p' Kl.toList 0 e->Kl.size+1=pd.size->Q t? (St κ f p' Kl g')):wpS (model prog w) A E s (mergeAt' i) Q (St κ f p pd g):=by
 have e0:pd.toList=pd.toList.take i++(pd[i]::pd[i+1]::pd.toList.drop (i+2)):=by
  have h1:i<pd.toList.length:=by simp;omega
  have h2:i+1<pd.toList.length:=by simp;omega
  conv=>lhs;rw[<- XE i pd.toList,Wz h1,Wz h2]
  rfl
 rw[e0]at h;obtain⟨b,c1,⟨a1,a2,a3,a4,a5,a6,c2⟩⟩:=h.cut;generalize hx:pd[i]=x at *
 generalize hy:pd[i+1]=y at *
 obtain⟨sa,na,pw⟩:=x;obtain⟨sb,nb,q⟩:=y;dsimp only at a1 a2 a3 a4 a5 a6 c2;subst a1 a4;have l2:=c2.len
 refine Lz W hc ha (by rw[VX ⇑0,hx]) (by rw[VX hi,hy]) rfl a2 a5 ⇑0 a3 a6 λp' g' sm r=>?_
 have e1:((pd.setIfInBounds i (sa,na+nb,pw)).eraseIdxIfInBounds (i+1)).toList=pd.toList.take i++((sa,na+nb,pw)::pd.toList.drop (i+2)):=by
  rw[show((pd.setIfInBounds i (sa,na+nb,pw)).eraseIdxIfInBounds (i+1)).toList=(pd.toList.set i (sa,na+nb,pw)).eraseIdx (i+1) by simp[Array.eraseIdxIfInBounds,hi],List.eraseIdx_eq_take_drop_succ,List.take_add_one,abc (V3 _),Yu (by simp;omega),abd ⇑0];simp
 refine fin p' _ g' (sm.mono (Wg _) ⇑0) ?_ (by have:=congrArg Xg e1;rw[Yk]at this;rw[this];simp;omega);rw[e1];exact(c1.keep λk h1 h2=>sm.out k (.inl h2)).app ⟨rfl,by show 1<=na+nb;omega,r,by rw[<- XI];exact c2.keep λk h1 h2=>sm.out k (.inr h1)⟩
def ite_le{c:Prop}[Decidable c]{a b n:Nat}(h1:a<n)(h2:b<n):(if c then a else b)<n:=by split<;>assumption
def HP{Q:Unit->SortSt->Prop}(W:WO lt)(hc:yg prog w A s κ f lt N)(ha:Al N p)(fin:∀p' st,arrOf st=p'.map f->failedOf st=n?->p'.toList.Perm p.toList->dK lt p' 0 p.size->Q () st):wpS (model prog w) A E s sortRuns' Q (St κ f p #[] 7):=by
 rw[sortRuns'_eq];refine wpS_bind (wpS_get ?_);dsimp only;rw[Xd];generalize minRun' p.size p.size 0=mr;refine wpS_bind (wpS_mono (wpS_forRange (I:=λi c st=>∃lo p' pd g,c=(n?,lo)/\st=St κ f p' pd g/\Sm 0 p.size p p'/\Ch lt p' pd.toList 0 lo/\lo<=p.size/\i<=lo)
  (Q:=λc st=>∃p' pd g,c=(n?,p.size)/\st=St κ f p' pd g/\Sm 0 p.size p p'/\Ch lt p' pd.toList 0 p.size) ?_ ?_ ⟨0,p,#[],7,rfl,rfl,.refl p,rfl,Wg _,Wg _⟩) ?_)
 ·intro i c st _ hi br
  refine M.gK λ_ n9=>?_
  obtain⟨lo,q,pd,g,bM,bS,sm,ch,b1,b2⟩:=br;refine n9 ?_;clear n9;subst bM bS;have sz:=sm.sz
  dsimp only;refine iY (λz=>?_) λz=>?_
  ·obtain rfl:lo=p.size:=by omega
   exact wpS_pure ⟨q,pd,g,rfl,rfl,sm,ch⟩
  refine wpS_bind (jB _ _ _ _ _ _ W hc (sm.al ha) ⇑0 ⇑0 λn q1 n1 n2 s1 r1=>?_);dsimp only;have Pq:Ch lt q1 pd.toList 0 lo:=ch.keep λk _ h2=>s1.out k (.inl h2)
  have LA:=sm.trans (s1.mono (Wg _) ⇑0);apply share1 (M:=model prog w) (C:=λ(n:Nat)st=>∃q,st=St κ f q pd g/\Sm 0 p.size p q/\Ch lt q pd.toList 0 lo/\dK lt q lo n/\1<=n/\lo+n<=p.size)
  ·intro key
   refine iY (λz=>?_) (λz=>?_)
   rotate_left
   ·generalize hx:n=x
    exact key x _ ⟨q1,rfl,LA,Pq,hx ▸ r1,hx ▸ n1,⇑0⟩
   ·refine wpS_bind (wpS_lift (wpAny_rule ⟨rfl,?_⟩))
    have Vv:=LA.sz;refine wpS_bind (Ly W hc (LA.al ha) n1 ⇑0 ⇑0 r1 λq2 s2 r2=>?_);exact key _ _ ⟨q2,rfl,LA.trans (s2.mono (Wg _) ⇑0),Pq.keep λk _ h2=>s2.out k (.inl h2),r2,⇑0,⇑0⟩
  ·clear sm ch sz r1 s1 Pq LA
   intro n _ br;refine M.gK λ_ n9=>?_
   obtain⟨q,bM,sm,ch,r1,n1,n2⟩:=br;refine n9 ?_;clear n9;subst bM;have fin2:∀{q:Array Nat}{pd:Array (Nat × Nat × Nat)}{g:Nat},Sm 0 p.size p q->Ch lt q pd.toList 0 lo->dK lt q lo n->∃lo' p' Kl g',((n?,lo+n):Option Unit × Nat)=(n?,lo')/\St κ f q (pd.push (lo,n,0)) g=St κ f p' Kl g'/\Sm 0 p.size p p'/\Ch lt p' Kl.toList 0 lo'/\lo'<=p.size/\i+1<=lo':=λ{q pd g}sm ch r=>by
    refine⟨lo+n,q,_,g,rfl,rfl,sm,?_,n2,⇑0⟩;rw[Array.toList_push];exact ch.app ⟨rfl,n1,r,rfl⟩
   refine wpS_bind (wpS_get ?_);rw[show pendingOf (St κ f q pd g)=pd from rfl];cases hb:pd.back? with
   |none=>exact wpS_bind (wpS_modify (wpS_pure (fin2 sm ch r1)))
   |some x=>
    obtain⟨s1,m1,x2⟩:=x;dsimp only;refine wpS_bind (wpS_mono (wpS_forRange (I:=λ_ c st=>∃q pd g,c=(n?,())/\st=St κ f q pd g/\Sm 0 p.size p q/\Ch lt q pd.toList 0 lo/\dK lt q lo n) (Q:=λc st=>∃q pd g,c=(n?,())/\st=St κ f q pd g/\Sm 0 p.size p q/\Ch lt q pd.toList 0 lo/\dK lt q lo n) ?_ (λ_ _ h=>h) ⟨q,pd,g,rfl,rfl,sm,ch,r1⟩) ?_)
    ·clear hb sm ch r1
     intro j c st _ hj br;refine M.gK λ_ n9=>?_
     obtain⟨q,pd,g,bM,bS,sm,ch,r1⟩:=br;refine n9 ?_;clear n9;subst bM bS;refine wpS_bind (wpS_get ?_);rw[show pendingOf (St κ f q pd g)=pd from rfl];have stop:wpS (model prog w) A E s (pure (ForInStep.done ((n?,()):Option Unit × Unit))) (λr gg=>match r with|.done c'=>∃q pd g,c'=(n?,())/\gg=St κ f q pd g/\Sm 0 p.size p q/\Ch lt q pd.toList 0 lo/\dK lt q lo n|.yield c'=>∃q pd g,c'=(n?,())/\gg=St κ f q pd g/\Sm 0 p.size p q/\Ch lt q pd.toList 0 lo/\dK lt q lo n) (St κ f q pd g):=wpS_pure ⟨q,pd,g,rfl,rfl,sm,ch,r1⟩
     by_cases h1:pd.size > 1
     ·rw[if_pos h1]
      cases hy:pd[pd.size - 2]? with
      |none=>exact stop
      |some y=>
       obtain⟨y1,y2,y3⟩:=y;refine iY (λ_=>stop) λ_=>?_
       have sz:=sm.sz;refine wpS_bind (Fj W hc (sm.al ha) ⇑0 ch ⇑0 λq2 Pt g2 s2 c2 _=>?_);exact wpS_pure ⟨q2,Pt,g2,rfl,rfl,sm.trans (s2.mono (V3 _) ⇑0),c2,r1.keep λk h1 h2=>s2.out k (.inr h1)⟩
     ·rw[if_neg h1]
      exact stop
    ·intro c st br
     refine M.gK λ_ n9=>?_
     obtain⟨q,pd,g,bM,bS,sm,ch,r1⟩:=br;refine n9 ?_;clear n9;subst bM bS;refine wpS_bind (wpS_modify (wpS_bind (wpS_modify (wpS_pure ?_))));refine fin2 sm ?_ r1;rw[Array.toList_modify];refine Ch.mod ?_ ch;exact λx=>⟨rfl,rfl⟩
 ·intro c st br
  refine M.gK λ_ n9=>?_
  obtain⟨lo,q,pd,g,bM,bS,sm,ch,b1,b2⟩:=br;refine n9 ?_;clear n9;subst bM bS;obtain rfl:lo=p.size:=by omega
  exact⟨q,pd,g,rfl,rfl,sm,ch⟩
 ·intro c st br
  refine M.gK λ_ n9=>?_
  obtain⟨q,pd,g,bM,bS,sm,ch⟩:=br;refine n9 ?_;clear n9;subst bM bS;dsimp only;refine wpS_bind (wpS_mono (wpS_forRange (I:=λi c st=>∃q pd g,c=(n?,())/\st=St κ f q pd g/\Sm 0 p.size p q/\Ch lt q pd.toList 0 p.size/\(pd.size<=1\/pd.size+i<=p.size)) (Q:=λc st=>∃q pd g,c=(n?,())/\st=St κ f q pd g/\Sm 0 p.size p q/\Ch lt q pd.toList 0 p.size/\pd.size<=1) ?_ ?_ ⟨q,pd,g,rfl,rfl,sm,ch,.inr (by have:=ch.len;simp at this;omega)⟩) ?_)
  ·clear sm ch
   intro j c st _ hj br;refine M.gK λ_ n9=>?_
   obtain⟨q,pd,g,bM,bS,sm,ch,b⟩:=br;refine n9 ?_;clear n9;subst bM bS;refine wpS_bind (wpS_get ?_);rw[show pendingOf (St κ f q pd g)=pd from rfl];refine iY (λz=>wpS_pure ⟨q,pd,g,rfl,rfl,sm,ch,z⟩) λz=>?_
   have sz:=sm.sz;refine wpS_bind (Fj W hc (sm.al ha) ⇑0 ch (Nat.add_lt_of_lt_sub (ite_le ⇑0 ⇑0)) λq2 Pt g2 s2 c2 l2=>?_);exact wpS_pure ⟨q2,Pt,g2,rfl,rfl,sm.trans s2,c2,⇑0⟩
  ·intro c st br
   refine M.gK λ_ n9=>?_
   obtain⟨q,pd,g,bM,bS,sm,ch,b⟩:=br;refine n9 ?_;clear n9;subst bM bS;exact⟨q,pd,g,rfl,rfl,sm,ch,⇑0⟩
  ·intro c st br
   refine M.gK λ_ n9=>?_
   obtain⟨q,pd,g,bM,bS,sm,ch,b⟩:=br;refine n9 ?_;clear n9;subst bM bS;refine wpS_pure (fin q _ rfl rfl sm.pm ?_);generalize hl:pd.toList=l at ch;have ll:l.length<=1:=by rw[<- hl];simpa using b
   cases l with
   |nil=>
    have e:0=p.size:=ch;exact dK.one ⇑0
   |cons x l=>
    cases l with
    |nil=>
     obtain⟨_,_,h3,h4⟩:=ch;have e:0+x.2.1=p.size:=h4
     rw[show p.size=x.2.1 by omega];exact h3
    |cons y l=>simp at ll
end
end Ts
namespace L2
open PySem PySem.W PySem.Calls PyProof.Rows Ts
def Arr(n:Nat)(p:Array Nat):Prop:=p.size=n/\p.toList.Perm (W9 n)
section
variable{prog:WU}{w:XQ}{A:WY}{E:VT->VY->Prop}{s:VY}
def pL{a:Wr}{vs:List VT}{n:Nat}{κ:SortKind}{lt:Nat->Nat->Bool}{P:PySem.Fin->VY->Prop}(W:WO lt)(ho:s.heap.get? a=s? (seqObj "list" vs.toArray n))(hlen:vs.length<=Wf)
  (hk:2<=vs.length->∀h',(∀b o,b≠a->s.heap.get? b=s? o->h'.get? b=s? o)->∀Q:SortKind->VY->Prop,Q κ {s with heap:=h'}->Wa (model prog w) A (keyKind' vs.toArray) Q (λ_ _=>False) {s with heap:=h'})
  (hc:∀h',(∀b o,b≠a->s.heap.get? b=s? o->h'.get? b=s? o)->∀i j(C:Bool->VY->Prop),i<vs.length->j<vs.length->C (lt i j) {s with heap:=h'} ->
   Wa (model prog w) A (keyLt' κ (vs.getD i WV) (vs.getD j WV)) C (λ_ _=>False) {s with heap:=h'})
  (fin:∀p h' c,Arr vs.length p->(∀i j,i<j->j<vs.length->lt (p.getD j 0) (p.getD i 0)=f?)->(∀b o,b≠a->s.heap.get? b=s? o->h'.get? b=s? o)->h'.get? a=s? (seqObj "list" (Yi (p.toList.map λi=>vs.getD i WV)) c)->P (.done (.ret .none)) {s with heap:=h'}):
  Wa (model prog w) A (Builtin.«list.sort» ⟨[.ref a],[]⟩) P E s:=by
 have ha:a<s.heap.objs.size:=V5 ho;obtain⟨e1,RE⟩:∃e1,(s.heap.update a (XX λ_=>(#[]:Array VT))).get? a=s? (seqObj "list" #[] e1):=⟨_,get?_update_seq ho λ_=>#[]⟩;generalize hH:((s.heap.update a (XX λ_=>(#[]:Array VT))).push (seqObj "tuple" vs.toArray 0)).push (seqObj "list" #[] 0)=H;have LB:H.get? a=s? (seqObj "list" #[] e1):=by
  rw[<- hH,X7 _ _ _ (by rw[size_push',Zs];exact Wm (Xh ha)),X7 _ _ _ (by rw[Zs];exact Wm ha)];exact RE
 have keep:∀b o,b≠a->s.heap.get? b=s? o->H.get? b=s? o:=λb o hb q=>by
  have cM:b<s.heap.objs.size:=V5 q;rw[<- hH,X7 _ _ _ (by rw[size_push',Zs];exact Wm (Xh cM)),X7 _ _ _ (by rw[Zs];exact Wm cM),ZN _ _ _ _ hb];exact q
 have LC:∀p(arr:Array VT),Arr vs.length p->(∀i j,i<j->j<vs.length->lt (p.getD j 0) (p.getD i 0)=f?)->arr=Yi (p.toList.map λi=>vs.getD i WV)->P (.done (.ret .none)) {s with heap:=H.update a (XX λ_=>arr)}:=λp arr h1 h2 h3=>by
  subst h3;refine fin p _ _ h1 h2 (λb o hb q=>?_) (get?_update_seq LB λ_=>_);rw[ZN _ _ _ _ hb];exact keep b o hb q
 rw[list_sort_plain];refine VI (listItems_at ho rfl ?_);refine VI (listUpdate_at ho rfl ?_ (by rw[Yb];exact hlen) (Wg _));refine VI (seqEpoch_at RE rfl ?_);refine VI (wpAny_newTuple ?_ hlen);refine VI (wpAny_newList ?_ (Wg _));refine wpAny_holding ?_;show Wa (model prog w) A _ P E {s with heap:=((s.heap.update a (XX λ_=>(#[]:Array VT))).push (seqObj "tuple" vs.toArray 0)).push (seqObj "list" #[] 0)}
 rw[hH];dsimp only;have hr:(W9 vs.length).map (λi=>vs.getD i WV)=vs:=by
  apply Xs ⋯;intro i a1 a2;simp[a2]
 by_cases h2:vs.toArray.size<2
 ·rw[if_pos h2,if_pos h2]
  refine VI (VM ?_);rw[StateT.run_pure];refine VI (VM ?_);dsimp only;refine VI (seqEpoch_at LB rfl ?_);refine VI (listUpdate_at LB rfl ?_ (hsz2:=by rw[Xd];show(pairsOf vs).size<=_;rw[pairsOf_size];exact Xy hlen));simp only[bne_self_eq_false,Ws,if_false];refine VM (LC (Yi (W9 vs.length)) _ ⟨⋯,⋯⟩ (λi j h1 h3=>?_) ?_)
  ·rw[Yb]at h2;omega
  ·show Array.map (·.2) (pairsOf vs)=_
   apply Array.toList_inj.mp;rw[Array.toList_map,pairsOf_toList];show _=(W9 vs.length).map (λi=>vs.getD i WV)
   rw[hr];exact List.map_snd_zip ⋯
 ·rw[if_neg h2,if_neg h2]
  rw[Yb]at h2;refine VI (wpAny_mono (hk ⇑0 _ keep _ ?_) (λκ' s' hq=>hq) λ_ _ x=>x.elim);have it:∀i,(kas_item (vs.toArray.zip vs.toArray) i).1=vs.getD i WV:=λi=>by rw[kat_item rfl]
  have Tu:aaZ κ (vs.toArray.zip vs.toArray) #[] 7 n?=St κ (kas_item (vs.toArray.zip vs.toArray)) (Yi (W9 vs.length)) #[] 7:=by
   have e:=kas_range (vs.toArray.zip vs.toArray);rw[show(vs.toArray.zip vs.toArray).size=vs.length by simp]at e;show _=aaZ κ ((Yi (W9 vs.length)).map (kas_item (vs.toArray.zip vs.toArray))) #[] 7 n?
   rw[e]
  rw[Tu];have Pu:yg prog w A {s with heap:=H} κ (kas_item (vs.toArray.zip vs.toArray)) lt vs.length:=λi j hi hj=>by
   rw[it,it];exact hc _ keep i j _ hi hj ⟨rfl,rfl⟩
  have al:Al vs.length (Yi (W9 vs.length)):=λk hk=>by
   have hk:k<vs.length:=by simpa using hk
   simp[XZ,hk]
  refine VI (wpAny_mono (M.cW (P:=Go) (λ_ _=>HP) (prog,w,A,E,_,_,_,_,_) _ (λ_ st=>∃p:Array Nat,arrOf st=p.map (kas_item (vs.toArray.zip vs.toArray))/\failedOf st=n?/\Arr vs.length p/\∀i j,i<j->j<vs.length->lt (p.getD j 0) (p.getD i 0)=f?) W Pu al λp' st e1 e2 e3 e4=>⟨p',e1,e2,⟨⇑e3.length_eq,e3⟩,λi j kW hj=>?_⟩) ?_ λ_ _ e=>e)
  ·have:=e4 i j kW ⇑hj
   simpa[bq] using this
  rintro⟨⟨⟩,gg⟩ s' ⟨rfl,p,Tv,hf,hp,Pw⟩;dsimp only;have Px:=kat_snds (ks:=vs) rfl Tv
  have hsz:(Yi (p.toList.map λi=>vs.getD i WV)).size=vs.length:=by rw[Yb,Lm9,Yk,hp.1]
  rw[Px];refine VI (seqEpoch_at LB rfl ?_);refine VI (listUpdate_at LB rfl ?_ (Wg _) (by rw[hsz];exact Xy hlen));rw[hf];simp only[bne_self_eq_false,Ws,if_false];exact VM (LC p _ hp Pw rfl)
end
end L2
namespace L2
open PySem PySem.W PySem.Calls PyProof.Rows
def qQ(A:WY)(s:VY)(u v:VT)(b:Bool):Prop :=
 ∀(prog:WU)(w:XQ)(E:VT->VY->Prop)(Q:VT->VY->Prop),Q (.bool b) s->Wa (model prog w) A (richCompare .Lt u v) Q E s
inductive Cv(A:WY)(s:VY):List VT->List VT->Bool->Prop
 |nn:Cv A s [] [] f?
 |nc {w:VT} {ws:List VT}:Cv A s [] (w::ws) t?
 |cn {v:VT} {vs:List VT}:Cv A s (v::vs) [] f?
 |eq {v w:VT} {vs ws:List VT} {r:Bool} (e:YH A s v w t?) (h:Cv A s vs ws r):Cv A s (v::vs) (w::ws) r
 |ne {v w:VT} {vs ws:List VT} {r:Bool} (e:YH A s v w f?) (h:qQ A s v w r):Cv A s (v::vs) (w::ws) r
section
open PySem.SeqAt
open PySem.AutoSeq1 (wpAny_loadPart')
open PySem.MeetsSeq PySem.MeetsSeq2 PySem.MeetsSeq3
def qR(l b:Wr)(items iu:Array VT)(n n2:Nat)(dd Ho:Option Wr)(sl Hq:Array (Option VT))(r:Bool):
  Meets (Builtin.«tuple.__lt__» ⟨[.ref l,.ref b],[]⟩)
   (λA R s=>s.heap.get? l=s? {cls:=.type "tuple",dict:=dd,data:=.seq items n,slots:=sl}/\s.heap.get? b=s? {cls:=.type "tuple",dict:=Ho,data:=.seq iu n2,slots:=Hq} /\
    Cv A.in1 s items.toList iu.toList r/\R (.ok (.ret (.bool r))) s) :=
 .of_wp λprog w A R s h=>by
  obtain⟨hp,g,d,tk,os⟩:=s;obtain⟨hl,hb,hd,h⟩:=h;have f2:=aaf
  wp_walk using wpAny_loadPart' hl,wpAny_loadPart' hb,wpAny_forIn_list _ (λrest b s'=>b.1=n?/\s'=⟨hp,g,d,tk,os⟩/\∃(vs ws:List VT),rest=vs.zip ws /\
   Cv A.in1 ⟨hp,g,d,tk,os⟩ vs ws r/\vs.length+iu.size=ws.length+items.size) _
  case turn=>
   rintro⟨y,x⟩ rest b s' ⟨hb',rfl,vs,ws,hz,Py,hlen⟩;cases Py with
   |nn=>cases hz
   |nc=>cases hz
   |cn=>rw[List.zip_nil_right]at hz;cases hz
   | @eq v w' vs' ws' _ e hr=>
    rw[Xc]at hz;injection hz with Pz hrest;injection Pz with hy hx;subst hy hx;simp only[VS]at hlen;refine VI (e prog w _ _ ?_)
    wp_walk
    exact⟨rfl,rfl,_,_,hrest,hr,⇑0⟩
   | @ne v w' vs' ws' _ e hr=>
    rw[Xc]at hz;injection hz with Pz hrest;injection Pz with hy hx;subst hy hx;refine VI (e prog w _ _ ?_);have Pw:=hr prog w
    wp_walk using Pw
    exact⟨_,rfl,⇑h⟩
  case fin=>
   rintro⟨b1,b2⟩ s' ⟨hb',rfl,vs,ws,hz,Py,hlen⟩;simp only at hb';subst hb';have hv:r=d? (items.size<iu.size):=by
    cases Py with
    |nn=>simp only[WL]at hlen;exact(decide_eq_false ⇑0).symm
    |nc=>simp only[WL,VS]at hlen;exact(decide_eq_true ⇑0).symm
    |cn=>simp only[WL,VS]at hlen;exact(decide_eq_false ⇑0).symm
    |eq e hr=>rw[Xc]at hz;cases hz
    |ne e hr=>rw[Xc]at hz;cases hz
   rw[hv]at h
   wp_walk
   exact⟨_,rfl,by simpa[Builtin.Tuple.tupleCompareSizes] using h⟩
  case h=>
   exact⟨rfl,rfl,items.toList,iu.toList,rfl,hd,by simp;omega⟩
end
def n8{A:WY}{s:VY}{l b:Wr}{items iu:Array VT}{r:Bool}(hl:IsTup s.heap l items)(hb:IsTup s.heap b iu)(hu:A.units<cLine)(hd:Cv A.in1 s items.toList iu.toList r):qQ A s (.ref l) (.ref b) r:=by
 intro prog w E Q h;obtain⟨⟨cls,dd,data,sl⟩,ho,hc,n,RF⟩:=id hl;obtain⟨⟨O6,Ho,data2,Hq⟩,C7,xX,n2,hd2⟩:=id hb;simp only at hc RF xX hd2;subst hc RF xX hd2;exact richCompare_meets_room (op:=.Lt) ⟨_,ho,rfl⟩ ⟨_,C7,rfl⟩ PySem.F.slot_tuple_lt PySem.F.entry_tuple_lt (PySem.F.args_tuple_lt_2 _ _) (qR l b items iu n n2 dd Ho sl Hq r)
  ⟨ho,C7,hd,show Value.bool r≠Value.notImplemented/\Q (.bool r) s from⟨(λx=>nomatch x),h⟩⟩ hu
end L2
namespace M
open PySem PySem.Spec PyProof.Rows
def pA(f:T->T->Bool):List T->List T->Bool
 | [],[]=>f?
 | [],_::_=>t?
 |_::_,[]=>f?
 |a::r,b::q=>if a=b then pA f r q else f a b
def ltN:Nat->T->T->Bool
 |_+1,.int a,.int b=>decide (a<b)
 |_+1,.int _,.str _=>t?
 |_+1,.int _,.tup _=>t?
 |_+1,.str a,.str b=>decide (a<b)
 |_+1,.str _,.tup _=>t?
 |n+1,.tup a,.tup b=>pA (ltN n) a b
 |_,_,_=>f?
def shl(f:T->T->Bool):List T->List T->Bool
 |a::r,b::q=>f a b && shl f r q
 |_,_=>t?
def p6:Nat->T->T->Bool
 |_+1,.int _,.int _=>t?
 |_+1,.str _,.str _=>t?
 |n+1,.tup a,.tup b=>shl (p6 n) a b
 |_,_,_=>f?
def DA{f:T->T->Bool}:∀a:List T,pA f a a=f?:=by
 intro l9;induction l9 with
 |nil=>exact rfl
 |cons a r ih=>rw[pA,if_pos rfl];exact ih
def qS:∀(n:Nat)(a:T),ltN n a a=f?
 |0,a=>by cases a<;>rfl
 |n+1,a=>by
  cases a<;>first|rfl|skip
  ·exact decide_eq_false (aav _)
  ·exact decide_eq_false (List.lt_irrefl _)
  ·exact DA _
theorem wR{f:T->T->Bool}{n:Nat}(hf:∀a b,kd n a=t?->kd n b=t?->a≠b->f a b=t?\/f b a=t?):∀a b:List T,a.all (kd n)=t?->b.all (kd n)=t?->a≠b->pA f a b=t?\/pA f b a=t?
 | [],[],_,_,h=>absurd rfl h
 | [],_::_,_,_,_=>.inl rfl
 |_::_,[],_,_,_=>.inr rfl
 |a::r,b::q,ha,hb,h=>by
  rw[WD,VW]at ha hb;rw[pA,pA];by_cases e:a=b
  ·subst e
   rw[if_pos rfl,if_pos rfl];exact wR hf r q ha.2 hb.2 λz=>h (by rw[z])
  ·rw[if_neg e,if_neg (YA e)]
   exact hf a b ha.1 hb.1 e
def DB{a b:Cs}(h:a≠b):a<b\/b<a:=by
 by_cases h1:a<b
 ·exact .inl h1
 ·by_cases h2:b<a
  ·exact .inr h2
  ·exact absurd (List.le_antisymm (List.not_lt.mp h2) (List.not_lt.mp h1)) h
theorem ny:∀(n:Nat)(a b:T),kd n a=t?->kd n b=t?->a≠b->ltN n a b=t?\/ltN n b a=t?
 |0,a,_,h,_,_=>(Pc h).elim
 |n+1,a,b,ha,hb,h=>by
  cases a<;>first|cases ha|skip
  ·cases b<;>first|cases hb|skip
   ·rename_i i j
    show d? (i<j)=t?\/d? (j<i)=t?;rw[decide_eq_true_eq,decide_eq_true_eq];have:i≠j:=λe=>h (by rw[e])
    omega
   ·exact .inl rfl
   ·exact .inl rfl
  ·cases b<;>first|cases hb|skip
   ·exact .inr rfl
   ·rename_i i j
    show d? (i<j)=t?\/d? (j<i)=t?;rw[decide_eq_true_eq,decide_eq_true_eq];exact DB λe=>h (by rw[e])
   ·exact .inl rfl
  ·cases b<;>first|cases hb|skip
   ·exact .inr rfl
   ·exact .inr rfl
   ·exact wR (λa b=>ny n a b) _ _ ha hb λe=>h (by rw[e])
theorem p7{f:T->T->Bool}(Cu:∀a,f a a=f?)(hf:∀a b c,f a b=t?->f b c=t?->f a c=t?):∀a b c:List T,pA f a b=t?->pA f b c=t?->pA f a c=t?
 | [],[],_,h1,_=>by cases h1
 | [],_::_,[],_,h2=>by cases h2
 | [],_::_,_::_,_,_=>rfl
 |_::_,[],_,h1,_=>by cases h1
 |_::_,_::_,[],_,h2=>by cases h2
 |a::r,b::q,c::t,h1,h2=>by
  rw[pA]at h1 h2 ⊢;by_cases e1:a=b
  ·subst e1
   rw[if_pos rfl]at h1;by_cases e2:a=c
   ·subst e2
    rw[if_pos rfl]at h2 ⊢;exact p7 Cu hf r q t h1 h2
   ·rw[if_neg e2]at h2 ⊢;exact h2
  ·rw[if_neg e1]at h1
   by_cases e2:b=c
   ·subst e2
    rw[if_neg e1];exact h1
   ·rw[if_neg e2]at h2
    have h3:=hf a b c h1 h2;have e3:a≠c:=λz=>by subst z;rw[Cu]at h3;cases h3
    rw[if_neg e3];exact h3
def PB{n:Nat}{a b:T}(h:ltN (n+1) a b=t?):(∃i,a=.int i)\/(∃z,a=.str z)\/∃xs,a=.tup xs:=by
 cases a with
 |int i=>exact .inl ⟨i,rfl⟩
 |str z=>exact .inr (.inl ⟨z,rfl⟩)
 |tup xs=>exact .inr (.inr ⟨xs,rfl⟩)
 |_=>cases h
def LD{n:Nat}{i:Int}{b:T}(h:ltN (n+1) (.int i) b=t?):(∃j,b=.int j/\i<j)\/(∃z,b=.str z)\/∃xs,b=.tup xs:=by
 cases b with
 |int j=>exact .inl ⟨j,rfl,of_decide_eq_true h⟩
 |str z=>exact .inr (.inl ⟨z,rfl⟩)
 |tup xs=>exact .inr (.inr ⟨xs,rfl⟩)
 |_=>cases h
def HQ{n:Nat}{z:Cs}{b:T}(h:ltN (n+1) (.str z) b=t?):(∃y,b=.str y/\z<y)\/∃xs,b=.tup xs:=by
 cases b with
 |str y=>exact .inl ⟨y,rfl,of_decide_eq_true h⟩
 |tup xs=>exact .inr ⟨xs,rfl⟩
 |_=>cases h
def DC{n:Nat}{xs:List T}{b:T}(h:ltN (n+1) (.tup xs) b=t?):∃ys,b=.tup ys/\pA (ltN n) xs ys=t?:=by
 cases b with
 |tup ys=>exact⟨ys,rfl,h⟩
 |_=>cases h
theorem g9:∀(n:Nat)(a b c:T),ltN n a b=t?->ltN n b c=t?->ltN n a c=t?
 |0,a,b,_,h,_=>by cases h
 |n+1,a,b,c,h1,h2=>by
  rcases PB h1 with⟨i,rfl⟩|⟨z,rfl⟩|⟨xs,rfl⟩
  ·rcases LD h1 with⟨j,rfl,hj⟩|⟨y,rfl⟩|⟨ys,rfl⟩
   ·rcases LD h2 with⟨k,rfl,hk⟩|⟨_,rfl⟩|⟨_,rfl⟩
    ·exact decide_eq_true (Int.lt_trans hj hk)
    ·rfl
    ·rfl
   ·rcases HQ h2 with⟨_,rfl,_⟩|⟨_,rfl⟩<;>rfl
   ·obtain⟨_,rfl,_⟩:=DC h2;rfl
  ·rcases HQ h1 with⟨y,rfl,hy⟩|⟨ys,rfl⟩
   ·rcases HQ h2 with⟨x,rfl,hx⟩|⟨_,rfl⟩
    ·exact decide_eq_true (List.lt_trans hy hx)
    ·rfl
   ·obtain⟨_,rfl,_⟩:=DC h2;rfl
  ·obtain⟨ys,rfl,hy⟩:=DC h1
   obtain⟨zs,rfl,hz⟩:=DC h2;exact p7 (qS n) (g9 n) _ _ _ hy hz
def HR{n:Nat}{f:Nat->T}(hk:∀i,kd n (f i)=t?):Ts.WO (λi j=>ltN n (f i) (f j)):=by
 refine⟨λa b h=>?_,λa b c h1 h2=>?_⟩
 ·cases e:ltN n (f b) (f a) with
  |false=>rfl
  |true=>have z:=g9 n _ _ _ h e;rw[qS]at z;cases z
 ·cases e:ltN n (f c) (f a) with
  |false=>rfl
  |true=>
   by_cases e1:f a=f b
   ·rw[e1]at e;rw[e]at h2;cases h2
   ·rcases ny n _ _ (hk a) (hk b) e1 with q|q
    ·rw[g9 n _ _ _ e q]at h2;cases h2
    ·rw[q]at h1;cases h1
def mq(l:List T):Prop:=l.Pairwise λx y=>ltN 8 y x=f?
def Ag{a b:List T}(hk:a.all (kd 8)=t?)(p:a.Perm b)(ha:mq a)(hb:mq b):a=b :=
 List.Perm.eq_of_pairwise (λx y hx hy h1 h2=>by
  by_cases e:x=y
  ·exact e
  ·have k:=VQ.mp hk
   rcases ny 8 _ _ (k x hx) (k y (p.mem_iff.mpr hy)) e with q|q
   ·rw[q]at h2;cases h2
   ·rw[q]at h1;cases h1) ha hb p
open Classical in
def jb(l:List T):List T:=if h:∃l',l'.Perm l/\mq l' then choose h else l
def qT{l l':List T}(hk:l.all (kd 8)=t?)(p:l'.Perm l)(h:mq l'):jb l=l':=by
 have ex:∃l',l'.Perm l/\mq l':=⟨l',p,h⟩;unfold jb;rw[dif_pos ex];have z:=Zp ex
 have hk':(aaB ex).all (kd 8)=t?:=VQ.mpr λx hx=>VQ.mp hk x (z.1.mem_iff.mp hx)
 exact Ag hk' (z.1.trans p.symm) z.2 h
def LF:T->Bool
 | .str _=>t?
 |_=>f?
def isIt:T->Bool
 | .int _=>t?
 |_=>f?
def PC(p:T->Bool):T->Bool
 | .tup (a::_)=>p a
 |_=>f?
abbrev Km:T->Bool:=PC LF
abbrev Kn:T->Bool:=PC isIt
def va{p:T->Bool}{x:T}(h:PC p x=t?):∃a r,x=.tup (a::r)/\p a=t?:=by
 cases x with
 |tup l=>cases l with
  |nil=>cases h
  |cons a r=>exact⟨a,r,rfl,h⟩
 |_=>cases h
def qU{x:T}(h:LF x=t?):∃z,x=.str z:=by cases x with|str z=>exact⟨z,rfl⟩|_=>cases h
def qV{x:T}(h:isIt x=t?):∃z,x=.int z:=by cases x with|int z=>exact⟨z,rfl⟩|_=>cases h
def iM(fz:Bool):Fn:=λxs L=>match xs with
 | [x]=>match vw L x with
  | .lst ys=>cm (ys.length<900/\ys.all (kd 8)=t?/\(ys.all Km=t?\/ys.all Kn=t?)/\(ys.all λa=>ys.all λb=>p6 8 a b)=t?) (fG fz (jb ys) L)
  |_=>.bad
 |_=>.bad
end M
namespace M
open PySem PySem.W PySem.Calls PyProof.Rows L2
def vb{a b:Bool}(h:(a && b)=t?):a=t?/\b=t?:=by simpa using h
section
variable{A:WY}{s:VY}
def LG:∀(a b:List T)(vs ws:List VT),vs.length=a.length->ws.length=b.length->shl (p6 n) a b=t? ->
  (∀j(h1:j<a.length)(h2:j<b.length)(h3:j<vs.length)(h4:j<ws.length),YH A s vs[j] ws[j] (d? (a[j]=b[j]))/\(p6 n a[j] b[j]=t?->qQ A s vs[j] ws[j] (ltN n a[j] b[j])))->Cv A s vs ws (pA (ltN n) a b):=by
 intro a;induction a with
 |nil=>
  intro b vs ws l1 l2 _ _;obtain rfl:=Xn.mp l1;cases b with
  |nil=>obtain rfl:=Xn.mp l2;exact .nn
  |cons=>cases ws with
   |nil=>cases l2
   |cons=>exact .nc
 |cons a r ih=>
  intro b vs ws l1 l2 hs h;cases vs with
  |nil=>cases l1
  |cons v vs=>cases b with
   |nil=>obtain rfl:=Xn.mp l2;exact .cn
   |cons b q=>cases ws with
    |nil=>cases l2
    |cons w ws=>
     have hs:=vb hs;obtain⟨h0,h0'⟩:=h 0 ⋯ ⋯ ⋯ ⋯;have h0:YH A s v w (d? (a=b)):=h0
     have h0':p6 n a b=t?->qQ A s v w (ltN n a b):=h0';rw[pA];by_cases e:a=b
     ·rw[decide_eq_true e]at h0
      rw[if_pos e];exact .eq h0 (ih q vs ws ⇑l1 ⇑l2 hs.2 λj a1 a2 a3 a4=>h (j+1) ⇑a1 ⇑a2 ⇑a3 ⇑a4)
     ·rw[decide_eq_false e]at h0
      rw[if_neg e];exact .ne h0 (h0' hs.1)
theorem eX.lt:∀(n:Nat){A:WY}{a b:T}{u v:VT},kd n a=t?->kd n b=t?->p6 n a b=t?->A.units+n<cLine->eX s.heap a u->eX s.heap b v->qQ A s u v (ltN n a b)
 |0,_,a,_,_,_,h,_,_,_,_,_=>(Pc h).elim
 |n+1,A,a,b,u,v,ha,hb,hs,hu,ka,kb=>by
  cases ka with
  |bl=>cases ha
  |int i t=>
   cases kb with
   |int j t2=>exact λprog w E Q h=>(PyProof.Rows.lt_int h:Wa (model prog w) A (compareOp .Lt _ _) Q E s)
   |_=>cases hs
  |str z t=>
   cases kb with
   |str z2 t2=>exact λprog w E Q h=>(aa9 (show Q (.bool (d? ((⟨z.toArray⟩:Str).cps.toList<(⟨z2.toArray⟩:Str).cps.toList))) s from h):Wa (model prog w) A (compareOp .Lt _ _) Q E s)
   |_=>cases hs
  |tup ho hc hd hl hi=>
   cases kb with
   |tup ho' hc' hd' hl' hi'=>
    rename_i a1 o1 i1 n1 x1 a2 o2 i2 n2 x2;refine n8 ⟨_,ho,hc,_,hd⟩ ⟨_,ho',hc',_,hd'⟩ ⇑0 (LG x1 x2 i1.toList i2.toList (by simp[hl]) (by simp[hl']) hs λj c1 c2 c3 c4=>?_);have k1:=hi j _ _ (Ge9 c1) (show i1[j]?=s? i1.toList[j] by simp)
    have k2:=hi' j _ _ (Ge9 c2) (show i2[j]?=s? i2.toList[j] by simp);have d1:=mQ ha (Ge9 c1)
    have d2:=mQ hb (Ge9 c2);exact⟨eX.eq n d1 d2 (by(simp;omega)) k1 k2,λsh=>eX.lt n d1 d2 sh (by(simp;omega)) k1 k2⟩
   |_=>cases hs
end
section
variable{prog:WU}{w:XQ}{A:WY}{E:VT->VY->Prop}{s:VY}{Q:Bool->VY->Prop}{n:Nat}
def kat_tail:∀(a b:List T)(vs ws:List VT)(i:Nat),0<i->vs.length=a.length->ws.length=b.length->shl (p6 n) a b=t? ->
  (∀j(h1:j<a.length)(h2:j<b.length)(h3:j<vs.length)(h4:j<ws.length),YH A s vs[j] ws[j] (d? (a[j]=b[j]))/\(p6 n a[j] b[j]=t?->qQ A s vs[j] ws[j] (ltN n a[j] b[j]))) ->
  ∀fin,fin=d? (vs.length<ws.length)->Q (pA (ltN n) a b) s->KatLex prog w A t? fin Q (vs.zip ws) i s:=by
 intro a;induction a with
 |nil=>
  intro b vs ws i _ l1 l2 _ _ fin hf h;obtain rfl:=Xn.mp l1;cases b with
  |nil=>obtain rfl:=Xn.mp l2;subst hf;exact h
  |cons=>cases ws with
   |nil=>cases l2
   |cons=>rw[pA]at h;simp at hf;subst hf;exact h
 |cons a r ih=>
  intro b vs ws i hi l1 l2 hs hx fin hf h;cases vs with
  |nil=>cases l1
  |cons v vs=>cases b with
   |nil=>obtain rfl:=Xn.mp l2;subst hf;exact h
   |cons b q=>cases ws with
    |nil=>cases l2
    |cons w' ws=>
      have hs:=vb hs;obtain⟨h0,h0'⟩:=hx 0 ⋯ ⋯ ⋯ ⋯;have h0:YH A s v w' (d? (a=b)):=h0
      have h0':p6 n a b=t?->qQ A s v w' (ltN n a b):=h0';rw[pA]at h;rw[Xc];refine kat_cons (h0 prog w _ _ ?_);by_cases e:a=b
      ·rw[if_pos e]at h
       rw[decide_eq_true e];exact kat_yes (ih q vs ws (i+1) ⇑0 ⇑l1 ⇑l2 hs.2 (λj a1 a2 a3 a4=>hx (j+1) ⇑a1 ⇑a2 ⇑a3 ⇑a4) fin ⇑hf h)
      ·rw[if_neg e]at h
       rw[decide_eq_false e];refine kat_no ?_;have ei:(t? && i==0)=f?:=by
        (simp;omega)
       rw[ei];exact kat_one _ _ (h0' hs.1 prog w _ _ h)
def LH(hA:A.units+8<cLine)(hk:kd 8 t=t?)(hk':kd 8 u=t?)(hh:(Km t=t?/\Km u=t?)\/(Kn t=t?/\Kn u=t?))(hs:p6 8 t u=t?)(k1:eX s.heap t vx)(k2:eX s.heap u vy)(hC:Q (ltN 8 t u) s):
  Wa (model prog w) A (keyLt' (tuples' t?) vx vy) Q E s:=by
 have go:∀{a b:T}{r q:List T},t=.tup (a::r)->u=.tup (b::q)->((∃x y,a=.str x/\b=.str y)\/∃x y,a=.int x/\b=.int y)->Wa (model prog w) A (keyLt' (tuples' t?) vx vy) Q E s:=λ{a b r q}et eu hab=>by
  subst et eu;cases k1 with
  |tup ho hc hd hl hi=>
   cases k2 with
   |tup ho' hc' hd' hl' hi'=>
    rename_i a1 o1 i1 n1 a2 o2 i2 n2;have LI:∀j(h:j<(a::r).length)(h':j<i1.toList.length),eX s.heap (a::r)[j] i1.toList[j]:=λj h h'=>hi j _ _ (Ge9 h) ⋯
    have at2:∀j(h:j<(b::q).length)(h':j<i2.toList.length),eX s.heap (b::q)[j] i2.toList[j]:=λj h h'=>hi' j _ _ (Ge9 h) ⋯
    refine kat_lt ho hd ho' hd' ?_;obtain⟨l1⟩:=i1;obtain⟨l2⟩:=i2;simp only[Yb]at hl hl';cases l1 with
    |nil=>simp at hl
    |cons v vs=>
     cases l2 with
     |nil=>simp at hl'
     |cons w' ws=>
      have e0:=LI 0 ⋯ ⋯;have f0:=at2 0 ⋯ ⋯
      have e0:eX s.heap a v:=e0;have f0:eX s.heap b w':=f0
      have hs:shl (p6 7) (a::r) (b::q)=t?:=hs;have hs:=vb hs
      have RG:(a::r).all (kd 7)=t?:=hk;have RH:(b::q).all (kd 7)=t?:=hk'
      have hC:Q (pA (ltN 7) (a::r) (b::q)) s:=hC;rw[pA]at hC;have q0:=eX.eq 7 (s:=s) (A:=A) (mQ RG (i:=0) rfl) (mQ RH (i:=0) rfl) ⇑0 e0 f0
      show KatLex prog w A t? _ Q ((v::vs).zip (w'::ws)) 0 s;rw[Xc];refine kat_cons (q0 prog w _ _ ?_);by_cases e:a=b
      ·rw[if_pos e]at hC
       rw[decide_eq_true e];refine kat_yes (kat_tail (n:=7) r q vs ws 1 ⇑0 ⇑hl.symm (by simp_all) hs.2 (λj c1 c2 c3 c4=>?_) _ ⋯ hC);have z1:eX s.heap r[j] vs[j]:=LI (j+1) ⇑c1 ⇑c3
       have z2:eX s.heap q[j] ws[j]:=at2 (j+1) ⇑c2 ⇑c4;have d1:kd 7 r[j]=t?:=mQ RG (i:=j+1) ⋯
       have d2:kd 7 q[j]=t?:=mQ RH (i:=j+1) ⋯;exact⟨eX.eq 7 d1 d2 ⇑0 z1 z2,λsh=>eX.lt 7 d1 d2 sh ⇑0 z1 z2⟩
      ·rw[if_neg e]at hC
       rw[decide_eq_false e];refine kat_no ?_;show Wa (model prog w) A (oneLt' t? v w') Q _ s
       rcases hab with⟨x,y,rfl,rfl⟩|⟨x,y,rfl,rfl⟩
       ·cases e0;cases f0
        exact oneLt_str hC
       ·cases e0;cases f0
        exact oneLt_int hC
 rcases hh with⟨h1,h2⟩|⟨h1,h2⟩<;>obtain⟨a,r,e1,h1⟩:=va h1<;>obtain⟨b,q,e2,h2⟩:=va h2
 ·obtain⟨x,rfl⟩:=qU h1
  obtain⟨y,rfl⟩:=qU h2;exact go e1 e2 (.inl ⟨x,y,rfl,rfl⟩)
 ·obtain⟨x,rfl⟩:=qV h1
  obtain⟨y,rfl⟩:=qV h2;exact go e1 e2 (.inr ⟨x,y,rfl,rfl⟩)
end
section
variable{X:Cx}
theorem p8:∀{vs fs:List VT},vs.length=fs.length->(∀i(h1:i<vs.length)(h2:i<fs.length),∃a o xs n,vs[i]=.ref a/\h.get? a=s? o/\o.cls=.type "tuple"/\o.data=.seq xs n/\xs[0]?=s? fs[i])->KatTups h vs fs
 | [],[],_,_=>.nil
 | [],_::_,l,_=>by simp at l
 |_::_,[],l,_=>by simp at l
 |v::vs,f::fs,l,hh=>by
  obtain⟨a,o,xs,n,e,e1,e2,e3,e4⟩:=hh 0 ⋯ ⋯;have e:v=.ref a:=e
  have e4:xs[0]?=s? f:=e4;subst e;exact .cons e1 e2 e3 e4 (p8 ⇑l λi h1 h2=>hh (i+1) ⇑h1 ⇑h2)
def DD(r:cL g ys us):∀(p:List Nat),(∀i∈p,i<ys.length)->cL g (p.map λi=>ys.getD i (.int 0)) (p.map λi=>us.getD i WV):=by
 intro l9;induction l9 with
 |nil=>intro _;exact .nil
 |cons i p ih=>
  intro h;refine .cons ?_ (ih λj hj=>h j (VK _ hj));have hi:=h i VL
  obtain⟨u,e,q⟩:=pD r (Ge9 hi);simp_all
def DE(I:Inv X pins φ g L s)(r:cL g xs us)(h:fG fz xs L=.ok w L2)(k:∀b u,s.heap.get? b=s? u->h'.get? b=s? u)(ha:s.heap.objs.size<=a)(new:h'.get? a=s? {cls:=.type "list",data:=.seq us.toArray n}):
  EP X pins φ g w L2 (.ref a) {s with heap:=h',toks:=t'}:=by
 have f:=I.hok.fresh ha;unfold fG cm at h;split at h
 ·rename_i hz
  unfold mk at h;split at h
  ·cases h
   exact⟨_,Le.lay f,I.laid k ha new,r.lst (n:=n) (o:=default) (Le.lay f) (.inl rfl) (.inl av) hz⟩
  ·cases h
   refine⟨_,Le.new f,I.new k ha new (r.lst (n:=n) (o:=default) (Le.new f) (.inr rfl) (.inl av) hz),?_⟩;have:=I.rel.len
   exact .ref (p:=(a,a)) (by show at_ ((_,_)::g.α) _=_;rw[<- this];exact cY)
 ·cases h
end
end M
namespace M
open PySem PySem.Spec PyProof.Rows
def fP(ys:List T):Prop:=ys.length<900/\ys.all (kd 8)=t?/\(ys.all Km=t?\/ys.all Kn=t?)/\(ys.all λa=>ys.all λb=>p6 8 a b)=t?
noncomputable instance(ys:List T):Decidable (fP ys):=by unfold fP;exact inferInstance
def Tw(x y:T)(L:aa):R T:=match x,y with
 | .lst a,.lst b=>match a.mapM Co,b.mapM Co with
  |some p,s? q=>.ok (.bl (d? (p≠q))) L
  |_,_=>cmp .NotEq x y L
 |_,_=>cmp .NotEq x y L
def wU(x y:T)(L:aa):R T:=match vw L x,vw L y with
 | .lst a,.lst b=>cm (a.all (dat 7)=t?/\b.all (dat 7)=t?) (.ok (.bl (!eqT (.lst a) (.lst b))) L)
 |_,_=>cmp .NotEq x y L
def yj(a c:Bool)(i j:Int):Bool:=if a=c then d? (i<j) else !a && c
def Ah:T->Option (Bool × Int)
 | .tup [.bl a,.int i]=>s? (a,i)
 |_=>n?
def LJ(x y:T)(L:aa):R T:=match Ah x with
 |some p=>match Ah y with
  |some q=>.ok (.bl (yj p.1 q.1 p.2 q.2)) L
  |none=>cmp .Lt x y L
 |none=>cmp .Lt x y L
def LK{a c:Bool}{i j:Int}{L:aa}:LJ (.tup [.bl a,.int i]) (.tup [.bl c,.int j]) L=.ok (.bl (yj a c i j)) L:=rfl
def DF:T->Fn:=λx ts L=>match x,ts with
 | .ref n,[]=>match at_ L n with
  |some (.lst xs)=>.ok .aY (put L n (.lst xs.reverse))
  |_=>.bad
 |_,_=>.bad
def jQ:Fn:=λxs L=>match xs with
 | [x,y]=>match vw L x,vw L y with
  | .lst a,.lst b=>cm (a.length<=b.length) (uJ (zp a b) L)
  | .lst a,.tup b=>cm (a.length<=b.length) (uJ (zp a b) L)
  |_,_=>.bad
 |_=>.bad
def yk(L:aa)(t:T)(L':aa):R T:=match t with
 | .ref n=>match at_ L' n with
  |some (.lst xs)=>cm (L.length<=n) (fin L (.lst xs) (put L' n (.ref n)) |>.bind λt L1=>.ok (.ref L.length) (t::L1))
  |_=>.bad
 |_=>.bad
def pM(np nn:Nat)(b:SS):Fn:=λxs L=>if xs.length=np then match b (xs.map s?++Wj (nn - np) n?) L with
  | .rt t L'=>yk L t L'
  |_=>.bad
 else .bad
def Ai(a b:SE):SI:=λφ L=>(a φ L).bind λx L1=>(b φ L1).bind λy L2=>match x,y with
 | .tup xs,.tup ys=>cm (xs.length=ys.length) (.ok (zp xs ys,λ_=>True) L2)
 |_,_=>.bad
def runK(np nn:Nat)(b:SS):Fn:=λxs L=>if xs.length=np then match b (xs.map s?++Wj (nn - np) n?) L with
  | .nx _ L'=>.ok .aY L'
  | .rt t L'=>.ok t L'
  |_=>.bad
 else .bad
def oh(cn:Str)(init:Fn):Fn:=λxs L=>match init (.ref L.length::xs) (.obj cn []::L) with
 | .ok .aY L'=>.ok (.ref L.length) L'
 |_=>.bad
end M
namespace M
open PySem
structure Ct where
 fn:List (Str × Fn)
 co:List (Str × T)
 me:List (Str × List (Str × Fn))
 fl:List Str
 us:List Str
 lv:List (Nat × Nat)
structure Sg where
 N:List Str
 sc:Scope
 fc:List (Str × Fn)
structure Bd where
 E:Expr->SE
 T:Expr->ST
 S:Stmt->SS
def Ct.fz(Γ:Ct)(p:Pos):Bool:=!(Γ.lv.any λq=>q.1==p.line && q.2==p.col)
def Ko(N:List Str)(x:Str):Option Nat:=N.findIdx? (·==x)
def Sg.at(S:Sg)(x:Str):Option Nat:=match S.sc.names.lookup x with
 |some .local=>Ko S.N x
 |some .cell=>Ko S.N x
 |some .free=>Ko S.N x
 |_=>n?
def Sg.own(S:Sg)(x:Str):Option Nat:=match S.sc.names.lookup x with
 |some .local=>Ko S.N x
 |some .cell=>Ko S.N x
 |_=>n?
def Sg.gl(S:Sg)(x:Str):Bool:=match S.sc.names.lookup x with
 |some .globalImplicit=>t?
 |_=>f?
def vi(n:Nat)(k:Int):SE:=b2 (v n) (c (.int k)) ix
def blt(x:Str)(fz:Bool):Option Fn:=[(("len":Str),aU),("list",bG fz),("tuple",m8),("all",nL),("min",yY),("str",uI),("int",xM),("isinstance",E8),("dict",iK),("sorted",iM fz)].lookup x
def S(s:String):Cs:=(WS s).cps.toList
def ar:Ty->Option (T->Fn):=λy=>match y with|.l=>s? CK|_=>n?
def eH:Ty->Option (T->Fn):=λy=>match y with|.l=>s? qv|_=>n?
def jB:Ty->Option (T->Fn):=λy=>match y with|.l=>s? v5|.t=>s? v7|_=>n?
def qW:Ty->Option (T->Fn):=λy=>match y with|.t=>s? CL|_=>n?
def mv:Ty->Option (T->Fn):=λy=>match y with|.s=>s? mO|_=>n?
def nz(fz:Bool):Ty->Option (T->Fn):=λy=>match y with|.s=>s? (nM fz)|_=>n?
def nA:Ty->Option (T->Fn):=λy=>match y with|.s=>s? nN|_=>n?
def cR:Ty->Option (T->Fn):=λy=>match y with|.d=>s? ij|_=>n?
def bT:Ty->Option (T->Fn):=λy=>match y with|.d=>s? pC|_=>n?
def mw:Ty->Option (T->Fn):=λy=>match y with|.l=>s? DF|_=>n?
def RI(x:Str)(fz:Bool):Option (Ty->Option (T->Fn)):=[(("append":Str),ar),("extend",eH),("count",jB),("index",qW),("join",mv),("split",nz fz),("strip",nA),("get",cR),("setdefault",bT),("reverse",mw)].lookup x
def om:List SE->SE
 | []=>no
 |a::r=>match r with
  | []=>a
  |_::_=>CG a (om r)
def Cw:List SE->SE
 | []=>no
 |a::r=>match r with
  | []=>a
  |_::_=>N6 a (Cw r)
def jO:List ST->ST
 | []=>no
 |a::r=>match r with
  | []=>a
  |_::_=>CF a (jO r)
def pB:List ST->ST
 | []=>no
 |a::r=>match r with
  | []=>a
  |_::_=>N5 a (pB r)
def eName(Γ:Ct)(S:Sg)(x:Str):SE:=match S.at x with
 |some i=>v i
 |none=>match S.gl x with
  |true=>match Γ.co.lookup x with
   |some t=>c t
   |none=>match Γ.us.contains x,([(("bool":Str),"bool"),("int","int"),("str","str"),("list","list"),("tuple","tuple")]:List (Str × String)).lookup x with
    |true,s? n=>c (.cl (.type n))
    |_,_=>no
  |false=>no
def HS:Const->SE
 | .int i=>c (.int i)
 | .bool b=>c (.bl b)
 | .none=>c .aY
 | .str x=>match d? (x.cps.toList.length<=lim) with
  |true=>c (.str x.cps.toList)
  |false=>no
 |_=>no
def LL(op:CmpOp)(a b:Expr):T->T->aa->R T:=match op with
 | .NotEq=>match a with
  | .Call ..=>match b with
   | .Name ..=>wU
   |_=>cmp .NotEq
  | .Name ..=>match b with
   | .Call ..=>wU
   |_=>cmp .NotEq
  |_=>cmp .NotEq
 | .Lt=>match a with
  | .Name ..=>match b with
   | .Name ..=>LJ
   |_=>cmp .Lt
  |_=>cmp .Lt
 |op=>cmp op
def Aj(B:Bd)(a:Expr)(ops:List CmpOp)(es:List Expr):SE:=match ops with
 | []=>no
 |op::r=>match r with
  | []=>match es with
   | [b]=>match behindInMarks op b with
    |false=>b2 (B.E a) (B.E b) (LL op a b)
    |true=>no
   |_=>no
  |sj::r'=>match r' with
   | []=>match es with
    | [b,d]=>match lastMarks [op,sj] [b,d] with
     |false=>xJ op sj (B.E a) (B.E b) (B.E d)
     |true=>no
    |_=>no
   |_::_=>no
def Oi(B:Bd)(a b:Expr):SE:=match xY b with
 |true=>b2 (B.E a) (B.E b) ix
 |false=>no
def LM(Γ:Ct)(B:Bd)(a b:Expr)(p:Pos):SE:=match b with
 | .Slice lo hi st _=>match st with
  |none=>sl (Γ.fz p) (B.E a) (lo.map B.E) (hi.map B.E)
  |some _=>Oi B a b
 |_=>Oi B a b
def HT(a:Option Nat)(b:Option (List Nat)):Option (List Nat):=match a with
 |some i=>match b with
  |some is=>s? (i::is)
  |none=>n?
 |none=>n?
def Ak(S:Sg):List Expr->Option (List Nat)
 | []=>s? []
 | .Name x _::r=>HT (S.own x) (Ak S r)
 |_=>n?
def PD(S:Sg):Expr->Option Tg
 | .Name x _=>(S.own x).map .one
 | .Tuple ts _ _=>(Ak S ts).map .many
 |_=>n?
def isTup:Expr->Bool
 | .Tuple ..=>t?
 |_=>f?
def Am(Γ:Ct)(B:Bd)(S:Sg)(tg e:Expr)(x:Str)(es:List Expr):SI:=match S.gl x && Γ.us.contains x && es.all bB with
 |true=>match x==("range":Str) with
  |true=>match es with
   | [a]=>yX (c (.int 0)) (B.E a)
   | [a,b]=>yX (B.E a) (B.E b)
   |_=>src (B.E e)
  |false=>match es with
   | [a]=>match x==("enumerate":Str) with
    |true=>match isTup tg with
     |true=>CI (B.E a)
     |false=>src (B.E e)
    |false=>src (B.E e)
   | [a,b]=>match x==("zip":Str) with
    |true=>match isTup tg with
     |true=>Ai (B.E a) (B.E b)
     |false=>src (B.E e)
    |false=>src (B.E e)
   |_=>src (B.E e)
 |false=>src (B.E e)
def stI(Γ:Ct)(B:Bd)(S:Sg)(tg e:Expr):SI:=match e with
 | .Call (.Name x _) es [] _=>Am Γ B S tg e x es
 |e=>src (B.E e)
def inN(sc:Scope):List Str:=(sc.names.filter λy=>match y.2 with
 | .local=>t?
 | .free=>t?
 |_=>f?).map (·.1)
def An(x:Str):Bool:=!(x==("__debug__":Str)) && !(x==("__classdict__":Str))
def vc(S:Sg)(sc:Scope):Bool:=(match sc.kind with
  | .function=>t?
  |_=>f?) && (sc.names.all λy=>match y.2 with
  | .cell=>f?
  | .local=>(match sc.names.lookup y.1 with
   |some .local=>t?
   |_=>f?)
  | .free=>(match S.sc.names.lookup y.1 with
   |some .cell=>t?
   |some .free=>t?
   |_=>f?)
  |_=>t?) && d? (inN sc).Nodup && (inN sc).all An
def aZ(S:Sg)(sc:Scope):List (Option Nat):=(inN sc).map λy=>match sc.names.lookup y with
 |some .free=>S.at y
 |_=>n?
def tests(B:Bd):List Expr->ST
 | []=>yes
 | [k]=>B.T k
 |_=>no
def qa(Γ:Ct)(B:Sg->Bd)(S:Sg)(elt tg iter:Expr)(ifs:List Expr)(sc:Scope)(p:Pos):SE :=
 match PD ⟨inN sc,sc,[]⟩ tg with
 |some t=>match vc S sc && jY iter && t.slots.all (λi=>match (aZ S sc)[i]? with
   |some n?=>t?
   |_=>f?) with
  |true=>comp (Γ.fz p) (stI Γ (B S) S tg iter) (aZ S sc) t (tests (B ⟨inN sc,sc,[]⟩) ifs) ((B ⟨inN sc,sc,[]⟩).E elt)
  |false=>no
 |none=>no
def Fl(Γ:Ct)(S:Sg)(fz:Bool)(x y:Str)(es:List Expr):Option (Fn × List Expr):=match S.gl y && Γ.us.contains y && es.all bB && (Γ.fn.lookup y).isNone with
 |true=>match x==("dict":Str) && y==("zip":Str) with
  |true=>match es with
   | [a,b]=>s? (jQ,[a,b])
   |_=>n?
  |false=>n?
 |false=>n?
def nest(Γ:Ct)(S:Sg)(fz:Bool)(x:Str)(l:List Expr):Option (Fn × List Expr):=match l with
 | [e]=>match e with
  | .Call f es ks q=>match ks with
   | []=>match f with
    | .Name y _=>Fl Γ S fz x y es
    |_=>n?
   |_=>n?
  |_=>n?
 |_=>n?
def Ao(Γ:Ct)(B:Bd)(S:Sg)(x:Str)(es:List Expr)(p:Pos):SE:=match S.gl x && es.all bB with
 |true=>match S.fc.lookup x with
  |some F=>match es with
   | []=>no
   |e::es=>ae F ((e::es).map B.E)
  |none=>match Γ.fn.lookup x with
   |some F=>ae F (es.map B.E)
   |none=>match Γ.us.contains x && !es.isEmpty,blt x (Γ.fz p) with
    |true,s? F=>match nest Γ S (Γ.fz p) x es with
     |some q=>ae q.1 (q.2.map B.E)
     |none=>ae F (es.map B.E)
    |_,_=>no
 |false=>no
def Ap(Γ:Ct)(B:Bd)(o:Expr)(m:Str)(ap:Pos)(es:List Expr)(p:Pos):SE:=match okBase o && es.all bB && d? (es.length<30) && ap.endLine==p.line with
 |true=>match Γ.me.lookup m with
  |some mf=>aN m (λy=>mf.lookup y) (B.E o) (es.map B.E)
  |none=>match RI m (Γ.fz p) with
   |some f=>aF f (B.E o) (es.map B.E)
   |none=>no
 |false=>no
def Fm(Γ:Ct)(B:Sg->Bd)(S:Sg):Expr->SE
 | .Name x _=>eName Γ S x
 | .Constant k _ _=>HS k
 | .BinOp a op b p=>b2 ((B S).E a) ((B S).E b) (aK (Γ.fz p) op)
 | .UnaryOp .Not a _=>sy ((B S).E a)
 | .UnaryOp .USub a _=>b1 ((B S).E a) neg
 | .BoolOp .And es _=>om (es.map (B S).E)
 | .BoolOp .Or es _=>Cw (es.map (B S).E)
 | .Compare a ops es _=>Aj (B S) a ops es
 | .IfExp k a b _=>N7 ((B S).T k) ((B S).E a) ((B S).E b)
 | .List es p=>match es.all bB with
  |true=>lst (Γ.fz p) (es.map (B S).E)
  |false=>no
 | .Tuple es _ _=>match es.all bB && d? (es.length<=1000) with
  |true=>tup (es.map (B S).E)
  |false=>no
 | .Dict [] [] p=>ku (Γ.fz p)
 | .Subscript a b p=>LM Γ (B S) a b p
 | .Attribute o f _=>match okBase o && Γ.fl.contains f with
  |true=>b1 ((B S).E o) (fld f)
  |false=>no
 | .ListComp elt [⟨tg,iter,ifs,0⟩] sc p=>qa Γ B S elt tg iter ifs sc p
 | .Call (.Name x _) es [] p=>Ao Γ (B S) S x es p
 | .Call (.Attribute o m ap) es [] p=>Ap Γ (B S) o m ap es p
 |_=>no
def RJ(B:Bd)(own:Expr->SE):Expr->ST
 | .UnaryOp .Not a _=>df (B.T a)
 | .BoolOp .And es _=>jO (es.map B.T)
 | .BoolOp .Or es _=>pB (es.map B.T)
 | .Compare a ops es p=>tv (own (.Compare a ops es p))
 | .Name x p=>tv (own (.Name x p))
 | .Call f es ks p=>tv (own (.Call f es ks p))
 | .Subscript a b p=>tv (own (.Subscript a b p))
 | .Attribute o f p=>tv (own (.Attribute o f p))
 | .Constant k n p=>tv (own (.Constant k n p))
 |_=>no
def Fo:Expr->Bool
 | .Call ..=>t?
 | .Name ..=>t?
 | .Subscript ..=>t?
 | .Attribute ..=>t?
 |_=>f?
def PF(gs:List Comprehension):Option (Expr × Expr × List Expr):=match gs with
 | [⟨tg,iter,ifs,0⟩]=>s? (tg,iter,ifs)
 |_=>n?
def DG(B:Sg->Bd)(S:Sg)(i:Nat)(e:Expr):SS:=match mP e with
 |true=>asg (.one i) ((B S).E e)
 |false=>iU
def yl(Γ:Ct)(B:Sg->Bd)(S:Sg)(tg e:Expr):SS:=match tg with
 | .Name x p=>match S.own x with
  |some i=>match e with
   | .ListComp elt gs sc p=>match PF gs with
    |some (tg,iter,ifs)=>asg (.one i) (qa Γ B S elt tg iter ifs sc p)
    |none=>DG B S i e
   |_=>DG B S i e
  |none=>iU
 | .Tuple ts _ _=>match Ak S ts,Fo e with
  |some is,t?=>asg (.many is) ((B S).E e)
  |_,_=>iU
 | .Attribute o f _=>match Γ.fl.contains f with
  |true=>cQ ((B S).E o) f ((B S).E e)
  |false=>iU
 | .Subscript o i _=>match mP e with
  |true=>nK ((B S).E o) ((B S).E i) ((B S).E e)
  |false=>iU
 |_=>iU
def Kp(Γ:Ct)(B:Sg->Bd)(S:Sg):Stmt->SS
 | .Continue _=>cnt
 | .Expr e _=>match mP e with
  |true=>di ((B S).E e)
  |false=>iU
 | .Return n? _=>ret (c .aY)
 | .Return (s? e) _=>ret ((B S).E e)
 | .If k a b _=>iff ((B S).T k) (ab (a.map (B S).S)) (ab (b.map (B S).S))
 | .Assign [tg] e _=>yl Γ B S tg e
 | .AugAssign (.Name x _) op e _=>match S.own x with
  |some i=>aug op i ((B S).E e)
  |none=>iU
 | .AugAssign (.Subscript o i _) op e _=>match xY i with
  |true=>CJ op ((B S).E o) ((B S).E i) ((B S).E e)
  |false=>iU
 | .For tg e b [] _=>match PD S tg,jY e with
  |some t,t?=>aL (stI Γ (B S) S tg e) t (ab (b.map (B S).S))
  |_,_=>iU
 | .While k b [] _=>sk ((B S).T k) (ab (b.map (B S).S)) lim
 |_=>iU
def step(Γ:Ct)(B:Sg->Bd)(S:Sg):Bd:=⟨Fm Γ B S,RJ (B S) (Fm Γ B S),Kp Γ B S⟩
def cX(Γ:Ct):Nat->Sg->Bd
 |0,_=>⟨λ_=>no,λ_=>no,λ_=>iU⟩
 |n+1,S=>step Γ (cX Γ n) S
def code(Γ:Ct)(S:Sg)(b:List Stmt):SS:=ab (b.map (cX Γ 40 S).S)
end M
namespace M
open PySem PySem.W PySem.Calls PyProof.Rows L2
section
variable{X:Cx}{pins:bf}{φ:Fr}{g:G}{L L':aa}{s:VY}
def Aq{A:WY}{E:VT->VY->Prop}{fz:Bool}{ts:List T}{its:List VT}{w:T}(hu:A.units+8<cLine)(I:Inv X pins φ g L s)(rr:cL g ts its)(ok:fP ts)(h:fG fz (jb ts) L=.ok w L'):
  Wa (model X.prog X.w) A (Builtin.«list.sort» ⟨[.ref s.heap.objs.size],[]⟩) (λfin s'=>fin=.done (.ret .none)/\EP X pins φ g w L' (.ref s.heap.objs.size) s') E {s with heap:=s.heap.push (seqObj "list" its.toArray 0)}:=by
 obtain⟨Tz,hk,hh,hs⟩:=ok;have nD:∀b o,s.heap.get? b=s? o->b≠s.heap.objs.size:=λb o q=>Wm (V5 q)
 have HU:∀b o,s.heap.get? b=s? o->(s.heap.push (seqObj "list" its.toArray 0)).get? b=s? o:=λb o q=>VJ _ q
 have hlen:its.length=ts.length:=(V9 rr).symm;have hk':=VQ.mp hk
 have TC:∀i,kd 8 (ts.getD i (.int 0))=t?:=λi=>by
  cases e:ts[i]? with
  |none=>simp only[Gd9,e,aaz];rfl
  |some x=>simp only[Gd9,e,Zr];exact hk' x (Wd e)
 have PH:∀{h':Heap},(∀b o,s.heap.get? b=s? o->h'.get? b=s? o)->∀i(hi:i<ts.length)(hi':i<its.length),eX h' ts[i] its[i]:=λ{h'}kp i hi hi'=>
  (I.kept (t':=s.toks) kp).Rz 8 (hk' _ (Wn hi)) (xN rr i _ _ (Ge9 hi) (Ge9 hi'))
 refine pL (κ:=tuples' t?) (lt:=λi j=>ltN 8 (ts.getD i (.int 0)) (ts.getD j (.int 0))) (HR TC) (VO _ rfl) (by rw[Zg];omega) (λh2 h' kp Q' hQ=>?_) (λh' kp i j C hi hj hC=>?_) λp h' c hp hr kp e'=>?_
 ·have hf:∀i:_root_.Fin its.length,∃f:VT,(∃a o xs n,its[i.1]=.ref a/\h'.get? a=s? o/\o.cls=.type "tuple"/\o.data=.seq xs n/\xs[0]?=s? f)/\((ts.all Km=t?->typeOf f=pure (.type "str"))/\(ts.all Kn=t?->typeOf f=pure (.type "int"))):=λ⟨i,hi⟩=>by
   have hit:i<ts.length:=by omega
   have k:=PH (λb o q=>kp b o (nD b o q) (HU b o q)) i hit hi;have tup:∃b r,ts[i]=.tup (b::r):=by
    rcases hh with hh|hh<;>obtain⟨b,r,e,_⟩:=va (VQ.mp hh _ (Wn hit))<;>exact⟨b,r,e⟩
   obtain⟨b,r,et⟩:=tup;have hS:ts.all Km=t?->∃x,b=.str x:=λz=>by
    have z:=VQ.mp z _ (Wn hit);rw[et]at z;exact qU z
   have hI:ts.all Kn=t?->∃x,b=.int x:=λz=>by
    have z:=VQ.mp z _ (Wn hit);rw[et]at z;exact qV z
   rw[et]at k;generalize hv:its[i]=vv at k;cases k with
   |tup ho hc hd hl Dp=>
    rename_i a1 o1 i1 n1;have DH:0<i1.size:=by simp at hl;omega
    have k0:=Dp 0 b i1[0] rfl (VX DH);refine⟨i1[0],⟨a1,o1,i1,n1,rfl,ho,hc,hd,VX DH⟩,λz=>?_,λz=>?_⟩
    ·obtain⟨x,rfl⟩:=hS z
     generalize i1[0]=y at k0;cases k0;rfl
    ·obtain⟨x,rfl⟩:=hI z
     generalize i1[0]=y at k0;cases k0;rfl
  obtain⟨f,hf⟩:=Classical.skolem.mp hf;have kt:KatTups h' its (List.ofFn f):=p8 ⋯ λi h1 h2=>by
   rw[List.getElem_ofFn];exact(hf ⟨i,h1⟩).1
  rcases hh with hh|hh
  ·refine kat_kind (s:={s with heap:=h'}) (T:=.type "str") ⇑kt (by simp at h2 ⊢;omega) (λv hv=>?_) ∅ ?_
   ·obtain⟨i,rfl⟩:=(List.mem_ofFn (f:=f) (a:=v)).mp hv
    exact Looks.of_pure ((hf i).2.1 hh)
   ·exact hQ
  ·refine kat_kind (s:={s with heap:=h'}) (T:=.type "int") ⇑kt (by simp at h2 ⊢;omega) (λv hv=>?_) ∅ ?_
   ·obtain⟨i,rfl⟩:=(List.mem_ofFn (f:=f) (a:=v)).mp hv
    exact Looks.of_pure ((hf i).2.2 hh)
   ·exact hQ
 ·have i1:i<ts.length:=by omega
  have j1:j<ts.length:=by omega
  have t1:ts.getD i (.int 0)=ts[i]:=by simp[i1]
  have t2:ts.getD j (.int 0)=ts[j]:=by simp[j1]
  have g1:its.getD i WV=its[i]:=by rw[Gd9,Ge9 hi];rfl
  have g2:its.getD j WV=its[j]:=by rw[Gd9,Ge9 hj];rfl
  rw[g1,g2];have hC:C (ltN 8 (ts.getD i (.int 0)) (ts.getD j (.int 0))) _:=hC
  rw[t1,t2]at hC;refine LH hu (hk' _ (Wn i1)) (hk' _ (Wn j1)) ?_ (VQ.mp (VQ.mp hs _ (Wn i1)) _ (Wn j1)) (PH (λb o q=>kp b o (nD b o q) (HU b o q)) i i1 hi) (PH (λb o q=>kp b o (nD b o q) (HU b o q)) j j1 hj) hC;rcases hh with hh|hh
  ·exact .inl ⟨VQ.mp hh _ (Wn i1),VQ.mp hh _ (Wn j1)⟩
  ·exact .inr ⟨VQ.mp hh _ (Wn i1),VQ.mp hh _ (Wn j1)⟩
 ·have hpl:p.toList.Perm (W9 its.length):=hp.2
  have e1:(W9 its.length).map (λi=>ts.getD i (.int 0))=ts:=by
   rw[hlen];apply Xs ⋯;intro i a1 a2;simp[a2]
  have PJ:jb ts=p.toList.map (λi=>ts.getD i (.int 0)):=by
   refine qT hk ?_ ?_
   ·have z:=hpl.map (λi=>ts.getD i (.int 0))
    rw[e1]at z;exact z
   ·unfold mq
    rw[Yf,YT];intro i j hi hj kW;have hi':i<p.size:=by simpa using hi
    have hj':j<p.size:=by simpa using hj
    have z:=hr i j kW (by rw[<- hp.1];exact hj');have g1:p.getD i 0=p.toList[i]:=by simp[XZ,hi']
    have g2:p.getD j 0=p.toList[j]:=by simp[XZ,hj']
    rw[g1,g2]at z;exact z
  rw[PJ]at h;exact⟨rfl,DE (s:=s) (t':=s.toks) (n:=c) I (DD rr p.toList λi hi=>by have:=Z7.mp (hpl.mem_iff.mp hi);omega) h (λb o q=>kp b o (nD b o q) (HU b o q)) (V3 _) e'⟩
def ym{fz:Bool}(hu:X.A.units+20<cLine):eE X (.builtin "sorted") (iM fz):=λ{pins φ g L s _ w L' _}I r h=>by
 unfold iM at h;split at h
 ·obtain⟨u,rfl,ru⟩:=cb r
  obtain⟨q,v⟩:=I.view ru;split at h
  ·rename_i ts ev
   rw[ev]at v;obtain⟨ok,h⟩:=aE h;obtain⟨a,its,n,rfl,e,rr,hz⟩:=I.lst v;obtain⟨vs⟩:=its;have hlen:=V9 rr
   have Tz:=ok.1;refine Z6 kind_sorted plain_sorted entry_sorted (args_sorted1 _) ?_;unfold Builtin.«sorted»;refine VI (m:=checkCount "sorted" 1 1 _) (VM ?_);refine VI (collect_list (aj e) ?_ (by rw[Zg];simp at hlen ⊢;omega));refine VI (wpAny_newList ?_ (by rw[Zg];simp at hlen ⊢;omega));have keep:∀b o,s.heap.get? b=s? o->((s.heap.push (seqObj "list" #[] 0)).update s.heap.objs.size (XX (·++vs.toArray))).get? b=s? o:=λb o q=>by
    have cM:b<s.heap.objs.size:=V5 q;rw[ZN _ _ _ _ (Wm cM),X7 _ _ _ (Wm cM)];exact q
   have I1:=I.kept (t':=s.toks) keep;have nU:=λE'=>Aq (s:={s with heap:=(s.heap.push (seqObj "list" #[] 0)).update s.heap.objs.size (XX (·++vs.toArray))}) (E:=E') (A:=X.A.in1.in1) (by show X.A.units+1+1+8<cLine;omega) I1 rr ok h
   refine VI (wpAny_holding (wpAny_call_entry slot_list_sort ⟨_,VO _ rfl,rfl⟩ entry_list_sort ?body (args_list_sort _)))
   case body=>
    refine wpAny_mono (nU _) (λfin s' z=>?_) λ_ _ z=>z
    obtain⟨rfl,z⟩:=z;exact⟨_,rfl,VM ⟨_,rfl,z⟩⟩
  ·cases h
 ·cases h
end
end M
namespace L2
open PySem
def noKeysZ:typeLookup (.type "zip") "keys"=pure n?:=by rw[typeLookup_type,builtinLookup_eq_fast];rfl
def zip_getattr_none:typeLookup (.type "zip") "__getattr__"=pure n?:=by rw[typeLookup_type,builtinLookup_eq_fast];rfl
def entry_zip_getattribute:entryFor table "zip.__getattribute__"=s? Builtin.«object.__getattribute__» :=
 entryFor_alias (id':="object.__getattribute__") ⇑3 (by rfl) ⇑2 ⇑3
def meets_miss_zip(a:Wr)(xs:Array VT)(sl:Array (Option VT))(name:Str)(u:Tok)(hmiss:typeLookup (.type "zip") name=pure n?)(hname:(["__module__","__name__","__qualname__","__doc__","__annotations__"]:List Str).contains name=f?)(hsz:name.length+100<=Wf:=by size_fits):
  Meets (Builtin.«object.__getattribute__» ⟨[.ref a,.str name u],[]⟩) (λA R s=>s.heap.get? a=s? {cls:=.type "zip",dict:=n?,data:=.fields xs,slots:=sl}/\raisesAttr (.ref a) name A R s) :=
 Meets.of_wp λprog w A R s hs=>by
  obtain⟨hp,g,d,tk,os⟩:=s;obtain⟨hx,hs⟩:=hs;have hT:(⟨hp,g,d,tk,os⟩:VY).TypeIs (.ref a) "zip":=⟨_,hx,rfl⟩
  unfold Builtin.«object.__getattribute__»
  repeat (any_goals (first|assumption|wp_step))
  rw[if_neg (by rw[hname];exact Xl)]
  repeat (any_goals (first|assumption|wp_step))
  exact wpAny_raiseAttrError hs.1 hs.2 (attrMsg_fits ⇑2 hsz)
end L2
namespace L2
open PySem PySem.Spec PyProof.Rows
theorem yn
  (hx:s.heap.get? a=s? {cls:=.type "zip",dict:=n?,data:=.fields xs,slots:=sl}) (hA:A.handled=n?)
  (h:∀h' tk e,abm s.heap h' e "AttributeError"->Q n? {s with heap:=h',toks:=tk}):
  Wa (model prog w) A (getAttr? (.ref a) "keys") Q E s:=by
 obtain⟨hp,g,d,tk,os⟩:=s;have hT:∀tk',(⟨hp,g,d,tk',os⟩:VY).TypeIs (.ref a) "zip":=λ_=>⟨_,hx,rfl⟩
 have f1:=sub_AttributeError;have f3:=Yr.lookup
 have f4:=Yr.bind (.ref a);have f5:=zip_getattr_none
 have hmiss:=noKeysZ;unfold getAttr? getAttrBy? getAttrBy
 repeat (any_goals (first|assumption|exact hT _|((with_reducible show Wa _ _ (call (Y5 "zip.__getattribute__") _ _) _ _ _);refine call_meets Yr (hT _) entry_zip_getattribute (PySem.F.args_zip_getattribute_2 _ _) (meets_miss_zip a xs sl "keys" _ hmiss (by rfl) ∅) ⟨hx,hA,λh' tk' e hx'=>?_⟩)|wp_step))
 obtain⟨t',u',he⟩:=hx'.there;show Wa _ _ (getattributeRaised _ _ _ _ _ _ _) _ _ _
 unfold getattributeRaised
 repeat (any_goals (first|assumption|wp_step))
 exact h _ _ _ hx'.of
abbrev IsZipF(h:Heap)(z TI TO:Wr)(f0:VT)(f1:Bool):Prop :=
 h.get? z=s? {cls:=.type "zip",dict:=n?,data:=.fields #[f0,.bool f1,.bool f?,.ref TI,.ref TO],slots:=#[]}
def DI(h:Heap)(b:Bool)(i l:Wr)(k:Nat):Prop:=match b with|true=>h.IsTupleIter i l k|false=>h.IsListIter i l k
def DJ(h:Heap)(b:Bool)(l:Wr)(xs:Array VT):Prop:=match b with|true=>h.IsTuple l xs|false=>h.IsList l xs
def DI.at(x:DI h b i l k)(e:∀o,h.get? i=s? o->h'.get? i=s? o):DI h' b i l k:=by
 cases b with
 |false=>obtain⟨o,ho,r⟩:=x;exact⟨o,e _ ho,r⟩
 |true=>obtain⟨o,ho,r⟩:=x;exact⟨o,e _ ho,r⟩
def DJ.at(x:DJ h b l xs)(e:∀o,h.get? l=s? o->h'.get? l=s? o):DJ h' b l xs:=by
 cases b with
 |false=>obtain⟨o,ho,r⟩:=x;exact⟨o,e _ ho,r⟩
 |true=>obtain⟨o,ho,r⟩:=x;exact⟨o,e _ ho,r⟩
def DI.there(x:DI h b i l k):∃o,h.get? i=s? o:=by
 cases b with
 |false=>obtain⟨o,ho,r⟩:=x;exact⟨o,ho⟩
 |true=>obtain⟨o,ho,r⟩:=x;exact⟨o,ho⟩
section
variable{prog:WU}{w:XQ}{A:WY}{E:VT->VY->Prop}{s:VY}
def eZ(hit:s.heap.IsTupleIter it t i)
  (ht:s.heap.IsTuple t items) (hx:items[i]?=s? x)
  (hQ:∀h',h'.IsTupleIter it t (i+1)->XD it s.heap h'->Q x {s with heap:=h'}):
  Wa (model prog w) A (Wo (.ref it)) Q E s:=by
 obtain⟨o,ho,hc,hd⟩:=id hit;obtain⟨ol,yd,_,nl,yo⟩:=ht;unfold Wo;refine VI (wpAny_callSpecial?_slot (name:=WS "__next__") hit.typeIs Xu
  (wpAny_call_entry Xu hit.typeIs Y6 ?_ (Y1 _)))
 show Wa _ _ (field (.ref it) 0 >>= _) _ _ s;refine VI (wpAny_field ho hd (x:=.ref t) rfl ?_);show Wa _ _ (if (Zl t==WV)=t? then _ else _) _ _ s
 rw[if_neg (show ¬ ((Zl t==WV)=t?) from Xl)];show Wa _ _ (field (.ref it) 1 >>= _) _ _ s
 refine VI (wpAny_field ho hd (x:=.int i 0) rfl ?_);show Wa _ _ (seqItems? (.ref t) >>= _) _ _ s
 refine VI (wpAny_seqItems yd yo ?_);simp only[YG,hx];refine VI (wpAny_setField ho hd ⋯ (VM ⟨x,rfl,VM (hQ _ ?_ (YW ..))⟩));exact⟨_,YB _ ho (aaK (Y2 hd _)),(Obj.cls_mapFields ..).trans hc,by
  rw[Y2 hd];rfl⟩
def sY(hit:DI s.heap b it t i)
  (ht:DJ s.heap b t items) (hx:items[i]?=s? x)
  (hQ:∀h',DI h' b it t (i+1)->XD it s.heap h'->Q x {s with heap:=h'}):
  Wa (model prog w) A (Wo (.ref it)) Q E s:=by
 cases b with
 |false=>exact wpAny_nextOf_list_item hit ht hx hQ
 |true=>exact eZ hit ht hx hQ
structure ZD(z TI TO i1 i2 l1 l2 a:Wr):Prop where
 TIz:TI≠z
 TOz:TO≠z
 i1z:i1≠z
 i2z:i2≠z
 TITO:TI≠TO
 TIi1:TI≠i1
 TIi2:TI≠i2
 TOi1:TO≠i1
 TOi2:TO≠i2
 i12:i1≠i2
 l1z:l1≠z
 l1TO:l1≠TO
 l1i1:l1≠i1
 l1i2:l1≠i2
 l2z:l2≠z
 l2TO:l2≠TO
 l2i1:l2≠i1
 l2i2:l2≠i2
 za:z≠a
 TF:TI≠a
 TG:TO≠a
 TH:i1≠a
 TJ:i2≠a
structure Ar(h:Heap)(b:Bool)(z TI TO i1 i2 l1 l2 a:Wr)(k:Nat):Prop where
 z:∃f0 f1,IsZipF h z TI TO f0 f1/\(f0=.none\/∃T o,f0=rawInt ((T:Nat):Int)/\h.get? T=s? o/\T≠z/\T≠TO/\T≠i1/\T≠i2/\T≠a)
 ti:IsPair h TI (.ref i1) (.ref i2)
 to:∃x y,IsPair h TO x y
 j1:h.IsListIter i1 l1 k
 j2:DI h b i2 l2 k
def Ar.ext{h h':Heap}{b:Bool}{z TI TO i1 i2 l1 l2 a:Wr}{k:Nat}(D:ZD z TI TO i1 i2 l1 l2 a)(x:Ar h b z TI TO i1 i2 l1 l2 a k)(e:∀c o,c≠a->h.get? c=s? o->h'.get? c=s? o):Ar h' b z TI TO i1 i2 l1 l2 a k:=by
 obtain⟨⟨f0,f1,hz,hf⟩,HV,⟨u,v,Kq⟩,h1,h2⟩:=x;refine⟨⟨f0,f1,e _ _ D.za hz,?_⟩,e _ _ D.TF HV,⟨u,v,e _ _ D.TG Kq⟩,h1.at λo q=>e _ o D.TH q,h2.at λo q=>e _ o D.TJ q⟩;grind
def sZ(hz:IsZipF s.heap z TI TO (rawInt ((T0:Nat):Int)) f1)(ho:s.heap.get? T0=s? o0)
  (h:∀h₁,IsZipF h₁ z TI TO (rawInt ((T0:Nat):Int)) t?->XD z s.heap h₁->C f? {s with heap:=h₁}):Wa (model prog w) A (Wi (.ref z)) C E s:=by
 unfold Wi;refine VI (wpAny_field hz rfl (x:=rawInt ((T0:Nat):Int)) rfl ?_);show Wa _ _ (loadIfAlive (((T0:Nat):Int).toNat) >>= _) _ _ _
 rw[YG];refine VI (Q:=_) ?_;have al:∀{Q:Option Obj->VY->Prop},Q (s? o0) s->Wa (model prog w) A (loadIfAlive T0) Q E s:=λ{Q}q=>by
  have q':Q (s.heap.get? T0) s:=ho ▸ q;exact λ_ _ _=>q'
 refine al ?_;rw[if_neg ⋯];refine VI (wpAny_field hz rfl (x:=.bool f1) rfl ?_);cases f1 with
 |true=>
  rw[if_neg ∅];exact VM (h s.heap hz ⟨rfl,λ_ _=>rfl⟩)
 |false=>
  rw[if_pos ∅];refine VI (wpAny_setField_rec hz ⋯ λh₁ qb kr=>VM (h h₁ qb kr))
def As{Q:VT->VY->Prop}(D:ZD z TI TO i1 i2 l1 l2 a)(ha:a<s.heap.objs.size)
  (Z:Ar s.heap b z TI TO i1 i2 l1 l2 a k) (lj:s.heap.IsList l1 xs) (pv:DJ s.heap b l2 ys) (hx:xs[k]?=s? x) (hy:ys[k]?=s? y)
  (hQ:∀h' T,Ar h' b z TI TO i1 i2 l1 l2 a (k+1)->IsPair h' T x y->s.heap.objs.size<=T ->
   (∀c o,c≠z->c≠TO->c≠i1->c≠i2->s.heap.get? c=s? o->h'.get? c=s? o)->Q (.ref T) {s with heap:=h'}):
  Wa (model prog w) A (Builtin.«zip.__next__» ⟨[.ref z],[]⟩) (λfin s'=>∃v,fin=.done (.ret v)/\Q v s') E s:=by
 obtain⟨⟨f0,f1,hz,hf⟩,Cy,⟨u,v,Kr⟩,h1,h2⟩:=Z;show Wa _ _ (field (.ref z) 2 >>= _) _ _ _
 refine VI (wpAny_field hz rfl (x:=.bool f?) rfl ?_);show Wa _ _ (field (.ref z) 3 >>= _) _ _ _
 refine VI (wpAny_field hz rfl (x:=.ref TI) rfl ?_);refine VI (wpAny_seqItems Cy rfl ?_);show Wa _ _ (Wi (.ref z) >>= _) _ _ _
 rcases hf with rfl|⟨T0,o0,rfl,Oj,n1,n2,n3,n4,n5⟩
 ·refine VI ?_
  unfold Wi;refine VI (wpAny_field hz rfl (x:=.none) rfl (VM ?_));simp only[if_true];refine VI (wpAny_rule ?_);refine VI (wpAny_field hz rfl (x:=.ref TO) rfl ?_);refine VI (wpAny_setField_rec hz ⋯ λh₁ qb kr=>?_)
  replace qb:IsZipF h₁ z TI TO .ellipsis f1:=qb
  refine VI ?_;simp only[Yq,ZO,X8,YU];refine VI (VI (wpAny_onRaise ?_));show Wa _ _ (Wo (.ref i1) >>= _) _ _ _
  refine VI (wpAny_nextOf_list_item (h1.extBut kr.extBut D.i1z) (lj.extBut kr.extBut D.l1z) hx λh₂ LN pN=>VM ?_);have Au:IsPair h₂ TO u v:=pN.extBut _ _ D.TOi1 (kr.extBut _ _ D.TOz Kr)
  refine VI (wpAny_seqItems Au rfl ?_);refine VI (wpAny_updateSeq_pair Au λh₃ vd qc=>?_)
  replace vd:IsPair h₃ TO x v:=vd
  refine VI (wpAny_letGo (VM ?_));refine VI (VI (wpAny_onRaise ?_));show Wa _ _ (Wo (.ref i2) >>= _) _ _ _
  have yU:∀c o,c≠z->c≠i1->c≠TO->s.heap.get? c=s? o->h₃.get? c=s? o:=λc o c1 c2 c3 e=>qc.extBut _ _ c3 (pN.extBut _ _ c2 (kr.extBut _ _ c1 e))
  refine VI (sY (h2.at λo e=>yU _ o D.i2z D.i12.symm D.TOi2.symm e) (pv.at λo e=>yU _ o D.l2z D.l2i1 D.l2TO e) hy λh₄ PK Av=>VM ?_);have Aw:IsPair h₄ TO x v:=Av.extBut _ _ D.TOi2 vd
  refine VI (wpAny_seqItems Aw rfl ?_);refine VI (wpAny_updateSeq_pair Aw λh₅ oo Ax=>?_)
  replace oo:IsPair h₅ TO x y:=oo
  refine VI (wpAny_letGo (VM (VM ?_)));refine VI (wpAny_seqItems oo rfl ?_);refine VI (wpAny_newTuple ?_);have hsz:h₅.objs.size=s.heap.objs.size:=by rw[Ax.1,Av.1,qc.1,pN.1,kr.1]
  have LO:IsZipF h₅ z TI TO .ellipsis f1:=Ax.extBut _ _ D.TOz.symm (Av.extBut _ _ D.i2z.symm (qc.extBut _ _ D.TOz.symm (pN.extBut _ _ D.i1z.symm qb)));have LP:∀c o,c≠z->c≠TO->c≠i1->c≠i2->s.heap.get? c=s? o->h₅.get? c=s? o:=λc o c1 c2 c3 c4 e=>
   Ax.extBut _ _ c2 (Av.extBut _ _ c4 (yU _ _ c1 c3 c2 e))
  have LQ:h₅.IsListIter i1 l1 (k+1):=((LN.extBut qc.extBut D.TOi1.symm).extBut Av.extBut D.i12).extBut Ax.extBut D.TOi1.symm;have LR:DI h₅ b i2 l2 (k+1):=PK.at λo e=>Ax.extBut _ _ D.TOi2.symm e
  have yp:z<h₅.objs.size:=V5 LO;have Fp:TO<h₅.objs.size:=V5 oo
  have Fq:i1<h₅.objs.size:=by obtain⟨_,e,_⟩:=LQ;exact V5 e
  have Fs:i2<h₅.objs.size:=by obtain⟨_,e⟩:=LR.there;exact V5 e
  show Wa _ _ (Xe (.ref z) (.ref h₅.objs.size) >>= _) _ _ _;refine VI ?_;unfold Xe;have PL:IsZipF (h₅.push {cls:=.type "tuple",data:=.seq #[x,y]}) z TI TO .ellipsis f1:=VJ _ LO
  refine VI (wpAny_setField_rec PL ⋯ λh₇ HW LS=>?_)
  replace HW:IsZipF h₇ z TI TO (rawInt h₅.objs.size) f1:=HW
  refine wpAny_setField_rec HW ⋯ λh₈ Ft LU=>?_
  replace Ft:IsZipF h₈ z TI TO (rawInt h₅.objs.size) f?:=Ft
  have up:∀c o,c≠z->h₅.get? c=s? o->h₈.get? c=s? o:=λc o c1 e=>LU.extBut _ _ c1 (LS.extBut _ _ c1 (VJ _ e))
  have LV:IsPair h₈ h₅.objs.size x y:=LU.extBut _ _ (WR yp) (LS.extBut _ _ (WR yp) (VO _ rfl));refine VM ⟨_,rfl,?_⟩;show Q (.ref h₅.objs.size) _
  refine hQ h₈ h₅.objs.size ⟨⟨_,_,Ft,.inr ⟨h₅.objs.size,_,rfl,LV,WR yp,WR Fp,WR Fq,WR Fs,WR (by rw[hsz];exact ha)⟩⟩,up _ _ D.TIz (LP _ _ D.TIz D.TITO D.TIi1 D.TIi2 Cy),⟨x,y,up _ _ D.TOz oo⟩,LQ.at λo e=>up _ o D.i1z e,LR.at λo e=>up _ o D.i2z e⟩ LV (Zm hsz.symm) λc o c1 c2 c3 c4 e=>up c o c1 (LP c o c1 c2 c3 c4 e)
 ·refine VI (sZ hz Oj λh₁ qb kr=>?_)
  simp only[Ws,if_false,List.forIn_toArray,X8,YU];refine VI ?_;refine VI (VI (wpAny_holding ?_));show Wa _ _ (Wo (.ref i1) >>= _) _ _ _
  refine VI (wpAny_nextOf_list_item (h1.extBut kr.extBut D.i1z) (lj.extBut kr.extBut D.l1z) hx λh₂ LN pN=>VM ?_);refine VM ?_;refine VI (VI (wpAny_holding ?_));show Wa _ _ (Wo (.ref i2) >>= _) _ _ _
  have PM:∀c o,c≠z->c≠i1->s.heap.get? c=s? o->h₂.get? c=s? o:=λc o c1 c2 e=>pN.extBut _ _ c2 (kr.extBut _ _ c1 e)
  refine VI (sY (h2.at λo e=>PM _ o D.i2z D.i12.symm e) (pv.at λo e=>PM _ o D.l2z D.l2i1 e) hy λh₃ TK qc=>VM ?_);refine VM (VM ?_);show Wa _ _ (newTuple [x,y] >>= _) _ _ _
  refine VI (wpAny_newTuple (VM ⟨_,rfl,?_⟩));have hsz:h₃.objs.size=s.heap.objs.size:=by rw[qc.1,pN.1,kr.1]
  have yU:∀c o,c≠z->c≠i1->c≠i2->s.heap.get? c=s? o->h₃.get? c=s? o:=λc o c1 c2 c3 e=>qc.extBut _ _ c3 (PM _ _ c1 c2 e)
  have TL:IsZipF h₃ z TI TO (rawInt ((T0:Nat):Int)) t?:=qc.extBut _ _ D.i2z.symm (pN.extBut _ _ D.i1z.symm qb);have TM:h₃.IsListIter i1 l1 (k+1):=LN.extBut qc.extBut D.i12
  have HX:∀c o,h₃.get? c=s? o->(h₃.push {cls:=.type "tuple",data:=.seq #[x,y]}).get? c=s? o:=λc o e=>VJ _ e
  refine hQ (h₃.push {cls:=.type "tuple",data:=.seq #[x,y]}) h₃.objs.size ⟨⟨_,_,HX _ _ TL,.inr ⟨T0,o0,rfl,HX _ _ (yU _ _ n1 n3 n4 Oj),n1,n2,n3,n4,n5⟩⟩,HX _ _ (yU _ _ D.TIz D.TIi1 D.TIi2 Cy),⟨u,v,HX _ _ (yU _ _ D.TOz D.TOi1 D.TOi2 Kr)⟩,TM.at λo e=>HX _ o e,TK.at λo e=>HX _ o e⟩ (VO _ rfl) (Zm hsz.symm) λc o c1 _ c3 c4 e=>HX _ _ (yU c o c1 c3 c4 e)
def DK(hh:A.handled=n?)(D:ZD z TI TO i1 i2 l1 l2 a)
  (Z:Ar s.heap b z TI TO i1 i2 l1 l2 a k) (lj:s.heap.IsList l1 xs) (hx:xs[k]?=n?)
  (hE:∀h' e,(∀c o,c≠z->c≠TO->c≠i1->c≠i2->s.heap.get? c=s? o->h'.get? c=s? o)->(∃o,h'.get? e=s? o/\o.cls=.type "StopIteration")->E (.ref e) {s with heap:=h'}):
  Wa (model prog w) A (Builtin.«zip.__next__» ⟨[.ref z],[]⟩) Q E s:=by
 obtain⟨⟨f0,f1,hz,hf⟩,Cy,⟨u,v,Kr⟩,h1,h2⟩:=Z;show Wa _ _ (field (.ref z) 2 >>= _) _ _ _
 refine VI (wpAny_field hz rfl (x:=.bool f?) rfl ?_);show Wa _ _ (field (.ref z) 3 >>= _) _ _ _
 refine VI (wpAny_field hz rfl (x:=.ref TI) rfl ?_);refine VI (wpAny_seqItems Cy rfl ?_);show Wa _ _ (Wi (.ref z) >>= _) _ _ _
 rcases hf with rfl|⟨T0,o0,rfl,Oj,n1,n2,n3,n4,n5⟩
 ·refine VI ?_
  unfold Wi;refine VI (wpAny_field hz rfl (x:=.none) rfl (VM ?_));simp only[if_true];refine VI (wpAny_rule ?_);refine VI (wpAny_field hz rfl (x:=.ref TO) rfl ?_);refine VI (wpAny_setField_rec hz ⋯ λh₁ qb kr=>?_)
  replace qb:IsZipF h₁ z TI TO .ellipsis f1:=qb
  refine VI ?_;simp only[Yq,ZO,X8,YU];refine VI (VI (wpAny_onRaise ?_));show Wa _ _ (Wo (.ref i1) >>= _) _ _ _
  refine VI (wpAny_nextOf_list_end hh (h1.extBut kr.extBut D.i1z) (lj.extBut kr.extBut D.l1z) hx λh₂ e pN he=>?_);obtain⟨oe,LW,Ol⟩:=he;have Oo:IsZipF h₂ z TI TO .ellipsis f1:=pN _ _ D.i1z.symm qb
  have PN:e≠z:=λx=>by grind
  refine wpAny_setField_rec Oo ⋯ λh₃ _ qc=>hE h₃ e (λc o c1 _ c3 _ x=>qc.extBut _ _ c1 (pN _ _ c3 (kr.extBut _ _ c1 x))) ⟨oe,qc.extBut _ _ PN LW,Ol⟩
 ·refine VI (sZ hz Oj λh₁ qb kr=>?_)
  simp only[Ws,if_false,List.forIn_toArray,X8,YU];refine VI ?_;refine VI (VI (wpAny_holding ?_));show Wa _ _ (Wo (.ref i1) >>= _) _ _ _
  refine VI (wpAny_nextOf_list_end hh (h1.extBut kr.extBut D.i1z) (lj.extBut kr.extBut D.l1z) hx λh₂ e pN he=>?_);exact hE h₂ e (λc o c1 _ c3 _ x=>pN _ _ c3 (kr.extBut _ _ c1 x)) he
def pO(D:ZD z TI TO i1 i2 l1 l2 a)(ha:a<s.heap.objs.size)
  (Z:Ar s.heap b z TI TO i1 i2 l1 l2 a k) (lj:s.heap.IsList l1 xs) (pv:DJ s.heap b l2 ys) (hx:xs[k]?=s? x) (hy:ys[k]?=s? y)
  (hQ:∀h' T,Ar h' b z TI TO i1 i2 l1 l2 a (k+1)->IsPair h' T x y->s.heap.objs.size<=T ->
   (∀c o,c≠z->c≠TO->c≠i1->c≠i2->s.heap.get? c=s? o->h'.get? c=s? o)->Q (s? (.ref T)) {s with heap:=h'}):
  Wa (model prog w) A (pyNext (.ref z)) Q E s:=by
 obtain⟨f0,f1,hz,_⟩:=Z.z;have hT:s.TypeIs (.ref z) "zip":=⟨_,hz,rfl⟩
 unfold pyNext;exact VI (wpAny_attempt (wpAny_callSpecial?_slot (name:=WS "__next__") hT W0
  (wpAny_call_entry W0 hT Yz (As D ha Z lj pv hx hy λh' T a1 a2 a3 a4=>VM (hQ h' T a1 a2 a3 a4)) (Yn _))))
def qX(hh:A.handled=n?)(D:ZD z TI TO i1 i2 l1 l2 a)
  (Z:Ar s.heap b z TI TO i1 i2 l1 l2 a k) (lj:s.heap.IsList l1 xs) (hx:xs[k]?=n?)
  (hQ:∀h',(∀c o,c≠z->c≠TO->c≠i1->c≠i2->s.heap.get? c=s? o->h'.get? c=s? o)->Q n? {s with heap:=h'}):Wa (model prog w) A (pyNext (.ref z)) Q E s:=by
 obtain⟨f0,f1,hz,_⟩:=Z.z;have hT:s.TypeIs (.ref z) "zip":=⟨_,hz,rfl⟩
 unfold pyNext;refine VI (wpAny_attempt (wpAny_callSpecial?_slot (name:=WS "__next__") hT W0
  (wpAny_call_entry W0 hT Yz (DK hh D Z lj hx λh' e hk he=>?_) (Yn _))))
 obtain⟨o,ho,hc⟩:=he;refine VI (wpAny_isInstance (T:="StopIteration") (b:=t?) ⟨o,ho,hc⟩ isSubtype_stop ?_);exact VM (hQ _ hk)
end
abbrev Oq(h:Heap)(l1 l2:Wr):Heap:=(zipH1 h l1).push {cls:=.type "tuple_iterator",data:=.fields #[.ref l2,.int 0 0]}
abbrev Ot(h:Heap)(l1 l2:Wr):Heap:=(Oq h l1 l2).push {cls:=.type "tuple",data:=.seq #[.ref h.objs.size,.ref (zipH1 h l1).objs.size]}
abbrev Ou(h:Heap)(l1 l2:Wr):Heap:=(Ot h l1 l2).push {cls:=.type "tuple",data:=.seq #[.none,.none]}
abbrev HY(h:Heap)(l1 l2:Wr):Heap:=(Ou h l1 l2).push {cls:=.type "zip",data:=.fields #[.none,.bool f?,.bool f?,.ref (Oq h l1 l2).objs.size,.ref (Ot h l1 l2).objs.size]}
def ve(l1 l2:Wr)(xs ys:Array VT):
  Meets (Builtin.«zip.__new__» ⟨[.type "zip",.ref l1,.ref l2],[]⟩) (λ_ R s=>s.heap.IsList l1 xs/\s.heap.IsTuple l2 ys /\
   R (.ok (.ret (.ref (Ou s.heap l1 l2).objs.size))) {s with heap:=HY s.heap l1 l2}) :=
 .of_wp λprog w A R s h=>by
  obtain⟨hp,g,d,tk,os⟩:=s;obtain⟨lj,pv,h⟩:=h;have LX:=sub_zip
  have HZ:Heap.IsList (abe ⟨hp,g,d,tk,os⟩) l1 xs:=lj;have Fu:aby (abe ⟨hp.push {cls:=.type "list_iterator",data:=.fields #[.ref l1,.int 0 0]},g,d,tk,os⟩) l2 ys:=abt pv _
  wp_walk using wpAny_pyIter_list HZ,wpAny_pyIter_tuple Fu
  exact⟨_,rfl,h⟩
section
variable{prog:WU}{w:XQ}{A:WY}{E:VT->VY->Prop}{s:VY}
def yq(lj:s.heap.IsList l1 xs)(pv:s.heap.IsTuple l2 ys)
  (h:∀h',IsZip h' (s.heap.objs.size+4) (s.heap.objs.size+2) (s.heap.objs.size+3) .none->IsPair h' (s.heap.objs.size+2) (.ref s.heap.objs.size) (.ref (s.heap.objs.size+1)) ->
   IsPair h' (s.heap.objs.size+3) .none .none->h'.IsListIter s.heap.objs.size l1 0->h'.IsTupleIter (s.heap.objs.size+1) l2 0->h'.objs.size=s.heap.objs.size+5 ->
   (∀c o,s.heap.get? c=s? o->h'.get? c=s? o)->Q (.ref (s.heap.objs.size+4)) {s with heap:=h'}):
  Wa (model prog w) A (call (.type "zip") [.ref l1,.ref l2]) Q E s:=by
 refine callType_new abq ∅ (aaH _ _) (aaU _ _) (λobj=>ZU obj _ _) aaV
  (ve l1 l2 xs ys) ⟨lj,pv,?_⟩
 have z1:(zipH1 s.heap l1).objs.size=s.heap.objs.size+1:=W7 ..;have z2:(Oq s.heap l1 l2).objs.size=s.heap.objs.size+2:=by simp
 have z3:(Ot s.heap l1 l2).objs.size=s.heap.objs.size+3:=by simp
 have z4:(Ou s.heap l1 l2).objs.size=s.heap.objs.size+4:=by simp
 have z5:(HY s.heap l1 l2).objs.size=s.heap.objs.size+5:=by simp
 have g5:(HY s.heap l1 l2).get? (Ou s.heap l1 l2).objs.size=s? _:=VO _ rfl;have g4:(HY s.heap l1 l2).get? (Ot s.heap l1 l2).objs.size=s? _:=VJ _ (VO _ rfl)
 have g3:(HY s.heap l1 l2).get? (Oq s.heap l1 l2).objs.size=s? _:=VJ _ (VJ _ (VO _ rfl));have g2:(HY s.heap l1 l2).get? (zipH1 s.heap l1).objs.size=s? _:=VJ _ (VJ _ (VJ _ (VO _ rfl)))
 have g1:(HY s.heap l1 l2).get? s.heap.objs.size=s? _:=VJ _ (VJ _ (VJ _ (VJ _ (VO _ rfl))));show _/\_
 rw[z2,z3,z4]at g5;rw[z1,z2]at g3;rw[z3]at g4;rw[z1]at g2;rw[z4];exact⟨⟨_,g5,rfl⟩,h _ g5 g3 g4 ⟨_,g1,rfl,rfl⟩ ⟨_,g2,rfl,rfl⟩ z5 λc o x=>
  VJ _ (VJ _ (VJ _ (VJ _ (VJ _ x))))⟩
def vg(lj:s.heap.IsList l1 xs)(pv:DJ s.heap b l2 ys)
  (h:∀h',IsZip h' (s.heap.objs.size+4) (s.heap.objs.size+2) (s.heap.objs.size+3) .none->(∀a,Ar h' b (s.heap.objs.size+4) (s.heap.objs.size+2) (s.heap.objs.size+3) s.heap.objs.size (s.heap.objs.size+1) l1 l2 a 0)->h'.objs.size=s.heap.objs.size+5 ->
   (∀c o,s.heap.get? c=s? o->h'.get? c=s? o)->Q (.ref (s.heap.objs.size+4)) {s with heap:=h'}):
  Wa (model prog w) A (call (.type "zip") [.ref l1,.ref l2]) Q E s:=by
 cases b with
 |false=>exact call_zip_2 lj pv λh' a1 a2 a3 a4 a5 a6 a7=>h h' a1 (λ_=>⟨⟨_,_,a1,.inl rfl⟩,a2,⟨_,_,a3⟩,a4,a5⟩) a6 a7
 |true=>exact yq lj pv λh' a1 a2 a3 a4 a5 a6 a7=>h h' a1 (λ_=>⟨⟨_,_,a1,.inl rfl⟩,a2,⟨_,_,a3⟩,a4,a5⟩) a6 a7
end
end L2
namespace M
open PySem PySem.Spec PyProof.Rows L2
section
variable{X:Cx}{pins:bf}{φ:Fr}{g g0:G}{L L':aa}{s:VY}{xs ys:List T}{LY LZ:List VT}{a z TI TO i1 i2 l1 l2:Wr}{Vw Vx:Obj}{A:WY}{R:Result->VY->Prop}{b:Bool}
def RK(N l h:Nat)(e:h=N+5)(hl:l<N):l≠h:=by omega
def Ay(N l1 l2:Nat)(h1:l1<N)(h2:l2<N):ZD (N+4) (N+2) (N+3) N (N+1) l1 l2 (N+5):=by
 constructor<;>(refine sq ?_;omega)
theorem ta:∀(a b:List T),prsOf (zp a b)=s? (a.zip b)
 | [],_=>rfl
 |_::_,[]=>rfl
 |x::a,y::b=>by
  show prsOf (.tup [x,y]::zp a b)=_;unfold prsOf;rw[ta a b];rfl
def tc(hu:X.A.units+20<cLine)(I:Inv X pins φ g L s)(HZ:s.heap.IsList l1 LY.toArray)(Fu:DJ s.heap b l2 LZ.toArray)(r1:cL g xs LY)(r2:cL g ys LZ)(hle:xs.length<=ys.length)(h:uJ (zp xs ys) L=.ok w L'):
  Wa (model X.prog X.w) X.A (call (.type "zip") [.ref l1,.ref l2]) (λu s'=>Wa (model X.prog X.w) X.A (call (.type "dict") [u]) (EP X pins φ g w L') F0 s') F0 s:=by
 have jN:X.A.in1.in1.units+8<cLine:=by(simp;omega)
 unfold uJ at h;rw[ta]at h;obtain⟨⟨hm,hlen⟩,h⟩:=aE h;cases h;have ha:l1<s.heap.objs.size:=by
  obtain⟨_,e,_⟩:=HZ;exact V5 e
 have hb:l2<s.heap.objs.size:=by
  cases b with
  |false=>obtain⟨_,e,_⟩:=Fu;exact V5 e
  |true=>obtain⟨_,e,_⟩:=Fu;exact V5 e
 refine vg HZ Fu λh1 KU hZ H0 lX=>?_
 have I1:Inv X pins φ g L {s with heap:=h1}:=I.kept (t':=s.toks) lX;have CU:g.H h1.objs.size=n?:=I1.hok.fresh (V3 _)
 have big:(h1.objs.size==sysModules)=f?:=by
  have h1':sysModules<s.heap.objs.size:=YE ∅ (I.mod.glob.keeps I.bk).lt;grind
 have J0:=I1.new (c:=.ay []) (o:={cls:=.type "dict",data:=.dict #[]}) (h':=h1.push {cls:=.type "dict",data:=.dict #[]}) (t':=s.toks) (λb u e=>VJ _ e) (V3 _) (VO _ rfl)
  (.ay (.inr rfl) (.inl av) ⟨rfl,rfl,rfl⟩ rfl (Wg _) rfl ⟨Xz,rfl⟩ big (λi x e e1 _=>by simp at e1) (λi x e e1 _=>by simp at e1) λi x e e1 _=>by simp at e1)
 have l0:=Le.new (o:={cls:=.type "dict",data:=.dict #[]}) CU;have rd:RT (g.new h1.objs.size {cls:=.type "dict",data:=.dict #[]}) n? (.ref L.length) (.ref h1.objs.size):=by
  have:=I.rel.len;exact .ref (p:=(h1.objs.size,h1.objs.size)) (by show at_ ((_,_)::g.α) _=_;rw[<- this];exact cY)
 refine callType_codes (Q₁:=λobj s₁=>obj=.ref h1.objs.size/\s₁={s with heap:=h1.push {cls:=.type "dict",data:=.dict #[]}}) aaG (ZS _) aas (kt_code_dict_new _ ⟨rfl,rfl⟩) ?_;rintro obj s₁ ⟨rfl,rfl⟩;have u4:abn {s with heap:=h1.push {cls:=.type "dict",data:=.dict #[]}} (.ref h1.objs.size) "dict":=⟨_,VO _ rfl,rfl⟩
 refine⟨u4,aak _ _,?_⟩;unfold Builtin.«dict.__init__»;refine VI ?_;unfold aal;refine VI (wpAny_notOrdered_dict u4 ?_);show Wa _ _ (pure (h1.objs.size,[Zl (s.heap.objs.size+4)])) _ _ _
 refine VM ?_;show Wa _ _ (Yl "dict.__init__" h1.objs.size (.ref (s.heap.objs.size+4)) [] .none) _ _ _
 unfold Yl;have z9:=VJ {cls:=.type "dict",data:=.dict #[]} KU
 refine VI (wpAny_typeOf (T:="zip") ⟨_,z9,rfl⟩ ?_);rw[if_pos ∅];refine VI (yn z9 I.ok.hd λh3 RL e hx=>?_);rw[if_pos (show(n?:Option VT).isNone=t? from rfl)];refine VI (wpAny_rule ?_);have TN:=hx.keeps _ _ z9
 have J1:=J0.kept (t':=RL) (h':=h3) λb o e=>hx.keeps b o e
 refine VI (wpAny_pyIter_zip (s:={s with heap:=h3,toks:=RL}) TN ?_);refine VM ⟨plainId_quiet plain_dul _,codeAny_builtin entry_dul ?_⟩;rw[YN plain_dul _];have HU:∀b o,s.heap.get? b=s? o->h3.get? b=s? o:=λb o q=>hx.keeps _ _ (VJ _ (lX _ _ q))
 have D:ZD (s.heap.objs.size+4) (s.heap.objs.size+2) (s.heap.objs.size+3) s.heap.objs.size (s.heap.objs.size+1) l1 l2 h1.objs.size:=by
  rw[H0];exact Ay _ l1 l2 ha hb
 have lj:=V9 r1;have pv:=V9 r2
 have TQ:(xs.zip ys).length=xs.length:=by simp_all
 have four:∀{c:Wr},c∉[s.heap.objs.size+4,s.heap.objs.size+3,s.heap.objs.size,s.heap.objs.size+1]->c≠s.heap.objs.size+4/\c≠s.heap.objs.size+3/\c≠s.heap.objs.size/\c≠s.heap.objs.size+1:=λ{c}h=>by simpa using h
 refine u3 (A:=X.A.in1) (a:=h1.objs.size) (L:=L) jN [s.heap.objs.size+4,s.heap.objs.size+3,s.heap.objs.size,s.heap.objs.size+1] (λi h=>h.IsList l1 LY.toArray/\DJ h b l2 LZ.toArray/\Ar h b (s.heap.objs.size+4) (s.heap.objs.size+2) (s.heap.objs.size+3) s.heap.objs.size (s.heap.objs.size+1) l1 l2 h1.objs.size i) hm hlen (λc hc=>by
   grind)
  (λi h h'⟨q1,q2,q3⟩e=>⟨q1.at λo q=>(e l1 (RK _ _ _ H0 ha)).trans q,q2.at λo q=>(e l2 (RK _ _ _ H0 hb)).trans q,q3.ext D λc o hc q=>(e c hc).trans q⟩)
  (λi s' g' p Q ep lg Pe J⟨q1,q2,q3⟩hQ=>?_) (λs' Q⟨q1,q2,q3⟩hQ=>qX (s:=s') (A:=X.A.in1.in1) I.ok.hd D q3 q1 (by simp;omega) λh2 lR=>hQ h2 λc o hc e=>let ⟨a1,a2,a3,a4⟩:=four hc;lR c o a1 a2 a3 a4 e) (λs' g' lg J Lu=>?_)
  (xs.zip ys).length 0 _ _ rfl (Wg _) (Le.refl _) J1 rd (λc hc=>?_) ⟨HZ.at λo q=>HU _ o q,Fu.at λo q=>HU _ o q,(hZ h1.objs.size).ext D λc o _ e=>hx.keeps _ _ (VJ _ e)⟩
 ·have hi:=(VZ.mp ep).1
  have hx:i<xs.length:=by omega
  have hy:i<ys.length:=by omega
  have Kj:i<LY.length:=by omega
  have Dp:i<LZ.length:=by omega
  have ez:(xs.zip ys)[i]?=s? (xs[i],ys[i]):=by simp_all
  obtain rfl:=ZI (ez.symm.trans ep);have rk:=(xN (r1.le l0) i _ _ (Ge9 hx) (Ge9 Kj)).le lg
  have rv:=(xN (r2.le l0) i _ _ (Ge9 hy) (Ge9 Dp)).le lg;refine pO (s:=s') (x:=LY[i]) (y:=LZ[i]) D Pe q3 q1 q2 ⋯ ⋯ λh4 t TR hT CM Ks=>?_
  exact hQ h4 t _ _ _ _ ⟨q1.at λo q=>Ks l1 o D.l1z D.l1TO D.l1i1 D.l1i2 q,q2.at λo q=>Ks l2 o D.l2z D.l2TO D.l2i1 D.l2i2 q,TR⟩ (λc o hc e=>let ⟨a1,a2,a3,a4⟩:=four hc;Ks c o a1 a2 a3 a4 e) hT rfl rfl rk rv
 ·exact⟨rfl,g',l0.trans lg,J,Lu⟩
 ·have xX:s.heap.objs.size<=c/\c≠h1.objs.size:=by
   grind
  refine I.qx xX.1 ?_;show upd g.H _ _ c=n?
  rw[aB xX.2];exact I.hok.fresh xX.1
end
end M
namespace M
open PySem PySem.Spec PyProof.Rows
section
variable{X:Cx}{pins:bf}{φ:Fr}{g:G}{L L':aa}{s:VY}{o e:Expr}{m:SE}{fz:Bool}{p q ap pos:Pos}
theorem DL{t:List T}{L1:aa}(h:iT [m] φ L=.ok t L1):∃x,t=[x]/\m φ L=.ok x L1:=by
 obtain⟨x,L2,e1,h⟩:=R.of h;obtain⟨ts,L3,e2,h⟩:=R.of h;cases e2;cases h;exact⟨x,rfl,e1⟩
theorem DM{m1 m2:SE}{t:List T}{L1:aa}(h:iT [m1,m2] φ L=.ok t L1):∃x y,t=[x,y]:=by
 obtain⟨x,L2,e1,h⟩:=R.of h;obtain⟨ts,L3,e2,h⟩:=R.of h;obtain⟨y,rfl,e2⟩:=DL e2;cases h;exact⟨x,y,rfl⟩
theorem DN{a b:Expr}{ma mb:SE}(hu:X.A.units+20<cLine)(ha:PA X [a,b] (iT [ma,mb]))(hg:Gl X "dict")(hm:X.mg "dict"=n?)(HL:Gl X "zip")(TS:X.mg "zip"=n?)(lS:[a,b].all bB=t?)(hs:bB (.Call (.Name "zip" ap) [a,b] [] q)=t?):PE X (.Call (.Name "dict" p) [.Call (.Name "zip" ap) [a,b] [] q] [] pos) (ae jQ [ma,mb]):=λ{pins φ g L s w L'}I h=>by
 obtain⟨ts,L1,e1,h⟩:=R.of h;obtain⟨t1,t2,rfl⟩:=DM e1;have Lx:bB a=t?/\bB b=t?:=by simpa using lS
 refine wpAny_Call_Name_kw (i9 I hg hm (by kernel_rfl:bootBuiltins "dict"=s? (.type "dict")) ?_ ∅ ∅);refine callWith_type1 ?_ (aR hs) (eG rfl);rw[aR hs];refine abi ?_;refine wpAny_Call_Name_kw (i9 I HL TS (by kernel_rfl:bootBuiltins "zip"=s? (.type "zip")) ?_ ∅ ∅);refine callWith_type1 (thn (ha q I e1) λus s1⟨g1,l1,I1,r1⟩=>?_) (aR Lx.1) (eG ⇑Lx.2);obtain⟨u1,u2,rfl,Ov,Ow⟩:=gO r1;unfold jQ at h;dsimp only at h;obtain⟨p1,v1⟩:=I1.view Ov;obtain⟨p2,v2⟩:=I1.view Ow;split at h
 ·rename_i xs ys H3 PQ
  rw[H3]at v1;rw[PQ]at v2;obtain⟨hle,h⟩:=aE h;obtain⟨a1,PR,n1,rfl,q1,PU,_⟩:=I1.lst v1;obtain⟨a2,qJ,n2,rfl,q2,Di,_⟩:=I1.lst v2;exact thn (tc (b:=f?) hu I1 ⇑(aj q1) (show s1.heap.IsList a2 qJ.toList.toArray from by simpa using aj q2) PU Di hle h) λ_ _ z=>aab (thn z λ_ _ y=>y.le l1)
 ·rename_i xs ys H3 PQ
  rw[H3]at v1;rw[PQ]at v2;obtain⟨hle,h⟩:=aE h;obtain⟨a1,PR,n1,rfl,q1,PU,_⟩:=I1.lst v1;obtain⟨a2,qJ,rfl,q2,Di,_⟩:=I1.tupP v2;exact thn (tc (b:=t?) hu I1 ⇑(aj q1) (show s1.heap.IsTuple a2 qJ.toList.toArray from by rw[Array.toArray_toList];exact q2) PU Di hle h) λ_ _ z=>aab (thn z λ_ _ y=>y.le l1)
 ·cases h
end
section
variable{X:Cx}{pins:bf}{φ:Fr}{g:G}{L:aa}{s:VY}
def H4{A:WY}{a c:Bool}:L2.qQ A s (.bool a) (.bool c) (!a && c):=λprog w E Q h=>
 richCompare_gives (op:=.Lt) (aaj s a) (aaj s c) PySem.F.slot_bool_lt aa5 (aaW _ _) (gives_int_lt_bools a c) (λx=>nomatch x) (by cases a<;>cases c<;>exact h) rfl
def H5{A:WY}{i j:Int}{t u:Tok}:L2.qQ A s (.int i t) (.int j u) (d? (i<j)):=λprog w E Q h=>
 richCompare_gives (op:=.Lt) (typeIs_int s i t) (typeIs_int s j u) PySem.F.slot_int_lt aa5 (aaW _ _) (gives_int_lt i j t u) (λx=>nomatch x) h rfl
def L9{a c:Bool}{i j:Int}{u v:VT}(hu:X.A.units+20<cLine)(I:Inv X pins φ g L s)(rx:RT g n? (.tup [.bl a,.int i]) u)(ry:RT g n? (.tup [.bl c,.int j]) v):
  Wa (model X.prog X.w) X.A (compareOp .Lt u v) (EP X pins φ g (.bl (yj a c i j)) L) F0 s:=by
 obtain⟨p,i1,rfl,h1,r1,_⟩:=I.tupP rx;obtain⟨q,i2,rfl,h2,r2,_⟩:=I.tupP ry;refine L2.n8 h1 h2 ⇑0 (r:=yj a c i j) ?_ _ _ _ _ (I.ep (.bl _));obtain⟨l1⟩:=i1;obtain⟨l2⟩:=i2
 replace r1:cL g [.bl a,.int i] l1:=r1
 replace r2:cL g [.bl c,.int j] l2:=r2
 obtain⟨x1,y1,rfl,a1,b1⟩:=gO r1;obtain⟨x2,y2,rfl,a2,b2⟩:=gO r2;have e1:=(I.rc (A:=X.A.in1) 8 (show dat 8 (.bl a)=t? from rfl) (show dat 8 (.bl c)=t? from rfl) (by show X.A.units+1+8<cLine;omega) a1 a2).2
 have e2:=(I.rc (A:=X.A.in1) 8 (show dat 8 (.int i)=t? from rfl) (show dat 8 (.int j)=t? from rfl) (by show X.A.units+1+8<cLine;omega) b1 b2).2;obtain rfl:=a1.bI;obtain rfl:=a2.bI;obtain⟨_,rfl⟩:=b1.iI;obtain⟨_,rfl⟩:=b2.iI;have q1:uz 8 (.bl a) (.bl c)=(a==c):=rfl
 have q2:uz 8 (.int i) (.int j)=(i==j):=rfl;rw[q1]at e1;rw[q2]at e2;unfold yj;by_cases h:a=c
 ·subst h
  rw[if_pos rfl];rw[beq_self_eq_true]at e1;refine .eq e1 ?_;by_cases z:i=j
  ·subst z
   rw[beq_self_eq_true]at e2;rw[decide_eq_false (aav i)];exact .eq e2 .nn
  ·rw[show(i==j)=f? from beq_eq_false_iff_ne.mpr z]at e2
   exact .ne e2 H5
 ·rw[if_neg h]
  rw[show(a==c)=f? from beq_eq_false_iff_ne.mpr h]at e1;exact .ne e1 H4
end
section
variable{X:Cx}{pins:bf}{φ:Fr}{g:G}{L:aa}{s:VY}{xs ys:List T}{u v:VT}{p q:Option (Wr × Wr)}
def Az(hu:X.A.units+20<cLine)(I:Inv X pins φ g L s)(rx:RT g p (.lst xs) u)(ry:RT g q (.lst ys) v)(h1:xs.all (dat 7)=t?)(h2:ys.all (dat 7)=t?):
  Wa (model X.prog X.w) X.A (compareOp .NotEq u v) (EP X pins φ g (.bl (!eqT (.lst xs) (.lst ys))) L) F0 s:=by
 obtain⟨l1,i1,n1,rfl,g1,r1,_⟩:=I.lst rx;obtain⟨l2,i2,n2,rfl,g2,r2,_⟩:=I.lst ry;have s1:xs.length=i1.size:=by simpa using V9 r1
 have s2:ys.length=i2.size:=by simpa using V9 r2
 have e0:eqT (.lst xs) (.lst ys)=si (uz 7) xs ys:=rfl;rw[e0,<- gY];by_cases hl:xs.length=ys.length
 ·rw[show(xs.length==ys.length)=t? by simpa using hl,YI,show min xs.length ys.length=i1.size by omega]
  refine SeqAt.RcNeAt.lists (e:=λj=>uz 7 (xs.getD j .aY) (ys.getD j .aY)) (aj g1) (aj g2) ⇑0 ⇑0 (λj k1 k2=>?_) _ _ _ _ (I.ep (.bl _));exact(I.rc 7 (qG h1 ⇑0) (qG h2 ⇑0) (by show X.A.units+1+7<cLine;omega) (xN r1 j _ _ (getD_at ⇑0) (by simp[k1])) (xN r2 j _ _ (getD_at ⇑0) (by simp[k2]))).2
 ·rw[show(xs.length==ys.length)=f? by simpa using hl,Z5]
  exact SeqAt.RcNeAt.lists_lengths (aj g1) (aj g2) (by simp;omega) ⇑0 _ _ _ _ (I.ep (.bl t?))
end
section
variable{X:Cx}{pins:bf}{φ:Fr}{g:G}{L:aa}{s:VY}
theorem wV:∀{xs:List T}{us:List VT},cL g xs us->cL g xs.reverse us.reverse
 |_,_,.nil=>.nil
 |_,_,.cons h r=>by
  rw[List.reverse_cons,List.reverse_cons];exact(wV r).app (.cons h .nil)
theorem H6:yQ X "list.reverse" DF:=λI rx rv h=>by
 unfold DF at h;split at h
 ·split at h
  ·rename_i n _ ys ea
   cases h;cases rv;obtain⟨a,its,cnt,rfl,e,rr,hl,hz⟩:=I.sP rx ea;refine call_meets aaI ⟨_,e,rfl⟩ F.entry_list_reverse (F.args_list_reverse_1 _) (PySem.AutoSeq1.list_reverse_list_0 a its cnt ⇑0) ⟨e,?_⟩;exact I.qE ea rx e ⇑(wV rr) ⇑hz
  ·cases h
 ·cases h
end
section
variable{P:WU}{w:XQ}{K:Wl}{mg:Str->Option VT}{cls:Str->Option Wr}{base:Heap}{N ps:List Str}{qual:Str}{scope:Scope}{f:Wr}{cd:VT}{A:WY}{s s1:VY}{g:G}{L:aa}
def H7{k:Nat}{name:Str}{params:Arguments}{body:List Stmt}{dV kV doc pm eQ ct oc:VT}{an od:Option Wr}{pZ:Array (Option VT)}{mb:SS}(lk:K.lookup f=s? ⟨oc,od,.func (W5 name qual params body scope dV kV doc pm an eQ ct),pZ⟩)(hcd:XN K eQ qual=t?)(S:kH N ps scope)
  (sO:∀us:List VT,us.length=ps.length->bindArgs (W5 name qual params body scope dV kV doc pm an eQ ct) ⟨us,[]⟩=pure (ps.zip us))
  (nU:∀(A:WY)(s:VY)(H:Hp),fM k (A.deeper (envOfC qual scope s.heap.objs.size f eQ))->yP (xW P w K mg cls base N qual scope f eQ A s H) body mb):
  dO P w K mg cls base (k+1) f (runK ps.length N.length mb):=λ{A s g L L' us xs t}hr e0 r kI=>by
 unfold runK at kI;split at kI
 ·rename_i hl
  have K7:us.length=ps.length:=by rw[<- V9 r];exact hl
  have KX:K.In s.heap:=e0.mod.E9.keeps λb o e=>(e0.bs b o e).1
  have lim:s.heap.NoLimit:=e0.mod.nolimit.keeps λb o e=>(e0.bs b o e).1
  have hkind:∀y∈ps.zip us,scope.names.lookup y.1=s? .local\/(scope.names.lookup y.1=s? .cell/\((cellsFrom (s.heap.objs.size+1) scope.names []).lookup y.1).isSome=t?):=λ⟨n,v⟩hy=>by
   rcases S.par n (Xm hy).1 with q|q
   ·exact .inl q
   ·exact .inr ⟨q,Yw _ _ _ (.inl q)⟩
  refine codeAny_call_function hr.depth (KX _ _ lk) rfl S.co S.gen rfl (ZW KX hcd) (abk (sO us K7) _ _ _ _ ?_);refine wpAny_newFunctionEnv_cells S.kind hkind λenv he s1 x=>?_
  subst he;refine⟨lim.keeps x.toInCall.keep,codeAny_func ?_⟩;have I:=lZ (A:=A) (cd:=eQ) S hr.hd e0 hl r x
  have nb:mb (xs.map s?++Wj (N.length - ps.length) n?) L≠.bad:=λz=>by rw[z]at kI;cases kI
  refine wpAny_mono (nU A s g.H (hr.deeper _) I nb) (λfl s'⟨g',l,hs⟩=>?_) λe s' hs=>hs.elim
  cases eb:mb (xs.map s?++Wj (N.length - ps.length) n?) L with
  |nx φ' L1=>
   rw[eb]at hs kI;cases fl<;>first|exact hs.elim|(cases kI;exact⟨g',hs.os,hs.bare,hs.base,hs.hok,l,hs.rel,.aY⟩)
  |rt t0 L1=>
   rw[eb]at hs kI;cases fl<;>first|exact hs.elim|skip
   obtain⟨⟨φ',J⟩,rt⟩:=hs;cases kI;exact⟨g',J.os,J.bare,J.base,J.hok,l,J.rel,rt⟩
  |_=>rw[eb]at kI;cases kI
 ·cases kI
def H8{k:Nat}{C:Wr}{cn:Str}{init:Fn}(M:Mk K C f)(hF:dO P w K mg cls base k f init)(hc:cls cn=s? C):dO P w K mg cls base (k+1) C (oh cn init):=λ{A s g L L' us xs t}hr e0 r h=>by
 have KX:K.In s.heap:=e0.mod.E9.keeps λb o e=>(e0.bs b o e).1
 refine sL KX M.makes M.init (beq_iff_eq.mp M.fn) ?_;generalize hn:s.heap.objs.size=n;have fr:∀a,n<=a->g.H a=n?:=λa ha=>e0.hok.fresh (by rw[hn];exact ha)
 have e1:(s.heap.push Wh).get? n=s? Wh:=by rw[<- hn];exact VO s.heap rfl
 have e2:((s.heap.push Wh).push (Wu C n)).get? (n+1)=s? (Wu C n):=by
  have:=VO (s.heap.push Wh) (o:=Wu C n) rfl;rwa [W7,hn]at this
 have e1':((s.heap.push Wh).push (Wu C n)).get? n=s? Wh:=VJ _ e1;have kp:∀b o,s.heap.get? b=s? o->((s.heap.push Wh).push (Wu C n)).get? b=s? o:=λb o q=>VJ _ (VJ _ q)
 have eR:∀b o,s.heap.get? b=s? o->b<n:=λb o q=>by rw[<- hn];exact V5 q
 let g1:G:={g with H:=upd (upd g.H n (f?,Wh)) (n+1) (f?,Wu C n),α:=(n+1,n)::g.α}
 have old:∀b,b<n->g1.H b=g.H b:=λb hb=>(aB (sq ⇑0)).trans (aB (sq ⇑0))
 have tr:∀b x,g.H b=s? x->b<n:=λb x q=>eR b x.2 (e0.hok b x.1 x.2 q)
 have h1:g1.H n=s? (f?,Wh):=(aB (sq ⇑0)).trans av;have h2:g1.H (n+1)=s? (f?,Wu C n):=av
 have l1:Le g g1:=⟨λb o q=>(old b (tr b _ q)).trans q,λ_ _ q=>jw q,rfl,rfl,rfl⟩;have alt:∀m q,at_ g.α m=s? q->q.1<n/\q.2<n:=λm q e=>by
  obtain⟨⟨o1,z1⟩,o2,z2⟩:=e0.rel.live m q e;exact⟨tr _ _ z1,tr _ _ z2⟩
 have ob:RT g1 (s? (n+1,n)) (.obj cn []) (.ref (n+1)):=.obj (od:=Wh) (es:=#[]) (n:=0) (.inr rfl) (sq ⇑0) (by show g.cls cn=_;rw[e0.gm];exact hc) (.inl h2) (.inl h1) rfl (λe he=>absurd he ⋯) (by simp[UniqKeys]) ⋯ ⋯ (λf=>rfl) λf x v q=>by simp at q
 have Hh:Rel g1 (.obj cn []::L):=by
  refine⟨by show((n+1,n)::g.α).length=_;simp[e0.rel.len],λm c q=>?_,λm m' p q q1 q2 hne=>?_,λm p q=>?_⟩
  ·unfold at_ at q
   split at q
   ·rename_i em
    cases q;exact⟨(n+1,n),by rw[em,<- e0.rel.len];exact cY,ob⟩
   ·obtain⟨p,z1,z2⟩:=e0.rel.cells m c q
    refine⟨p,jw z1,z2.up l1 λq z=>?_⟩;cases z;exact⟨old _ (alt m p z1).1,old _ (alt m p z1).2⟩
  ·have q1:at_ ((n+1,n)::g.α) m=s? p:=q1
   have q2:at_ ((n+1,n)::g.α) m'=s? q:=q2
   unfold at_ at q1 q2
   split at q1
   ·cases q1
    split at q2
    ·omega
    ·have z:=alt m' q q2;exact⟨sq (.inr (Xh z.1)),sq (.inr (Xh z.2)),sq (.inr z.1),sq (.inr z.2)⟩
   ·split at q2
    ·cases q2
     have z:=alt m p q1;exact⟨sq (.inl (Xh z.1)),sq (.inl z.1),sq (.inl (Xh z.2)),sq (.inl z.2)⟩
    ·exact e0.rel.apart m m' p q q1 q2 hne
  ·have q:at_ ((n+1,n)::g.α) m=s? p:=q
   unfold at_ at q
   split at q
   ·cases q;exact⟨⟨_,h2⟩,_,h1⟩
   ·obtain⟨⟨o1,z1⟩,o2,z2⟩:=e0.rel.live m p q
    have z:=alt m p q;exact⟨⟨o1,(old _ z.1).trans z1⟩,o2,(old _ z.2).trans z2⟩
 have O4:uV P w K mg cls base {s with heap:=(s.heap.push Wh).push (Wu C n)} g1 (.obj cn []::L):=by
  refine⟨e0.mod,λb o q=>⟨kp b o (e0.bs b o q).1,(old b (eR b o (e0.bs b o q).1)).trans (e0.bs b o q).2⟩,?_,λa b o q=>?_,e0.bare,Hh,e0.gB,e0.gm,e0.gw⟩
  ·show _<=((s.heap.push _).push _).objs.size
   rw[W7,W7];have:=e0.Gv;omega
  ·by_cases z1:a=n+1
   ·subst z1;rw[h2]at q;cases q;exact e2
   ·by_cases z2:a=n
    ·subst z2;rw[h1]at q;cases q;exact e1'
    ·have q:g.H a=s? (b,o):=by rw[<- q];exact((aB z1).trans (aB z2)).symm
     exact kp a o (e0.hok a b o q)
 unfold oh at h;cases ei:init (.ref L.length::xs) (.obj cn []::L) with
 |bad=>rw[ei]at h;cases h
 |ok t0 L1=>
  rw[ei]at h;cases t0 with
  |aY=>
   have r1:cL g1 (.ref L.length::xs) (.ref (n+1)::us):=.cons (.ref (p:=(n+1,n)) (by show at_ ((n+1,n)::g.α) _=_;rw[<- e0.rel.len];exact cY)) (r.le l1);refine codeAny_mono (hF (hr.make C us []) O4 r1 ei) λr s' hq=>?_
   cases r with
   |error e=>exact abu hq
   |ok fl=>
    cases fl with
    |ret u=>
     obtain⟨g2,os,bare,un,hok,l2,Hi,r2⟩:=hq;cases r2;refine⟨rfl,?_⟩;have O5:Un [] g.H g2.H s.heap s'.heap:=⟨λb o q z x=>un.keep b o (kp b o q) ((old b (eR b o q)).trans z) x,λb o q z x=>un.free b o (kp b o q) ((old b (eR b o q)).trans z) x,λb o q=>un.bE b o (l1.f b o q)⟩
     have ra:RT g2 n? (.ref L.length) (.ref (n+1)):=.ref (p:=(n+1,n)) (l2.α _ _ (by show at_ ((n+1,n)::g.α) _=_;rw[<- e0.rel.len];exact cY));cases h;exact⟨g2,os,bare,O5,hok,l1.trans l2,Hi,ra⟩
    |_=>exact abu hq
  |_=>cases h
end
section
variable{X:Cx}
def AA(hu:X.A.units+20<cLine):v9 X (compareOp .NotEq) wU:=λ{pins φ g L s x y w L' u v}I rx ry h=>by
 unfold wU at h;split at h
 ·rename_i a b ea eb
  obtain⟨⟨h1,h2⟩,h⟩:=aE h;cases h;obtain⟨p,vx⟩:=I.view rx;obtain⟨q,vy⟩:=I.view ry;rw[ea]at vx;rw[eb]at vy;exact Az hu I vx vy h1 h2
 ·exact fO hu I rx ry h
def wW{x:T}{p:Bool × Int}(h:Ah x=s? p):x=.tup [.bl p.1,.int p.2]:=by
 cases x with
 |tup l=>cases l with
  |nil=>cases h
  |cons a l=>cases a with
   |bl a=>cases l with
    |nil=>cases h
    |cons b l=>cases b with
     |int i=>cases l with
      |nil=>cases h;rfl
      |cons=>cases h
     |_=>cases h
   |_=>cases h
 |_=>cases h
def H9(hu:X.A.units+20<cLine):v9 X (compareOp .Lt) LJ:=λ{pins φ g L s x y w L' u v}I rx ry h=>by
 unfold LJ at h;cases e1:Ah x with
 |none=>rw[e1]at h;exact fO hu I rx ry h
 |some p=>
  rw[e1]at h;cases e2:Ah y with
  |none=>rw[e2]at h;exact fO hu I rx ry h
  |some q=>
   rw[e2]at h;cases h;rw[wW e1]at rx;rw[wW e2]at ry;exact L9 hu I rx ry
end
abbrev tI(l:Wr):Obj:={cls:=.type "tuple_iterator",data:=.fields #[.ref l,.int 0 0]}
abbrev Ma(h:Heap)(l1 l2:Wr):Heap:=(h.push (tI l1)).push (tI l2)
abbrev Mb(h:Heap)(l1 l2:Wr):Heap:=(Ma h l1 l2).push {cls:=.type "tuple",data:=.seq #[.ref h.objs.size,.ref (h.push (tI l1)).objs.size]}
abbrev Ox(h:Heap)(l1 l2:Wr):Heap:=(Mb h l1 l2).push {cls:=.type "tuple",data:=.seq #[.none,.none]}
abbrev Ia(h:Heap)(l1 l2:Wr):Heap:=(Ox h l1 l2).push {cls:=.type "zip",data:=.fields #[.none,.bool f?,.bool f?,.ref (Ma h l1 l2).objs.size,.ref (Mb h l1 l2).objs.size]}
def Ib(l1 l2:Wr)(xs ys:Array VT):Meets (Builtin.«zip.__new__» ⟨[.type "zip",.ref l1,.ref l2],[]⟩) (λ_ R s=>s.heap.IsTuple l1 xs/\s.heap.IsTuple l2 ys/\R (.ok (.ret (.ref (Ox s.heap l1 l2).objs.size))) {s with heap:=Ia s.heap l1 l2}) :=
 .of_wp λprog w A R s⟨lj,pv,h⟩=>by
  obtain⟨hp,g,d,tk,os⟩:=s;have LX:=sub_zip
  have HZ:aby (abe ⟨hp,g,d,tk,os⟩) l1 xs:=lj;have Fu:aby (abe ⟨hp.push (tI l1),g,d,tk,os⟩) l2 ys:=abt pv _
  wp_walk using wpAny_pyIter_tuple HZ,wpAny_pyIter_tuple Fu
  exact⟨_,rfl,h⟩
abbrev Oy(h:Heap)(l:Wr):Heap:=h.push {cls:=.type "tuple_iterator",data:=.fields #[.ref l,.int 0 0]}
abbrev Kt(h:Heap)(l:Wr):Heap:=(Oy h l).push {cls:=.type "enumerate",data:=.fields #[.none,.bool f?,.ref h.objs.size,rawInt 0,.none,.none]}
set_option maxHeartbeats 1000000 in
def yr(l:Wr)(xs:Array VT):Meets (Builtin.«enumerate.__new__» ⟨[.type "enumerate",.ref l],[]⟩) (λ_ R s=>s.heap.IsTuple l xs/\R (.ok (.ret (.ref (Oy s.heap l).objs.size))) {s with heap:=Kt s.heap l}) :=
 .of_wp λprog w A R s⟨hL,h⟩=>by
  obtain⟨hp,g,d,tk,os⟩:=s;have LX:=sub_enumerate
  obtain⟨o,ho,hc,n,hd⟩:=id hL
  wp_walk using wpAny_load ho
  refine wpAny_stack_any λst=>VM ?_;split
  ·rename_i c _ _ _ _ _;cases (c==Value.type "enumerate")<;>(wp_walk using wpAny_load ho,wpAny_pyIter_tuple hL;exact⟨_,rfl,h⟩)
  ·wp_walk using wpAny_load ho,wpAny_pyIter_tuple hL;exact⟨_,rfl,h⟩
section
variable{P:WU}{w:XQ}{A:WY}{E:VT->VY->Prop}{s:VY}
theorem vh{l:Wr}{xs:Array VT}{Q:VT->VY->Prop}(hL:s.heap.IsTuple l xs)
  (h:IsEnum (Kt s.heap l) (s.heap.objs.size+1) s.heap.objs.size 0 .none->(Kt s.heap l).IsTupleIter s.heap.objs.size l 0->(∀b o,s.heap.get? b=s? o->(Kt s.heap l).get? b=s? o)->Q (.ref (s.heap.objs.size+1)) {s with heap:=Kt s.heap l}):
  Wa (model P w) A (call (.type "enumerate") [.ref l]) Q E s:=by
 refine callType_new F.called_enumerate ∅ (F.typeCall_enumerate_1 _) (F.newCall_enumerate_1 _) (λobj=>F.args_object_init_2 obj _) F.entry_enumerate_new (yr l xs) ⟨hL,?_⟩;have hz:(Oy s.heap l).objs.size=s.heap.objs.size+1:=W7 ..
 have he:IsEnum (Kt s.heap l) (s.heap.objs.size+1) s.heap.objs.size 0 .none:=by
  have q:=VO (Oy s.heap l) (o:={cls:=.type "enumerate",data:=.fields #[.none,.bool f?,.ref s.heap.objs.size,rawInt 0,.none,.none]}) rfl;rw[hz]at q;exact q
 show _/\_;rw[hz];exact⟨⟨_,he,rfl⟩,h he ⟨_,VJ _ (VO _ rfl),rfl,rfl⟩ λb o x=>VJ _ (VJ _ x)⟩
def te{it t:Wr}{i:Nat}{xs:Array VT}{Q:VT->VY->Prop}(hh:A.handled=n?)(hit:s.heap.IsTupleIter it t i)(ht:s.heap.IsTuple t xs)(hx:xs[i]?=n?)
  (hE:∀h' e,Heap.ExtBut it s.heap h'->(∃o,h'.get? e=s? o/\o.cls=.type "StopIteration")->E (.ref e) {s with heap:=h'}):Wa (model P w) A (Wo (.ref it)) Q E s:=by
 obtain⟨o,ho,hc,hd⟩:=id hit;obtain⟨ol,yd,_,nl,yo⟩:=ht;unfold Wo;refine VI (wpAny_callSpecial?_slot (name:=WS "__next__") hit.typeIs Xu (wpAny_call_entry Xu hit.typeIs Y6 ?_ (Y1 _)));refine VI (VM (VI (wpAny_field ho hd (x:=.ref t) rfl ?_)));show Wa _ _ (if (Zl t==WV)=t? then _ else _) _ _ s
 rw[if_neg (show ¬ ((Zl t==WV)=t?) from Xl)];refine VI (wpAny_field ho hd (x:=.int (i:Int) 0) rfl ?_);show Wa _ _ (seqItems? (.ref t) >>= _) _ _ s
 refine VI (wpAny_seqItems yd yo ?_);simp only[YG,hx];refine VI (wpAny_rule (VI (wpAny_setField ho hd ⋯ (VI ?_))));simp only[newExc,newTuple];refine VI (wpAny_newObj_type ?_ (by size_fits));refine VI (m:=firstArgMember _ _) (wpAny_of_eq (a:=WV) (by first|rfl|(simp only[firstArgMember];rfl)) (wpAny_newObj_type ?_ (by size_fits)));simp only[raiseNew];refine VI (wpAny_handled ?_);rw[show A.in1.handled=n? from hh];exact VI (VM (wpAny_throw (hE _ _ (((YW ..).extBut.push _).push _) ⟨_,VO _ rfl,rfl⟩)))
def AB(hh:A.handled=n?)(it l:Wr)(hne:l≠it)(xs:Array VT):Draws P w A it [it,l] xs.size (λi v=>xs[i]?=s? v) (λi h=>h.IsTupleIter it l i/\h.IsTuple l xs) where
 live:=λ_ _ st=>let ⟨o,ho,_⟩:=st.1;⟨o,ho⟩
 frame:=λ_ _ _ st hk=>⟨st.1.at λo e=>hk it ⋯ o e,st.2.at λo e=>hk l ⋯ o e⟩
 item:=λi s Q E hi st hQ=>L2.eZ st.1 st.2 (x:=xs[i]) (by simp[hi]) λh' hit' hs'=>hQ _ h' s.toks (by simp[hi]) ⟨hit',st.2.at λo e=>(hs'.2 _ hne).trans e⟩ hs'
 done:=λs Q E st hE=>te hh st.1 st.2 ⋯ hE
end
section
variable{P:WU}{wd:XQ}{g0:G}{t:T}{a it:Wr}{xs:List T}{L0:aa}
def vm{elts:List Expr}{x1:Nat}{pos:Pos}{e:Wr}(hne:e≠it)(r0:RT g0 n? t (.ref a))(hv:vw L0 t=.tup xs):Turn P wd (.Tuple elts x1 pos) g0 (num 0 xs) (stays t L0) [e,it] e (λi h=>(∃old,IsEnum h e it ((i:Nat):Int) old)/\h.IsTupleIter it a i) where
 mem:=by simp
 obj:=λi h st b hb=>by
  obtain⟨⟨old,pq⟩,o,q,c,d⟩:=st;rcases(by simpa using hb:b=e\/b=it) with rfl|rfl
  ·exact⟨_,pq,λv z=>nomatch z⟩
  ·exact⟨o,q,λv z=>by rw[d]at z;cases z⟩
 keep:=λi h h' st k=>by
  obtain⟨⟨old,pq⟩,pE⟩:=st;exact⟨⟨old,k e (.inl ⋯) _ pq⟩,pE.at λo q=>k it (.inl ⋯) o q⟩
 item:=by
  intro X hP hw i pins φ g L s E x l I hf st hk hx;subst hP hw;obtain⟨⟨old,pq⟩,pE⟩:=st;obtain⟨p,r⟩:=I.view (r0.le l);rw[eF hk,hv]at r;obtain⟨a',its,e1,e2,rv,_⟩:=I.tupP r;cases e1;rw[uO,V7]at hx;obtain⟨y,hy,rfl⟩:=hx;obtain⟨u,hu,ru⟩:=pD rv hy;have hu:its[i]?=s? u:=by simpa using hu
  obtain⟨o,q1,c1,_⟩:=id pE;obtain⟨oa,q2,c2,_⟩:=id e2;have ne1:a≠it:=λz=>by
   subst z;rw[q1]at q2;cases q2;rw[c1]at c2;simp at c2
  have ne2:e≠a:=λz=>by
   subst z;rw[show s.heap.get? e=s? _ from pq]at q2;cases q2;simp at c2
  refine wpAny_pyNext_enum_itemD (AB (A:=X.A.in1) I.ok.hd it a ne1 its) pq ⟨pE,e2⟩ (XU.mp hu).1 hne (by simp[hne,ne2]) λx h1 tk px OT gg OV KU lX=>?_
  obtain rfl:u=x:=by rw[hu]at px;cases px;rfl
  refine⟨_,rfl,wpAny_letOwnedTupleGo_enum OT λh2 OW lS=>?_⟩
  replace lS:XD e h1 h2:=lS
  have OX:e<s.heap.objs.size:=V5 pq;have Sw:it<s.heap.objs.size:=V5 q1
  have KV:h2.get? s.heap.objs.size=s? {cls:=.type "tuple",data:=.seq #[.int i tk,u]}:=(lS.2 _ (WR OX)).trans OV;obtain⟨g',l',I',r',f'⟩:=I.pair (t':=tk+1) (ch:=[e,it]) (.int (i:Int) tk) ru hf (λb hb=>by rcases(by simpa using hb:b=e\/b=it) with z|z<;>rw[z]<;>assumption) KV λb o hb q=>by
   have hb1:b≠e:=λz=>hb (by simp[z])
   have Ki:b≠it:=λz=>hb (by simp[z])
   exact(lS.2 b hb1).trans (lX b o hb1 Ki q)
  refine⟨g',l',I',⇑r',⟨⟨u,?_⟩,gg.1.at λo q=>(lS.2 it (YA hne)).trans q⟩,f'⟩;show IsEnum h2 e it (((i+1:Nat)):Int) u
  rw[show(((i+1:Nat)):Int)=(i:Int)+1 by push_cast;rfl];exact OW
 done:=by
  intro X hP hw i pins φ g L s E l I hf st hk hx;subst hP hw;obtain⟨⟨old,pq⟩,pE⟩:=st;obtain⟨p,r⟩:=I.view (r0.le l);rw[eF hk,hv]at r;obtain⟨a',its,e1,e2,rv,_⟩:=I.tupP r;cases e1;have hl:=V9 rv
  rw[we]at hx;have hz:i=its.size:=by simp at hl;omega
  subst hz;obtain⟨o,q1,c1,_⟩:=id pE;obtain⟨oa,q2,c2,_⟩:=id e2;have ne1:a≠it:=λz=>by
   subst z;rw[q1]at q2;cases q2;rw[c1]at c2;simp at c2
  exact wpAny_pyNext_enum_endD (AB (A:=X.A.in1) I.ok.hd it a ne1 its) pq ⟨pE,e2⟩ λh' eb=>⟨rfl,I.turned (t':=s.toks) (ch:=[e,it]) (λb o hb e=>eb b o (λz=>hb (by simp[z])) e) hf⟩
 self:=λ_ _ _ _ _ st h=>by obtain⟨⟨old,pq⟩,_⟩:=st;exact wpAny_pyIter_enum pq h
end
section
variable{X:Cx}{tg e a b:Expr}{m ma mb:SE}{pos p OY:Pos}
theorem Ic{elts:List Expr}{x1:Nat}{Ie:Pos}(hg:Gl X "enumerate")(hm:X.mg "enumerate"=n?)(ha:PE X a ma)(hs:bB a=t?):PI X (.Tuple elts x1 Ie) (.Call (.Name "enumerate" p) [a] [] pos) (CI ma):=λI h=>by
 obtain⟨t,L1,e3,h⟩:=R.of h;refine wpAny_Call_Name_kw (i9 I hg hm boot_enumerate ?_ ∅ ∅);refine YC (thn (ik ha nO hs pos I (KW e3)) λus s1⟨g1,l1,I1,r1⟩=>?_) (aR hs) rfl;cases r1 with
 |cons r rr=>
  cases rr;obtain⟨p,rv⟩:=I1.view r;cases ev:vw L1 t with
  |lst ys=>
   rw[ev]at h rv;cases h;obtain⟨a,its,n,rfl,e2,rr,_⟩:=I1.lst rv;refine call_enumerate_list (aj e2) λh' he hit hz' hk=>wpAny_pyIter_enum he ?_
   refine⟨s1.heap.objs.size+1,[s1.heap.objs.size+1,s1.heap.objs.size],_,g1,rfl,l1,I1.kept (t':=s1.toks) hk,xQ (Nat.succ_ne_self _) r ev,⟨⟨_,he⟩,hit⟩,λb hb=>?_⟩;have hb':s1.heap.objs.size<=b:=by
    rcases(by simpa using hb:b=s1.heap.objs.size+1\/b=s1.heap.objs.size) with z|z<;>rw[z]
    ·exact XF _
    ·exact V3 _
   exact I1.qx hb' (I1.hok.fresh hb')
  |tup ys=>
   rw[ev]at h rv;cases h;obtain⟨a,its,rfl,e2,rr,_⟩:=I1.tupP rv;refine vh (show s1.heap.IsTuple a its from e2) λhe hit hk=>wpAny_pyIter_enum he ?_
   refine⟨s1.heap.objs.size+1,[s1.heap.objs.size+1,s1.heap.objs.size],_,g1,rfl,l1,I1.kept (t':=s1.toks) hk,vm (Nat.succ_ne_self _) r ev,⟨⟨_,he⟩,hit⟩,λb hb=>?_⟩;have hb':s1.heap.objs.size<=b:=by
    rcases(by simpa using hb:b=s1.heap.objs.size+1\/b=s1.heap.objs.size) with z|z<;>rw[z]
    ·exact XF _
    ·exact V3 _
   exact I1.qx hb' (I1.hok.fresh hb')
  |_=>rw[ev]at h;cases h
end
end M
namespace L2
open PySem PySem.Spec PyProof.Rows
section
variable{prog:WU}{w:XQ}{A:WY}{E:VT->VY->Prop}{s:VY}
structure Z2(h:Heap)(z TI TO i1 i2 l1 l2:Wr)(k:Nat):Prop where
 z:∃f1,IsZipF h z TI TO .none f1
 ti:IsPair h TI (.ref i1) (.ref i2)
 to:∃x y,IsPair h TO x y
 j1:h.IsTupleIter i1 l1 k
 j2:h.IsTupleIter i2 l2 k
def yt{z TI TO i1 i2 l1 l2:Wr}{k:Nat}{xs ys:Array VT}{x y:VT}{Q:VT->VY->Prop}(D:ZipApart z TI TO i1 i2 l1 l2)
  (Z:Z2 s.heap z TI TO i1 i2 l1 l2 k) (lj:s.heap.IsTuple l1 xs) (pv:s.heap.IsTuple l2 ys) (hx:xs[k]?=s? x) (hy:ys[k]?=s? y)
  (hQ:∀h',IsZip h' z TI TO (rawInt s.heap.objs.size)->IsPair h' TI (.ref i1) (.ref i2)->IsPair h' TO x y->h'.IsTupleIter i1 l1 (k+1)->h'.IsTupleIter i2 l2 (k+1)->IsPair h' s.heap.objs.size x y ->
   (∀c o,c≠z->c≠TO->c≠i1->c≠i2->s.heap.get? c=s? o->h'.get? c=s? o)->Q (.ref s.heap.objs.size) {s with heap:=h'}):
  Wa (model prog w) A (Builtin.«zip.__next__» ⟨[.ref z],[]⟩) (λfin s'=>∃v,fin=.done (.ret v)/\Q v s') E s:=by
 obtain⟨⟨f1,hz⟩,Cy,⟨u,v,Kr⟩,h1,h2⟩:=Z;show Wa _ _ (field (.ref z) 2 >>= _) _ _ _
 refine VI (wpAny_field hz rfl (x:=.bool f?) rfl ?_);show Wa _ _ (field (.ref z) 3 >>= _) _ _ _
 refine VI (wpAny_field hz rfl (x:=.ref TI) rfl ?_);refine VI (wpAny_seqItems Cy rfl ?_);show Wa _ _ (Wi (.ref z) >>= _) _ _ _
 refine VI ?_;unfold Wi;refine VI (wpAny_field hz rfl (x:=.none) rfl (VM ?_));simp only[if_true];refine VI (wpAny_rule ?_);refine VI (wpAny_field hz rfl (x:=.ref TO) rfl ?_);refine VI (wpAny_setField_rec hz ⋯ λh₁ qb kr=>?_)
 replace qb:IsZipF h₁ z TI TO .ellipsis f1:=qb
 refine VI ?_;simp only[Yq,ZO,X8,YU];refine VI (VI (wpAny_onRaise ?_));show Wa _ _ (Wo (.ref i1) >>= _) _ _ _
 refine VI (eZ (h1.extBut kr.extBut D.i1z) (lj.extBut kr.extBut D.l1z) hx λh₂ LN pN=>VM ?_);have Au:IsPair h₂ TO u v:=pN.extBut _ _ D.TOi1 (kr.extBut _ _ D.TOz Kr)
 refine VI (wpAny_seqItems Au rfl ?_);refine VI (wpAny_updateSeq_pair Au λh₃ vd qc=>?_)
 replace vd:IsPair h₃ TO x v:=vd
 refine VI (wpAny_letGo (VM ?_));refine VI (VI (wpAny_onRaise ?_));show Wa _ _ (Wo (.ref i2) >>= _) _ _ _
 have yU:∀c o,c≠z->c≠i1->c≠TO->s.heap.get? c=s? o->h₃.get? c=s? o:=λc o c1 c2 c3 e=>qc.extBut _ _ c3 (pN.extBut _ _ c2 (kr.extBut _ _ c1 e))
 refine VI (eZ (h2.at λo e=>yU _ o D.i2z D.i12.symm D.TOi2.symm e) (pv.at λo e=>yU _ o D.l2z D.l2i1 D.l2TO e) hy λh₄ PK Av=>VM ?_);have Aw:IsPair h₄ TO x v:=Av.extBut _ _ D.TOi2 vd
 refine VI (wpAny_seqItems Aw rfl ?_);refine VI (wpAny_updateSeq_pair Aw λh₅ oo Ax=>?_)
 replace oo:IsPair h₅ TO x y:=oo
 refine VI (wpAny_letGo (VM (VM ?_)));refine VI (wpAny_seqItems oo rfl ?_);refine VI (wpAny_newTuple ?_);have hsz:h₅.objs.size=s.heap.objs.size:=by rw[Ax.1,Av.1,qc.1,pN.1,kr.1]
 have LO:IsZipF h₅ z TI TO .ellipsis f1:=Ax.extBut _ _ D.TOz.symm (Av.extBut _ _ D.i2z.symm (qc.extBut _ _ D.TOz.symm (pN.extBut _ _ D.i1z.symm qb)));have LP:∀c o,c≠z->c≠TO->c≠i1->c≠i2->s.heap.get? c=s? o->h₅.get? c=s? o:=λc o c1 c2 c3 c4 e=>
  Ax.extBut _ _ c2 (Av.extBut _ _ c4 (yU _ _ c1 c3 c2 e))
 have LQ:h₅.IsTupleIter i1 l1 (k+1):=((LN.extBut qc.extBut D.TOi1.symm).extBut Av.extBut D.i12).extBut Ax.extBut D.TOi1.symm;have LR:h₅.IsTupleIter i2 l2 (k+1):=PK.at λo e=>Ax.extBut _ _ D.TOi2.symm e
 have yp:z<h₅.objs.size:=V5 LO;have Fp:TO<h₅.objs.size:=V5 oo
 have Fq:i1<h₅.objs.size:=by obtain⟨_,e,_⟩:=LQ;exact V5 e
 have Fs:i2<h₅.objs.size:=by obtain⟨_,e,_⟩:=LR;exact V5 e
 show Wa _ _ (Xe (.ref z) (.ref h₅.objs.size) >>= _) _ _ _;refine VI ?_;unfold Xe;have PL:IsZipF (h₅.push {cls:=.type "tuple",data:=.seq #[x,y]}) z TI TO .ellipsis f1:=VJ _ LO
 refine VI (wpAny_setField_rec PL ⋯ λh₇ HW LS=>?_)
 replace HW:IsZipF h₇ z TI TO (rawInt h₅.objs.size) f1:=HW
 refine wpAny_setField_rec HW ⋯ λh₈ Ft LU=>?_
 replace Ft:IsZipF h₈ z TI TO (rawInt h₅.objs.size) f?:=Ft
 have up:∀c o,c≠z->h₅.get? c=s? o->h₈.get? c=s? o:=λc o c1 e=>LU.extBut _ _ c1 (LS.extBut _ _ c1 (VJ _ e))
 have LV:IsPair h₈ h₅.objs.size x y:=LU.extBut _ _ (WR yp) (LS.extBut _ _ (WR yp) (VO _ rfl));refine VM ⟨_,rfl,?_⟩;show Q (.ref h₅.objs.size) _
 rw[hsz]at Ft LV ⊢;exact hQ h₈ Ft (up _ _ D.TIz (LP _ _ D.TIz D.TITO D.TIi1 D.TIi2 Cy)) (up _ _ D.TOz oo) (LQ.at λo e=>up _ o D.i1z e) (LR.at λo e=>up _ o D.i2z e) LV λc o c1 c2 c3 c4 e=>up c o c1 (LP c o c1 c2 c3 c4 e)
def AD{z TI TO i1 i2 l1 l2:Wr}{k:Nat}{xs:Array VT}{Q:Fin->VY->Prop}(hh:A.handled=n?)(D:ZipApart z TI TO i1 i2 l1 l2)
  (Z:Z2 s.heap z TI TO i1 i2 l1 l2 k) (lj:s.heap.IsTuple l1 xs) (hx:xs[k]?=n?)
  (hE:∀h' e,(∀c o,c≠z->c≠TO->c≠i1->c≠i2->s.heap.get? c=s? o->h'.get? c=s? o)->(∃o,h'.get? e=s? o/\o.cls=.type "StopIteration")->E (.ref e) {s with heap:=h'}):
  Wa (model prog w) A (Builtin.«zip.__next__» ⟨[.ref z],[]⟩) Q E s:=by
 obtain⟨⟨f1,hz⟩,Cy,⟨u,v,Kr⟩,h1,h2⟩:=Z;show Wa _ _ (field (.ref z) 2 >>= _) _ _ _
 refine VI (wpAny_field hz rfl (x:=.bool f?) rfl ?_);show Wa _ _ (field (.ref z) 3 >>= _) _ _ _
 refine VI (wpAny_field hz rfl (x:=.ref TI) rfl ?_);refine VI (wpAny_seqItems Cy rfl ?_);show Wa _ _ (Wi (.ref z) >>= _) _ _ _
 refine VI ?_;unfold Wi;refine VI (wpAny_field hz rfl (x:=.none) rfl (VM ?_));simp only[if_true];refine VI (wpAny_rule ?_);refine VI (wpAny_field hz rfl (x:=.ref TO) rfl ?_);refine VI (wpAny_setField_rec hz ⋯ λh₁ qb kr=>?_)
 replace qb:IsZipF h₁ z TI TO .ellipsis f1:=qb
 refine VI ?_;simp only[Yq,ZO,X8,YU];refine VI (VI (wpAny_onRaise ?_));show Wa _ _ (Wo (.ref i1) >>= _) _ _ _
 refine VI (M.te hh (h1.extBut kr.extBut D.i1z) (lj.extBut kr.extBut D.l1z) hx λh₂ e pN he=>?_);obtain⟨oe,LW,Ol⟩:=he;have Oo:IsZipF h₂ z TI TO .ellipsis f1:=pN _ _ D.i1z.symm qb
 have PN:e≠z:=λx=>by subst x;rw[Oo]at LW;cases LW;simp at Ol
 refine wpAny_setField_rec Oo ⋯ λh₃ _ qc=>hE h₃ e (λc o c1 _ c3 _ x=>qc.extBut _ _ c1 (pN _ _ c3 (kr.extBut _ _ c1 x))) ⟨oe,qc.extBut _ _ PN LW,Ol⟩
def yu{z TI TO i1 i2 l1 l2:Wr}{k:Nat}{xs ys:Array VT}{x y:VT}{Q:Option VT->VY->Prop}(D:ZipApart z TI TO i1 i2 l1 l2)
  (Z:Z2 s.heap z TI TO i1 i2 l1 l2 k) (lj:s.heap.IsTuple l1 xs) (pv:s.heap.IsTuple l2 ys) (hx:xs[k]?=s? x) (hy:ys[k]?=s? y)
  (hQ:∀h',IsZip h' z TI TO (rawInt s.heap.objs.size)->IsPair h' TI (.ref i1) (.ref i2)->IsPair h' TO x y->h'.IsTupleIter i1 l1 (k+1)->h'.IsTupleIter i2 l2 (k+1)->IsPair h' s.heap.objs.size x y ->
   (∀c o,c≠z->c≠TO->c≠i1->c≠i2->s.heap.get? c=s? o->h'.get? c=s? o)->Q (s? (.ref s.heap.objs.size)) {s with heap:=h'}):Wa (model prog w) A (pyNext (.ref z)) Q E s:=by
 obtain⟨f1,hz⟩:=Z.z;have hT:s.TypeIs (.ref z) "zip":=⟨_,hz,rfl⟩
 unfold pyNext;exact VI (wpAny_attempt (wpAny_callSpecial?_slot (name:=WS "__next__") hT W0 (wpAny_call_entry W0 hT Yz (yt D Z lj pv hx hy λh' a1 a2 a3 a4 a5 a6 a7=>VM (hQ h' a1 a2 a3 a4 a5 a6 a7)) (Yn _))))
def AE{z TI TO i1 i2 l1 l2:Wr}{k:Nat}{xs:Array VT}{Q:Option VT->VY->Prop}(hh:A.handled=n?)(D:ZipApart z TI TO i1 i2 l1 l2)
  (Z:Z2 s.heap z TI TO i1 i2 l1 l2 k) (lj:s.heap.IsTuple l1 xs) (hx:xs[k]?=n?)
  (hQ:∀h',(∀c o,c≠z->c≠TO->c≠i1->c≠i2->s.heap.get? c=s? o->h'.get? c=s? o)->Q n? {s with heap:=h'}):Wa (model prog w) A (pyNext (.ref z)) Q E s:=by
 obtain⟨f1,hz⟩:=Z.z;have hT:s.TypeIs (.ref z) "zip":=⟨_,hz,rfl⟩
 unfold pyNext;refine VI (wpAny_attempt (wpAny_callSpecial?_slot (name:=WS "__next__") hT W0 (wpAny_call_entry W0 hT Yz (AD hh D Z lj hx λh' e hk he=>?_) (Yn _))));obtain⟨o,ho,hc⟩:=he;exact VI (wpAny_isInstance (T:="StopIteration") (b:=t?) ⟨o,ho,hc⟩ isSubtype_stop (VM (hQ _ hk)))
end
end L2
namespace M
open PySem PySem.Spec PyProof.Rows
def Me{xs ys:List T}{i:Nat}{x:T}(h:(zp xs ys)[i]?=s? x):∃a b,xs[i]?=s? a/\ys[i]?=s? b/\x=.tup [a,b]:=by
 unfold zp at h;rw[Wx]at h;obtain⟨⟨a,b⟩,q,rfl⟩:=V7.mp h;obtain⟨h1,h2⟩:=Z8.mp q;exact⟨a,b,h1,h2,rfl⟩
section
variable{P:WU}{wd:XQ}{g0:G}{xs ys:List T}
theorem yw{elts:List Expr}{x1:Nat}{pos:Pos}{z TI TO i1 i2 l1 l2:Wr}(D:ZipApart z TI TO i1 i2 l1 l2)(r1:RT g0 n? (.tup xs) (.ref l1))(r2:RT g0 n? (.tup ys) (.ref l2))(hl:xs.length=ys.length):
  Turn P wd (.Tuple elts x1 pos) g0 (zp xs ys) (λ_=>True) [z,TI,TO,i1,i2] z (λi h=>L2.Z2 h z TI TO i1 i2 l1 l2 i) where
 mem:=by simp
 obj:=λi h st b hb=>by
  obtain⟨⟨f1,hz⟩,ti,⟨x,y,to⟩,⟨o1,q1,_,d1⟩,o2,q2,_,d2⟩:=st;rcases(by simpa using hb:b=z\/b=TI\/b=TO\/b=i1\/b=i2) with rfl|rfl|rfl|rfl|rfl
  ·exact⟨_,hz,λv z=>nomatch z⟩
  ·exact⟨_,ti,λv z=>nomatch z⟩
  ·exact⟨_,to,λv z=>nomatch z⟩
  ·exact⟨o1,q1,λv z=>by rw[d1]at z;cases z⟩
  ·exact⟨o2,q2,λv z=>by rw[d2]at z;cases z⟩
 keep:=λi h h' st k=>by
  obtain⟨⟨f1,hz⟩,ti,⟨x,y,to⟩,j1,j2⟩:=st;exact⟨⟨f1,k z (.inl ⋯) _ hz⟩,k TI (.inl ⋯) _ ti,⟨x,y,k TO (.inl ⋯) _ to⟩,j1.at λo q=>k i1 (.inl ⋯) o q,j2.at λo q=>k i2 (.inl ⋯) o q⟩
 item:=by
  intro X hP hw i pins φ g L s E x l I hf st hk hx;subst hP hw;obtain⟨a',its,e1,e2,rv,_⟩:=I.tupP (r1.le l);cases e1;obtain⟨b',RM,e3,e4,TU,_⟩:=I.tupP (r2.le l);cases e3;obtain⟨xa,ya,hxa,TV,rfl⟩:=Me hx;obtain⟨u,hu,ru⟩:=pD rv hxa;obtain⟨v,hv,TX⟩:=pD TU TV;have hu:its[i]?=s? u:=by simpa using hu
  have hv:RM[i]?=s? v:=by simpa using hv
  have lt:∀b∈[z,TI,TO,i1,i2],b<s.heap.objs.size:=λb hb=>by
   obtain⟨⟨f1,hz⟩,ti,⟨_,_,to⟩,⟨o1,q1,_⟩,o2,q2,_⟩:=id st;rcases(by simpa using hb:b=z\/b=TI\/b=TO\/b=i1\/b=i2) with rfl|rfl|rfl|rfl|rfl
   ·exact V5 hz
   ·exact V5 ti
   ·exact V5 to
   ·exact V5 q1
   ·exact V5 q2
  refine L2.yu D st (show s.heap.IsTuple l1 its from e2) (show s.heap.IsTuple l2 RM from e4) hu hv λh1 KU HV Kq j1 j2 hp lX=>?_
  refine⟨_,rfl,wpAny_letOwnedTupleGo_zip KU λh2 Pa lS=>?_⟩
  replace lS:XD z h1 h2:=lS
  have KV:h2.get? s.heap.objs.size=s? {cls:=.type "tuple",data:=.seq #[u,v]}:=(lS.2 _ (WR (lt z ⋯))).trans hp;obtain⟨g',l',I',r',f'⟩:=I.pair (t':=s.toks) (ch:=[z,TI,TO,i1,i2]) ru TX hf lt KV λb o hb q=>by
   have n1:b≠z:=λe=>hb (by simp[e])
   exact(lS.2 b n1).trans (lX b o n1 (λe=>hb (by simp[e])) (λe=>hb (by simp[e])) (λe=>hb (by simp[e])) q)
  exact⟨g',l',I',⇑r',⟨⟨f?,Pa⟩,(lS.2 _ D.TIz).trans HV,⟨_,_,(lS.2 _ D.TOz).trans Kq⟩,j1.at λo q=>(lS.2 _ D.i1z).trans q,j2.at λo q=>(lS.2 _ D.i2z).trans q⟩,f'⟩
 done:=by
  intro X hP hw i pins φ g L s E l I hf st hk hx;subst hP hw;obtain⟨a',its,e1,e2,rv,_⟩:=I.tupP (r1.le l);cases e1;have lj:=V9 rv
  have hx:i=xs.length:=by rw[hx];unfold zp;simp[hl]
  refine L2.AE I.ok.hd D st (show s.heap.IsTuple l1 its from e2) (by simp at lj ⊢;omega) λh' eb=>⟨rfl,I.turned (t':=s.toks) (ch:=[z,TI,TO,i1,i2]) (λb o hb e=>eb b o (λz=>hb (by simp[z])) (λz=>hb (by simp[z])) (λz=>hb (by simp[z])) (λz=>hb (by simp[z])) e) hf⟩
 self:=λ_ _ _ _ _ st h=>by obtain⟨⟨f1,hz⟩,_⟩:=st;exact wpAny_pyIter_slot ⟨_,hz,rfl⟩ F.slot_zip_iter (wpAny_call_entry F.slot_zip_iter ⟨_,hz,rfl⟩ F.entry_zip_iter (VM ⟨_,rfl,"zip",_,⟨_,hz,rfl⟩,W0.lookup,h⟩) (F.args_zip_iter_1 _))
end
def TY{n l1 l2:Nat}(h1:l1<n)(h2:l2<n):ZipApart (n+4) (n+2) (n+3) n (n+1) l1 l2:=by
 constructor<;>exact sq ⇑0
section
variable{X:Cx}{a b:Expr}{ma mb:SE}{pos p:Pos}
theorem DP{elts:List Expr}{x1:Nat}{Ie:Pos}(hg:Gl X "zip")(hm:X.mg "zip"=n?)(ha:PE X a ma)(hb:PE X b mb)(h1:bB a=t?)(h2:bB b=t?):PI X (.Tuple elts x1 Ie) (.Call (.Name "zip" p) [a,b] [] pos) (Ai ma mb):=λI h=>by
 obtain⟨t1,L1,e1,h⟩:=R.of h;obtain⟨t2,Vy,e2,h⟩:=R.of h;refine wpAny_Call_Name_kw (i9 I hg hm (by kernel_rfl:bootBuiltins "zip"=s? (.type "zip")) ?_ ∅ ∅);refine callWith_type1 (thn (ik ha (ik hb nO h2) h1 pos I (KY e1 e2)) λus s1⟨g1,l1,I1,r1⟩=>?_) (aR h1) (eG ⇑h2);obtain⟨u1,u2,rfl,Ov,Ow⟩:=gO r1;split at h
 ·obtain⟨hl,h⟩:=aE h
  cases h;obtain⟨a1,y1,rfl,T1,p1,_⟩:=I1.tupP Ov;obtain⟨a2,y2,rfl,T2,p2,_⟩:=I1.tupP Ow;refine callType_new abq ∅ (aaH _ _) (aaU _ _) (λobj=>ZU obj _ _) aaV (Ib a1 a2 y1 y2) ⟨T1,T2,?_⟩;have k1:∀b o,s1.heap.get? b=s? o->(Ia s1.heap a1 a2).get? b=s? o:=λb o e=>VJ _ (VJ _ (VJ _ (VJ _ (VJ _ e))))
  have la:a1<s1.heap.objs.size:=by obtain⟨o,e,_⟩:=T1;exact V5 e
  have lb:a2<s1.heap.objs.size:=by obtain⟨o,e,_⟩:=T2;exact V5 e
  have w1:(s1.heap.push (tI a1)).objs.size=s1.heap.objs.size+1:=W7 ..;have w2:(Ma s1.heap a1 a2).objs.size=s1.heap.objs.size+2:=by rw[W7,w1]
  have w3:(Mb s1.heap a1 a2).objs.size=s1.heap.objs.size+3:=by rw[W7,w2]
  have w4:(Ox s1.heap a1 a2).objs.size=s1.heap.objs.size+4:=by rw[W7,w3]
  have hz:IsZip (Ia s1.heap a1 a2) (Ox s1.heap a1 a2).objs.size (Ma s1.heap a1 a2).objs.size (Mb s1.heap a1 a2).objs.size .none:=VO _ rfl;have Kq:IsPair (Ia s1.heap a1 a2) (Mb s1.heap a1 a2).objs.size .none .none:=VJ _ (VO _ rfl)
  have HV:IsPair (Ia s1.heap a1 a2) (Ma s1.heap a1 a2).objs.size (.ref s1.heap.objs.size) (.ref (s1.heap.push (tI a1)).objs.size):=VJ _ (VJ _ (VO _ rfl));have j2:(Ia s1.heap a1 a2).IsTupleIter (s1.heap.push (tI a1)).objs.size a2 0:=⟨_,VJ _ (VJ _ (VJ _ (VO _ rfl))),rfl,rfl⟩
  have j1:(Ia s1.heap a1 a2).IsTupleIter s1.heap.objs.size a1 0:=⟨_,VJ _ (VJ _ (VJ _ (VJ _ (VO _ rfl)))),rfl,rfl⟩;refine⟨⟨_,hz,rfl⟩,wpAny_pyIter_zip hz ?_⟩;rw[w1]at HV j2;rw[w2,w3,w4]at hz;rw[w2]at HV;rw[w3]at Kq;rw[w4];have D:=TY la lb
  refine⟨s1.heap.objs.size+4,[s1.heap.objs.size+4,s1.heap.objs.size+2,s1.heap.objs.size+3,s1.heap.objs.size,s1.heap.objs.size+1],_,g1,rfl,l1,I1.kept (t':=s1.toks) k1,yw D Ov Ow hl,⟨⟨f?,hz⟩,HV,⟨_,_,Kq⟩,j1,j2⟩,λb hb=>?_⟩;have hb':s1.heap.objs.size<=b:=by
   rcases(by simpa using hb:b=s1.heap.objs.size+4\/b=s1.heap.objs.size+2\/b=s1.heap.objs.size+3\/b=s1.heap.objs.size\/b=s1.heap.objs.size+1) with z|z|z|z|z<;>rw[z]
   ·exact Ys _ _
   ·exact Ys _ _
   ·exact Ys _ _
   ·exact V3 _
   ·exact Ys _ _
  exact I1.qx hb' (I1.hok.fresh hb')
 ·cases h
end
structure eI(X:Cx)(Γ:Ct):Prop where
 hu:X.A.units+20<cLine
 fn:∀x F,Γ.fn.lookup x=s? F->(x==("__debug__":Str))=f?/\∃k fa,dO X.prog X.w X.K X.mg X.cls X.base k fa F/\fM k X.A/\X.mg x=s? (.ref fa)/\WX X.K (.ref fa)=t?
 co:∀x t,Γ.co.lookup x=s? t->(x==("__debug__":Str))=f?/\∃u,X.mg x=s? u/\∀g:G,g.B=X.base->g.cls=X.cls->g.w=X.w->RT g n? t u
 us:∀x∈Γ.us,X.mg x=n?/\x≠"__name__"/\(x==("__debug__":Str))=f?
 fl:∀c C,X.cls c=s? C->ClsOk X.K Γ.fl C
 me:∀m mf,Γ.me.lookup m=s? mf->∀c C F,X.cls c=s? C->mf.lookup c=s? F->∃fa k,C2 X.K C/\Meth X.K C m fa/\dO X.prog X.w X.K X.mg X.cls X.base k fa F/\fM k X.A
structure eS(X:Cx)(S:Sg):Prop where
 N:X.N=S.N
 nd:S.N.Nodup
 nm:S.N.all An=t?
 loc:∀x,S.sc.names.lookup x=s? .local->X.env.scope.names.lookup x=s? .local
 Oz:∀x,S.sc.names.lookup x=s? .cell->X.env.scope.names.lookup x=s? .cell/\X.fn x=t?
 RN:∀x,S.sc.names.lookup x=s? .free->X.env.scope.names.lookup x=s? .cell\/X.env.scope.names.lookup x=s? .free
 TZ:∀x,S.sc.names.lookup x=s? .globalImplicit->X.env.scope.names.lookup x=s? .globalImplicit
 fc:∀x F,S.fc.lookup x=s? F->∀e es ms p pos,Gl X x->(e::es).all bB=t?->PA X (e::es) (iT ms)->PE X (.Call (.Name x p) (e::es) [] pos) (ae F ms)
structure fQ(X:Cx)(B:Bd):Prop where
 E:∀e,PE X e (B.E e)
 T:∀e,PT X e (B.T e)
 S:∀st,PS X st (B.S st)
section
variable{X:Cx}{Γ:Ct}{S:Sg}{B:Bd}{BS:Sg->Bd}{x:Str}{i:Nat}{pos p p2:Pos}{a b e:Expr}{es:List Expr}
def oq{N:List Str}(h:Ko N x=s? i):N[i]?=s? x:=by
 obtain⟨h1,h2,_⟩:=W4.mp h;rw[Ge9 h1,eq_of_beq h2]
def Mf(c:eS X S)(h:S.N[i]?=s? x):(x==("__debug__":Str))=f?/\(x==("__classdict__":Str))=f?:=by
 have:=VQ.mp c.nm x (Wd h);unfold An at this;simpa using this
def at_of(c:eS X S)(h:S.at x=s? i):X.N[i]?=s? x/\Oa X.env.scope x:=by
 unfold Sg.at at h;rw[c.N];split at h
 ·exact⟨oq h,.inl (c.loc x ‹_›)⟩
 ·exact⟨oq h,.inr (.inl (c.Oz x ‹_›).1)⟩
 ·refine⟨oq h,?_⟩
  rcases c.RN x ‹_› with z|z
  ·exact .inr (.inl z)
  ·exact .inr (.inr z)
 ·cases h
def ow(c:eS X S)(h:S.own x=s? i):uL X i x:=by
 unfold Sg.own at h;split at h
 ·exact⟨by rw[c.N];exact c.nd,by rw[c.N];exact oq h,.inl (c.loc x ‹_›),.inr (c.loc x ‹_›)⟩
 ·exact⟨by rw[c.N];exact c.nd,by rw[c.N];exact oq h,.inr (c.Oz x ‹_›).1,.inl (c.Oz x ‹_›).2⟩
 ·cases h
def lq(c:eS X S)(h:S.gl x=t?):Gl X x:=by
 unfold Sg.gl at h;split at h
 ·exact c.TZ x ‹_›
 ·cases h
def DQ(o:eI X Γ)(c:eS X S):PE X (.Name x pos) (eName Γ S x):=by
 unfold eName;split
 ·rename_i h
  obtain⟨h1,h2⟩:=at_of c h;have:=Mf c (by rw[<- c.N];exact h1)
  exact λ{_ _ _ _ _ _ _}I h=>Gy h1 h2 this.1 this.2 I h
 ·split
  ·rename_i hg
   split
   ·rename_i ht
    obtain⟨h1,u,h2,h3⟩:=o.co x _ ht;exact GC (lq c hg) h2 h3 h1
   ·split
    ·rename_i n hu hn
     obtain⟨h1,h2,h3⟩:=o.us x ⇑hu;have hb:bootBuiltins x=s? (.type n):=by
      simp only[WI]at hn
      repeat' split at hn
      all_goals first|cases hn|skip
      all_goals (rename_i hx;have hx:=eq_of_beq hx;subst hx;kernel_rfl)
     exact λ{_ _ _ _ _ _ _}I q=>GD (lq c hg) h1 hb (λ_ _ _ _=>.ty _) h2 h3 I q
    ·exact λ{_ _ _ _ _ _ _}I q=>cH I q
  ·exact λ{_ _ _ _ _ _ _}I q=>cH I q
def Ig{k:Const}{j:Nat}:PE X (.Constant k j pos) (HS k):=by
 cases k with
 |int=>exact Gz
 |bool=>exact KI
 |none=>exact GA
 |str x=>
  delta HS;dsimp only;split
  ·rename_i h;exact GB (of_decide_eq_true h)
  ·exact cH
 |_=>exact cH
def wX{op:CmpOp}(hu:X.A.units+20<cLine):v9 X (compareOp op) (LL op a b):=by
 cases op with
 |NotEq=>cases a with
  |Call=>cases b with
   |Name=>exact AA hu
   |_=>exact fO hu
  |Name=>cases b with
   |Call=>exact AA hu
   |_=>exact fO hu
  |_=>exact fO hu
 |Lt=>cases a with
  |Name=>cases b with
   |Name=>exact H9 hu
   |_=>exact fO hu
  |_=>exact fO hu
 |_=>exact fO hu
def Ii(o:eI X Γ)(hB:fQ X B){ops:List CmpOp}:PE X (.Compare a ops es pos) (Aj B a ops es):=by
 unfold Aj;split
 ·exact cH
 ·split
  ·split
   ·split
    ·exact GG (wX o.hu) (hB.E _) (hB.E _) ‹_›
    ·exact cH
   ·exact cH
  ·split
   ·split
    ·split
     ·exact y6 (λ_=>fO o.hu) (hB.E _) (hB.E _) (hB.E _) ‹_›
     ·exact cH
    ·exact cH
   ·exact cH
def DR(o:eI X Γ)(hB:fQ X B){ops:List CmpOp}:PT X (.Compare a ops es pos) (tv (Aj B a ops es)):=by
 have DS:PT X (.Compare a ops es pos) (tv no):=λ{_ _ _ _ _ _ _}w _ I h=>by cases h
 unfold Aj;split
 ·exact @DS
 ·split
  ·split
   ·split
    ·rename_i hm;exact λ{_ _ _ _ _ _ _}w hw I h=>GQ (wX o.hu) (hB.E _) (hB.E _) hm w hw I h
    ·exact @DS
   ·exact @DS
  ·split
   ·split
    ·split
     ·rename_i hm;exact λ{_ _ _ _ _ _ _}w hw I h=>y7 (λ_=>fO o.hu) (hB.E _) (hB.E _) (hB.E _) hm w hw I h
     ·exact @DS
    ·exact @DS
   ·exact @DS
def AF(hB:fQ X B){o:Option Expr}:PO X o (o.map B.E):=by
 cases o with
 |none=>exact C9
 |some e=>exact Dc (hB.E e)
def Ij(o:eI X Γ)(hB:fQ X B):PE X (.Subscript a b pos) (LM Γ B a b pos):=by
 have V:PE X (.Subscript a b pos) (Oi B a b):=by
  unfold Oi;split
  ·exact KJ (Lq o.hu ‹_›) (hB.E _) (hB.E _)
  ·exact cH
 cases b with
 |Slice lo hi st p=>cases st with
  |none=>exact λ{_ _ _ _ _ _ _}I q=>Hv (hB.E _) (AF hB) (AF hB) I q
  |some _=>exact @V
 |_=>exact @V
theorem fe(hB:fQ X B):∀{es:List Expr},es.all bB=t?->PA X es (iT (es.map B.E))
 | [],_=>nO
 |e::es,h=>by
  rw[WD,VW]at h;exact ik (hB.E e) (fe hB h.2) h.1
theorem wY(hB:fQ X B):∀(es:List Expr),PE X (.BoolOp .And es pos) (om (es.map B.E))
 | []=>cH
 | [a]=>y0 (hB.E a)
 |a::b::r=>GK (hB.E a) (wY hB (b::r))
theorem AG(hB:fQ X B):∀(es:List Expr),PE X (.BoolOp .Or es pos) (Cw (es.map B.E))
 | []=>cH
 | [a]=>y0 (hB.E a)
 |a::b::r=>KN (hB.E a) (AG hB (b::r))
theorem wZ(hB:fQ X B):∀(es:List Expr),PT X (.BoolOp .And es pos) (jO (es.map B.T))
 | []=>wa
 | [a]=>CN (hB.T a)
 |a::b::r=>GP (hB.T a) (wZ hB (b::r))
theorem AH(hB:fQ X B):∀(es:List Expr),PT X (.BoolOp .Or es pos) (pB (es.map B.T))
 | []=>wa
 | [a]=>GO (hB.T a)
 |a::b::r=>KO (hB.T a) (AH hB (b::r))
def jc(hB:fQ X B):∀(l:List Stmt),yP X l (ab (l.map B.S)):=by
 intro l9;induction l9 with
 |nil=>exact CO
 |cons s l ih=>exact zc (hB.S s) (ih)
def DT{a:Option Nat}{b:Option (List Nat)}{is:List Nat}(h:HT a b=s? is):∃i js,a=s? i/\b=s? js/\is=i::js:=by
 cases a with
 |none=>cases h
 |some i=>cases b with
  |none=>cases h
  |some js=>cases h;exact⟨i,js,rfl,rfl,rfl⟩
theorem qY(c:eS X S):∀{ts:List Expr}{is:List Nat},Ak S ts=s? is->KR X ts is/\(assignEach ts X.env).length=is.length/\(assignEach ts X.env).findIdx? (·.1)=n?
 | [],is,h=>by cases h;exact⟨CQ,rfl,rfl⟩
 |t::r,is,h=>by
  cases t with
  |Name x p=>
   obtain⟨i,js,h1,h2,rfl⟩:=DT (show HT (S.own x) (Ak S r)=s? is from h);obtain⟨q1,q2,q3⟩:=qY c h2;refine⟨zd (ow c h1) q1,?_,?_⟩
   ·show(assignEach r X.env).length+1=_;rw[q2];rfl
   ·show((f?,_)::assignEach r X.env).findIdx? (·.1)=n?
    rw[ZX,q3];rfl
  |_=>cases h
def vn(c:eS X S){tg:Expr}{t:Tg}(h:PD S tg=s? t):PG X tg t:=by
 cases tg with
 |Name x p=>
  obtain⟨i,h1,rfl⟩:=V7.mp h;exact nu (ow c h1)
 |Tuple ts k p=>
  obtain⟨is,h1,rfl⟩:=V7.mp h;obtain⟨q1,q2,q3⟩:=qY c h1;exact zf q1 q2 q3
 |_=>cases h
def tf{e:Expr}(h:isTup e=t?):∃ts k p,e=.Tuple ts k p:=by
 cases e with
 |Tuple ts k p=>exact⟨ts,k,p,rfl⟩
 |_=>cases h
def AI(o:eI X Γ)(c:eS X S)(hB:fQ X B){tg:Expr}{x:Str}{px pos:Pos}{es:List Expr}:PI X tg (.Call (.Name x px) es [] pos) (Am Γ B S tg (.Call (.Name x px) es [] pos) x es):=by
  unfold Am;split
  ·rename_i hc
   simp only[VW]at hc;obtain⟨⟨h1,h2⟩,h3⟩:=hc;have hg:=lq c h1
   have hm:=(o.us x ⇑h2).1;split
   ·rename_i hx
    have:=eq_of_beq hx;subst this;split
    ·simp only[WD,ZZ,YI]at h3
     exact λ{_ _ _ _ _ _ _ _}I h=>CS hg hm (hB.E _) h3 I h
    ·simp only[WD,ZZ,YI,VW]at h3
     exact λ{_ _ _ _ _ _ _ _}I h=>CT hg hm (hB.E _) (hB.E _) h3.1 h3.2 I h
    ·exact λ{_ _ _ _ _ _ _ _}I h=>ja (hB.E _) I h
   ·split
    ·split
     ·rename_i hx
      have:=eq_of_beq hx;subst this;split
      ·rename_i ht
       simp only[WD,ZZ,YI]at h3;obtain⟨_,_,_,rfl⟩:=tf ht;exact λ{_ _ _ _ _ _ _ _}I h=>Ic hg hm (hB.E _) h3 I h
      ·exact λ{_ _ _ _ _ _ _ _}I h=>ja (hB.E _) I h
     ·exact λ{_ _ _ _ _ _ _ _}I h=>ja (hB.E _) I h
    ·split
     ·rename_i hx
      have:=eq_of_beq hx;subst this;split
      ·rename_i ht
       simp only[WD,ZZ,YI,VW]at h3;obtain⟨_,_,_,rfl⟩:=tf ht;exact λ{_ _ _ _ _ _ _ _}I h=>DP hg hm (hB.E _) (hB.E _) h3.1 h3.2 I h
      ·exact λ{_ _ _ _ _ _ _ _}I h=>ja (hB.E _) I h
     ·exact λ{_ _ _ _ _ _ _ _}I h=>ja (hB.E _) I h
    ·exact λ{_ _ _ _ _ _ _ _}I h=>ja (hB.E _) I h
  ·exact λ{_ _ _ _ _ _ _ _}I h=>ja (hB.E _) I h
def qZ(o:eI X Γ)(c:eS X S)(hB:fQ X B){tg:Expr}:PI X tg e (stI Γ B S tg e):=by
 have d:PI X tg e (src (B.E e)):=λ{_ _ _ _ _ _ _ _}I h=>ja (hB.E _) I h
 cases e with
 |Call f es ks p=>cases f with
  |Name x px=>cases ks with
   |nil=>exact λ{_ _ _ _ _ _ _ _}I h=>AI o c hB I h
   |cons=>exact @d
  |_=>exact @d
 |_=>exact @d
def lx{scope:Scope}{env:Env}{y:Str}{k:NameKind}(h:scope.names.lookup y=s? k)(hk:k≠.free):(relabel scope env).names.lookup y=s? k:=by
 have go:∀(names:List (Str × NameKind)),names.lookup y=s? k->(names.map λ(n,k)=>if (k==XA && env.scope.kind == .function && env.kindOf n==s? .cell) then (n,aaq) else (n,k)).lookup y=s? k:=by
  intro names;induction names with
  |nil=>intro h;simp at h
  |cons a r ih=>
   obtain⟨n,k'⟩:=a;intro h;rw[VU];rw[WI]at h;by_cases hc:(k'==XA && env.scope.kind == .function && env.kindOf n==s? .cell)=t?
   ·simp only[hc,if_true,WI]
    cases hy:y==n with
    |true=>
     rw[hy]at h;have e:k'=k:=ZI h
     simp only[VW,beq_iff_eq]at hc;exact absurd (e ▸ hc.1.1) hk
    |false=>
     rw[hy]at h;exact ih h
   ·simp only[hc,Ws,if_false,WI]
    cases hy:y==n with
    |true=>
     rw[hy]at h;exact h
    |false=>
     rw[hy]at h;exact ih h
 exact go scope.names h
def w6(c:eS X S){sc:Scope}(h:vc S sc=t?):nS X sc (inN sc) (aZ S sc)/\∀cl C s₀ H₀ ex,eS (dj X sc cl (inN sc) C s₀ H₀ ex) ⟨inN sc,sc,[]⟩:=by
 unfold vc at h;simp only[VW]at h;obtain⟨⟨⟨h1,h2⟩,h3⟩,h4⟩:=h;have h2:=VQ.mp h2
 have nT:∀y∈sc.names,y.2≠.cell:=λy hy e=>by
  have:=h2 y hy;rw[e]at this;cases this
 constructor
 ·refine⟨?_,nT,λy hy e=>?_,λy hy e=>?_,λi y j q1 q2=>?_,of_decide_eq_true h3,by unfold aZ;rw[Lm9]⟩
  ·split at h1
   ·assumption
   ·cases h1
  ·have:=h2 y hy
   simp only[e]at this;split at this
   ·assumption
   ·cases this
  ·have:=h2 y hy
   simp only[e]at this;split at this
   ·rename_i k;exact .inl (c.Oz _ k).1
   ·rename_i k;exact c.RN _ k
   ·cases this
  ·unfold aZ at q2
   rw[Wx,q1]at q2;simp only[Option.map_some,Option.some.injEq]at q2;split at q2
   ·rename_i k
    exact⟨(at_of c q2).1,k⟩
   ·cases q2
 ·intro cl C s₀ H₀ ex
  exact⟨rfl,of_decide_eq_true h3,h4,λx h=>lx h ∅,λx h=>absurd rfl (nT (x,.cell) (Wy h)),λx h=>kC h,λx h=>lx h ∅,λx F h=>(by cases h)⟩
def eI.comp(o:eI X Γ){sc:Scope}{N:List Str}{cl C s₀ H₀ ex}:eI (dj X sc cl N C s₀ H₀ ex) Γ:=⟨o.hu,o.fn,o.co,o.us,o.fl,o.me⟩
def tj(hB:fQ X B)(ifs:List Expr):G8 X ifs (tests B ifs):=by
 unfold tests;split
 ·exact CV
 ·exact CW (hB.T _)
 ·exact λI h=>by cases h
def DU(hS:∀X S,eI X Γ->eS X S->fQ X (BS S))(o:eI X Γ)(c:eS X S){elt tg iter:Expr}{ifs:List Expr}{sc:Scope}:PE X (.ListComp elt [⟨tg,iter,ifs,0⟩] sc pos) (qa Γ BS S elt tg iter ifs sc pos):=by
 unfold qa;split
 ·rename_i t ht
  split
  ·rename_i h
   simp only[VW]at h;obtain⟨⟨h1,h2⟩,h3⟩:=h;obtain⟨k1,k2⟩:=w6 c h1;refine λ{_ _ _ _ _ _ _}I h=>wj k1 (λi hi=>?_) (qZ o c (hS X S o c)) (λcl C s₀ H₀ ex=>vn (k2 cl C s₀ H₀ ex) ht) (λcl C s₀ H₀ ex=>tj (hS _ _ o.comp (k2 cl C s₀ H₀ ex)) ifs) (λcl C s₀ H₀ ex=>(hS _ _ o.comp (k2 cl C s₀ H₀ ex)).E elt) h2 I h
   have:=VQ.mp h3 i hi;split at this
   ·assumption
   ·cases this
  ·exact cH
 ·exact cH
def AJ(hS:∀X S,eI X Γ->eS X S->fQ X (BS S))(o:eI X Γ)(c:eS X S){y:Str}(hy:uL X i y){elt tg iter:Expr}{ifs:List Expr}{sc:Scope}:PS X (.Assign [.Name y p] (.ListComp elt [⟨tg,iter,ifs,0⟩] sc pos) p2) (asg (.one i) (qa Γ BS S elt tg iter ifs sc pos)):=by
 have DS:PS X (.Assign [.Name y p] (.ListComp elt [⟨tg,iter,ifs,0⟩] sc pos) p2) (asg (.one i) no):=λI h=>absurd rfl h
 unfold qa;split
 ·rename_i t ht
  split
  ·rename_i h
   simp only[VW]at h;obtain⟨⟨h1,h2⟩,h3⟩:=h;obtain⟨k1,k2⟩:=w6 c h1;refine λ{_ _ _ _ _}I h=>CZ hy k1 (λi hi=>?_) (qZ o c (hS X S o c)) (λcl C s₀ H₀ ex=>vn (k2 cl C s₀ H₀ ex) ht) (λcl C s₀ H₀ ex=>tj (hS _ _ o.comp (k2 cl C s₀ H₀ ex)) ifs) (λcl C s₀ H₀ ex=>(hS _ _ o.comp (k2 cl C s₀ H₀ ex)).E elt) h2 I h
   have:=VQ.mp h3 i hi;split at this
   ·assumption
   ·cases this
  ·exact λ{_ _ _ _ _}I h=>DS I h
 ·exact λ{_ _ _ _ _}I h=>DS I h
end
section
variable{X:Cx}{Γ:Ct}{S:Sg}{B:Bd}{BS:Sg->Bd}{x:Str}{i:Nat}{pos p p2:Pos}{a b e o:Expr}{es:List Expr}{fz:Bool}{F:Fn}
theorem ox{α β:Type}[BEq α][LawfulBEq α]{P:α->β->Prop}{x:α}{b:β}:∀{l:List (α × β)},l.lookup x=s? b->(∀p∈l,P p.1 p.2)->P x b
 | (a,c)::l,h,k=>by
  rw[WI]at h;split at h
  ·rename_i e
   cases h;cases eq_of_beq e;exact k _ VL
  ·exact ox h λp hp=>k p (VK _ hp)
def lc{α:Type}{P:α->Prop}{a:α}{l:List α}(h:P a)(k:∀x∈l,P x):∀x∈a::l,P x:=YO.mpr ⟨h,k⟩
def ln{α:Type}{P:α->Prop}:∀x∈([]:List α),P x:=λ_ h=>nomatch h
def Ik(hu:X.A.units+20<cLine)(h:blt x fz=s? F):∃f,bootBuiltins x=s? f/\eE X f F/\((∃id,f=.builtin id)\/∃T,f=.type T):=by
 refine ox (P:=λx F=>∃f,bootBuiltins x=s? f/\eE X f F/\((∃id,f=.builtin id)\/∃T,f=.type T)) h ?_
 repeat' refine lc ?_ ?_
 ·exact⟨_,⇑3,zF,.inl ⟨_,rfl⟩⟩
 ·exact⟨_,⇑3,x8,.inr ⟨_,rfl⟩⟩
 ·exact⟨_,⇑3,zG,.inr ⟨_,rfl⟩⟩
 ·exact⟨_,⇑3,zH,.inl ⟨_,rfl⟩⟩
 ·exact⟨_,⇑3,zM,.inl ⟨_,rfl⟩⟩
 ·exact⟨_,⇑3,zI,.inr ⟨_,rfl⟩⟩
 ·exact⟨_,⇑3,zJ,.inr ⟨_,rfl⟩⟩
 ·exact⟨_,⇑3,Dg,.inl ⟨_,rfl⟩⟩
 ·exact⟨_,⇑3,yf hu,.inr ⟨_,rfl⟩⟩
 ·exact⟨_,⇑3,ym hu,.inl ⟨_,rfl⟩⟩
 ·exact ln
def Il(hu:X.A.units+20<cLine){f:Ty->Option (T->Fn)}(h:RI x fz=s? f):∀y F,f y=s? F->HB X x y F:=by
 refine ox (P:=λx f=>∀y F,f y=s? F->HB X x y F) h ?_
 repeat' refine lc ?_ ?_
 rotate_right
 ·exact ln
 all_goals (intro y F hf;cases y<;>cases hf)
 ·exact⟨_,Yo,Zx,PySem.F.type_list_append,HC⟩
 ·exact⟨_,Yo,Zy,PySem.F.type_list_extend,HD⟩
 ·exact⟨_,Yo,aar,PySem.F.type_list_count,Dj hu⟩
 ·exact⟨_,aan,aah,PySem.F.type_tuple_count,Dk hu⟩
 ·exact⟨_,aan,aai,PySem.F.type_tuple_index,HE hu⟩
 ·exact⟨_,Zc,PySem.F.slot_str_join,PySem.F.type_str_join,Dl⟩
 ·exact⟨_,Zc,Yx,PySem.F.type_str_split,zQ⟩
 ·exact⟨_,Zc,PySem.F.slot_str_strip,PySem.F.type_str_strip,zN⟩
 ·exact⟨_,aaw,aaR,PySem.F.type_dict_get,HG hu⟩
 ·exact⟨_,aaw,ZF,PySem.F.type_dict_setdefault,HH hu⟩
 ·exact⟨_,Yo,aaI,PySem.F.type_list_reverse,H6⟩
def DV(o:eI X Γ)(c:eS X S)(hB:fQ X B){q:Fn × List Expr}(hg:Gl X x)(h1:X.mg x=n?)(h2:x≠"__name__")(h3:(x==("__debug__":Str))=f?)(hs:es.all bB=t?)(h:nest Γ S fz x es=s? q):PE X (.Call (.Name x p) es [] pos) (ae q.1 (q.2.map B.E)):=by
 unfold nest at h;split at h
 case h_2=>cases h
 split at h
 case h_2=>cases h
 split at h
 case h_2=>cases h
 split at h
 case h_2=>cases h
 ·rename_i Pp q _ _ y p2
  replace hs:bB (.Call (.Name y p2) Pp [] q)=t?:=by simpa using hs
  unfold Fl at h;split at h
  case h_2=>cases h
  rename_i hb;simp only[VW]at hb;obtain⟨⟨⟨b1,b2⟩,b3⟩,b4⟩:=hb;obtain⟨m1,m2,m3⟩:=o.us y ⇑b2;split at h
  ·rename_i hx
   rw[VW]at hx;have e1:=eq_of_beq hx.1
   have e2:=eq_of_beq hx.2;subst e1 e2;split at h
   ·cases h
    exact λ{_ _ _ _ _ _ _}I q=>DN o.hu (fe hB b3) hg h1 (lq c b1) m1 b3 hs I q
   ·cases h
  ·cases h
def DW(o:eI X Γ)(c:eS X S)(hB:fQ X B):PE X (.Call (.Name x p) es [] pos) (Ao Γ B S x es pos):=by
 unfold Ao;split
 ·rename_i h
  simp only[VW]at h;split
  ·rename_i F hF
   cases es with
   |nil=>exact λ{_ _ _ _ _ _ _}I q=>cH I q
   |cons e es=>exact λ{_ _ _ _ _ _ _}I q=>c.fc x F hF _ _ _ _ _ (lq c h.1) h.2 (fe hB h.2) I q
  split
  ·rename_i F hF
   obtain⟨h1,k,fa,h2,h3,h4,h5⟩:=o.fn x F hF;cases es with
   |nil=>exact λ{_ _ _ _ _ _ _}I q=>C4 (uW h2 h3) (lq c h.1) h4 h5 h1 I q
   |cons e es=>exact λ{_ _ _ _ _ _ _}I q=>Hg (uW h2 h3) (lq c h.1) h4 h5 (fe hB h.2) h.2 h1 I q
  ·split
   ·rename_i hb hF
    simp only[VW]at hb;obtain⟨h1,h2,h3⟩:=o.us x ⇑hb.1;split
    ·rename_i q hq
     exact λ{_ _ _ _ _ _ _}I z=>DV o c hB (lq c h.1) h1 h2 h3 h.2 hq I z
    ·cases es with
     |nil=>exact absurd hb.2 ⋯
     |cons e es=>exact λ{_ _ _ _ _ _ _}I q=>Hw (Ik o.hu hF) (lq c h.1) h1 h2 h3 (fe hB h.2) h.2 I q
   ·exact λ{_ _ _ _ _ _ _}I q=>cH I q
 ·exact λ{_ _ _ _ _ _ _}I q=>cH I q
def DX(oc:eI X Γ)(hB:fQ X B):PE X (.Call (.Attribute o x p) es [] pos) (Ap Γ B o x p es pos):=by
 unfold Ap;split
 ·rename_i h
  simp only[VW]at h;obtain⟨⟨⟨h1,h2⟩,h3⟩,h4⟩:=h;have h3:=of_decide_eq_true h3
  have h0:es=[]->es.map B.E=[]:=λe=>by rw[e];rfl
  split
  ·rename_i mf hF
   refine λ{_ _ _ _ _ _ _}I q=>C6 (λc C F hc hf=>?_) (hB.E o) (fe hB h2) h0 h2 h3 h1 h4 I q
   obtain⟨fa,k,q1,q2,q3,q4⟩:=oc.me x mf hF c C F hc hf;exact⟨fa,q1,q2,uW q3 q4⟩
  ·split
   ·rename_i f hf
    exact λ{_ _ _ _ _ _ _}I q=>Dh (Il oc.hu hf) (hB.E o) (fe hB h2) h0 h2 h3 h1 h4 I q
   ·exact λ{_ _ _ _ _ _ _}I q=>cH I q
 ·exact λ{_ _ _ _ _ _ _}I q=>cH I q
def AK(hS:∀X S,eI X Γ->eS X S->fQ X (BS S))(o:eI X Γ)(c:eS X S)(e:Expr):PE X e (Fm Γ BS S e):=by
 have hB:=hS X S o c;have no:PE X e no:=λ{_ _ _ _ _ _ _}I q=>cH I q
 cases e with
 |Name=>exact λ{_ _ _ _ _ _ _}I q=>DQ o c I q
 |Constant=>exact λ{_ _ _ _ _ _ _}I q=>Ig I q
 |BinOp=>exact λ{_ _ _ _ _ _ _}I q=>GF Hr (hB.E _) (hB.E _) I q
 |UnaryOp op=>cases op with
  |Not=>exact λ{_ _ _ _ _ _ _}I q=>GJ (hB.E _) I q
  |USub=>exact λ{_ _ _ _ _ _ _}I q=>KL GI (hB.E _) I q
  |_=>exact @no
 |BoolOp op=>cases op with
  |And=>exact λ{_ _ _ _ _ _ _}I q=>wY hB _ I q
  |Or=>exact λ{_ _ _ _ _ _ _}I q=>AG hB _ I q
 |Compare=>exact λ{_ _ _ _ _ _ _}I q=>Ii o hB I q
 |IfExp=>exact λ{_ _ _ _ _ _ _}I q=>GR (hB.T _) (hB.E _) (hB.E _) I q
 |List=>
  delta Fm;dsimp only;split
  ·rename_i h;exact λ{_ _ _ _ _ _ _}I q=>GS (fe hB h) I q
  ·exact @no
 |Tuple=>
  delta Fm;dsimp only;split
  ·rename_i h
   simp only[VW]at h;exact λ{_ _ _ _ _ _ _}I q=>GU (fe hB h.1) (VV (of_decide_eq_true h.2) ∅) ⋯ I q
  ·exact @no
 |Dict a b=>cases a with
  |nil=>cases b with
   |nil=>exact λ{_ _ _ _ _ _ _}I q=>Du I q
   |_=>exact @no
  |_=>exact @no
 |Subscript=>exact λ{_ _ _ _ _ _ _}I q=>Ij o hB I q
 |Attribute=>
  delta Fm;dsimp only;split
  ·rename_i h
   simp only[VW]at h;exact λ{_ _ _ _ _ _ _}I q=>pe_fld o.fl ⇑h.2 (hB.E _) h.1 I q
  ·exact @no
 |ListComp _ gs=>cases gs with
  |nil=>exact @no
  |cons g r=>
   obtain⟨tg,it,fs,n⟩:=g;cases n with
   |ofNat n=>cases n with
    |zero=>cases r with
     |nil=>exact λ{_ _ _ _ _ _ _}I q=>DU hS o c I q
     |cons=>exact @no
    |succ=>cases r<;>exact @no
   |negSucc=>cases r<;>exact @no
 |Call f es ks=>cases ks with
  |nil=>cases f with
   |Name=>exact λ{_ _ _ _ _ _ _}I q=>DW o c hB I q
   |Attribute=>exact λ{_ _ _ _ _ _ _}I q=>DX o hB I q
   |_=>exact @no
  |cons=>cases f<;>exact @no
 |_=>exact @no
def Io(o:eI X Γ)(hB:fQ X (BS S))(hE:∀e,PE X e (Fm Γ BS S e))(e:Expr):PT X e (RJ (BS S) (Fm Γ BS S) e):=by
 have no:PT X e no:=λ{_ _ _ _ _ _ _}w hw I q=>wa w hw I q
 cases e with
 |UnaryOp op=>cases op with
  |Not=>exact λ{_ _ _ _ _ _ _}w hw I q=>GN (hB.T _) w hw I q
  |_=>exact @no
 |BoolOp op=>cases op with
  |And=>exact λ{_ _ _ _ _ _ _}w hw I q=>wZ hB _ w hw I q
  |Or=>exact λ{_ _ _ _ _ _ _}w hw I q=>AH hB _ w hw I q
 |Compare=>exact λ{_ _ _ _ _ _ _}w hw I q=>DR o hB w hw I q
 |Name|Call|Subscript|Attribute|Constant=>exact λ{_ _ _ _ _ _ _}w hw I q=>GL (hE _) (λ_=>rfl) (λ_ _ _ h=>by cases h) w hw I q
 |_=>exact @no
def Fv{tg:Expr}{l:Nat}{env:Env}(h:mP e=t?):swapsWithSole [tg] e l env=pure f?:=nP h
def RO{ts:List Expr}{k:Nat}{env:Env}(h:Fo e=t?):swappedStores [.Tuple ts k p] e env=pure n?/\mP e=t?:=by
 cases e<;>first|exact⟨rfl,rfl⟩|cases h
def Ip{gs:List Comprehension}{tg iter:Expr}{ifs:List Expr}(h:PF gs=s? (tg,iter,ifs)):gs=[⟨tg,iter,ifs,0⟩]:=by
 unfold PF at h;split at h
 ·cases h;rfl
 ·cases h
def Iq(hS:∀X S,eI X Γ->eS X S->fQ X (BS S))(o:eI X Γ)(c:eS X S){tg:Expr}:PS X (.Assign [tg] e pos) (yl Γ BS S tg e):=by
 have hB:=hS X S o c;have no:PS X (.Assign [tg] e pos) iU:=λ{_ _ _ _ _}I q=>y8 I q
 cases tg with
 |Name x p=>
  delta yl;dsimp only;split
  ·rename_i i hi
   have V:PS X (.Assign [.Name x p] e pos) (DG BS S i e):=by
    unfold DG;split
    ·rename_i hv
     exact λ{_ _ _ _ _}I q=>uM (hB.E _) (nu (ow c hi)) (Fv hv) rfl rfl I q
    ·exact @no
   cases e with
   |ListComp elt gs sc q=>
    dsimp only;split
    ·rename_i hg
     cases Ip hg;exact λ{_ _ _ _ _}I q=>AJ hS o c (ow c hi) I q
    ·exact @V
   |_=>exact @V
  ·exact @no
 |Tuple ts _ _=>
  delta yl;dsimp only;split
  ·rename_i hi ht
   obtain⟨q1,q2,q3⟩:=qY c hi;exact λ{_ _ _ _ _}I q=>uM (hB.E _) (zf q1 q2 q3) (Fv (RO (ts:=[]) (k:=0) (p:=pos) (env:=X.env) ht).2) (RO ht).1 rfl I q
  ·exact @no
 |Attribute ob f _=>
  delta yl;dsimp only;split
  ·rename_i h
   exact λ{_ _ _ _ _}I q=>C3 o.fl ⇑h (hB.E _) (hB.E _) I q
  ·exact @no
 |Subscript ob i _=>
  delta yl;dsimp only;split
  ·rename_i h;exact λ{_ _ _ _ _}I q=>Ds o.hu (hB.E _) (hB.E _) (hB.E _) h I q
  ·exact @no
 |_=>exact @no
def Ir(hS:∀X S,eI X Γ->eS X S->fQ X (BS S))(o:eI X Γ)(c:eS X S)(st:Stmt):PS X st (Kp Γ BS S st):=by
 have hB:=hS X S o c;have no:PS X st iU:=λ{_ _ _ _ _}I q=>y8 I q
 cases st with
 |Continue=>exact λ{_ _ _ _ _}I q=>GV I q
 |Expr=>
  delta Kp;dsimp only;split
  ·rename_i h;exact λ{_ _ _ _ _}I q=>GW (hB.E _) h I q
  ·exact @no
 |Return v=>cases v with
  |none=>exact λ{_ _ _ _ _}I q=>CP I q
  |some=>exact λ{_ _ _ _ _}I q=>GX (hB.E _) I q
 |If=>exact λ{_ _ _ _ _}I q=>KP (hB.T _) (jc hB _) (jc hB _) I q
 |Assign ts=>cases ts with
  |nil=>exact @no
  |cons t r=>cases r with
   |nil=>exact λ{_ _ _ _ _}I q=>Iq hS o c I q
   |cons=>exact @no
 |AugAssign t=>cases t with
  |Name=>
   delta Kp;dsimp only;split
   ·rename_i h;exact λ{_ _ _ _ _}I q=>GY (ow c h) (hB.E _) zR I q
   ·exact @no
  |Subscript=>
   delta Kp;dsimp only;split
   ·rename_i h;exact λ{_ _ _ _ _}I q=>Dt o.hu (hB.E _) (hB.E _) (hB.E _) h I q
   ·exact @no
  |_=>exact @no
 |For tg e b r=>cases r with
  |nil=>
   delta Kp;dsimp only;split
   ·rename_i h1 h2;exact λ{_ _ _ _ _}I q=>G5 (qZ o c hB) (vn c h1) (jc hB _) h2 I q
   ·exact @no
  |cons=>exact @no
 |While k b r=>cases r with
  |nil=>exact λ{_ _ _ _ _}I q=>GZ (hB.T _) (jc hB _) lim I q
  |cons=>exact @no
 |_=>exact @no
theorem tm:∀(n:Nat)(X:Cx)(S:Sg),eI X Γ->eS X S->fQ X (cX Γ n S)
 |0,X,S,_,_=>⟨λ_{_ _ _ _ _ _ _}I q=>cH I q,λ_{_ _ _ _ _ _ _}w hw I q=>wa w hw I q,λ_{_ _ _ _ _}I q=>y8 I q⟩
 |n+1,X,S,o,c=>⟨AK (tm n) o c,Io o (tm n X S o c) (AK (tm n) o c),Ir (tm n) o c⟩
def q8(o:eI X Γ)(c:eS X S)(b:List Stmt):yP X b (code Γ S b):=jc (tm 40 X S o c) b
end
theorem tq{n0 n:Nat}{L:aa}(hn:n0<=n)(h:∀c,at_ L n=s? c->c=.ref n):∀k,bE n0 L k (.ref n)=n?
 |0=>rfl
 |k+1=>by
  unfold bE;rw[if_neg (by rw[lt];simpa using hn)];cases e:at_ L n with
  |none=>simp only[e]
  |some c=>simp only[e];rw[h c e];exact tq hn h k
def DY{n0 k:Nat}{L:aa}{xs:List T}{t:T}(e:bE n0 L (k+2) (.lst xs)=s? t):∃ys,t=.lst ys/\xs.length=ys.length/\∀(i:Nat) y,ys[i]?=s? y->∃x,xs[i]?=s? x/\bE n0 L (k+1) x=s? y:=by
 unfold bE at e;split at e
 ·rename_i hl
  cases e;rw[lt]at hl;refine⟨xs,rfl,rfl,λi y q=>⟨y,q,?_⟩⟩;unfold bE;rw[if_pos (jz.mp hl i y q)]
 ·obtain⟨ys,e1,rfl⟩:=V7.mp e
  obtain⟨len,at'⟩:=kE e1;exact⟨ys,rfl,len,at'⟩
def DZ{g g':G}{L L' Lo:aa}{t t':T}{u:VT}(l:Le g g')(r0:Rel g L)(r:Rel g' L')(h:RT g' n? t u)(e:yk L t L'=.ok t' Lo):
  ∃dh,Le g dh/\Rel dh Lo/\RT dh n? t' u/\(∀a b o,dh.H a=s? (b,o)->∃b',g'.H a=s? (b',o))/\(∀a,g'.H a=n?->dh.H a=n?)/\∀a o,g'.H a=s? (t?,o)->dh.H a=s? (t?,o):=by
 classical
 cases t with
 |ref n=>?_
 |_=>cases e
 cases h with
 |ref hp=>?_
 rename_i p;unfold yk at e;cases ec:at_ L' n with
 |none=>simp only[ec]at e;cases e
 |some c=>?_
 cases c with
 |lst xs=>?_
 |_=>simp only[ec]at e;cases e
 simp only[ec]at e;unfold cm at e;split at e
 case isFalse=>cases e
 case isTrue hn=>
 obtain⟨p',hp',hcell⟩:=r.cells n _ ec;rw[hp]at hp';cases hp';generalize PV:put L' n (.ref n)=Lp at e;have Mh:Lp.length=L'.length:=by rw[<- PV];exact ky
 unfold fin at e;split at e
 case isFalse=>cases e
 case isTrue ho=>
 have n0:L.length<=L'.length:=by have:=cu ec;omega
 cases ef:bE L.length Lp 9 (.lst xs) with
 |none=>rw[ef]at e;cases e
 |some t1=>?_
 rw[ef]at e;cases e;obtain⟨ys,rfl,Mi,T3⟩:=DY ef;have Mj:∀m c,m≠n->at_ Lp m=s? c->at_ L' m=s? c:=λm c hm q=>by
  rw[<- PV]at q;rcases i8 q with⟨z,_⟩|⟨_,z⟩
  ·exact absurd z hm
  ·exact z
 have RP:∀c,at_ Lp n=s? c->c=.ref n:=λc q=>by
  rw[<- PV]at q;rcases i8 q with⟨_,z⟩|⟨z,_⟩
  ·exact z
  ·exact absurd rfl z
 let nw:Wr->Prop:=λa=>∃m q,L.length<=m/\m≠n/\at_ g'.α m=s? q/\(a=q.1\/a=q.2)
 let dh:G:={g' with H:=λa=>if nw a then (g'.H a).map λq=>(t?,q.2) else g'.H a,α:=p::g'.α.drop (g'.α.length - L.length)}
 have hH:∀a,dh.H a=if nw a then (g'.H a).map λq=>(t?,q.2) else g'.H a:=λ_=>rfl
 have dl:(g'.α.drop (g'.α.length - L.length)).length=L.length:=by rw[WG,r.len];omega
 have dL:(Lp.drop (Lp.length - L.length)).length=L.length:=by rw[WG,Mh];omega
 have hα:∀m,m<L.length->at_ dh.α m=at_ g'.α m:=λm hm=>by
  have:at_ (p::g'.α.drop (g'.α.length - L.length)) m=at_ (g'.α.drop (g'.α.length - L.length)) m:=if_neg (by rw[dl];omega)
  exact this.trans (nv hm (by rw[r.len];exact n0))
 have PW:at_ dh.α L.length=s? p:=by
  have:at_ (p::g'.α.drop (g'.α.length - L.length)) (g'.α.drop (g'.α.length - L.length)).length=s? p:=cY
  rw[dl]at this;exact this
 have Iu:∀a o,g'.H a=s? (t?,o)->dh.H a=s? (t?,o):=λa o q=>by
  rw[hH];split
  ·rw[q];rfl
  ·exact q
 have pG:∀a o,g'.kn t? a o->dh.kn t? a o:=λa o q=>q.elim (λq=>.inl (Iu a o q)) .inr
 have lX:∀m p b o,L.length<=m->m≠n->at_ g'.α m=s? p->(b=p.1\/b=p.2)->g'.kn f? b o->dh.kn t? b o:=λm p b o hm hne hp hb q=>by
  rcases q with q|⟨z,_⟩
  ·refine .inl ?_
   rw[hH,if_pos ⟨m,p,hm,hne,hp,hb⟩,q];rfl
  ·cases z
 have hr:∀m p,m<L.length->at_ g'.α m=s? p->at_ dh.α m=s? p:=λm p hm hp=>(hα m hm).trans hp
 have zq:∀m p,m<L.length\/m=n->at_ g'.α m=s? p->¬ nw p.1/\¬ nw p.2:=λm p hm hp=>by
  refine⟨?_,?_⟩ <;>
  ·rintro⟨m',q,hm',hne,hq,hb⟩
   have ap:=r.apart m m' p q hp hq ⇑0;rcases hb with hb|hb
   ·first|exact ap.1 hb|exact ap.2.2.1 hb
   ·first|exact ap.2.1 hb|exact ap.2.2.2 hb
 have Fw:∀m p b o,m<L.length\/m=n->at_ g'.α m=s? p->(b=p.1\/b=p.2)->g'.kn f? b o->dh.kn f? b o:=λm p b o hm hp hb hk=>by
  have no:=zq m p hm hp;rcases hk with hk|⟨z,_⟩
  ·refine .inl ?_
   rw[hH,if_neg (by rcases hb with hb|hb<;>rw[hb];exact no.1;exact no.2)];exact hk
  ·cases z
 have hc:∀m c,L.length<=m->at_ Lp m=s? c->(∀k,bE L.length Lp k c=n?)\/∃p,at_ g'.α m=s? p/\RT g' (s? p) c (.ref p.1)/\∀b o,(b=p.1\/b=p.2)->g'.kn f? b o->dh.kn t? b o:=λm c hm q=>by
  by_cases z:m=n
  ·subst z
   rw[RP c q];exact .inl (tq hn RP)
  ·obtain⟨p1,q1,q2⟩:=r.cells m c (Mj m c z q)
   exact .inr ⟨p1,q1,q2,λb o hb=>lX m p1 b o hm z q1 hb⟩
 have top:RT dh (s? p) (.lst ys) (.ref p.1):=by
  cases hcell with
  |lst ht hk hz hl hi=>
   have hk':=Fw n p _ _ (.inr rfl) hp (.inl rfl) hk;refine .lst ht hk' (by rw[<- Mi];exact hz) (by rw[<- Mi];exact hl) λi y v q1 q2=>?_
   obtain⟨x,x1,x2⟩:=T3 i y q1;exact il hr pG hc rfl rfl _ (hi i x v x1 q2) (λq z=>by cases z) x2
 have PX:∀m c,m<L.length->at_ (Lp.drop (Lp.length - L.length)) m=s? c->∃p,at_ dh.α m=s? p/\RT dh (s? p) c (.ref p.1):=λm c hm q=>by
  have q':at_ L' m=s? c:=Mj m c ⇑0 ((nv hm (by rw[Mh];exact n0)).symm.trans q)
  obtain⟨p1,h1,h2⟩:=r.cells m c q';have cM:M.lt L.length c=t?:=by
   rcases ho m c q with z|z
   ·obtain⟨p0,_,z2⟩:=r0.cells m c z
    rw[<- r0.len];exact z2.lt
   ·exact z
  refine⟨p1,hr m p1 hm h1,h2.re hr pG rfl rfl cM (λz=>by cases z) λa d b o ht hb hk=>⟨ht,?_⟩⟩;rcases ht with z|z
  ·cases z
  ·cases z
   exact Fw m _ b o (.inl hm) h1 hb hk
 have AL:∀m q,at_ dh.α m=s? q->∃m',at_ g'.α m'=s? q/\((m<L.length/\m'=m)\/(m=L.length/\m'=n)):=λm q z=>by
  have hm:m<L.length+1:=by have:=cu z;have:m<(p::g'.α.drop (g'.α.length - L.length)).length:=this;rw[VS,dl]at this;exact this
  by_cases zz:m=L.length
  ·subst zz;rw[PW]at z;cases z;exact⟨n,hp,.inr ⟨rfl,rfl⟩⟩
  ·have hm:m<L.length:=by omega
   exact⟨m,(hα m hm).symm.trans z,.inl ⟨hm,rfl⟩⟩
 refine⟨dh,⟨λa o q=>Iu a o (l.f a o q),λm p q=>hr m p (by rw[<- r0.len];exact cu q) (l.α m p q),l.B,l.m,l.w⟩,⟨?_,λm c q=>?_,λm m' q q' h1 h2 hne=>?_,λm q z=>?_⟩,.ref PW,λa b o q=>?_,λa q=>?_,Iu⟩
 ·show(p::g'.α.drop _).length=_
  rw[VS,VS,dl,dL]
 ·unfold at_ at q
  split at q
  ·rename_i em
   cases q;rw[dL]at em;subst em;exact⟨p,PW,top⟩
  ·exact PX m c (by have:=cu q;rw[dL]at this;exact this) q
 ·obtain⟨a,a1,a2⟩:=AL m q h1
  obtain⟨b,b1,b2⟩:=AL m' q' h2;exact r.apart a b q q' a1 b1 ⇑0
 ·obtain⟨a,a1,a2⟩:=AL m q z
  obtain⟨⟨o1,h1⟩,o2,h2⟩:=r.live a q a1;have no:=zq a q ⇑0 a1
  exact⟨⟨o1,by rw[hH,if_neg no.1];exact h1⟩,o2,by rw[hH,if_neg no.2];exact h2⟩
 ·rw[hH]at q
  split at q
  ·obtain⟨z,z1,z2⟩:=V7.mp q
   cases z2;exact⟨z.1,z1⟩
  ·exact⟨b,q⟩
 ·rw[hH,q];split<;>rfl
section
variable{P:WU}{w:XQ}{K:Wl}{mg:Str->Option VT}{cls:Str->Option Wr}{base:Heap}{N ps:List Str}{qual:Str}{scope:Scope}{f:Wr}{g:G}{L:aa}
def Iw{k:Nat}{name:Str}{params:Arguments}{body:List Stmt}{dV kV doc pm eQ ct oc:VT}{an od:Option Wr}{pZ:Array (Option VT)}{mb:SS}(lk:K.lookup f=s? ⟨oc,od,.func (W5 name qual params body scope dV kV doc pm an eQ ct),pZ⟩)(hcd:XN K eQ qual=t?)(S:kH N ps scope)
  (sO:∀us:List VT,us.length=ps.length->bindArgs (W5 name qual params body scope dV kV doc pm an eQ ct) ⟨us,[]⟩=pure (ps.zip us))
  (nU:∀(A:WY)(s:VY)(H:Hp),fM k (A.deeper (envOfC qual scope s.heap.objs.size f eQ))->yP (xW P w K mg cls base N qual scope f eQ A s H) body mb):
  dO P w K mg cls base (k+1) f (pM ps.length N.length mb):=λ{A s g L L' us xs t}hr e0 r kI=>by
 unfold pM at kI;split at kI
 ·rename_i hl
  have K7:us.length=ps.length:=by rw[<- V9 r];exact hl
  have KX:K.In s.heap:=e0.mod.E9.keeps λb o e=>(e0.bs b o e).1
  have lim:s.heap.NoLimit:=e0.mod.nolimit.keeps λb o e=>(e0.bs b o e).1
  have hkind:∀y∈ps.zip us,scope.names.lookup y.1=s? .local\/(scope.names.lookup y.1=s? .cell/\((cellsFrom (s.heap.objs.size+1) scope.names []).lookup y.1).isSome=t?):=λ⟨n,v⟩hy=>by
   rcases S.par n (Xm hy).1 with q|q
   ·exact .inl q
   ·exact .inr ⟨q,Yw _ _ _ (.inl q)⟩
  refine codeAny_call_function hr.depth (KX _ _ lk) rfl S.co S.gen rfl (ZW KX hcd) (abk (sO us K7) _ _ _ _ ?_);refine wpAny_newFunctionEnv_cells S.kind hkind λenv he s1 x=>?_
  subst he;refine⟨lim.keeps x.toInCall.keep,codeAny_func ?_⟩;have I:=lZ (A:=A) (cd:=eQ) S hr.hd e0 hl r x
  have nb:mb (xs.map s?++Wj (N.length - ps.length) n?) L≠.bad:=λz=>by rw[z]at kI;cases kI
  refine wpAny_mono (nU A s g.H (hr.deeper _) I nb) (λfl s'⟨g',l,hs⟩=>?_) λe s' hs=>hs.elim
  cases eb:mb (xs.map s?++Wj (N.length - ps.length) n?) L with
  |rt t0 L1=>
   rw[eb]at hs kI;cases fl<;>first|exact hs.elim|skip
   obtain⟨⟨φ',J⟩,rt⟩:=hs;obtain⟨g2,l2,r2,h2,a,b,c⟩:=DZ l e0.rel J.rel rt kI;exact⟨g2,J.os,J.bare,⟨J.base.keep,λx o q n z=>b x (J.base.free x o q n z),λx o q=>c x o (J.base.bE x o q)⟩,λx y o q=>let ⟨_,z⟩:=a x y o q;J.hok x _ o z,l2,r2,h2⟩
  |_=>rw[eb]at kI;cases kI
 ·cases kI
end
def fR(s:Stmt):Arguments:=match s with
 | .FunctionDef _ a ..=>a
 |_=>⟨[],[],n?,[],[],n?,[]⟩
def bodyOf(s:Stmt):List Stmt:=match s with
 | .FunctionDef _ _ b ..=>b
 |_=>[]
def f9(s:Stmt):Scope:=match s with
 | .FunctionDef _ _ _ _ _ _ sc ..=>sc
 |_=>⟨.function,[],f?,f?,[]⟩
def Ml:NameKind->Bool
 | .local=>t?
 | .cell=>t?
 |_=>f?
def AM(ps:List Str)(sc:Scope):List Str:=ps++((sc.names.filter λy=>Ml y.2).map (·.1)).filter λy=>!ps.contains y
def AO(ps:List Str)(sc:Scope):Bool:=(match sc.kind with
  | .function=>t?
  |_=>f?) && !sc.isCoroutine && !sc.isGenerator && d? (AM ps sc).Nodup && (ps.all λx=>match sc.names.lookup x with
  |some k=>Ml k
  |none=>f?) && (sc.names.all λy=>match y.2 with
  | .free=>f?
  |_=>t?) && (AM ps sc).all An
structure q9(K:Wl)(x qual:Str)(st:Stmt)(f:Wr):Prop where
 ex:∃(oc:VT)(od:Option Wr)(kV doc pm:VT)(an:Option Wr)(eQ ct:VT)(pZ:Array (Option VT)),K.lookup f=s? ⟨oc,od,.func (W5 x qual (fR st) (bodyOf st) (f9 st) .none kV doc pm an eQ ct),pZ⟩/\XN K eQ qual=t?
 kp:WX K (.ref f)=t?
structure Tab(P:WU)(w:XQ)(K:Wl)(mg:Str->Option VT)(cls:Str->Option Wr)(base:Heap)(n:Nat)(Γ:Ct):Prop where
 fn:∀x F,Γ.fn.lookup x=s? F->(x==("__debug__":Str))=f?/\∃fa,dO P w K mg cls base n fa F/\mg x=s? (.ref fa)/\WX K (.ref fa)=t?
 co:∀x t,Γ.co.lookup x=s? t->(x==("__debug__":Str))=f?/\∃u,mg x=s? u/\∀g:G,g.B=base->g.cls=cls->g.w=w->RT g n? t u
 us:∀x∈Γ.us,mg x=n?/\x≠"__name__"/\(x==("__debug__":Str))=f?
 fl:∀c C,cls c=s? C->ClsOk K Γ.fl C
 me:∀m mf,Γ.me.lookup m=s? mf->∀c C F,cls c=s? C->mf.lookup c=s? F->∃fa,C2 K C/\Meth K C m fa/\dO P w K mg cls base n fa F
def Ct.cS(Γ:Ct)(x:Str)(F:Fn):Ct:={ Γ with fn:=(x,F)::Γ.fn}
def Ct.AQ(Γ:Ct)(m c:Str)(F:Fn):Ct:={ Γ with me:=(m,(c,F)::(Γ.me.lookup m).getD [])::Γ.me}
section
variable{P:WU}{w:XQ}{K:Wl}{mg:Str->Option VT}{cls:Str->Option Wr}{base:Heap}{n:Nat}{Γ:Ct}{x qual:Str}{st:Stmt}{f:Wr}{ps:List Str}{m F:Fn}
theorem dO.mono{j k:Nat}(h:dO P w K mg cls base j f m)(l:j<=k):dO P w K mg cls base k f m:=λ{_ _ _ _ _ _ _ _}hr e r q=>h (hr.mono l) e r q
def Tab.ct{X:Cx}(T:Tab P w K mg cls base n Γ)(h:X.prog=P/\X.w=w/\X.K=K/\X.mg=mg/\X.cls=cls/\X.base=base)(hr:fM n X.A):eI X Γ:=by
 obtain⟨rfl,rfl,rfl,rfl,rfl,rfl⟩:=h;refine⟨?_,λx F q=>?_,T.co,T.us,T.fl,λm mf q c C F hc hF=>?_⟩
 ·have:=hr.un;omega
 ·obtain⟨h1,fa,h2,h3,h4⟩:=T.fn x F q
  exact⟨h1,n,fa,h2,hr,h3,h4⟩
 ·obtain⟨fa,h1,h2,h3⟩:=T.me m mf q c C F hc hF
  exact⟨fa,n,h1,h2,h3,hr⟩
def rg(h:AO ps sc=t?):kH (AM ps sc) ps sc/\(AM ps sc).all An=t?:=by
 unfold AO at h;simp only[VW]at h;obtain⟨⟨⟨⟨⟨⟨h1,h2⟩,h3⟩,h4⟩,h5⟩,h6⟩,h7⟩:=h;refine⟨⟨?_,⇑h2,⇑h3,of_decide_eq_true h4,by simp[AM],λx hx=>?_,λy hy e=>?_⟩,h7⟩
 ·split at h1
  ·assumption
  ·cases h1
 ·have:=VQ.mp h5 x hx
  cases e:sc.names.lookup x with
  |none=>rw[e]at this;cases this
  |some k=>
   rw[e]at this;cases k<;>first|exact .inl rfl|exact .inr rfl|cases this
 ·have:=VQ.mp h6 y hy
  rw[e]at this;cases this
def Dn(rn:Nat->Nat->SS->Fn)(Γ:Ct)(ps:List Str)(st:Stmt)(m:Fn):Prop:=AO ps (f9 st)=t?/\rn ps.length (AM ps (f9 st)).length (code Γ ⟨AM ps (f9 st),f9 st,[]⟩ (bodyOf st))=m
theorem Tab.PY(T:Tab P w K mg cls base n Γ)(F:q9 K x qual st f)
  (e:Dn run Γ ps st m)
  (hb:∀(kV doc pm:VT)(an:Option Wr)(eQ ct:VT)(us:List VT),us.length=ps.length->bindArgs (W5 x qual (fR st) (bodyOf st) (f9 st) .none kV doc pm an eQ ct) ⟨us,[]⟩=pure (ps.zip us)):dO P w K mg cls base (n+1) f m:=by
 obtain⟨ok,e⟩:=e;subst e;obtain⟨oc,od,kV,doc,pm,an,eQ,ct,pZ,l,c⟩:=F.ex;obtain⟨S,nm⟩:=rg ok;refine K6 l c S (hb kV doc pm an eQ ct) λA s H hr=>q8 (T.ct ⟨rfl,rfl,rfl,rfl,rfl,rfl⟩ hr) ⟨rfl,S.nd,nm,λ_ h=>h,λ_ h=>⟨h,rfl⟩,λx h=>absurd rfl (S.qF (x,.free) (Wy h)),λ_ h=>h,λx F h=>(by cases h)⟩ _
theorem Tab.Mm(T:Tab P w K mg cls base n Γ)(F:q9 K x qual st f)
  (e:Dn pM Γ ps st m)
  (hb:∀(kV doc pm:VT)(an:Option Wr)(eQ ct:VT)(us:List VT),us.length=ps.length->bindArgs (W5 x qual (fR st) (bodyOf st) (f9 st) .none kV doc pm an eQ ct) ⟨us,[]⟩=pure (ps.zip us)):dO P w K mg cls base (n+1) f m:=by
 obtain⟨ok,e⟩:=e;subst e;obtain⟨oc,od,kV,doc,pm,an,eQ,ct,pZ,l,c⟩:=F.ex;obtain⟨S,nm⟩:=rg ok;refine Iw l c S (hb kV doc pm an eQ ct) λA s H hr=>q8 (T.ct ⟨rfl,rfl,rfl,rfl,rfl,rfl⟩ hr) ⟨rfl,S.nd,nm,λ_ h=>h,λ_ h=>⟨h,rfl⟩,λx h=>absurd rfl (S.qF (x,.free) (Wy h)),λ_ h=>h,λx F h=>(by cases h)⟩ _
theorem Tab.Mn(T:Tab P w K mg cls base n Γ)(F:q9 K x qual st f)
  (e:Dn runK Γ ps st m)
  (hb:∀(kV doc pm:VT)(an:Option Wr)(eQ ct:VT)(us:List VT),us.length=ps.length->bindArgs (W5 x qual (fR st) (bodyOf st) (f9 st) .none kV doc pm an eQ ct) ⟨us,[]⟩=pure (ps.zip us)):dO P w K mg cls base (n+1) f m:=by
 obtain⟨ok,e⟩:=e;subst e;obtain⟨oc,od,kV,doc,pm,an,eQ,ct,pZ,l,c⟩:=F.ex;obtain⟨S,nm⟩:=rg ok;refine H7 l c S (hb kV doc pm an eQ ct) λA s H hr=>q8 (T.ct ⟨rfl,rfl,rfl,rfl,rfl,rfl⟩ hr) ⟨rfl,S.nd,nm,λ_ h=>h,λ_ h=>⟨h,rfl⟩,λx h=>absurd rfl (S.qF (x,.free) (Wy h)),λ_ h=>h,λx F h=>(by cases h)⟩ _
def Tab.add(T:Tab P w K mg cls base n Γ)(hF:dO P w K mg cls base (n+1) f m)(hm:mg x=s? (.ref f))(hk:WX K (.ref f)=t?)(hd:(x==("__debug__":Str))=f?):Tab P w K mg cls base (n+1) (Γ.cS x m):=by
 refine⟨λy F q=>?_,T.co,T.us,T.fl,λm mf q c C F hc hF=>let ⟨fa,h1,h2,h3⟩:=T.me m mf q c C F hc hF;⟨fa,h1,h2,h3.mono (XF n)⟩⟩;have z:Ze y ((x,m)::Γ.fn)=s? F:=q
 clear q;rw[WI]at z;split at z
 ·rename_i e
  have:=eq_of_beq e;subst this;cases z;exact⟨hd,f,hF,hm,hk⟩
 ·obtain⟨h1,fa,h2,h3⟩:=T.fn y F z
  exact⟨h1,fa,h2.mono (XF n),h3⟩
theorem Tab.AQ{c y:Str}{C:Wr}(T:Tab P w K mg cls base n Γ)(hF:dO P w K mg cls base (n+1) f m)(hc:cls c=s? C)(h1:C2 K C)(h2:Meth K C y f):Tab P w K mg cls base (n+1) (Γ.AQ y c m):=by
 refine⟨λy F q=>let ⟨h1,fa,h2,h3⟩:=T.fn y F q;⟨h1,fa,h2.mono (XF n),h3⟩,T.co,T.us,T.fl,λy' mf q c' C' F hc' hF'=>?_⟩;have z:Ze y' ((y,(c,m)::(Γ.me.lookup y).getD [])::Γ.me)=s? mf:=q
 clear q;have old:∀mf,Γ.me.lookup y'=s? mf->mf.lookup c'=s? F->∃fa,C2 K C'/\Meth K C' y' fa/\dO P w K mg cls base (n+1) fa F:=λmf q z=>
  let ⟨fa,h1,h2,h3⟩:=T.me y' mf q c' C' F hc' z;⟨fa,h1,h2,h3.mono (XF n)⟩
 rw[WI]at z;split at z
 ·rename_i e
  have:=eq_of_beq e;subst this;cases z;rw[WI]at hF';split at hF'
  ·rename_i e2
   have:=eq_of_beq e2;subst this;cases hF';rw[hc]at hc';cases hc';exact⟨f,h1,h2,hF⟩
  ·cases eo:Γ.me.lookup y' with
   |none=>rw[eo]at hF';cases hF'
   |some mf=>rw[eo]at hF';exact old mf eo hF'
 ·exact old mf z hF'
theorem tu:∀{g:G}{vs:List VT}{ns:List Int},IntsAre vs ns->cL g (ns.map T.int) vs
 |_,_,_,.nil=>.nil
 |_,_,_,.cons n t h=>.cons (.int n t) (tu h)
def AR{mb:Str->Option VT}{k:Nat}{fa a:Wr}{s₁:VY}{vs:List VT}{ns:List Int}
  (KX:K.In s₁.heap) (Fy:s₁.heap.Ns WA mg) (hb:s₁.heap.Ns builtinsNs mb) (T4:∀x:Str,x≠"__name__"->mb x=bootBuiltins x) (PZ:s₁.heap.NoLimit) (hg:s₁.gens = #[])
  (ha:s₁.heap.get? a=s? {cls:=.type "list",data:=.seq vs.toArray}) (hi:IntsAre vs ns) (hl:ns.length<=Wf) (hr:fM k callerA)
  (hF:dO P w K mg cls s₁.heap k fa m) (hm:∃L',m [.lst (ns.map .int)] []=.ok (.bl t?) L'):
  codeAny (model P w) callerA (.call (.ref fa) ⟨[.ref a],[]⟩) (λr s'=>r=.ok (.ret (.bool t?))/\OldK s₁.heap s'.heap/\s'.os=s₁.os/\AllBare s'.gens) s₁:=by
 obtain⟨L',hm⟩:=hm
 let g:G:=⟨λ_=>n?,[],s₁.heap,cls,w⟩
 have r:cL g [.lst (ns.map T.int)] [.ref a]:=.cons ((tu hi).lst (o:=default) (Le.refl g) (.inl rfl) (.inr ⟨rfl,ha⟩) ⇑hl) .nil;have e0:uV P w K mg cls s₁.heap s₁ g []:=⟨⟨KX,Fy,⟨mb,hb,T4⟩,PZ⟩,λb o e=>⟨e,rfl⟩,V3 _,λa b o z=>(by cases z),.of_eq hg,⟨rfl,λn c z=>(by cases z),λn m p q z=>(by cases z),λn p z=>(by cases z)⟩,rfl,rfl,rfl⟩
 refine codeAny_mono (hF hr e0 r hm) λr s' h=>?_
 cases r with
 |error e=>exact abu h
 |ok fl=>
  cases fl with
  |ret u=>
   obtain⟨g',os,bare,un,hok,l,rel,rt⟩:=h;cases rt;exact⟨rfl,OldK.of_keep λb o e=>un.keep b o e rfl ⋯,os,bare⟩
  |_=>exact abu h
end
end M
namespace RQ
open PySem PySem.W PySem.Calls PyProof.Rows
def nf{P:Params}{h:Heap}:∀(ns:List Int)(vs:List VT),WellAll P h vs (ns.map WData.int)->IntsAre vs ns:=by
 intro ns;induction ns with
 |nil=>
  intro vs w;rw[WH]at w;cases w;exact .nil
 |cons n ns ih=>
  intro vs w;rw[VU]at w;cases w with
  |cons a b=>
   cases a;exact .cons _ _ (ih _ b)
def yx{l:OpenLaw}{n:Nat}(hn:l.most=s? n){P:Params}{h:Heap}{args:List WData}{vals:List VT}
  (hpre:l.row.toRowW.claim.pre args=t?) (hwl:WellAll P h vals args):
  ∃a vs ns,vals=[Zl a]/\args=[WData.list (ns.map WData.int)]/\h.get? a=s? {cls:=.type "list",data:=.seq vs.toArray}/\IntsAre vs ns/\ns.length<=n:=by
 have T5:WShape.hasAll [] args [.list .int]=t?:=(pre_splitW hpre).1;have hc:l.pre.holds [] {args:=args}=t?:=(pre_splitW hpre).2
 obtain⟨d,r,rfl,h1,h2⟩:=hasAllW_cons T5;obtain rfl:=hasAllW_nil h2;obtain⟨xs,rfl,h3⟩:=hasW_list h1;obtain⟨ns,rfl⟩:=items_int h3;have hlen:ns.length<=n:=by
  unfold OpenLaw.pre at hc;have h4:(WTm.not (.lt (.lit (.int (n:Int))) (.len (.arg 0)))).holds [] {args:=[.list (ns.map .int)]}=t?:=by
   have h4:=(holds_andW hc).1;rw[hn]at h4;exact h4
  have h5:=condW_of h4 (w_not (w_lt w_lit (w_len_list (w_arg rfl))));rw[Lm9]at h5;refine Nat.le_of_not_lt λq=>?_
  have q':(n:Int)<((ns.length:Nat):Int):=by omega
  first
   | (rw[decide_eq_true q']at h5;exact absurd h5 ∅)
   | (simp at h5;omega)
 cases hwl with
 |cons w1 w2=>
  cases w2;cases w1 with
  |list ho hall=>exact⟨_,_,ns,rfl,rfl,ho,nf ns _ hall,hlen⟩
def yy(l:OpenLaw)(args:List WData):l.row.toRowW.claim.post args (.bool t?) args=t? :=
 postW_of (r:=l.row.toRowW) (X:=(t?==t?))
  (show WShape.has [] (.bool t?) .bool=t? by first|rfl|decide|simp[WShape.has,WShape.arms,WShape.armsAll])
  (show(WTm.eq .res (.lit (.bool t?))).value [] {args:=args,res:=s? (.bool t?),after:=args}=s? (.bool (t?==t?)) from w_eq_bool (w_res rfl) w_lit) rfl
def tw{l:OpenLaw}{n:Nat}{q:WU}{loose:List Str}{XP:(Str->Option VT)->Heap->Prop}{YP:XQ->Heap->Prop}{d:DefRec}
  (hn:l.most=s? n) (P2:d.params.defaults=[])
  (call:∀(w:XQ)(s₀ s₁:VY)(mg mb:Str->Option VT)(fa:Wr)(o:Obj)(pm cd doc:VT)(a:Wr)(vs:List VT)(ns:List Int),
   Ground q loose [] XP w s₀ mg mb s₁.heap->YP w s₁.heap ->
   s₁.heap.get? fa=s? o->o.data=.func (docDef d.name d.params d.body d.scope pm cd doc)->s₁.heap.CodeRec cd d.name->mg d.name=s? (.ref fa) ->
   s₁.heap.get? a=s? {cls:=.type "list",data:=.seq vs.toArray}->IntsAre vs ns->ns.length<=n->s₁.gens = #[] ->
   codeAny (model l.prog w) callerA (.call (.ref fa) ⟨[.ref a],[]⟩) (λr s'=>r=.ok (.ret (.bool t?))/\OldK s₁.heap s'.heap/\s'.os=s₁.os/\AllBare s'.gens) s₁):
  WalkO q loose XP YP l.row.toRowW d [] (λf vs=>PySem.call f vs):=by
 intro w s₀ s₁ mg mb G Y fa o pm cd doc dV kV ho hd hcd hD hmg hg args vals as hpre hlay hrd hwl hlo;obtain rfl:dV=.none:=Dflts.none hD P2;obtain rfl:kV=.none:=Dflts.noKw hD;obtain⟨a,vs,ns,rfl,rfl,Iy,hints,hlen⟩:=yx hn hpre hwl;refine enter_call (codeAny_mono (call w s₀ s₁ mg mb fa o pm cd doc a vs ns G Y ho (fd_plain hd) hcd hmg Iy hints hlen hg) λr s' hq=>?_);obtain⟨rfl,h2,h3,h4⟩:=hq;exact⟨.inl ⟨.bool t?,.bool t?,[],rfl,λ_=>rfl,.bool t?,yy l _,λ_=>⟨abv,λ_ hm=>(nomatch hm)⟩⟩,h2,h3,h4⟩
end RQ
namespace M
open PySem PySem.Spec PyProof.Rows
def D0{l:PySem.W.OpenLaw}{n k:Nat}{q:WU}{loose:List Str}{XP:(Str->Option VT)->Heap->Prop}{YP:XQ->Heap->Prop}{d:DefRec}{K:Params->Wl}{m:Fn}
  (hn:l.most=s? n) (uB:n<=Wf) (P2:d.params.defaults=[]) (hr:fM k callerA) (hY:∀(w:XQ)(h:Heap),YP w h->(K w.params).In h)
  (F:∀(w:XQ)(mg:Str->Option VT)(fa:Wr)(h:Heap),(K w.params).In h->h.Ns WA mg->mg d.name=s? (.ref fa)->∃cls,∀base:Heap,(K w.params).In base->base.Ns WA mg->dO l.prog w (K w.params) mg cls base k fa m)
  (hm:∀ns:List Int,ns.length<=n->∃L',m [.lst (ns.map .int)] []=.ok (.bl t?) L'):PySem.W.WalkO q loose XP YP l.row.toRowW d [] (λf vs=>PySem.call f vs):=by
 refine RQ.tw hn P2 λw s₀ s₁ mg mb fa o pm cd doc a vs ns G Y ho hd hcd hmg Iy hints hlen hg=>?_
 have KX:=hY w _ Y;obtain⟨cls,hF⟩:=F w mg fa _ KX G.T.g hmg;exact AR KX G.T.g G.T.b G.T.builtins G.T.nolimit hg Iy hints (VV hlen uB) hr (hF _ KX G.T.g) (hm ns hlen)
def rh{K:Wl}{x qual:Str}{st:Stmt}{f:Wr}{oc:VT}{od an:Option Wr}{pZ:Array (Option VT)}{kV doc pm eQ ct:VT}(l:K.lookup f=s? ⟨oc,od,.func (W5 x qual (fR st) (bodyOf st) (f9 st) .none kV doc pm an eQ ct),pZ⟩)
  (c:XN K eQ qual=t?) (k:WX K (.ref f)=t?):q9 K x qual st f:=⟨⟨oc,od,kV,doc,pm,an,eQ,ct,pZ,l,c⟩,k⟩
def P4(K:Wl)(x:Str)(st:Stmt)(f:Wr):Prop:=WT K WA x=s? (s? (.ref f))/\q9 K x x st f
def b0{Pr:List VT->Prop}(h:Pr []):∀us:List VT,us.length=0->Pr us:=λus e=>by cases us;exact h;cases e
def bC{n:Nat}{Pr:List VT->Prop}(h:∀q us,us.length=n->Pr (q::us)):∀us:List VT,us.length=n+1->Pr us:=λus e=>by
 cases us
 ·cases e
 ·exact h _ _ (abx e)
section
variable{P:WU}{w:XQ}{K:Wl}{mg:Str->Option VT}{cls:Str->Option Wr}{base h:Heap}{n:Nat}{Γ:Ct}{x:Str}{st:Stmt}{f:Wr}{m:Fn}
theorem Tab.mono(T:Tab P w K mg cls base n Γ):Tab P w K mg cls base (n+1) Γ :=
 ⟨λy F q=>let ⟨h1,fa,h2,h3⟩:=T.fn y F q;⟨h1,fa,h2.mono (XF n),h3⟩,T.co,T.us,T.fl,λm mf q c C F hc hF=>let ⟨fa,h1,h2,h3⟩:=T.me m mf q c C F hc hF;⟨fa,h1,h2,h3.mono (XF n)⟩⟩
def Tab.T6{cn:Str}{C:Wr}(T:Tab P w K mg cls base n Γ)(hF:dO P w K mg cls base (n+1) f m)(Q:Mk K C f)(hc:cls cn=s? C)(hm:mg cn=s? (.ref C))(hd:(cn==("__debug__":Str))=f?):Tab P w K mg cls base (n+2) (Γ.cS cn (make cn m)) :=
 T.mono.add (K8 Q hF hc) hm Q.kp hd
def Tab.Cz{cn:Str}{C:Wr}(T:Tab P w K mg cls base n Γ)(hF:dO P w K mg cls base (n+1) f m)(Q:Mk K C f)(hc:cls cn=s? C)(hm:mg cn=s? (.ref C))(hd:(cn==("__debug__":Str))=f?):Tab P w K mg cls base (n+2) (Γ.cS cn (oh cn m)) :=
 T.mono.add (H8 Q hF hc) hm Q.kp hd
end
def AllP{α:Type}(p:α->Prop):List α->Prop
 | []=>True
 |a::r=>p a/\AllP p r
theorem AllP.of{α:Type}{p:α->Prop}:∀{l:List α},AllP p l->∀a∈l,p a
 |_::_,h,a,m=>by
  rcases Wt.mp m with rfl|m
  ·exact h.1
  ·exact AllP.of h.2 a m
def tp(B:List Stmt)(i:Nat):Stmt:=B.getD i (.Pass ⟨0,0,0,0⟩)
def sr(s:Stmt)(j:Nat):Stmt:=match s with
 | .ClassDef _ _ _ b ..=>b.getD j (.Pass ⟨0,0,0,0⟩)
 |_=>s
def ri(s:Stmt):List Str:=(fR s).args.map (·.arg)
mutual
noncomputable def Ku(K:Wl):T->VT->Prop
 | .bl b,u=>u=.bool b
 | .int i,u=>∃t,u=.int i t
 | .str s,u=>s.length<=Wf/\∃t,u=.str ⟨s.toArray⟩ t
 | .tup xs,u=>∃a us n s,u=.ref a/\K.lookup a=s? ⟨.type "tuple",n?,.seq us n,s⟩/\xs.length<=Wf/\nh K xs us.toList
 |_,_=>False
noncomputable def nh(K:Wl):List T->List VT->Prop
 | [],us=>us=[]
 |x::xs,us=>∃v vs,us=v::vs/\Ku K x v/\nh K xs vs
end
mutual
theorem Ku.rt{K:Wl}{g:G}(KB:K.In g.B):∀(t:T)(u:VT),Ku K t u->RT g n? t u
 | .bl b,u,h=>(show u=.bool b from h) ▸ .bl b
 | .int i,u,h=>by obtain⟨t,rfl⟩:∃t,u=.int i t:=h;exact .int i t
 | .str s,u,h=>by obtain⟨h,t,rfl⟩:s.length<=Wf/\∃t,u=.str ⟨s.toArray⟩ t:=h;exact .str s t h
 | .tup xs,u,h=>by
  obtain⟨a,us,n,s,rfl,l,hz,r⟩:∃a us n s,u=.ref a/\K.lookup a=s? ⟨.type "tuple",n?,.seq us n,s⟩/\xs.length<=Wf/\nh K xs us.toList:=h;exact cL.tup (us:=us.toList) (n:=n) (nh.rt KB xs _ r) (.refl _) (.inr ⟨rfl,KB _ _ l⟩) ⟨rfl,rfl⟩ ⋯ hz
 | .aY,_,h=>(show False from h).elim
 | .cl _,_,h=>(show False from h).elim
 | .ref _,_,h=>(show False from h).elim
 | .lst _,_,h=>(show False from h).elim
 | .ay _,_,h=>(show False from h).elim
 | .obj _ _,_,h=>(show False from h).elim
theorem nh.rt{K:Wl}{g:G}(KB:K.In g.B):∀(xs:List T)(us:List VT),nh K xs us->cL g xs us
 | [],us,h=>(show us=[] from h) ▸ .nil
 |x::xs,us,h=>by
  obtain⟨v,vs,rfl,h1,h2⟩:∃v vs,us=v::vs/\Ku K x v/\nh K xs vs:=h;exact .cons (Ku.rt KB x v h1) (nh.rt KB xs vs h2)
end
inductive Md
 |r|l|k
inductive Df
 |f (b:Md) (x:Str) (k i:Nat) (m:Fn)
 |mt (b:Md) (c y q:Str) (k i j:Nat) (m:Fn)
 |mk (b:Md) (c q:Str) (k i j:Nat) (m:Fn)
 |Cz (c q:Str) (k i j:Nat) (m:Fn)
def RR:Md->Nat->Nat->SS->Fn
 | .l=>pM
 | .r=>run
 | .k=>runK
def BA(k:Nat)(x q:Str)(st:Stmt):Prop:=∀(kV doc pm:VT)(an:Option Wr)(eQ ct:VT)(us:List VT),us.length=k->bindArgs (W5 x q (fR st) (bodyOf st) (f9 st) .none kV doc pm an eQ ct) ⟨us,[]⟩=pure ((ri st).zip us)
structure D3(b:Md)(k:Nat)(Γ:Ct)(x q:Str)(st:Stmt)(m:Fn):Prop where
 d:(AO (ri st) (f9 st) && (ri st).length==k && !(x==("__debug__":Str)))=t?
 e:RR b k (AM (ri st) (f9 st)).length (code Γ ⟨AM (ri st) (f9 st),f9 st,[]⟩ (bodyOf st))=m
 a:BA k x q st
def Df.ok(B:List Stmt)(Γ:Ct):Df->Prop
 | .f b x k i m=>D3 b k Γ x x (tp B i) m
 | .mt b _ y q k i j m=>D3 b k Γ y q (sr (tp B i) j) m
 | .mk b c q k i j m=>D3 b k Γ "__init__" q (sr (tp B i) j) m/\(c==("__debug__":Str))=f?
 | .Cz c q k i j m=>D3 .k k Γ "__init__" q (sr (tp B i) j) m/\(c==("__debug__":Str))=f?
def Df.add(Γ:Ct):Df->Ct
 | .f _ x _ _ m=>Γ.cS x m
 | .mt _ c y _ _ _ _ m=>Γ.AQ y c m
 | .mk _ c _ _ _ _ m=>Γ.cS c (make c m)
 | .Cz c _ _ _ _ m=>Γ.cS c (oh c m)
def Df.n:Df->Nat
 | .mk ..=>2
 | .Cz ..=>2
 |_=>1
def adds:Ct->List Df->Ct
 | Γ,[]=>Γ
 | Γ,d::ds=>adds (d.add Γ) ds
def dep:List Df->Nat
 | []=>0
 |d::ds=>d.n+dep ds
def yz(B:List Stmt):Ct->List Df->Prop
 |_,[]=>True
 | Γ,d::ds=>d.ok B Γ/\yz B (d.add Γ) ds
def CA(B:List Stmt)(K:Wl)(cn:List Str):Df->Prop
 | .f _ x _ i _=>∃f,P4 K x (tp B i) f
 | .mt _ c y q _ i j _=>cn.contains c=t?/\∃C f,WT K WA c=s? (s? (.ref C))/\WN K (.ref C) y=s? (s? (.ref f))/\Yg K (.ref f)=t?/\q9 K y q (sr (tp B i) j) f
 | .mk _ c q _ i j _=>cn.contains c=t?/\∃C f,WT K WA c=s? (s? (.ref C))/\WN K (.ref C) "__init__"=s? (s? (.ref f))/\Yg K (.ref f)=t?/\q9 K "__init__" q (sr (tp B i) j) f
 | .Cz c q _ i j _=>cn.contains c=t?/\∃C f,WT K WA c=s? (s? (.ref C))/\WN K (.ref C) "__init__"=s? (s? (.ref f))/\Yg K (.ref f)=t?/\q9 K "__init__" q (sr (tp B i) j) f
def Iz(K:Wl)(p:Str × T):Prop:=∃u,WT K WA p.1=s? (s? u)/\Ku K p.2 u
def P5(K:Wl)(x:Str):Prop:=WT K WA x=s? n?
def D4(K:Wl)(fl:List Str)(c:Str):Prop:=∃C,WT K WA c=s? (s? (.ref C))/\C2 K C/\ZK K C=t?/\WX K (.ref C)=t?/\AllP (jZ K C) fl
def tA(K:Wl)(cn:List Str)(c:Str):Option Wr:=match cn.contains c,WT K WA c with
 |true,s? (s? (.ref C))=>s? C
 |_,_=>n?
def rm{K:Wl}{cn:List Str}{c:Str}{C:Wr}(h:cn.contains c=t?)(e:WT K WA c=s? (s? (.ref C))):tA K cn c=s? C:=by
 unfold tA;rw[h,e]
def AS{K:Wl}{cn:List Str}{c:Str}{C:Wr}(h:tA K cn c=s? C):c∈cn/\WT K WA c=s? (s? (.ref C)):=by
 unfold tA at h;split at h
 ·rename_i h1 h2
  cases h;exact⟨⇑h1,h2⟩
 ·cases h
section
variable{P:WU}{w:XQ}{K:Wl}{mg:Str->Option VT}{base h:Heap}{B:List Stmt}{cn fl:List Str}
def D3.fn{cls:Str->Option Wr}{n k:Nat}{Γ:Ct}{x q:Str}{st:Stmt}{f:Wr}{m:Fn}{b:Md}(D:D3 b k Γ x q st m)(T:Tab P w K mg cls base n Γ)(F:q9 K x q st f):dO P w K mg cls base (n+1) f m/\(x==("__debug__":Str))=f?:=by
 obtain⟨d,e,a⟩:=D;simp only[VW,beq_iff_eq,Ye]at d;obtain⟨⟨d,rfl⟩,d2⟩:=d;refine⟨?_,d2⟩;cases b with
 |l=>exact T.Mm F ⟨d,e⟩ a
 |r=>exact T.PY F ⟨d,e⟩ a
 |k=>exact T.Mn F ⟨d,e⟩ a
theorem Tab.all(X:K.In h)(G:h.Ns WA mg)(hc:AllP (D4 K fl) cn):∀(ds:List Df){n:Nat}{Γ:Ct},Tab P w K mg (tA K cn) base n Γ->yz B Γ ds->AllP (CA B K cn) ds->Tab P w K mg (tA K cn) base (n+dep ds) (adds Γ ds)
 | [],_,_,T,_,_=>by exact T
 | .f b x k i m::ds,n,Γ,T,o,p=>by
  obtain⟨⟨f,F⟩,p⟩:=p;obtain⟨h1,h2⟩:=o.1.fn T F.2;have:=Tab.all X G hc ds (T.add h1 (aax X G F.1) F.2.kp h2) o.2 p
  rw[XI]at this;exact this
 | .mt b c y q k i j m::ds,n,Γ,T,o,p=>by
  obtain⟨⟨hm,C,f,e,fi,is,F⟩,p⟩:=p;obtain⟨C',e',ck,mk,kc,_⟩:=hc.of c ⇑hm;rw[e]at e';cases e';have:=Tab.all X G hc ds (T.AQ (o.1.fn T F).1 (rm hm e) ck ⟨fi,is,F.kp⟩) o.2 p
  rw[XI]at this;exact this
 | .mk b c q k i j m::ds,n,Γ,T,o,p=>by
  obtain⟨⟨hm,C,f,e,fi,is,F⟩,p⟩:=p;obtain⟨C',e',ck,mk,kc,_⟩:=hc.of c ⇑hm;rw[e]at e';cases e';have:=Tab.all X G hc ds (T.T6 (o.1.1.fn T F).1 ⟨mk,fi,is,kc⟩ (rm hm e) (aax X G e) o.1.2) o.2 p
  rw[XI]at this;exact this
 | .Cz c q k i j m::ds,n,Γ,T,o,p=>by
  obtain⟨⟨hm,C,f,e,fi,is,F⟩,p⟩:=p;obtain⟨C',e',ck,mk,kc,_⟩:=hc.of c ⇑hm;rw[e]at e';cases e';have:=Tab.all X G hc ds (T.Cz (o.1.1.fn T F).1 ⟨mk,fi,is,kc⟩ (rm hm e) (aax X G e) o.1.2) o.2 p
  rw[XI]at this;exact this
def IA{fa:Wr}(B:List Stmt)(Γ:Ct)(cn:List Str)(ds:List Df){k:Nat}{m:Fn}(X:K.In h)(G:h.Ns WA mg)(T7:mg "law"=s? (.ref fa))(o:yz B Γ ds)(hk:dep ds=k)(hm:(adds Γ ds).fn.lookup ("law":Str)=s? m)(h0:Γ.fn=[]/\Γ.me=[])
  (hd:((Γ.co.all λp=>!(p.1==("__debug__":Str))) && Γ.us.all λx=>!(x==("__debug__":Str)) && !(x==("__name__":Str)))=t?)
  (c1:AllP (Iz K) Γ.co) (c2:AllP (P5 K) Γ.us) (c3:AllP (D4 K Γ.fl) cn) (c4:AllP (CA B K cn) ds):∃cls,∀base:Heap,K.In base->base.Ns WA mg->dO P w K mg cls base k fa m:=by
 refine⟨tA K cn,λbase KB _=>?_⟩;simp only[VW,VQ,Ye]at hd;have T0:Tab P w K mg (tA K cn) base 0 Γ:=by
  refine⟨λx F q=>by(rw[h0.1]at q;cases q),λx t q=>?_,λx hx=>⟨PySem.W.mg_none_of X G (c2.of x hx),λz=>?_,(hd.2 x hx).1⟩,λc C e=>?_,λy mf q=>by(rw[h0.2]at q;cases q)⟩
  ·have hm:=Wy q
   obtain⟨u,h1,h2⟩:=c1.of _ hm;exact⟨hd.1 _ hm,u,aax X G h1,λg hB _ _=>h2.rt (by rw[hB];exact KB)⟩
  ·have:=(hd.2 x hx).2;rw[z]at this;exact absurd this ∅
  ·obtain⟨h1,h2⟩:=AS e
   obtain⟨C',e',ck,_,_,na⟩:=c3.of c h1;rw[h2]at e';cases e';exact⟨ck,na.of⟩
 have T:=Tab.all X G c3 ds T0 o c4;rw[aaT,hk]at T;obtain⟨_,Vz,h1,h2,_⟩:=T.fn _ _ hm;rw[T7]at h2;cases h2;exact λ{_ _ _ _ _ _ _ _}a b c d=>h1 a b c d
def Mo{α:Type}{p:α->Prop}:AllP p []:=trivial
def P6{Γ:Ct}:yz B Γ []:=trivial
def P7{x:Str}{l:List Str}(h:WT K WA x=s? n?)(r:AllP (P5 K) l):AllP (P5 K) (x::l):=⟨h,r⟩
def P8{C:Wr}{x:Str}{l:List Str}(h:WN K (.ref C) x=s? n?)(r:AllP (jZ K C) l):AllP (jZ K C) (x::l):=⟨h,r⟩
def P9{x:Str}{C:Wr}{l:List Str}(h:WT K WA x=s? (s? (.ref C)))(pg:YV K C Str.empty=t?)(hd:Zf K C=t?)(po:aad K C=t?)(sa:WN K (.ref C) "__setattr__"=s? (s? (.builtin "object.__setattr__")))(mk:ZK K C=t?)(kc:WX K (.ref C)=t?)(na:AllP (jZ K C) fl)(r:AllP (D4 K fl) l):AllP (D4 K fl) (x::l):=⟨⟨C,h,⟨pg,hd,po,sa⟩,mk,kc,na⟩,r⟩
def Qa{x:Str}{b:Md}{k i:Nat}{m:Fn}{ds:List Df}{f:Wr}{oc:VT}{od an:Option Wr}{pZ:Array (Option VT)}{kV doc pm eQ ct:VT}(n:WT K WA x=s? (s? (.ref f)))(l:K.lookup f=s? ⟨oc,od,.func (W5 x x (fR (tp B i)) (bodyOf (tp B i)) (f9 (tp B i)) .none kV doc pm an eQ ct),pZ⟩)
  (c:XN K eQ x=t?) (kp:WX K (.ref f)=t?) (r:AllP (CA B K cn) ds):AllP (CA B K cn) (.f b x k i m::ds):=⟨⟨f,n,rh l c kp⟩,r⟩
def Mp{b:Md}{cl y q:Str}{k i j:Nat}{m:Fn}{ds:List Df}{C f:Wr}{oc:VT}{od an:Option Wr}{pZ:Array (Option VT)}{kV doc pm eQ ct:VT}(n:WT K WA cl=s? (s? (.ref C)))(fi:WN K (.ref C) y=s? (s? (.ref f)))(is:Yg K (.ref f)=t?)(l:K.lookup f=s? ⟨oc,od,.func (W5 y q (fR (sr (tp B i) j)) (bodyOf (sr (tp B i) j)) (f9 (sr (tp B i) j)) .none kV doc pm an eQ ct),pZ⟩)
  (c:XN K eQ q=t?) (kp:WX K (.ref f)=t?) (hc:cn.contains cl=t?) (r:AllP (CA B K cn) ds):AllP (CA B K cn) (.mt b cl y q k i j m::ds):=⟨⟨hc,C,f,n,fi,is,rh l c kp⟩,r⟩
def Mq{b:Md}{cl q:Str}{k i j:Nat}{m:Fn}{ds:List Df}{C f:Wr}{oc:VT}{od an:Option Wr}{pZ:Array (Option VT)}{kV doc pm eQ ct:VT}(n:WT K WA cl=s? (s? (.ref C)))(fi:WN K (.ref C) "__init__"=s? (s? (.ref f)))(is:Yg K (.ref f)=t?)(l:K.lookup f=s? ⟨oc,od,.func (W5 "__init__" q (fR (sr (tp B i) j)) (bodyOf (sr (tp B i) j)) (f9 (sr (tp B i) j)) .none kV doc pm an eQ ct),pZ⟩)
  (c:XN K eQ q=t?) (kp:WX K (.ref f)=t?) (hc:cn.contains cl=t?) (r:AllP (CA B K cn) ds):AllP (CA B K cn) (.mk b cl q k i j m::ds):=⟨⟨hc,C,f,n,fi,is,rh l c kp⟩,r⟩
def IB{cl q:Str}{k i j:Nat}{m:Fn}{ds:List Df}{C f:Wr}{oc:VT}{od an:Option Wr}{pZ:Array (Option VT)}{kV doc pm eQ ct:VT}(n:WT K WA cl=s? (s? (.ref C)))(fi:WN K (.ref C) "__init__"=s? (s? (.ref f)))(is:Yg K (.ref f)=t?)(l:K.lookup f=s? ⟨oc,od,.func (W5 "__init__" q (fR (sr (tp B i) j)) (bodyOf (sr (tp B i) j)) (f9 (sr (tp B i) j)) .none kV doc pm an eQ ct),pZ⟩)
  (c:XN K eQ q=t?) (kp:WX K (.ref f)=t?) (hc:cn.contains cl=t?) (r:AllP (CA B K cn) ds):AllP (CA B K cn) (.Cz cl q k i j m::ds):=⟨⟨hc,C,f,n,fi,is,rh l c kp⟩,r⟩
def D5{Γ:Ct}{b:Md}{x:Str}{k i:Nat}{m:Fn}{ds:List Df}(r:yz B (Γ.cS x m) ds)(d:(AO (ri (tp B i)) (f9 (tp B i)) && (ri (tp B i)).length==k && !(x==("__debug__":Str)))=t?)(e:RR b k (AM (ri (tp B i)) (f9 (tp B i))).length (code Γ ⟨AM (ri (tp B i)) (f9 (tp B i)),f9 (tp B i),[]⟩ (bodyOf (tp B i)))=m:=by kernel_rfl)(a:BA k x x (tp B i):=by intro _ _ _ _ _ _;(repeat refine bC λ_=>?_);exact b0 ⇑3):yz B Γ (.f b x k i m::ds):=⟨⟨d,e,a⟩,r⟩
def Mr{Γ:Ct}{b:Md}{c y q:Str}{k i j:Nat}{m:Fn}{ds:List Df}(r:yz B (Γ.AQ y c m) ds)(D:D3 b k Γ y q (sr (tp B i) j) m):yz B Γ (.mt b c y q k i j m::ds):=⟨D,r⟩
def Ms{b:Md}{Γ:Ct}{c q:Str}{k i j:Nat}{m:Fn}{ds:List Df}(r:yz B (Γ.cS c (make c m)) ds)(D:D3 b k Γ "__init__" q (sr (tp B i) j) m)(h:(c==("__debug__":Str))=f?):yz B Γ (.mk b c q k i j m::ds):=⟨⟨D,h⟩,r⟩
def IC{Γ:Ct}{c q:Str}{k i j:Nat}{m:Fn}{ds:List Df}(r:yz B (Γ.cS c (oh c m)) ds)(D:D3 .k k Γ "__init__" q (sr (tp B i) j) m)(h:(c==("__debug__":Str))=f?):yz B Γ (.Cz c q k i j m::ds):=⟨⟨D,h⟩,r⟩
def AU{x:Str}{s:Cs}{t:Tok}{l:List (Str × T)}(h:WT K WA x=s? (s? (.str ⟨s.toArray⟩ t)))(z:s.length<=Wf)(r:AllP (Iz K) l):AllP (Iz K) ((x,.str s)::l):=⟨⟨_,h,And.intro z ⟨t,rfl⟩⟩,r⟩
def Qb{x:Str}{i:Int}{t:Tok}{l:List (Str × T)}(h:WT K WA x=s? (s? (.int i t)))(r:AllP (Iz K) l):AllP (Iz K) ((x,.int i)::l):=⟨⟨_,h,abz t rfl⟩,r⟩
def ID{x:Str}{xs:List T}{a:Wr}{us:Array VT}{n:Nat}{s:Array (Option VT)}{l:List (Str × T)}(h:WT K WA x=s? (s? (.ref a)))(e:K.lookup a=s? ⟨.type "tuple",n?,.seq us n,s⟩)(z:xs.length<=Wf)(q:nh K xs us.toList)(r:AllP (Iz K) l):AllP (Iz K) ((x,.tup xs)::l):=⟨⟨_,h,abz a ⟨us,n,s,rfl,e,z,q⟩⟩,r⟩
def IE:nh K [] []:=rfl
def ni{s:Cs}{t:Tok}{xs:List T}{vs:List VT}(z:s.length<=Wf)(q:nh K xs vs):nh K (.str s::xs) (.str ⟨s.toArray⟩ t::vs):=abz _ ⟨_,rfl,And.intro z ⟨t,rfl⟩,q⟩
end
end M
namespace M
open PySem
def fin_same{L:aa}{t:T}(h:lt L.length t=t?):fin L t L=.ok t L:=by
 unfold fin;rw[if_pos (show old L (L.drop (L.length - L.length)) from λn c e=>.inl ⇑e)];simp only[Nat.sub_self,List.drop_zero];unfold bE;rw[if_pos h];rfl
theorem ak{α β:Type}(a:α)(L:aa)(f:α->aa->R β):(R.ok a L).bind f=f a L:=rfl
def of_ok{α:Type}(a:α)(L:aa)(f:α->aa->O):O.of (.ok a L) f=f a L:=rfl
def jD(φ:Fr)(L:aa)(f:Fr->aa->O):(O.nx φ L).next f=f φ L:=Eq.trans rfl rfl
def D6(t:T)(L:aa)(f:Fr->aa->O):(O.rt t L).next f=.rt t L:=rfl
def a8(t:T)(L:aa):lift (s? t) L=.ok t L:=rfl
theorem IF{α β:Type}(f:α->β)(a:α)(L:aa):R.map f (.ok a L)=.ok (f a) L:=rfl
def ba{α:Type}{c:Prop}[Decidable c]{r:R α}(h:c):cm c r=r:=if_pos h
def AV{L:aa}{b:Bool}:fin L (.bl b) L=.ok (.bl b) L:=fin_same (by simp[lt])
def D7{L:aa}{b:Int}:fin L (.int b) L=.ok (.int b) L:=fin_same (by simp[lt])
def D8{L:aa}{b:Cs}:fin L (.str b) L=.ok (.str b) L:=fin_same (by simp[lt])
def D9{L:aa}:fin L .aY L=.ok .aY L:=fin_same (by simp[lt])
def fS{xs:List T}{i:Nat}{x:T}{L:aa}(h:xs[i]?=s? x):ix (.lst xs) (.int i) L=.ok x L:=by
 obtain⟨hi,e⟩:=VZ.mp h;simp[ix,vw,place,hi,e,lift]
theorem IG{α:Type}{b:Bool}{x y:α}{L:aa}:(if b=t? then R.ok x L else R.ok y L)=R.ok (if b=t? then x else y) L:=by cases b<;>rfl
def vo(i:Nat)(φ:Fr)(L:aa):v i φ L=((lift ((φ[i]?).join) L):R T):=rfl
def RS(x:T)(φ:Fr)(L:aa):c x φ L=((.ok x L):R T):=rfl
def Ea(a:SE)(f:T->aa->R T)(φ:Fr)(L:aa):b1 a f φ L=(((a φ L).bind f):R T):=rfl
def tB(a b:SE)(f:T->T->aa->R T)(φ:Fr)(L:aa):b2 a b f φ L=(((a φ L).bind λx L1=>(b φ L1).bind λy L2=>f x y L2):R T):=rfl
def IH(op sj:CmpOp)(a b d:SE)(φ:Fr)(L:aa):xJ op sj a b d φ L=(((a φ L).bind λx L1=>(b φ L1).bind λy L2=>(CD op x y L2).bind λk L3=>if k=t? then (d φ L3).bind λz L4=>cmp sj y z L4 else .ok (.bl f?) L3):R T):=rfl
def Eb(a:SE)(φ:Fr)(L:aa):tv a φ L=(((a φ L).bind λx L1=>match x with
 | .bl b=>.ok b L1
 |_=>.bad):R Bool):=rfl
def II(a b:ST)(φ:Fr)(L:aa):CF a b φ L=(((a φ L).bind λx L1=>if x=t? then b φ L1 else .ok f? L1):R Bool):=rfl
def Mt(a b:ST)(φ:Fr)(L:aa):N5 a b φ L=(((a φ L).bind λx L1=>if x=t? then .ok t? L1 else b φ L1):R Bool):=rfl
def IJ(a:ST)(φ:Fr)(L:aa):df a φ L=(((a φ L).map (!·)):R Bool):=rfl
def IK(a b:SE)(φ:Fr)(L:aa):CG a b φ L=(((tv a φ L).bind λx L1=>if x=t? then b φ L1 else .ok (.bl f?) L1):R T):=rfl
def Mu(a b:SE)(φ:Fr)(L:aa):N6 a b φ L=(((tv a φ L).bind λx L1=>if x=t? then .ok (.bl t?) L1 else b φ L1):R T):=rfl
def IL(a:SE)(φ:Fr)(L:aa):sy a φ L=(((tv a φ L).map λb=>.bl (!b)):R T):=rfl
def Fz(φ:Fr)(L:aa):yes  φ L=((.ok t? L):R Bool):=rfl
def Mv(k:ST)(a b:SE)(φ:Fr)(L:aa):N7 k a b φ L=(((k φ L).bind λx L1=>if x=t? then a φ L1 else b φ L1):R T):=rfl
def FC(ms:List SE)(φ:Fr)(L:aa):tup ms φ L=(((iT ms φ L).bind λts L1=>.ok (.tup ts) L1):R T):=rfl
def FD(fz:Bool)(ms:List SE)(φ:Fr)(L:aa):lst fz ms φ L=(((iT ms φ L).bind λts L1=>fG fz ts L1):R T):=rfl
def IM(fz:Bool)(φ:Fr)(L:aa):ku fz φ L=((mk fz (.ay []) L):R T):=rfl
def Qc(fz:Bool)(a:SE)(lo hi:Option SE)(φ:Fr)(L:aa):sl fz a lo hi φ L=(((a φ L).bind λx L1=>(Gu lo φ L1).bind λi L2=>(Gu hi φ L2).bind λj L3=>lV fz x i j L3):R T):=rfl
def tC(f:Fn)(ms:List SE)(φ:Fr)(L:aa):ae f ms φ L=(((iT ms φ L).bind f):R T):=rfl
def mS(a:SE)(φ:Fr)(L:aa):src a φ L=(((a φ L).bind λx L1=>match items x L1 with
 |some xs=>.ok (xs,stays x L1) L1
 |none=>.bad):R (List T × (aa->Prop))):=rfl
def Mw(a:SE)(φ:Fr)(L:aa):CI a φ L=(((a φ L).bind λx L1=>match vw L1 x with
 | .lst xs=>.ok (num 0 xs,stays x L1) L1
 | .tup xs=>.ok (num 0 xs,stays x L1) L1
 |_=>.bad):R (List T × (aa->Prop))):=rfl
def IP(a b:SE)(φ:Fr)(L:aa):OJ a b φ L=(((src a φ L).bind λp L1=>(src b φ L1).bind λq L2=>.ok (zp p.1 q.1,λL'=>p.2 L'/\q.2 L') L2):R (List T × (aa->Prop))):=rfl
def IQ(a:SE)(φ:Fr)(L:aa):OK a φ L=(((a φ L).bind λx L1=>match vw L1 x with
 | .ay []=>.ok ([],stays x L1) L1
 |_=>.bad):R (List T × (aa->Prop))):=rfl
def IS(φ:Fr)(L:aa):pass  φ L=((.nx φ L):O):=rfl
def Mx(φ:Fr)(L:aa):brk  φ L=((.bk φ L):O):=rfl
def My(φ:Fr)(L:aa):cnt  φ L=((.ct φ L):O):=rfl
def Mz(φ:Fr)(L:aa):iU  φ L=((.bad):O):=rfl
def oy(tg:Tg)(m:SE)(φ:Fr)(L:aa):asg tg m φ L=((O.of (m φ L) λt L1=>match tg.set t φ with
 |some φ1=>.nx φ1 L1
 |none=>.bad):O):=rfl
def FE(m:SE)(φ:Fr)(L:aa):di m φ L=((O.of (m φ L) λ_ L1=>.nx φ L1):O):=rfl
def w7(m:SE)(φ:Fr)(L:aa):ret m φ L=((O.of (m φ L) λt L1=>.rt t L1):O):=rfl
def w8(k:ST)(a b:SS)(φ:Fr)(L:aa):iff k a b φ L=((O.of (k φ L) λx L1=>if x=t? then a φ L1 else b φ L1):O):=rfl
def MA(op:Operator)(i:Nat)(m:SE)(φ:Fr)(L:aa):aug op i m φ L=((O.of (b2 (v i) m (ag op) φ L) λt L1=>.nx (φ.set i (s? t)) L1):O):=rfl
def IT(o:SE)(f:Str)(m:SE)(φ:Fr)(L:aa):cQ o f m φ L=((O.of (m φ L) λt L1=>O.of (o φ L1) λx L2=>match iV f x t L2 with
 |some L3=>.nx φ L3
 |none=>.bad):O):=rfl
def AW(o i m:SE)(φ:Fr)(L:aa):nK o i m φ L=((O.of (m φ L) λt L1=>O.of (o φ L1) λx L2=>O.of (i φ L2) λy L3=>match jL x y t L3 with
 |some L4=>.nx φ L4
 |none=>.bad):O):=rfl
def IU(op:Operator)(o i m:SE)(φ:Fr)(L:aa):CJ op o i m φ L=((O.of (o φ L) λx L1=>O.of (i φ L1) λy L2=>O.of (OL x y L2) λz L3=>O.of (m φ L3) λt L4=>O.of (ag op z t L4) λr L5=>match jL x y r L5 with
 |some L6=>.nx φ L6
 |none=>.bad):O):=rfl
def rz(s:SI)(tg:Tg)(b:SS)(φ:Fr)(L:aa):aL s tg b φ L=((O.of (s φ L) λu L1=>forL u.2 tg b u.1 φ L1):O):=rfl
def lz(np nn:Nat)(b:SS)(xs:List T)(L:aa):run np nn b xs L=(if xs.length=np then match b (xs.map s?++Wj (nn - np) n?) L with
  | .rt t L'=>fin L t L'
  | .nx _ L'=>fin L .aY L'
  |_=>.bad
 else .bad):=rfl
def oz(φ:Fr)(L:aa):ab [] φ L=.nx φ L:=rfl
def cO(s:SS)(r:List SS)(φ:Fr)(L:aa):ab (s::r) φ L=(s φ L).next (ab r):=rfl
def Ec(a:SE)(φ:Fr)(L:aa):om [a] φ L=a φ L:=rfl
def Ed(a b:SE)(r:List SE)(φ:Fr)(L:aa):om (a::b::r) φ L=CG a (om (b::r)) φ L:=rfl
def IV(a:SE)(φ:Fr)(L:aa):Cw [a] φ L=a φ L:=rfl
def IW(a b:SE)(r:List SE)(φ:Fr)(L:aa):Cw (a::b::r) φ L=N6 a (Cw (b::r)) φ L:=rfl
def Ee(a:ST)(φ:Fr)(L:aa):jO [a] φ L=a φ L:=rfl
def Ef(a b:ST)(r:List ST)(φ:Fr)(L:aa):jO (a::b::r) φ L=CF a (jO (b::r)) φ L:=rfl
def IX(a:ST)(φ:Fr)(L:aa):pB [a] φ L=a φ L:=rfl
def IY(a b:ST)(r:List ST)(φ:Fr)(L:aa):pB (a::b::r) φ L=N5 a (pB (b::r)) φ L:=rfl
def gP(φ:Fr)(L:aa):iT [] φ L=.ok [] L:=rfl
def iw(m:SE)(ms:List SE)(φ:Fr)(L:aa):iT (m::ms) φ L=((m φ L).bind λt L1=>(iT ms φ L1).bind λts L2=>.ok (t::ts) L2):=rfl
def IZ(φ:Fr)(L:aa):Gu n? φ L=.ok n? L:=rfl
def I0(m:SE)(φ:Fr)(L:aa):Gu (s? m) φ L=((m φ L).bind λt L1=>match t with
  | .int i=>.ok (s? i) L1
  |_=>.bad):=rfl
def I8(f:Ty->Option (T->Fn))(a:SE)(ms:List SE)(φ:Fr)(L:aa):aF f a ms φ L=((a φ L).bind λx L1=>match (CH L1 x).bind f with
 |some F=>(iT ms φ L1).bind λts L2=>F x ts L2
 |none=>.bad):=rfl
theorem mapM_map{α β:Type}{f:T->Option α}{g:β->T}{h:β->α}(hf:∀b,f (g b)=s? (h b)):∀l:List β,(l.map g).mapM f=s? (l.map h)
 | []=>rfl
 |b::l=>by rw[VU,Xj,hf,mapM_map hf l];rfl
def jd{L Ln:aa}{t:T}(h:lt L.length t=t?):fin L t (Ln++L)=.ok t L:=by
 have e:(Ln++L).drop ((Ln++L).length - L.length)=L:=by
  rw[VN,Z0,Zk]
 unfold fin;rw[e,if_pos (show old L L from λn c e=>.inl e)];unfold bE;rw[if_pos h];rfl
def vq{s:Cs}{i:Int}{L:aa}(h0:0<=i)(h1:i<s.length):ix (.str s) (.int i) L=.ok (.str [s.getD i.toNat 0]) L:=by
 have hi:i.toNat<s.length:=by omega
 simp[ix,vw,place,h0,h1,lift,Gd9,hi]
def w9{xs:List T}{i:Int}{x:T}{L:aa}(h0:0<=i)(h:xs[i.toNat]?=s? x):ix (.lst xs) (.int i) L=.ok x L:=by
 obtain⟨hi,e⟩:=VZ.mp h;have h1:i<xs.length:=by omega
 simp[ix,vw,place,h0,h1,hi,e,lift]
def I9{sep:Cs}{zs:List Cs}{L:aa}(h:(zs.map (·.length)).sum+zs.length * sep.length<=16777216):mO (.str sep) [.lst (zs.map .str)] L=.ok (.str (jn sep zs)) L:=by
 have:=mapM_map (f:=Co) (g:=T.str) (h:=id) (λ_=>rfl) zs;simp[mO,items,gN,vw,this,cm,h]
def Eg{x:T}{L:aa}(h:∀n,x≠.ref n)(L':aa):stays x L L':=λn e=>absurd e (h n)
def aG{x:T}{L:aa}:stays x L L:=λn e=>rfl
def RU:T->Bool
 | .ref _=>t?
 |_=>f?
def sv{x:T}{L L':aa}(h:RU x=f?:=by rfl):stays x L L':=λn e=>by subst e;cases h
end M
set_option genInjectivity true
namespace Ja
open PySem
abbrev vt:Str:="abcdefghijklmnopqrstuvwxyz"
abbrev vz:Str:="ABCDEFGHIJKLMNOPQRSTUVWXYZ"
abbrev Qd:Str:="0123456789"
def gd(c:Nat):Bool:=d? (c∈vt.cps.toList) || (d? (c∈vz.cps.toList) || d? (c∈Qd.cps.toList))
def dX(l:List Nat):Nat:=(l.takeWhile gd).length
def aD(p:List Nat):Bool:=d? (1<=p.length) && (d? (p.length<=12) && p.all gd)
end Ja
namespace Bk
open PySem Ja
abbrev Cs:=List Nat
def aV(h:aD s=t?):1<=s.length/\s.length<=12:=by
 unfold aD at h;simp_all
def FF(h:aD s=t?):∀c∈s,gd c=t?:=by
 unfold aD at h;simp_all
structure Fc where
 k:Cs
 as:List Cs
structure Kd where
 n:Cs
 c:Nat
 l:Bool
structure Lk where
 same:Bool
 l:Cs
 r:Cs
structure Rl where
 title:Cs
 take:List Fc
 keep:List Fc
 ah:List Lk
 put:List Fc
 tell:List (Cs × Cs)
def great(x:Cs):Bool:=d? (x.headD 0∈vz.cps.toList)
def cf(p:Cs):Bool:=aD p && d? (p.headD 0∈vt.cps.toList)
def bx(h:cf p=t?):aD p=t?:=by
 unfold cf at h;simp_all
def fU(x:Cs)(acc:List Cs):List Cs:=if great x=t? then (if x∈acc then acc else acc++[x]) else acc
def je(l:List Cs)(acc:List Cs):List Cs:=l.foldl (λacc x=>fU x acc) acc
def opens(fs:List Fc):List Cs:=je (fs.flatMap (·.as)) []
def tD:∀(l:List Cs){acc:List Cs}(x:Cs),x∈je l acc↔x∈acc\/(x∈l/\great x=t?):=by
 intro l9;induction l9 with
 |nil=>intro acc x;simp[je]
 |cons n ns ih=>
  intro acc x;show x∈je ns (fU n acc)↔_
  rw[ih];have e:x∈fU n acc↔x∈acc\/(x=n/\great x=t?):=by
   unfold fU;grind
  grind
theorem oA:∀(l acc:List Cs),acc.Nodup->(je l acc).Nodup
 | [],_,h=>h
 |x::r,acc,h=>oA r _ (by
  show(fU x acc).Nodup;unfold fU;grind)
def gh(fs:List Fc):(opens fs).Nodup:=oA _ _ Xz
def tE(x:Cs)(acc:List Cs):(fU x acc).length<=acc.length+1:=by unfold fU;split<;>(try split)<;>simp
def jE(l acc:List Cs):(je l acc).length<=acc.length+l.length:=by
 induction l generalizing acc with
 |nil=>simp[je]
 |cons x l ih=>
  have h1:=ih (fU x acc);have h2:=tE x acc
  show(je l (fU x acc)).length<=_
  (simp;omega)
def bZ{α β:Type}{g:α->List β}:∀{l:List α},(∀x∈l,(g x).length<=B)->(l.flatMap g).length<=l.length * B:=by
 intro l9;induction l9 with
 |nil=>intro _;simp
 |cons a r ih=>
  intro h;have h1:=ih λx hx=>h x (VK _ hx)
  have h2:=h a VL;rw[XO,VN,VS,abA];omega
def cv(h:a∈opens fs):(∃f∈fs,a∈f.as)/\great a=t?:=by
 rcases(tD _ a).mp h with h|⟨h,g⟩
 ·cases h
 simp_all
def qd(hf:f∈fs)(ha:a∈f.as)(g:great a=t?):a∈opens fs :=
 (tD _ a).mpr (.inr ⟨W2.mpr ⟨f,hf,ha⟩,g⟩)
inductive W(m:Cs):Cs->List Cs->Prop
 |nil:W m [] []
 |name {n:Cs} (h:aD n=t?):W m n [n]
 |sp {a b:Cs} {p q:List Cs} (x:W m a p) (y:W m b q):W m (a++32::b) (p++q)
 |mk {a b:Cs} {p q:List Cs} {c:Nat} (hc:c∈m) (x:W m a p) (y:W m b q):W m (a++c::b) (p++[c]::q)
def W.up(h:∀c∈m,c∈m')(w:W m t p):W m' t p:=by
 induction w with
 |nil=>exact .nil
 |name h=>exact .name h
 |sp _ _ a b=>exact .sp a b
 |mk hc _ _ a b=>exact .mk (h _ hc) a b
def AX:gd 32=f?:=by rfl
def W.no{m:Cs}{c:Nat}(ha:gd c=f?)(hm:c∉m){t:Cs}{p:List Cs}(w:W m t p):[c]∉p/\(c≠32->c∉t):=by
 induction w with
 |nil=>simp
 | @name n h=>
  have z:c∉n:=λz=>by rw[FF h c z]at ha;cases ha
  grind
 |sp _ _ a b=>simp_all
 |mk hc _ _ a b=>
  grind
inductive Tk(m:Cs):Cs->List Cs->Prop
 |nil:Tk m [] []
 |sp {r:Cs} {q:List Cs} (t:Tk m r q):Tk m (32::r) q
 |mk {c:Nat} {r:Cs} {q:List Cs} (hc:c∈m) (t:Tk m r q):Tk m (c::r) ([c]::q)
 |name {n r:Cs} {q:List Cs} (h:aD n=t?) (hs:∀c∈r.head?,gd c=f?) (t:Tk m r q):Tk m (n++r) (n::q)
def W.tk(hm:∀c∈m,gd c=f?)(w:W m t p):∀{r:Cs}{q:List Cs},(∀c∈r.head?,gd c=f?)->Tk m r q->Tk m (t++r) (p++q):=by
 induction w with
 |nil=>simp
 |name h=>exact λs t=>.name h s t
 |sp _ _ a b=>
  intro r q s t;rw[We,We];exact a (λc h=>by cases h;rfl) (.sp (b s t))
 |mk hc _ _ a b=>
  intro r q s t;rw[We,We];exact a (λc h=>by simp_all) (.mk hc (b s t))
def Tk.len(w:Tk m t p):p.length<=t.length:=by
 induction w with
 |nil=>omega
 |sp _ ih=>(simp;omega)
 |mk _ _ ih=>exact Nat.succ_le_succ ih
 |name h _ _ ih=>
  have:=(aV h).1
  (simp;omega)
def glue(m:Cs):List (List Cs)->List Cs
 | []=>[]
 | [q]=>q
 |q::r=>q++m::glue m r
theorem W.join{α:Type}{m:Cs}{c:Nat}(hc:c∈m){tx:α->Cs}{tp:α->List Cs}:∀l:List α,(∀x∈l,W m (tx x) (tp x))->W m (M.jn [c,32] (l.map tx)) (glue [c] (l.map tp))
 | [],_=>.nil
 | [a],h=>h a VL
 |a::b::r,h=>by
  have z:=W.mk hc (h a VL) (.sp .nil (W.join hc (b::r) λx hx=>h x (VK _ hx)));show W m (tx a++[c,32]++M.jn [c,32] ((b::r).map tx)) _
  rw[We];exact z
theorem mx:∀{ls:List Cs},(∀l∈ls,l.length<=B)->(M.jn sep ls).length<=ls.length * (B+sep.length)
 | [],_=>Wg _
 | [a],h=>by
  have:=h a VL;show a.length<=1 * _
  omega
 |a::b::r,h=>by
  have z:=mx (sep:=sep) (ls:=b::r) λl hl=>h l (VK _ hl)
  have:=h a VL;show(a++sep++M.jn sep (b::r)).length<=((b::r).length+1) * _
  grind
abbrev cC:Cs:=[112,97,115,115,105,110,103]
abbrev cD:Cs:=[108,97,115,116,105,110,103]
abbrev iy:Cs:=[114,117,108,101]
abbrev Jb:Cs:=[115,97,109,101]
abbrev AY:Cs:=[117,110,108,105,107,101]
def wordAt:Nat->Cs
 |0=>[116,97,107,101]
 |1=>[107,101,101,112]
 |2=>[108,111,111,107]
 |3=>[112,117,116]
 |_=>[116,101,108,108]
def j4(hi:i<5)(hj:j<5)(h:wordAt i=wordAt j):i=j:=(by decide +kernel:∀i<5,∀j<5,wordAt i=wordAt j->i=j) i hi j hj h
def AZ(h:n<5):aD (wordAt n)=t?/\(wordAt n).length<=4:=(by decide +kernel:∀n<5,aD (wordAt n)=t?/\(wordAt n).length<=4) n h
def between:List Cs->List Cs
 | []=>[]
 | [a]=>[a,[41]]
 |a::r=>a::[44]::between r
def jf(g:Fc):Cs:=if g.as=[] then g.k else ((g.k++[40])++M.jn [44] g.as)++[41]
def dm(g:Fc):List Cs:=if g.as=[] then [g.k] else g.k::[40]::between g.as
def eK(b:Bool):Cs:=if b=t? then Jb else AY
def A0(b:Bool):aD (eK b)=t?/\(eK b).length<=6:=by cases b<;>decide +kernel
def oB(k:Lk):Cs:=k.l++32::(eK k.same++32::k.r)
def jR(k:Lk):List Cs:=[k.l,eK k.same,k.r]
def oC(p:Cs × Cs):Cs:=p.1++32::61::32::p.2
def jS(p:Cs × Cs):List Cs:=[p.1,[61],p.2]
def aC(k:Kd):Cs:=(if k.l=t? then cD else cC)++(32::(k.n++(32::[48+k.c])))
def tF(k:Kd):List Cs:=[if k.l=t? then cD else cC,k.n,[48+k.c]]
structure Im where
 tx:Cs
 tp:List Cs
 t:M.T
end Bk
namespace M
open PySem
open Bk (Fc Kd Lk Rl)
def fT(f:Fc):T:=.tup [.str f.k,.tup (f.as.map .str)]
def pT(p:Cs × Cs):T:=.tup [.str p.1,.str p.2]
def lT(k:Lk):T:=.obj (if k.same=t? then "Same" else "Unlike") [("left",.str k.l),("right",.str k.r)]
end M
namespace Bk
open PySem Ja
def fI(f:Fc):Im:=⟨jf f,dm f,M.fT f⟩
def lI(k:Lk):Im:=⟨oB k,jR k,M.lT k⟩
def pI(p:Cs × Cs):Im:=⟨oC p,jS p,M.pT p⟩
def rows(r:Rl):List (Nat × List Im):=[(0,r.take.map fI),(1,r.keep.map fI),(2,r.ah.map lI),(3,r.put.map fI),(4,r.tell.map pI)]
def ne(x:Nat × List Im):Bool:=!x.2.isEmpty
def i0(r:Rl):List (Nat × List Im):=(rows r).filter ne
def iN(x:Nat × List Im):Cs:=wordAt x.1++32::M.jn [44,32] (x.2.map (·.tx))
def jT(x:Nat × List Im):List Cs:=wordAt x.1::glue [44] (x.2.map (·.tp))
def qe(w:Cs)(m:List Cs):List Cs:=if m=[] then [] else [w++32::M.jn [44,32] m]
def A3:∀l:List (Nat × List Im),(l.flatMap λx=>qe (wordAt x.1) (x.2.map (·.tx)))=(l.filter ne).map iN:=by
 intro l9;induction l9 with
 |nil=>exact rfl
 |cons x r ih=>
  rw[XO,ih,List.filter_cons];obtain⟨n,l⟩:=x;cases l<;>rfl
def cg(r:Rl):Cs:=iy++32::(r.title++58::32::M.jn [59,32] ((i0 r).map iN))
def fV(r:Rl):List Cs:=iy::r.title::[58]::glue [59] ((i0 r).map jT)
structure FG(g:Fc):Prop where
 k:cf g.k=t?
 as:∀a∈g.as,aD a=t?
 n:g.as.length<=4
def OA(m:Nat)(r:Rl):Prop:=r.take.length<=m/\r.keep.length<=m/\r.ah.length<=m/\r.put.length<=m/\r.tell.length<=m
def aW(ks:List Kd):List Cs:=(ks.filter (·.l)).map (·.n)
def cT(ks:List Kd)(f:Fc):Prop:=∃k∈ks,k.n=f.k/\f.as.length=k.c
def fW(r:Rl):List Cs:=(r.ah.flatMap λk=>[k.l,k.r])++((r.put.flatMap (·.as))++(r.tell.flatMap λp=>[p.1,p.2]))
structure uD(ks:List Kd)(r:Rl):Prop where
 t:cf r.title=t?
 f:∀g∈r.take++r.keep++r.put,FG g/\cT ks g
 l:∀k∈r.ah,aD k.l=t?/\aD k.r=t?
 p:∀p∈r.tell,aD p.1=t?/\aD p.2=t?
 hd:r.take=[]->r.keep≠[]
 ip:OA 3 r
 takes:∀f∈r.take,f.k∉aW ks
 calls:r.take=[]->∀f∈r.put,f.k∈aW ks
 Qe:∀a∈fW r,aD a=t?/\(great a=t?->a∈opens (r.take++r.keep))
abbrev OB:Cs:=[40,41,44,61]
abbrev Jc:Cs:=[40,41,44,58,59,61]
theorem W.RV:∀{as:List Cs},as≠[]->(∀a∈as,aD a=t?)->W OB (M.jn [44] as++[41]) (between as)
 | [],h,_=>absurd rfl h
 | [a],_,h=>.mk (c:=41) ∅ (.name (h a VL)) .nil
 |a::b::r,_,h=>by
  have z:=W.mk (c:=44) ∅ (.name (h a VL)) (W.RV (as:=b::r) (Zt _ _) λx hx=>h x (VK _ hx));show W OB (a++[44]++M.jn [44] (b::r)++[41]) _
  rw[We,We];exact z
def tG(i:Im):Prop:=i.tx.length<=70/\W OB i.tx i.tp
def FG.im(h:FG g):tG (fI g):=by
 have hk:=bx h.k;have h1:=(aV hk).2
 have h2:=mx (sep:=[44]) λa ha=>(aV (h.as a ha)).2
 have h3:=h.n;unfold tG fI jf dm;by_cases e:g.as=[]
 ·rw[if_pos e,if_pos e]
  exact⟨VV h1 ∅,.name hk⟩
 ·rw[if_neg e,if_neg e]
  refine⟨?_,?_⟩
  ·grind
  ·dsimp only
   rw[We,We];exact .mk (c:=40) ∅ (.name hk) (W.RV e h.as)
def xc(h:aD k.l=t?/\aD k.r=t?):tG (lI k)/\[44]∉jR k:=by
 have w:∀m,W m (oB k) (jR k):=λm=>.sp (.name h.1) (.sp (.name (A0 _).1) (.name h.2))
 have h1:=(aV h.1).2;have h2:=(aV h.2).2
 have h3:=(A0 k.same).2;refine⟨⟨?_,w _⟩,(W.no (m:=[]) (by rfl) ∅ (w _)).1⟩;unfold lI oB
 (simp;omega)
def xe(h:aD k.1=t?/\aD k.2=t?):tG (pI k)/\[44]∉jS k:=by
 have w:∀{m},61∈m->W m (oC k) (jS k):=λz=>.sp (.name h.1) (.mk z .nil (.sp .nil (.name h.2)))
 have h1:=(aV h.1).2;have h2:=(aV h.2).2
 refine⟨⟨?_,w ∅⟩,(W.no (m:=[61]) (by rfl) ∅ (w ∅)).1⟩;unfold pI oC
 (simp;omega)
def Eh{α:Type}{P:α->Prop}{a b c d e:α}(ha:P a)(hb:P b)(hc:P c)(hd:P d)(he:P e):∀x∈[a,b,c,d,e],P x:=by
 simp_all
section
variable{ks:List Kd}{r:Rl}(h:uD ks r)
include h
def uD.row:∀x∈rows r,x.1<5/\x.2.length<=3/\∀i∈x.2,tG i:=by
 obtain⟨f1,f2,f3,f4,f5⟩:=h.ip;have F:∀n<5,∀l:List Fc,l.length<=3->(∀g∈l,g∈r.take++r.keep++r.put)->n<5/\(l.map fI).length<=3/\∀i∈l.map fI,tG i:=λn hn l hl hs=>⟨hn,by simp_all,λi hi=>by
  obtain⟨g,hg,rfl⟩:=VP.mp hi;exact(h.f g (hs g hg)).1.im⟩
 refine Eh (F 0 ∅ _ f1 λg hg=>V2 _ (V2 _ hg)) (F 1 ∅ _ f2 λg hg=>V2 _ (V6 _ hg)) ⟨show 2<5 by decide,by simp_all,λi hi=>?_⟩ (F 3 ∅ _ f4 λg hg=>V6 _ hg) ⟨show 4<5 by decide,by simp_all,λi hi=>?_⟩
 ·obtain⟨g,hg,rfl⟩:=VP.mp hi
  exact(xc (h.l g hg)).1
 ·obtain⟨g,hg,rfl⟩:=VP.mp hi
  exact(xe (h.p g hg)).1
def uD.part(hx:x∈rows r):W OB (iN x) (jT x)/\(iN x).length<=230:=by
 obtain⟨h5,h2,hi⟩:=h.row x hx;refine⟨.sp (.name (AZ h5).1) (W.join ∅ _ λi h=>(hi i h).2),?_⟩;have z:=mx (sep:=[44,32]) (ls:=x.2.map (·.tx)) (B:=70) λl hl=>by
  obtain⟨i,h,rfl⟩:=VP.mp hl;exact(hi i h).1
 have:=(AZ h5).2;unfold iN;grind
def uD.parts:((i0 r).map iN).length<=5/\∀l∈(i0 r).map iN,l.length<=230:=by
 refine⟨by rw[Lm9];exact Ww _ _,λl hl=>?_⟩;obtain⟨x,hx,rfl⟩:=VP.mp hl;exact(h.part (Wq.mp hx).1).2
def uD.line:W Jc (cg r) (fV r)/\(cg r).length<=1300:=by
 refine⟨.sp (.name (n:=iy) (by rfl)) (.mk ∅ (.name (bx h.t)) (.sp .nil (W.join ∅ _ λx hx=>(h.part (Wq.mp hx).1).1.up ∅))),?_⟩;have z:=mx (sep:=[59,32]) h.parts.2
 have:=h.parts.1;have:=(aV (bx h.t)).2
 unfold cg;grind
end
structure KG(ks:List Kd):Prop where
 len:ks.length<=4
 nd:(ks.map (·.n)).Nodup
 ok:∀k∈ks,cf k.n=t?/\k.c<=4
 yes:∃k∈ks,k.l=t?
 no:∃k∈ks,k.l=f?
def my(h:cf k.n=t?/\k.c<=4):W Jc (aC k) (tF k)/\(aC k).length<=800:=by
 have hw:aD (if k.l=t? then cD else cC)=t?/\(if k.l=t? then cD else cC).length=7:=by cases k.l<;>decide +kernel
 have:=(aV (bx h.1)).2;refine⟨.sp (.name hw.1) (.sp (.name (bx h.1)) (.name ((by decide +kernel:∀c≤4,aD [48+c]=t?) k.c h.2))),?_⟩;unfold aC
 (simp;omega)
def nB(p:Cs):(M.toS p).cps.toList=p:=by rfl
def MB(x:Str):M.toS x.cps.toList=x:=by rfl
def nj:Cs->List Cs
 | []=>[[]]
 |c::r=>if c=10 then []::nj r else match nj r with
  | []=>[[c]]
  |q::qs=>(c::q)::qs
def A6:∀(a r:Cs),10∉a->nj (a++10::r)=a::nj r:=by
 intro l9;induction l9 with
 |nil=>intro r _;exact rfl
 |cons c a ih=>
  intro r h;have hc:c≠10:=λe=>h (by simp_all)
  show(if c=10 then []::nj (a++10::r) else match nj (a++10::r) with|[]=>[[c]]|q::qs=>(c::q)::qs)=_;rw[if_neg hc,ih r λz=>h (VK _ z)]
def A7:∀(a:Cs),10∉a->nj a=[a]:=by
 intro l9;induction l9 with
 |nil=>intro _;exact rfl
 |cons c a ih=>
  intro h;have hc:c≠10:=λe=>h (by simp_all)
  show(if c=10 then []::nj a else match nj a with|[]=>[[c]]|q::qs=>(c::q)::qs)=_;rw[if_neg hc,ih λz=>h (VK _ z)]
theorem mz:∀(ls:List Cs),ls≠[]->(∀l∈ls,10∉l)->nj (M.jn [10] ls)=ls
 | [],h,_=>absurd rfl h
 | [a],_,h=>A7 a (h a VL)
 |a::b::r,_,h=>by
  show nj (a++[10]++M.jn [10] (b::r))=_;rw[We,YF,A6 a _ (h a VL),mz (b::r) (Zt _ _) λl hl=>h l (VK _ hl)]
theorem tH:∀(ls:List Str),(Str.join ⟨#[10]⟩ ls).cps.toList=M.jn [10] (ls.map λs=>s.cps.toList)
 | []=>rfl
 | [a]=>rfl
 |a::b::r=>by
  show((a++(⟨#[10]⟩:Str))++Str.join ⟨#[10]⟩ (b::r)).cps.toList=_;rw[abf,abf,tH (b::r)];rfl
def A8(x:Str):YQ x ⟨#[10]⟩≠[]:=by
 unfold YQ;split
 ·simp
 ·split
  ·simp
  ·intro h
   have e:=congrArg Xg h;rw[PyProof.Rows.len_partsBetween]at e;simp at e
def tJ(h0:ls≠[])(h:∀l∈ls,10∉l):YQ (M.toS (M.jn [10] ls)) (M.toS [10])=ls.map M.toS:=by
 have e1:=StrLaws.join_split (M.toS (M.jn [10] ls)) ⟨#[10]⟩;have hf:=StrLaws.split_free (M.toS (M.jn [10] ls)) 10
 have hn:=A8 (M.toS (M.jn [10] ls));show YQ (M.toS (M.jn [10] ls)) ⟨#[10]⟩=_
 generalize YQ (M.toS (M.jn [10] ls)) ⟨#[10]⟩=ts at e1 hf hn;have e3:=congrArg nj (show M.jn [10] (ts.map λs=>s.cps.toList)=M.jn [10] ls by rw[<- tH,e1,nB])
 rw[mz ls h0 h,mz _ ⇑hn (by
  simp_all)]at e3
 rw[<- e3,Wc,show(M.toS ∘ λs:Str=>s.cps.toList)=id from funext MB,List.map_id]
def A9(hc:c≠32)(p:Cs):∃q:Cs,Z1 (M.toS (c::p)) (M.toS [32])=M.toS (c::q)/\q.length<=p.length:=by
 have e0:(M.toS [32]).cps.contains=λc=>c==32:=by
  funext c;simp[M.toS,Bool.beq_eq_decide_eq]
 unfold Z1;rw[e0,PyProof.Rows.stripBy_eq];have T8:stripLo (λc=>c==32) t? (M.toS (c::p))=0:=by
  simp[stripLo,M.toS,hc]
 obtain⟨b1,b2,b3,b4⟩:=PyProof.Rows.hi_facts (λc=>c==32) (M.toS (c::p)) _ (Wg _);rw[T8];generalize stripHi (λc=>c==32) t? (M.toS (c::p)) 0=hi at b1 b2 b3 b4;have hl:(M.toS (c::p)).length=p.length+1:=by rfl
 rw[hl]at b2 b3;obtain⟨k,rfl⟩:∃k,hi=k+1:=by
  cases hi with
  |succ k=>simp
  |zero=>
   have z:=b3 0 (V3 _) (Nat.succ_pos _);exact absurd z (by simp[M.toS,hc])
 refine⟨p.take k,?_,by simp_all⟩;rw[<- MB (Builtin.Str.strSub (M.toS (c::p)) 0 (k+1)),StrLaws.strSub_toList,nB];rfl
abbrev mB:Cs:=[97,98,99,100,101,102,103,104]
def nameOf(a b k:Nat):Cs:=Wj a 109++([mB.getD k 0]++Wj b 109)
def cZ(hk:k<8)(hab:a+b<=4):cf (nameOf a b k)=t?:=(by decide +kernel:∀a<5,∀b<5,∀k<8,cf (nameOf a b k)=t?) a ⇑0 b ⇑0 k hk
def oE(hj:j<8)(hk:k<8)(h:nameOf a b j=nameOf a b k):j=k:=by
 unfold nameOf at h;have h2:=List.append_inj_right h rfl
 have h3:mB.getD j 0=mB.getD k 0:=(XK h2).1;exact(by decide +kernel:∀j<8,∀k<8,mB.getD j 0=mB.getD k 0->j=k) j hj k hk h3
def yA:∀(l m:List Cs),l.Nodup->(∀x∈l,x∈m)->l.length<=m.length:=by
 intro l9;induction l9 with
 |nil=>intro _ _ _;exact Wg _
 |cons x r ih=>
  intro m nd h;have hx:=h x (VL ..)
  have nr:=WZ.mp nd;have z:=ih (m.erase x) nr.2 λy hy=>(List.mem_erase_of_ne (λe=>nr.1 (by simp_all))).mpr (h y (VK _ hy))
  grind
deriving instance DecidableEq for Fc
theorem qf{α:Type}[DecidableEq α]:∀(l b:List α),(∀f,l.count f<=b.count f)->l.length<=b.length
 | [],_,_=>Wg _
 |x::l,b,h=>by
  have hx:x∈b:=by
   have z:=h x;grind
  have ih:=qf l (b.erase x) λf=>by
   grind
  grind
end Bk
namespace Un
section
variable{α:Type}[DecidableEq α](great:α->Bool)(lt:α->α->Bool)
def mn(a b:α):α:=if lt b a=t? then b else a
def iO(p q:α):α:=if great p=f? then p else if great q=f? then q else mn lt p q
variable{great lt}
def FH(a b:α):mn lt a b=a\/mn lt a b=b:=by
 unfold mn;grind
def told(great:α->Bool)(lt:α->α->Bool)(ρ:α->α)(a b x:α):α:=if ρ x=ρ a\/ρ x=ρ b then iO great lt (ρ a) (ρ b) else ρ x
end
end Un
namespace Bk
open PySem Ja
abbrev aS:=List (Cs × Cs)
def gQ(st:aS)(n:Cs):Option Cs:=(st.find? λp=>decide (p.1=n)).map (·.2)
def aq(st:aS)(n:Cs):Cs:=(gQ st n).getD n
def Ba(a b:Cs):Bool:=d? (a<b)
def hK(st:aS)(n:Cs):aS:=if great n=t? then (if n∈st.map (·.1) then st else st++[(n,n)]) else st
def uE(st:aS)(ns:List Cs):aS:=ns.foldl hK st
def oF(p q:Cs)(e:Cs × Cs):Cs × Cs:=(e.1,if e.2=p\/e.2=q then Un.iO great Ba p q else e.2)
def mU(p q:Cs):Prop:=p≠q/\great p=f?/\great q=f?
noncomputable instance(p q:Cs):Decidable (mU p q):=by unfold mU;infer_instance
def iP(st:aS)(p q:Cs):aS:=if p=q then st else st.map (oF p q)
def vA(p q:Cs)(st:aS):(st.map (oF p q)).map (·.1)=st.map (·.1):=by
 rw[Wc];rfl
def wr(st:aS)(f:Fc):Fc:=⟨f.k,f.as.map (aq st)⟩
def lw(i0:List (Cs × Cs))(st:aS)(l:List Fc):List Fc:=if i0=[] then l else l.map (wr st)
def oG(ks:List Kd)(ns:List Cs)(f:Fc):Prop:=(∃k∈ks,f.k=k.n/\f.as.length=k.c)/\∀a∈f.as,a∈ns
def vB(k:Kd):Bool:=!k.l
structure MC(ks:List Kd)(os ws:List Cs)(r:Rl):Prop where
 take:∀f∈r.take,oG (ks.filter vB) (os++ws) f
 keep:∀f∈r.keep,oG ks (os++ws) f
 put:∀f∈r.put,oG (if r.take=[] then ks.filter (·.l) else ks) (opens (r.take++r.keep)++ws) f
 ah:∀k∈r.ah,k.l∈opens (r.take++r.keep)++ws/\k.r∈opens (r.take++r.keep)++ws
 tell:∀p∈r.tell,p.1∈opens (r.take++r.keep)++ws/\p.2∈opens (r.take++r.keep)++ws
 hd:1<=r.take.length+r.keep.length
 ip:OA 2 r
def lA(r:Rl)(t:Cs):Rl:={r with title:=t}
section
variable{ks:List Kd}{os ws:List Cs}{r:Rl}{t:Cs}
def oG.sub(h:oG mR ns f)(hs:∀k∈mR,k∈ks)(hn:∀n∈ns,n∈ns'):oG ks ns' f:=by
 obtain⟨⟨k,hk,e⟩,ha⟩:=h;exact⟨⟨k,hs k hk,e⟩,λa h=>hn a (ha a h)⟩
def vC{α β:Type}{f:α->β}{l:List α}(nd:(l.map f).Nodup){j k:α}(hj:j∈l)(hk:k∈l)(e:f j=f k):j=k:=by
 induction l with
 |nil=>cases hk
 |cons a r ih=>
  grind
def MC.T9(hG:KG ks)(hN:∀n∈os++ws,aD n=t?)(hW:∀n∈ws,great n=f?)(ht:cf t=t?)(d:MC ks os ws r):uD ks (lA r t):=by
 have hd:∀f∈r.take++r.keep,oG ks (os++ws) f:=λf hf=>(VR.mp hf).elim (λh=>(d.take f h).sub (λk hk=>(Wq.mp hk).1) λ_ h=>h) (d.keep f)
 have Kv:∀n∈opens (r.take++r.keep)++ws,aD n=t?:=λn hn=>(VR.mp hn).elim (λh=>by
  obtain⟨⟨f,hf,ha⟩,_⟩:=cv h;exact hN n ((hd f hf).2 n ha)) λh=>hN n (V6 _ h)
 have fg:∀{ns f},(∀n∈ns,aD n=t?)->oG ks ns f->FG f/\cT ks f:=λhn h=>by
  obtain⟨⟨k,hk,e1,e2⟩,ha⟩:=h;exact⟨⟨by rw[e1];exact(hG.ok k hk).1,λa h=>hn a (ha a h),by rw[e2];exact(hG.ok k hk).2⟩,k,hk,e1.symm,e2⟩
 refine⟨ht,λg hg=>(VR.mp hg).elim (λh=>fg hN (hd g h)) λh=>fg Kv ((d.put g h).sub (λk hk=>?_) λ_ h=>h),λk hk=>⟨Kv _ (d.ah k hk).1,Kv _ (d.ah k hk).2⟩,λk hk=>⟨Kv _ (d.tell k hk).1,Kv _ (d.tell k hk).2⟩,λe e2=>?_,⟨Xy d.ip.1,Xy d.ip.2.1,Xy d.ip.2.2.1,Xy d.ip.2.2.2.1,Xy d.ip.2.2.2.2⟩,λf hf h=>?_,λe f hf=>?_,λa ha=>?_⟩
 ·grind
 ·have:=d.hd
  rw[show r.take=[] from e,show r.keep=[] from e2]at this;cases this
 ·obtain⟨⟨k,hk,e,_⟩,_⟩:=d.take f hf
  obtain⟨j,hj,e2⟩:=VP.mp h;obtain⟨hk,hp⟩:=Wq.mp hk;obtain⟨hj,hl⟩:=Wq.mp hj;rw[vC hG.nd hj hk (e2.trans e)]at hl;unfold vB at hp;simp_all
 ·obtain⟨⟨k,hk,e1,_⟩,_⟩:=d.put f hf
  rw[if_pos (show r.take=[] from e)]at hk;rw[e1];exact V4 hk
 ·have z:a∈opens (r.take++r.keep)++ws:=by
   unfold fW at ha;simp only[VR,W2,Wt,Zu,or_false]at ha;rcases ha with⟨k,hk,e|e⟩|⟨f,hf,h⟩|⟨p,hp,e|e⟩
   ·rw[e];exact(d.ah k hk).1
   ·rw[e];exact(d.ah k hk).2
   ·exact(d.put f hf).2 a h
   ·rw[e];exact(d.tell p hp).1
   ·rw[e];exact(d.tell p hp).2
  exact⟨Kv a z,λg=>(VR.mp z).elim id λh=>by simp_all⟩
end
def KG.Ei(hG:KG ks)(p:mR.Perm ks):KG mR:=by
 refine⟨by rw[p.length_eq];exact hG.len,(p.map _).nodup_iff.mpr hG.nd,λk hk=>hG.ok k (p.mem_iff.mp hk),?_,?_⟩
 ·obtain⟨k,hk,e⟩:=hG.yes
  exact⟨k,p.mem_iff.mpr hk,e⟩
 ·obtain⟨k,hk,e⟩:=hG.no
  exact⟨k,p.mem_iff.mpr hk,e⟩
def tL{α:Type}(n:Nat)(l:List α):(l.drop n++l.take n).Perm l :=
 Zo.trans ⋯
def dq(sm:Bool)(a b:Cs):Bool:=if sm=t? then d? (a=b) else !great a && (!great b && !d? (a=b))
def iQ(st:aS)(k:Lk):Bool:=dq k.same (aq st k.l) (aq st k.r)
def iz(st:aS)(r:Rl):List Fc:=(r.take++r.keep).map (wr st)
def gi(ks:List Kd)(nC lB hs:List Fc)(h:Fc):Bool:=if h.k∈aW ks then d? (h∈lB) else d? (hs.countP (λa=>decide (a=h))<=nC.countP (λa=>decide (a=h)))
def oH(ks:List Kd)(st:aS)(r:Rl)(nC lB:List Fc):Bool:=(iz st r).all (gi ks nC lB (iz st r))
def jg(st:aS)(r:Rl)(lB:List Fc):Bool:=(r.put.any λf=>!d? (wr st f∈lB)) || (r.tell.any λp=>!d? (aq st p.1=aq st p.2))
def gj(ks:List Kd)(st:aS)(r:Rl)(nC lB:List Fc)(Jd:Bool):Bool:=!Jd && (r.ah.all (iQ st) && (oH ks st r nC lB && (!d? (r.take=[]) || jg st r lB)))
def cw(r:Rl)(ns:List Cs):aS:=(opens (r.take++r.keep)).zip ns
def cP(a:Cs):Prop:=aD a=t?/\great a=d? (a.headD 0=78)
def rT(i:Nat):Cs:=[114,48+i]
def aA(rs:List Rl):List Rl:=rs.zipIdx.map λx=>lA x.1 (rT x.2)
structure rA(ks:List Kd)(ns ws:List Cs)(rs:List Rl):Prop where
 kg:KG ks
 n4:ns.length=4
 w2:ws.length=2
 OC:∀n∈ns++ws,cP n
 ng:∀n∈ns,great n=t?
 wg:∀n∈ws,great n=f?
 nd:(ns++ws).Nodup
 r2:rs.length=2
 rd:∀r∈rs,MC ks (ns.take 3) ws r
def qg(h:ns.length=(opens (r.take++r.keep)).length):(cw r ns).map (·.1)=opens (r.take++r.keep):=by
 unfold cw;rw[List.map_fst_zip ⇑0]
def Ej(h:gQ st n=s? v):v∈st.map (·.2):=by
 unfold gQ at h;obtain⟨e,h1,h2⟩:=V7.mp h;grind
def Ek(h:v∈(cw r ns).map (·.2)):v∈ns:=by
 obtain⟨e,he,rfl⟩:=VP.mp h;exact(Xm (show(e.1,e.2)∈_ from he)).2
section
variable{ks:List Kd}{ns ws:List Cs}{rs:List Rl}(h:rA ks ns ws rs)
include h
def rA.nm:∀n∈ns.take 3++ws,aD n=t?:=λn hn=>(VR.mp hn).elim (λz=>(h.OC n (V2 _ (WQ z))).1) λz=>(h.OC n (V6 _ z)).1
def rA.rl:∀r∈rs,∀i<2,uD ks (lA r (rT i)):=λr hr i hi=>(h.rd r hr).T9 h.kg h.nm h.wg ((by decide +kernel:∀i<2,cf (rT i)=t?) i hi)
def rA.Qf:(aA rs).length<=2/\(∀r∈aA rs,uD ks r)/\((aA rs).map (·.title)).Nodup:=by
 have z:=h.rl
 match rs,h.r2 with
 | [a,b],_=>exact⟨V3 2,YO.mpr ⟨z a ⋯ 0 ∅,YO.mpr ⟨z b ⋯ 1 ∅,λ_ h=>nomatch h⟩⟩,show [rT 0,rT 1].Nodup by decide⟩
def rA.Je(hr:r∈rs):(opens (r.take++r.keep)).length<=3:=by
 have d:=h.rd r hr;have z:=yA _ (ns.take 3) (gh (r.take++r.keep)) λx hx=>by
  obtain⟨⟨g,hg,RW⟩,gr⟩:=cv hx;have uC:x∈ns.take 3++ws:=(VR.mp hg).elim (λz=>(d.take g z).2 x RW) λz=>(d.keep g z).2 x RW
  exact(VR.mp uC).elim id λz=>by rw[h.wg x z]at gr;cases gr
 rw[W8]at z;omega
end
def nq(st:aS)(p:Cs × Cs):Cs × Cs:=(aq st p.1,aq st p.2)
def tM(st:aS):Prop:=∀e∈st,cP e.1/\cP e.2
theorem tM.aq(h:tM st)(ha:cP a):cP (aq st a):=by
 unfold Bk.aq;cases xf:gQ st a with
 |none=>exact ha
 |some v=>
  unfold gQ at xf;obtain⟨e,h1,h2⟩:=V7.mp xf;rw[<- h2];exact(h e (List.mem_of_find?_eq_some h1)).2
def tM.tell(h:tM st)(hp:cP p)(hq:cP q):tM (iP st p q):=by
 unfold iP;split
 ·exact h
 ·intro e he
  obtain⟨e',he',rfl⟩:=VP.mp he;refine⟨(h e' he').1,?_⟩;unfold oF;dsimp only;split
  ·unfold Un.iO
   split
   ·exact hp
   ·split
    ·exact hq
    ·rcases Un.FH (lt:=Ba) p q with e|e
     ·rw[e];exact hp
     ·rw[e];exact hq
  ·exact(h e' he').2
end Bk
set_option genInjectivity false
namespace M
open PySem
open Bk (Fc Kd Lk Rl)
def kT(k:Kd):T:=.tup [.str k.n,.int k.c,.bl k.l]
def pP(k:Lk):T:=.tup [.str (Bk.eK k.same),.str k.l,.str k.r]
def aX(r:Rl):T:=.obj "Rule" [("title",.str r.title),("taken",.lst (r.take.map fT)),("kept",.lst (r.keep.map fT)),("looks",.lst (r.ah.map lT)),("given",.lst (r.put.map fT)),("told",.lst (r.tell.map pT)),("names",.lst ((Bk.opens (r.take++r.keep)).map .str))]
def rB(ks:List Kd)(rs:List Rl):T:=.obj "Book" [("kinds",.lst (ks.map kT)),("rules",.lst (rs.map aX))]
def xT(r:Rl):T:=.tup [.lst (r.take.map fT),.lst (r.keep.map fT),.lst (r.ah.map pP),.lst (r.put.map fT),.lst (r.tell.map pT)]
def aI(st:Bk.aS):T:=.ay (st.map λp=>(.str p.1,.str p.2))
section
variable{L:aa}{f:Fc}{k:Kd}{p:Cs × Cs}{x y z u w:T}{r:List T}
def Ua:ix (fT f) (.int 0) L=.ok (.str f.k) L:=rfl
def Ub:ix (fT f) (.int 1) L=.ok (.tup (f.as.map .str)) L:=rfl
def Uc:ix (kT k) (.int 0) L=.ok (.str k.n) L:=rfl
def RX:ix (kT k) (.int 1) L=.ok (.int k.c) L:=rfl
def Ud:ix (kT k) (.int 2) L=.ok (.bl k.l) L:=rfl
def Ue:ix (pT p) (.int 0) L=.ok (.str p.1) L:=rfl
def Ug:ix (pT p) (.int 1) L=.ok (.str p.2) L:=rfl
def Uh{r:Rl}:ix (xT r) (.int 0) L=.ok (.lst (r.take.map fT)) L:=rfl
def Ui{r:Rl}:ix (xT r) (.int 1) L=.ok (.lst (r.keep.map fT)) L:=rfl
def Uj{r:Rl}:ix (xT r) (.int 2) L=.ok (.lst (r.ah.map pP)) L:=rfl
def Uk{r:Rl}:ix (xT r) (.int 3) L=.ok (.lst (r.put.map fT)) L:=rfl
def Ul{r:Rl}:ix (xT r) (.int 4) L=.ok (.lst (r.tell.map pT)) L:=rfl
def Um{k:Lk}:ix (pP k) (.int 0) L=.ok (.str (Bk.eK k.same)) L:=rfl
def Uo{k:Lk}:ix (pP k) (.int 1) L=.ok (.str k.l) L:=rfl
def Up{k:Lk}:ix (pP k) (.int 2) L=.ok (.str k.r) L:=rfl
def rC{xs:List T}{i:Nat}{x:T}(h:xs[i]?=s? x):ix (.tup xs) (.int i) L=.ok x L:=by
 obtain⟨hi,e⟩:=VZ.mp h;simp[ix,vw,place,hi,e,lift]
def Qg:ix (.tup (x::r)) (.int 0) L=.ok x L:=rC (i:=0) rfl
def Qh:ix (.tup (x::y::r)) (.int 1) L=.ok y L:=rC (i:=1) rfl
def Qi:ix (.tup (x::y::z::r)) (.int 2) L=.ok z L:=rC (i:=2) rfl
def Qj:ix (.tup (x::y::z::u::r)) (.int 3) L=.ok u L:=rC (i:=3) rfl
def Jf:ix (.lst (x::r)) (.int 0) L=.ok x L:=fS (i:=0) rfl
def Qk:ix (.lst (x::y::r)) (.int 1) L=.ok y L:=fS (i:=1) rfl
def Ql:ix (.lst (x::y::z::r)) (.int 2) L=.ok z L:=fS (i:=2) rfl
def Qm:ix (.lst (x::y::z::u::r)) (.int 3) L=.ok u L:=fS (i:=3) rfl
def Qn:ix (.lst (x::y::z::u::w::r)) (.int 4) L=.ok w L:=fS (i:=4) rfl
def Qo{v:T}:ix (.lst (x::y::z::u::w::v::r)) (.int 5) L=.ok v L:=fS (i:=5) rfl
def Uq{r:Rl}:fld "taken" (aX r) L=.ok (.lst (r.take.map fT)) L:=rfl
def Ur{r:Rl}:fld "kept" (aX r) L=.ok (.lst (r.keep.map fT)) L:=rfl
def Us{r:Rl}:fld "looks" (aX r) L=.ok (.lst (r.ah.map lT)) L:=rfl
def Ut{r:Rl}:fld "given" (aX r) L=.ok (.lst (r.put.map fT)) L:=rfl
def Uu{r:Rl}:fld "told" (aX r) L=.ok (.lst (r.tell.map pT)) L:=rfl
def Uv{r:Rl}:fld "names" (aX r) L=.ok (.lst ((Bk.opens (r.take++r.keep)).map .str)) L:=rfl
def Uw{r:Rl}:fld "title" (aX r) L=.ok (.str r.title) L:=rfl
def Ux{k:Lk}:fld "left" (lT k) L=.ok (.str k.l) L:=by cases h:k.same<;>simp[lT,h,fld,vw,lift,Ze]
def Uy{k:Lk}:fld "right" (lT k) L=.ok (.str k.r) L:=by
 have:(("right":Str)=="left")=f?:=by decide
 cases h:k.same<;>simp[lT,h,fld,vw,lift,Ze,this]
def Uz{ks:List Kd}{rs:List Rl}:fld "kinds" (rB ks rs) L=.ok (.lst (ks.map kT)) L:=rfl
def flb{ks:List Kd}{rs:List Rl}:fld "rules" (rB ks rs) L=.ok (.lst (rs.map aX)) L:=rfl
def vf:vw L (fT f)=fT f:=rfl
def vk:vw L (kT k)=kT k:=rfl
def vp:vw L (pT p)=pT p:=rfl
def vx{r:Rl}:vw L (xT r)=xT r:=rfl
def vr{r:Rl}:vw L (aX r)=aX r:=rfl
def cq{c:T}:at_ (c::L) L.length=s? c:=if_pos rfl
def vD{c d:T}:at_ (d::c::L) L.length=s? c:=by simp[at_]
def MD{c d e:T}:at_ (e::d::c::L) L.length=s? c:=by
 unfold at_;rw[if_neg (by simp only[VS];omega)];exact vD
def tN{c d:T}:at_ (d::c::L) (L.length+1)=s? d:=by simp[at_]
def ME{c d e:T}:at_ (e::d::c::L) (L.length+1)=s? d:=by
 unfold at_;rw[if_neg (by simp only[VS];omega)];exact tN
def Jg{c d e:T}:at_ (e::d::c::L) (L.length+2)=s? e:=if_pos rfl
def mC{c d:T}:put (c::L) L.length d=d::L:=by simp[put]
def MF{c d e:T}:put (d::c::L) L.length e=d::e::L:=by simp[put]
def El{c d e:T}:put (d::c::L) (L.length+1) e=e::c::L:=by simp[put]
def eU{n:Nat}:vw L (.ref n)=(at_ L n).getD .aY:=rfl
def eV{α:Type}{a b:α}:(s? a).getD b=a:=rfl
end
theorem lC{α:Type}{n:Nat}{g:α->T}(h:∀x,lt n (g x)=t?):∀l:List α,eR n (l.map g)=t?
 | []=>rfl
 |x::l=>by rw[VU,eR,h x,lC h l];rfl
def mV{n:Nat}(l:List Cs):eR n (l.map .str)=t?:=lC (λ_=>rfl) l
def RY{n:Nat}(l:List Int):eR n (l.map .int)=t?:=lC (λ_=>rfl) l
def bu(n:Nat)(f:Fc):lt n (fT f)=t?:=by simp[fT,lt,eR,mV]
def tQ(n:Nat)(f:Kd):lt n (kT f)=t?:=by simp[kT,lt,eR]
def iR(n:Nat)(f:Cs × Cs):lt n (pT f)=t?:=by simp[pT,lt,eR]
def qh(n:Nat)(f:Lk):lt n (lT f)=t?:=by simp[lT,lt,jW]
def vE(n:Nat)(f:Lk):lt n (pP f)=t?:=by simp[pP,lt,eR]
def lt_str(n:Nat)(x:Cs):lt n (.str x)=t?:=by simp[lt]
def lt_int(n:Nat)(x:Int):lt n (.int x)=t?:=by simp[lt]
def af{α:Type}{n:Nat}{g:α->T}{l:List α}(h:∀n x,lt n (g x)=t?):lt n (.lst (l.map g))=t?:=by rw[lt];exact lC (h n) l
def j5{α:Type}{n:Nat}{g:α->T}{l:List α}(h:∀n x,lt n (g x)=t?):lt n (.tup (l.map g))=t?:=by rw[lt];exact lC (h n) l
def MG(n:Nat)(r:Rl):lt n (xT r)=t?:=by simp[xT,lt,eR,lC,bu,iR,vE]
def rD(n:Nat)(r:Rl):lt n (aX r)=t?:=by simp[aX,lt,jW,lC,bu,iR,qh,mV]
def jh(n:Nat):∀st:Bk.aS,lt n (aI st)=t?:=by
 intro l9;induction l9 with
 |nil=>exact rfl
 |cons y9 st ih=>obtain⟨a,b⟩:=y9;have:=ih;simp only[aI,lt,VU,yO]at this ⊢;simp[lt,this]
def ji{L:aa}{c t:T}(h:lt L.length t=t?):fin L t (c::L)=.ok t L:=jd (Ln:=[c]) h
def RZ{L:aa}{c d t:T}(h:lt L.length t=t?):fin L t (d::c::L)=.ok t L:=jd (Ln:=[d,c]) h
def eL(L:aa):old L L:=λ_ _ e=>.inl e
def xg{L Ln:aa}{c:T}{n:Nat}(ha:at_ (Ln++L) n=s? c)(hn:L.length<=n)(h:lt L.length c=t?):fin L (.ref n) (Ln++L)=.ok c L:=by
 have e:(Ln++L).drop ((Ln++L).length - L.length)=L:=by rw[VN,Z0,Zk]
 unfold fin;rw[e,if_pos (eL L)];unfold bE;have:¬ lt L.length (.ref n)=t?:=by rw[lt];simp;omega
 rw[if_neg this];simp only[ha];unfold bE;rw[if_pos h];rfl
def du{L:aa}{c:T}(h:lt L.length c=t?):fin L (.ref L.length) (c::L)=.ok c L:=xg (Ln:=[c]) cq (V3 _) h
def Bb{L:aa}{c d:T}(h:lt L.length d=t?):fin L (.ref (L.length+1)) (d::c::L)=.ok d L:=xg (Ln:=[d,c]) tN (XF _) h
def MH{a b:Cs}{L:aa}:N1 (.str a) (.str b) L=.ok (a==b) L:=rfl
def MI{a b:Int}{L:aa}:N1 (.int a) (.int b) L=.ok (a==b) L:=rfl
def FI{α:Type}{r:R α}:cm (0<=lim) r=r:=if_pos (Wg _)
def MJ{α:Type}{r:R α}:cm (0+1<=lim) r=r:=if_pos ∅
def Jh{α:Type}{r:R α}:cm (1<=lim) r=r:=if_pos ∅
def MK{α:Type}{r:R α}:cm (2<=lim) r=r:=if_pos ∅
def ML{α:Type}{r:R α}:cm (3<=lim) r=r:=if_pos ∅
def MM{α:Type}{r:R α}:cm (4<=lim) r=r:=if_pos ∅
def MN{α:Type}{r:R α}:cm (5<=lim) r=r:=if_pos ∅
def MO{α:Type}{r:R α}:cm (6<=lim) r=r:=if_pos ∅
def Ji(n:Nat):(n:Int)+1=((n+1:Nat):Int):=rfl
def Qp(n:Nat):(n:Int)+2=((n+2:Nat):Int):=rfl
def Qq:S ")"=[41]:=rfl
def Qr:S "("=[40]:=rfl
def Qt:S ","=[44]:=rfl
def Qu:S " "=[32]:=rfl
def Qv:S ":"=[58]:=rfl
def Qw:S ";"=[59]:=rfl
def Qx:S "="=[61]:=rfl
def Qy:S ""=[]:=rfl
def Qz:S "#"=[35]:=rfl
def MP{α:Type}{r:R α}[Decidable True]:cm True r=r:=if_pos trivial
def QA{fz:Bool}{i j:Int}{L:aa}:aK fz .Add (.int i) (.int j) L=.ok (.int (i+j)) L:=rfl
def QB{fz:Bool}{i j:Int}{L:aa}:aK fz .Sub (.int i) (.int j) L=.ok (.int (i - j)) L:=rfl
def QC{fz:Bool}{i j:Int}{L:aa}:aK fz .Mult (.int i) (.int j) L=cm (v3 i j) (.ok (.int (i * j)) L):=rfl
def QD{fz:Bool}{i j:Int}{L:aa}:aK fz .FloorDiv (.int i) (.int j) L=cm (yW j) (.ok (.int (i / j)) L):=rfl
def QE{fz:Bool}{i j:Int}{L:aa}:aK fz .Mod (.int i) (.int j) L=cm (0<j) (.ok (.int (i % j)) L):=rfl
def UA{fz:Bool}{i j:Int}{L:aa}:aK fz .Pow (.int i) (.int j) L=cm (Gr i j) (.ok (.int (i ^ j.toNat)) L):=rfl
def QF{fz:Bool}{a b:Cs}{L:aa}:aK fz .Add (.str a) (.str b) L=cm (a.length+b.length<=lim) (.ok (.str (a++b)) L):=rfl
def QG{fz:Bool}{ch:Nat}{j:Int}{L:aa}:aK fz .Mult (.str [ch]) (.int j) L=cm (uH j) (.ok (.str (Wj j.toNat ch)) L):=rfl
def Bc{fz:Bool}{a b:List T}{L:aa}:aK fz .Add (.lst a) (.lst b) L=fG fz (a++b) L:=rfl
def Be(a b:SE)(φ:Fr)(L:aa){i j:Int}{L1 L2:aa}(ha:a φ L=.ok (.int i) L1)(hb:b φ L1=.ok (.int j) L2)(hi:xK i/\xK j):yX a b φ L=.ok (upTo i (j - i).toNat,λ_=>True) L2:=by
 unfold yX;rw[ha,ak,hb,ak];exact if_pos hi
def qi{n:Nat}(h:n<=1000000):xK n:=by unfold xK;constructor<;>omega
def QH{y:T}{xs:List T}{L:aa}:ix (.ref L.length) y (.lst xs::L)=ix (.lst xs) y (.lst xs::L):=by unfold ix;simp only[eU,cq,eV];rfl
def MQ{fz:Bool}{a b:Option Int}{xs:List T}{L:aa}:lV fz (.ref L.length) a b (.lst xs::L)=lV fz (.lst xs) a b (.lst xs::L):=by unfold lV;simp only[eU,cq,eV];rfl
def QI{fz:Bool}{a b:Option Int}{xs:List T}{c:T}{L:aa}:lV fz (.ref (L.length+1)) a b (.lst xs::c::L)=lV fz (.lst xs) a b (.lst xs::c::L):=MQ (L:=c::L)
def QJ{c d e f:T}{L:aa}:put (e::d::c::L) (L.length+2) f=f::d::c::L:=mC (L:=d::c::L)
def ao{α:Type}{c:Prop}{i:Decidable c}{r:R α}(h:c):@cm α c i r=r:=if_pos h
def MR{a b:Cs}:(a != b) = !(a==b):=rfl
def QK{ch:Nat}{b:Cs}{L:aa}:lQ (.str [ch]) (.str b) L=.ok (d? (ch∈b)) L:=rfl
theorem any_eq{α:Type}[DecidableEq α]{g:α->T}(hg:∀a b,eqT (g a) (g b)=d? (a=b))(x:α):∀ys:List α,((ys.map g).any λy=>eqT y (g x))=d? (x∈ys)
 | []=>by simp
 |y::ys=>by
  rw[VU,List.any_cons,any_eq hg x ys,hg,<- Bool.decide_or];exact decide_eq_decide.mpr ⟨λh=>h.elim (λe=>by rw[e];exact VL) (VK _),λh=>(Wt.mp h).imp Eq.symm id⟩
def gn{α:Type}{g:α->T}{n:Nat}(h:∀a,dat n (g a)=t?)(l:List α):(l.map g).all (dat n)=t?:=by simp[h]
def FJ(a b:Cs):eqT (.str a) (.str b)=d? (a=b):=by
 show(a==b)=_;by_cases h:a=b<;>simp[h]
theorem FL{α:Type}[DecidableEq α]{f:T->T->Bool}{g:α->T}(h:∀a b,f (g a) (g b)=d? (a=b)):∀a b:List α,si f (a.map g) (b.map g)=d? (a=b)
 | [],[]=>by simp[si]
 | [],_::_=>by simp[si]
 |_::_,[]=>by simp[si]
 |x::a,y::b=>by
  rw[VU,VU,si,h,FL h a b];by_cases h1:x=y<;>by_cases h2:a=b<;>simp[h1,h2]
def FN(n:Nat)(a b:Cs):uz (n+1) (.str a) (.str b)=d? (a=b):=by
 show(a==b)=_;by_cases h:a=b<;>simp[h]
def tR(a b:Fc):eqT (fT a) (fT b)=d? (a=b):=by
 obtain⟨k,as⟩:=a;obtain⟨k',as'⟩:=b;show(uz 7 (.str k) (.str k') && (si (uz 6) (as.map .str) (as'.map .str) && t?))=_
 rw[FN,FL (FN 5)];by_cases h1:k=k'<;>by_cases h2:as=as'<;>simp[h1,h2]
def xh(n:Nat)(a:Cs):dat (n+1) (.str a)=t?:=rfl
def jU(a:Fc):dat 8 (fT a)=t?:=by
 show(dat 7 (.str a.k) && ((a.as.map .str).all (dat 6) && t?))=t?;rw[xh,gn (xh 5)];rfl
theorem En{x:Cs}{ys:List Cs}{L:aa}:lQ (.str x) (.lst (ys.map .str)) L=.ok (d? (x∈ys)) L:=by
 show cm _ _=_;rw[ba ⟨rfl,gn (xh 7) ys⟩,any_eq FJ];exact congrArg (R.ok · L) (decide_eq_decide.mpr Iff.rfl)
theorem MS{x:Cs}{ys:List Cs}{L:aa}:lQ (.str x) (.tup (ys.map .str)) L=.ok (d? (x∈ys)) L:=by
 show cm _ _=_;rw[ba ⟨rfl,gn (xh 7) ys⟩,any_eq FJ];exact congrArg (R.ok · L) (decide_eq_decide.mpr Iff.rfl)
def QL{x:Cs}{t:T}{ys:List Cs}{L:aa}(h:vw L t=.lst (ys.map .str)):lQ (.str x) t L=.ok (d? (x∈ys)) L:=by
 have:=En (x:=x) (ys:=ys) (L:=L);unfold lQ at this ⊢;rw[h];exact this
def MT{x:Fc}{t:T}{ys:List Fc}{L:aa}(h:vw L t=.lst (ys.map fT)):lQ (fT x) t L=.ok (d? (x∈ys)) L:=by
 have:lQ (fT x) (.lst (ys.map fT)) L=.ok (d? (x∈ys)) L:=by
  show cm _ _=_;rw[ba ⟨jU x,gn jU ys⟩,any_eq tR]
 unfold lQ at this ⊢;rw[h];exact this
def MU{x:Fc}{ys:List Fc}{L:aa}:lQ (fT x) (.lst (ys.map fT)) L=.ok (d? (x∈ys)) L:=by
 show cm _ _=_;rw[ba ⟨jU x,gn jU ys⟩,any_eq tR]
def MV{x:Fc}{ys:List Fc}{L:aa}:lQ (fT x) (.tup (ys.map fT)) L=.ok (d? (x∈ys)) L:=by
 show cm _ _=_;rw[ba ⟨jU x,gn jU ys⟩,any_eq tR]
section
variable{β:Type}{s:SI}{aZ:List (Option Nat)}{i:Nat}{ts:ST}{m:SE}{φ:Fr}{L:aa}{k:aa->Prop}{r:R T}{fz:Bool}
def dP(hc:comp fz s aZ (.one i) ts m φ L=r)(xs:List β)(enc:β->T)(p:β->Bool)(f:β->T)(hs:s φ L=.ok (xs.map enc,k) L)(hk:k L)(hl:xs.length<=lim)
  (ht:∀b∈xs,ts ((inner aZ φ).set i (s? (enc b))) L=.ok (p b) L) (hm:∀b∈xs,p b=t?->m ((inner aZ φ).set i (s? (enc b))) L=.ok (f b) L):r=mk fz (.lst ((xs.filter p).map f)) L:=by
 subst hc;have key:∀(ys:List β)(acc:List T),(∀b∈ys,b∈xs)->acc.length+ys.length<=lim->compLoop k (.one i) ts m (inner aZ φ) (ys.map enc) acc L=.ok (acc++(ys.filter p).map f) L:=by
  intro ys;induction ys with
  |nil=>intro acc _ _;simp[compLoop,hk]
  |cons b ys ih=>
   intro acc hb hz;have hx:=hb b VL
   simp only[VS]at hz;rw[VU,compLoop,if_pos ⟨hk,⇑0⟩];simp only[Tg.set,ht b hx,ak];cases hp:p b with
   |true=>rw[if_pos rfl,hm b hx hp,ak,ih _ (λc hc=>hb c (VK _ hc)) (by simp;omega)];simp[hp]
   |false=>rw[if_neg ⋯,ih _ (λc hc=>hb c (VK _ hc)) ⇑0];simp[hp]
 rw[comp,hs,ak,key xs [] (λ_ h=>h) ⇑hl,ak];rfl
def aO(hc:comp fz s aZ (.one i) yes m φ L=r)(xs:List β)(enc:β->T)(f:β->T)(hs:s φ L=.ok (xs.map enc,k) L)(hk:k L)(hl:xs.length<=lim)
  (hm:∀b∈xs,m ((inner aZ φ).set i (s? (enc b))) L=.ok (f b) L):r=mk fz (.lst (xs.map f)) L:=by
 have:=dP hc xs enc (λ_=>t?) f hs hk hl (λ_ _=>rfl) λb hb _=>hm b hb
 rw[this,abg.mpr (λ_ _=>rfl)]
end
def Kw(Q:Fr->aa->Prop)(R:T->aa->Prop)(B:Fr->aa->Prop):O->Prop
 | .nx φ L=>Q φ L
 | .ct φ L=>Q φ L
 | .rt t L=>R t L
 | .bk φ L=>B φ L
 | .bad=>False
def oJ{Q R B φ L}:Kw Q R B (.nx φ L)=Q φ L:=rfl
def MW{Q R B φ L}:Kw Q R B (.ct φ L)=Q φ L:=rfl
def FO{Q R B t L}:Kw Q R B (.rt t L)=R t L:=rfl
def MX{Q R B φ L}:Kw Q R B (.bk φ L)=B φ L:=rfl
section
variable{β:Type}{k:aa->Prop}{tg:Tg}{b:SS}{φ:Fr}{L:aa}{o:O}{ts:List T}
def bN(ho:forL k tg b ts φ L=o)(xs:List β)(enc:β->T)(J:List β->Fr->aa->Prop)(P:O->Prop)(hx:ts=xs.map enc)(hJ:J xs φ L)
  (step:∀(J':List β->Fr->aa->Prop)(P':O->Prop),(∀{r φ L},J' r φ L=J r φ L)->(∀{o},P' o=P o)->∀x r φ L,J (x::r) φ L->k L/\∃φ1,tg.set (enc x) φ=s? φ1/\Kw (J' r) (λt L=>P' (.rt t L)) (λφ L=>P' (.nx φ L)) (b φ1 L))
  (done:∀φ L,J [] φ L->k L/\P (.nx φ L)):P o:=by
 subst ho hx
 replace step:=step J P rfl rfl
 induction xs generalizing φ L with
 |nil=>obtain⟨h1,h2⟩:=done φ L hJ;rw[WH,forL,if_pos h1];exact h2
 |cons x r ih=>
  obtain⟨h1,φ1,h2,h3⟩:=step x r φ L hJ;rw[VU,forL,if_pos h1];simp only[h2];cases e:b φ1 L with
  |nx φ2 L2=>rw[e]at h3;exact ih h3
  |ct φ2 L2=>rw[e]at h3;exact ih h3
  |rt t L2=>rw[e]at h3;exact h3
  |bk φ2 L2=>rw[e]at h3;exact h3
  |bad=>rw[e]at h3;exact h3.elim
def mD{α:Type}{i:Nat}(xs:List α)(enc:α->T)(F:Option T->Fr){z:Option T}(ho:forL k (.one i) b (xs.map enc) (F z) L=o)(hk:k L)(hF:∀z x,(F z).set i (s? x)=F (s? x))(hb:∀x∈xs,b (F (s? (enc x))) L=.nx (F (s? (enc x))) L):∃z,o=.nx (F z) L :=
 bN ho xs enc (λr φ L'=>(∀x∈r,x∈xs)/\L'=L/\∃z,φ=F z) (λo=>∃z,o=.nx (F z) L) rfl ⟨λ_ h=>h,rfl,z,rfl⟩ (λ_ _ eJ eP x r φ L' hh=>by
  obtain⟨h,rfl,z,rfl⟩:=hh;refine⟨hk,_,rfl,?_⟩;rw[hF,hb x (h x VL),oJ,eJ];exact⟨λy hy=>h y (VK _ hy),rfl,_,rfl⟩) λφ L' hh=>by
  obtain⟨_,rfl,z,rfl⟩:=hh;exact⟨hk,z,rfl⟩
def Bf{α β γ:Type}{i:Nat}(xs:List α)(enc:α->T)(E:β->aa)(g:β->α->β)(N:List α->β->Prop)(F:Option T->γ->Fr){z:Option T}{w:γ}{s:β}(ho:forL k (.one i) b (xs.map enc) (F z w) (E s)=o)(hk:∀s,k (E s))(hF:∀z w x,(F z w).set i (s? x)=F (s? x) w)(hN:N xs s)
  (hb:∀x r s w,N (x::r) s->N r (g s x)/\∃w',b (F (s? (enc x)) w) (E s)=.nx (F (s? (enc x)) w') (E (g s x))):∃z w,o=.nx (F z w) (E (xs.foldl g s)) :=
 bN ho xs enc (λr φ L'=>∃z w s',N r s'/\r.foldl g s'=xs.foldl g s/\φ=F z w/\L'=E s') (λo=>∃z w,o=.nx (F z w) (E (xs.foldl g s))) rfl ⟨z,w,s,hN,rfl,rfl,rfl⟩ (λ_ _ eJ eP x r φ L' hh=>by
  obtain⟨z,w,s',h,e,rfl,rfl⟩:=hh;refine⟨hk _,_,rfl,?_⟩;obtain⟨h1,w',h2⟩:=hb x r s' w h;rw[hF,h2,oJ,eJ];exact⟨_,w',_,h1,e,rfl,rfl⟩) λφ L' hh=>by
  obtain⟨z,w,s',_,e,rfl,rfl⟩:=hh;exact⟨hk _,z,w,by rw[<- e];rfl⟩
def lD{α β γ:Type}{i:Nat}(xs:List α)(enc:α->T)(E:β->T)(g:β->α->β)(N:List α->β->Prop)(F:Option T->γ->Fr){z:Option T}{w:γ}{s:β}(ho:forL k (.one i) b (xs.map enc) (F z w) (E s::L)=o)(hk:∀s,k (E s::L))(hF:∀z w x,(F z w).set i (s? x)=F (s? x) w)(hN:N xs s)
  (hb:∀x r s w,N (x::r) s->N r (g s x)/\∃w',b (F (s? (enc x)) w) (E s::L)=.nx (F (s? (enc x)) w') (E (g s x)::L)):∃z w,o=.nx (F z w) (E (xs.foldl g s)::L) :=
 Bf xs enc (λs=>E s::L) g N F ho hk hF hN hb
def xi{kk:ST}{fuel:Nat}(ho:sk kk b fuel φ L=o)(J:Nat->Fr->aa->Prop)(P:O->Prop){n:Nat}(hn:n<fuel)(hJ:J n φ L)
  (step:∀(J':Nat->Fr->aa->Prop)(P':O->Prop),(∀{r φ L},J' r φ L=J r φ L)->(∀{o},P' o=P o)->∀n φ L,J n φ L->(kk φ L=.ok f? L/\P' (.nx φ L))\/(kk φ L=.ok t? L/\Kw (λφ L=>∃m,m<n/\J' m φ L) (λt L=>P' (.rt t L)) (λφ L=>P' (.nx φ L)) (b φ L))):P o:=by
 subst ho
 replace step:=step J P rfl rfl
 induction fuel generalizing n φ L with
 |zero=>omega
 |succ fuel ih=>
  rw[sk];rcases step n φ L hJ with⟨h1,h2⟩|⟨h1,h3⟩
  ·simp only[h1,of_ok];exact h2
  ·simp only[h1,of_ok,if_true]
   cases e:b φ L with
   |nx φ2 L2=>rw[e]at h3;obtain⟨m,hm,hj⟩:=h3;exact ih ⇑0 hj
   |ct φ2 L2=>rw[e]at h3;obtain⟨m,hm,hj⟩:=h3;exact ih ⇑0 hj
   |rt t L2=>rw[e]at h3;exact h3
   |bk φ2 L2=>rw[e]at h3;exact h3
   |bad=>rw[e]at h3;exact h3.elim
end
def MY{a b:Cs}{L:aa}:wU (.str a) (.str b) L=.ok (.bl (a != b)) L:=rfl
def MZ{a b:Int}{L:aa}:wU (.int a) (.int b) L=.ok (.bl (a != b)) L:=rfl
def xj{x:T}{L:aa}{ys:List T}(h:vw L x=.lst ys):items x L=s? ys:=by
 cases x with
 |ref n=>show gN (vw L (.ref n))=_;rw[h];rfl
 |lst l=>cases h;rfl
 |_=>cases h
def M0(n:Nat)(k:Int)(φ:Fr)(L:aa):vi n k φ L=(lift ((φ[n]?).join) L).bind λx L1=>ix x (.int k) L1:=rfl
def ite_tt{α:Type}{a b:α}:(if t?=t? then a else b)=a:=rfl
def ite_ff{α:Type}{a b:α}:(if f?=t? then a else b)=b:=rfl
end M
section
open M
set_option hygiene false in
local macro_rules|`(tactic| simp! $[$d:discharger]? [$ls,*])=>do
 let a:="M0 lz oz cO vo RS Ea tB IH Eb II Mt IJ IK Mu IL Fz Mv FC FD IM Qc tC mS Mw IP IQ IS Mx My Mz oy FE w7 w8 MA IT AW IU rz Ec Ed IV IW Ee Ef IX IY gP iw IZ I0 I8 CH Yt fG _root_.M.mk QA QB QC QD yW uH QE QF QG Bc _root_.M.cmp CD N2 N3 N4 Gs QK En MS MU MV _root_.M.vw Kc ak of_ok jD D6 a8 IF Tg.set _root_.M.sets aU AV D7 D8 D9 IG _root_.M.neg ag Ri VS WL VU WH WJ WM Wj Xb Xo WK Xp Xq if_true reduceIte Ws YJ ZG aaT Ua Ub Uc RX Ud Ue Ug Uh Ui Uj Uk Ul Um Uo Up Qg Qh Qi Qj Jf Qk Ql Qm Qn Qo Uw Uq Ur Us Ut Uu Uv Ux Uy Uz flb vf vk vp vx vr cq vD MD tN ME Jg mC MF El QJ QH MQ QI eU eV oJ MW FO MX _root_.M.inner ar cR eH jB qW mv nA nz bT CK _root_.M.items gN m8 Option.map_some Yt ZE aaa Lm9 MH MI FI MJ Jh MK ML MM MN MO Ji Qp Qq Qr Qt Qu Qv Qw Qx Qy Qz MR MY MZ List.cons_beq_cons Nat.reduceBEq ZH YI Zj Z5 beq_self_eq_true MP Int.reduceLT Int.reduceLE Int.reduceNeg Int.reducePow Int.reduceToNat v3 and_self or_true true_or".splitOn.toArray.map λs=>Lean.mkIdent s.toName
 `(tactic| simp $[$d:discharger]? only[↓ite_tt,↓ite_ff,$[$a:ident],*,$ls,*])
local macro_rules|`(tactic| simp!)=>`(tactic| simp![lz])
local macro_rules|`(tactic| simp_all![$ls,*])=>`(tactic| simp! (disch:=first|assumption|(simp only[VN,VS,WL,Lm9,W8,WG,lim]<;>omega)|omega) [ao,$ls,*])
local macro_rules|`(tactic| simp_all!)=>`(tactic| simp_all![lz])
namespace Eo
open PySem M
open Ja (gd aD dX)
open Bk (Fc Kd Lk Rl cf great aV W Tk Jc between dm glue FG jR jS wordAt eK rows i0 jT uD Im fI lI pI fU je jE opens fV tF fW cT KG aW aC cg oG nameOf vB MC OA cP tG iN jf qe aA oB oC rA aq gQ wr uE hK iP oF mU aS Ba tM dq nq iQ cw gj oH gi iz jg lA rT)
def lE:T:=.str (S "abcdefghijklmnopqrstuvwxyz")
def lF:T:=.str (S "ABCDEFGHIJKLMNOPQRSTUVWXYZ")
def mE:T:=.str (S "0123456789")
def mF:T:=.int 12
def iA:T:=.str (S "(),:;=")
def iB:T:=.tup [.str (S "passing"),.str (S "lasting")]
def c7:T:=.str (S "rule")
def bU:T:=.tup [.str (S "take"),.str (S "keep"),.str (S "look"),.str (S "put"),.str (S "tell")]
def oK:T:=.tup [.str (S "0"),.str (S "1"),.str (S "2"),.str (S "3"),.str (S "4")]
def bH:Fn:=run 2 2 (ab [iff (tv (b2 (v 1) (ae aU [v 0]) (cmp .Lt))) (ab [ret (b2 (v 0) (v 1) ix)]) (ab []),ret (c (.int 0))])
def aJ:Fn:=run 2 5 (ab [asg (.one 2) (b2 (b2 (b2 (v 0) (c (.int 2147483647)) (aK t? .Mod)) (c (.int 48271)) (aK t? .Mult)) (c (.int 2147483647)) (aK t? .Mod)),asg (.one 3) (lst f? []),aL (src (v 1)) (.one 4) (ab [di (aF (ar) (v 3) [b2 (v 2) (v 4) (aK t? .Mod)]),asg (.one 2) (b2 (v 2) (v 4) (aK t? .FloorDiv))]),ret (v 3)])
def bw:Fn:=run 2 4 (ab [asg (.one 2) (b2 (c (.int 1)) (b2 (v 0) (c (.int 5)) (aK t? .Mod)) (aK t? .Add)),asg (.one 3) (b2 (b2 (v 0) (c (.int 5)) (aK t? .FloorDiv)) (v 2) (aK t? .Mod)),ret (b2 (b2 (b2 (c (.str (S "m"))) (v 3) (aK t? .Mult)) (b2 (c (.str (S "abcdefgh"))) (v 1) ix) (aK t? .Add)) (b2 (c (.str (S "m"))) (b2 (b2 (v 2) (c (.int 1)) (aK t? .Sub)) (v 3) (aK t? .Sub)) (aK t? .Mult)) (aK t? .Add))])
def fj:Fn:=run 1 3 (ab [asg (.one 1) (ae aJ [v 0,lst t? [c (.int 25),c (.int 2),c (.int 4),c (.int 2),c (.int 4)]]),asg (.one 2) (lst t? [tup [ae bw [vi 1 0,c (.int 0)],vi 1 1,c (.bl f?)],tup [ae bw [vi 1 0,c (.int 1)],b2 (tup [c (.int 0),c (.int 1),c (.int 2),c (.int 4)]) (vi 1 2) ix,c (.bl f?)]]),asg (.one 2) (b2 (v 2) (lst t? [tup [ae bw [vi 1 0,c (.int 2)],c (.int 2),c (.bl t?)],tup [ae bw [vi 1 0,c (.int 3)],vi 1 3,c (.bl t?)]]) (aK t? .Add)),ret (b2 (sl t? (v 2) (s? (vi 1 4)) n?) (sl t? (v 2) n? (s? (vi 1 4))) (aK t? .Add))])
def aP:Fn:=run 3 6 (ab [asg (.one 3) (b2 (v 0) (b2 (v 1) (ae aU [v 0]) (aK t? .Mod)) ix),asg (.one 1) (b2 (v 1) (ae aU [v 0]) (aK t? .FloorDiv)),asg (.one 4) (lst f? []),aL (yX (c (.int 0)) (vi 3 1)) (.one 5) (ab [di (aF (ar) (v 4) [b2 (v 2) (b2 (v 1) (ae aU [v 2]) (aK t? .Mod)) ix]),asg (.one 1) (b2 (v 1) (ae aU [v 2]) (aK t? .FloorDiv))]),ret (tup [vi 3 0,ae m8 [v 4]])])
def dy:Fn:=run 3 8 (ab [asg (.one 3) (comp t? (src (v 0)) [n?,n?] (.one 1) (df (tv (vi 1 2))) (v 1)),asg (.one 4) (ae aJ [v 1,lst t? [c (.int 3),c (.int 3),c (.int 512),c (.int 512)]]),asg (.one 5) (ae aJ [b2 (b2 (b2 (v 1) (c (.int 2147483629)) (aK t? .Mod)) (c (.int 69621)) (aK t? .Mult)) (c (.int 2147483629)) (aK t? .Mod),lst t? [c (.int 1024),c (.int 1024)]]),asg (.one 6) (sl t? (lst t? [ae aP [v 3,vi 4 2,v 2],ae aP [v 3,vi 4 3,v 2]]) n? (s? (vi 4 0))),asg (.one 7) (sl t? (lst t? [ae aP [v 0,vi 5 0,v 2],ae aP [v 0,vi 5 1,v 2]]) n? (s? (vi 4 1))),iff (tv (b2 (b2 (ae aU [v 6]) (ae aU [v 7]) (aK t? .Add)) (c (.int 0)) (cmp .Eq))) (ab [asg (.one 7) (lst t? [ae aP [v 0,vi 5 0,v 2]])]) (ab []),ret (tup [v 6,v 7])])
def fm:Fn:=run 2 4 (ab [asg (.one 2) (ae aJ [v 1,lst t? [c (.int 3),c (.int 5),c (.int 5),c (.int 5),c (.int 5),c (.int 5)]]),asg (.one 3) (lst f? [tup [c (.str (S "same")),b2 (v 0) (b2 (vi 2 1) (ae aU [v 0]) (aK t? .Mod)) ix,b2 (v 0) (b2 (vi 2 2) (ae aU [v 0]) (aK t? .Mod)) ix]]),iff (tv (b2 (vi 2 0) (c (.int 2)) (cmp .Lt))) (ab [asg (.one 3) (sl f? (lst f? [tup [c (.str (S "unlike")),b2 (vi 3 0) (c (.int 1)) ix,b2 (vi 3 0) (c (.int 2)) ix]]) n? (s? (vi 2 0)))]) (ab []),iff (tv (b2 (vi 2 3) (c (.int 2)) (cmp .Lt))) (ab [di (aF (ar) (v 3) [tup [b2 (tup [c (.str (S "same")),c (.str (S "unlike"))]) (vi 2 3) ix,b2 (v 0) (b2 (vi 2 4) (ae aU [v 0]) (aK t? .Mod)) ix,b2 (v 0) (b2 (vi 2 5) (ae aU [v 0]) (aK t? .Mod)) ix]])]) (ab []),ret (v 3)])
def cE:Fn:=run 1 4 (ab [asg (.one 1) (lst f? []),aL (src (v 0)) (.one 2) (ab [aL (src (vi 2 1)) (.one 3) (ab [iff (jO [tv (b2 (vi 3 0) (c (.str (S "N"))) (cmp .Eq)),tv (b2 (v 3) (v 1) (cmp .NotIn))]) (ab [di (aF (ar) (v 1) [v 3])]) (ab [])])]),ret (v 1)])
def gq:Fn:=run 5 11 (ab [asg (.one 5) (ae dy [v 0,v 1,v 3]),asg (.one 6) (b2 (ae cE [b2 (vi 5 0) (vi 5 1) (aK t? .Add)]) (v 4) (aK t? .Add)),iff (tv (b2 (ae aU [vi 5 0]) (c (.int 0)) (cmp .Eq))) (ab [asg (.one 0) (comp t? (src (v 0)) [n?,n?] (.one 1) (tv (vi 1 2)) (v 1))]) (ab []),asg (.one 7) (ae aJ [v 2,lst t? [c (.int 3),c (.int 2500),c (.int 2500)]]),asg (.one 8) (sl t? (lst t? [ae aP [v 0,vi 7 1,v 6],ae aP [v 0,vi 7 2,v 6]]) n? (s? (vi 7 0))),asg (.one 9) (ae fm [v 6,b2 (b2 (b2 (v 2) (c (.int 2147483629)) (aK t? .Mod)) (c (.int 69621)) (aK t? .Mult)) (c (.int 2147483629)) (aK t? .Mod)]),asg (.one 7) (ae aJ [b2 (b2 (b2 (v 2) (c (.int 2147483629)) (aK t? .Mod)) (c (.int 40692)) (aK t? .Mult)) (c (.int 2147483629)) (aK t? .Mod),lst t? [c (.int 2),c (.int 5),c (.int 5),c (.int 3),c (.int 5),c (.int 5)]]),asg (.one 10) (sl f? (lst f? [tup [b2 (v 6) (b2 (vi 7 1) (ae aU [v 6]) (aK t? .Mod)) ix,b2 (v 6) (b2 (vi 7 2) (ae aU [v 6]) (aK t? .Mod)) ix]]) n? (s? (vi 7 0))),iff (tv (b2 (vi 7 3) (c (.int 1)) (cmp .Eq))) (ab [di (aF (ar) (v 10) [tup [b2 (v 6) (b2 (vi 7 4) (ae aU [v 6]) (aK t? .Mod)) ix,b2 (v 6) (b2 (vi 7 5) (ae aU [v 6]) (aK t? .Mod)) ix]])]) (ab []),ret (tup [vi 5 0,vi 5 1,v 9,v 8,v 10])])
def gu:Fn:=run 1 9 (ab [asg (.one 1) (ae fj [ae bH [v 0,c (.int 0)]]),asg (.one 2) (b2 (ae bH [v 0,c (.int 1)]) (c (.int 25)) (aK t? .Mod)),asg (.one 3) (comp t? (yX (c (.int 0)) (c (.int 4))) [n?,n?,s? 2] (.one 1) yes (b2 (c (.str (S "N"))) (ae bw [v 2,v 1]) (aK t? .Add))),asg (.one 4) (lst t? [ae bw [v 2,c (.int 4)],ae bw [v 2,c (.int 5)]]),asg (.one 5) (lst f? []),aL (src (tup [c (.int 2),c (.int 4)])) (.one 6) (ab [asg (.one 7) (ae bH [v 0,v 6]),asg (.one 8) (ae bH [v 0,b2 (v 6) (c (.int 1)) (aK t? .Add)]),di (aF (ar) (v 5) [ae gq [v 1,v 7,v 8,b2 (sl t? (v 3) n? (s? (c (.int 3)))) (sl t? (v 4) n? (s? (c (.int 1)))) (aK t? .Add),v 4]])]),ret (tup [v 1,v 3,v 4,v 5])])
def fJ:Fn:=run 2 2 (ab [ret (tup [vi 0 0,ae m8 [comp t? (src (vi 0 1)) [n?,n?,s? 1] (.one 1) yes (aF (cR) (v 2) [v 1,v 1])]])])
def dQ:Fn:=run 2 2 (ab [ret (aF (cR) (v 1) [v 0,v 0])])
def fo:Fn:=run 2 4 (ab [asg (.one 2) (ae dQ [vi 0 1,v 1]),asg (.one 3) (ae dQ [vi 0 2,v 1]),iff (tv (b2 (vi 0 0) (c (.str (S "same"))) (cmp .Eq))) (ab [ret (b2 (v 2) (v 3) (cmp .Eq))]) (ab []),ret (om [b2 (vi 2 0) (c (.str (S "N"))) (cmp .NotEq),b2 (vi 3 0) (c (.str (S "N"))) (cmp .NotEq),b2 (v 2) (v 3) (cmp .NotEq)])])
def eM:Fn:=run 4 9 (ab [asg (.one 4) (comp t? (src (v 0)) [n?,n?] (.one 1) (tv (vi 1 2)) (vi 1 0)),asg (.one 6) (comp t? (src (b2 (vi 2 0) (vi 2 1) (aK t? .Add))) [n?,n?,s? 3] (.one 1) yes (ae fJ [v 1,v 2])),aL (src (v 6)) (.one 5) (ab [iff (jO [tv (b2 (vi 5 0) (v 4) (cmp .In)),tv (b2 (v 5) (vi 1 1) (cmp .NotIn))]) (ab [ret (c (.bl f?))]) (ab []),iff (jO [tv (b2 (vi 5 0) (v 4) (cmp .NotIn)),tv (b2 (aF (jB) (vi 1 0) [v 5]) (aF (jB) (v 6) [v 5]) (cmp .Lt))]) (ab [ret (c (.bl f?))]) (ab [])]),aL (src (vi 2 2)) (.one 7) (ab [iff (df (tv (ae fo [v 7,v 3]))) (ab [ret (c (.bl f?))]) (ab [])]),iff (pB [tv (vi 1 3),tv (b2 (ae aU [vi 2 0]) (c (.int 0)) (cmp .Gt))]) (ab [ret (sy (vi 1 3))]) (ab []),asg (.one 8) (comp t? (src (vi 2 3)) [n?,n?,s? 1,s? 3] (.one 1) (tv (b2 (ae fJ [v 1,v 3]) (vi 2 1) (cmp .NotIn))) (v 1)),asg (.one 8) (b2 (v 8) (comp t? (src (vi 2 4)) [n?,n?,s? 3] (.one 1) (tv (b2 (ae dQ [vi 1 0,v 2]) (ae dQ [vi 1 1,v 2]) (cmp .NotEq))) (v 1)) (aK t? .Add)),ret (b2 (ae aU [v 8]) (c (.int 0)) (cmp .Gt))])
def gx:Fn:=run 2 7 (ab [asg (.one 2) (lst t? [tup []]),aL (yX (c (.int 0)) (v 1)) (.one 3) (ab [asg (.one 4) (lst f? []),aL (src (v 2)) (.one 5) (ab [aL (src (v 0)) (.one 6) (ab [di (aF (ar) (v 4) [b2 (v 5) (tup [v 6]) (aK t? .Add)])])]),asg (.one 2) (v 4)]),ret (v 2)])
def iC:Fn:=run 4 9 (ab [asg (.one 4) (lst f? []),aL (CI (v 2)) (.many [5,6]) (ab [asg (.one 7) (ae cE [b2 (vi 6 0) (vi 6 1) (aK t? .Add)]),aL (src (ae gx [v 3,ae aU [v 7]])) (.one 8) (ab [iff (tv (ae eM [v 0,v 1,v 6,ae jQ [v 7,ae (bG t?) [v 8]]])) (ab [di (aF (ar) (v 4) [tup [v 5,v 8]])]) (ab [])])]),ret (ae (iM t?) [v 4])])
def cV:Fn:=pM 2 2 (ab [ret (comp f? (src (b2 (vi 0 0) (vi 0 1) (aK t? .Add))) [n?,n?,s? 1] (.one 1) yes (ae fJ [v 1,v 2]))])
def eO:Fn:=run 3 7 (ab [asg (.one 3) (comp t? (src (v 0)) [n?,n?] (.one 1) (tv (vi 1 2)) (vi 1 0)),asg (.one 4) (lst f? []),aL (src (v 1)) (.one 5) (ab [iff (jO [tv (b2 (vi 5 0) (v 3) (cmp .In)),tv (b2 (v 5) (v 4) (cmp .NotIn))]) (ab [di (aF (ar) (v 4) [v 5])]) (ab [])]),asg (.one 6) (ae (iM t?) [comp t? (src (v 1)) [n?,n?,s? 3] (.one 1) (tv (b2 (vi 1 0) (v 2) (cmp .NotIn))) (v 1)]),ret (tup [ae m8 [v 6],ae m8 [ae (iM t?) [v 4]],ae m8 [ae (iM t?) [v 2]],c (.bl f?)])])
def gy:Fn:=run 2 2 (ab [ret (lst t? [tup [vi 0 1,vi 0 1],tup [vi 0 2,vi 0 2],tup [vi 0 3,vi 1 0]])])
def cx:Fn:=run 1 1 (ab [iff (tv (b2 (ae aU [vi 0 1]) (c (.int 0)) (cmp .Eq))) (ab [ret (vi 0 0)]) (ab []),ret (b2 (b2 (b2 (vi 0 0) (c (.str (S "("))) (aK t? .Add)) (aF (mv) (c (.str (S ","))) [ae (bG t?) [vi 0 1]]) (aK t? .Add)) (c (.str (S ")"))) (aK t? .Add))])
def aM:Fn:=run 2 2 (ab [iff (tv (b2 (ae aU [v 1]) (c (.int 0)) (cmp .Eq))) (ab [ret (lst t? [])]) (ab []),ret (lst t? [b2 (b2 (v 0) (c (.str (S " "))) (aK t? .Add)) (aF (mv) (c (.str (S ", "))) [v 1]) (aK t? .Add)])])
def gz:Fn:=run 2 8 (ab [asg (.one 2) (lst f? []),aL (src (v 0)) (.one 3) (ab [asg (.one 4) (c (.str (S "passing "))),iff (tv (vi 3 2)) (ab [asg (.one 4) (c (.str (S "lasting ")))]) (ab []),di (aF (ar) (v 2) [b2 (b2 (b2 (v 4) (vi 3 0) (aK t? .Add)) (c (.str (S " "))) (aK t? .Add)) (ae uI [vi 3 1]) (aK t? .Add)])]),aL (CI (v 1)) (.many [5,6]) (ab [asg (.one 7) (ae aM [c (.str (S "take")),comp t? (src (vi 6 0)) [n?,n?] (.one 1) yes (ae cx [v 1])]),asg (.one 7) (b2 (v 7) (ae aM [c (.str (S "keep")),comp t? (src (vi 6 1)) [n?,n?] (.one 1) yes (ae cx [v 1])]) (aK t? .Add)),asg (.one 7) (b2 (v 7) (ae aM [c (.str (S "look")),comp t? (src (vi 6 2)) [n?,n?] (.one 1) yes (b2 (b2 (b2 (b2 (vi 1 1) (c (.str (S " "))) (aK t? .Add)) (vi 1 0) (aK t? .Add)) (c (.str (S " "))) (aK t? .Add)) (vi 1 2) (aK t? .Add))]) (aK t? .Add)),asg (.one 7) (b2 (v 7) (ae aM [c (.str (S "put")),comp t? (src (vi 6 3)) [n?,n?] (.one 1) yes (ae cx [v 1])]) (aK t? .Add)),asg (.one 7) (b2 (v 7) (ae aM [c (.str (S "tell")),comp t? (src (vi 6 4)) [n?,n?] (.one 1) yes (b2 (b2 (vi 1 0) (c (.str (S " = "))) (aK t? .Add)) (vi 1 1) (aK t? .Add))]) (aK t? .Add)),di (aF (ar) (v 2) [b2 (b2 (b2 (c (.str (S "rule r"))) (ae uI [v 5]) (aK t? .Add)) (c (.str (S ": "))) (aK t? .Add)) (aF (mv) (c (.str (S "; "))) [v 7]) (aK t? .Add)])]),ret (aF (mv) (c (.str (S "\n"))) [v 2])])
def dY:Fn:=run 3 4 (ab [asg (.one 3) (ae cE [b2 (vi 0 0) (vi 0 1) (aK t? .Add)]),ret (ae jQ [v 3,comp t? (src (sl t? (v 1) n? (s? (ae aU [v 3])))) [n?,n?,s? 2] (.one 1) yes (b2 (v 2) (v 1) ix)])])
def aQ:Fn:=run 1 1 (ab [ret (b2 (vi 0 0) (c lF) (cmp .In))])
def fq:Fn:=run 1 4 (ab [asg (.one 1) (ku f?),aL (src (v 0)) (.one 2) (ab [aL (src (vi 2 1)) (.one 3) (ab [iff (tv (ae aQ [v 3])) (ab [nK (v 1) (v 3) (c (.bl t?))]) (ab [])])]),ret (ae (bG t?) [v 1])])
def jj:Fn:=run 3 3 (ab [cQ (v 0) "title" (v 1),cQ (v 0) "taken" (aF (cR) (v 2) [c (.str (S "take")),lst t? []]),cQ (v 0) "kept" (aF (cR) (v 2) [c (.str (S "keep")),lst t? []]),cQ (v 0) "looks" (aF (cR) (v 2) [c (.str (S "look")),lst t? []]),cQ (v 0) "given" (aF (cR) (v 2) [c (.str (S "put")),lst t? []]),cQ (v 0) "told" (aF (cR) (v 2) [c (.str (S "tell")),lst t? []]),cQ (v 0) "names" (ae fq [b2 (b1 (v 0) (fld "taken")) (b1 (v 0) (fld "kept")) (aK t? .Add)])])
def vF:Fn:=make "Rule" jj
def cy:Fn:=run 1 1 (ab [ret (Cw [b2 (v 0) (c lE) (cmp .In),b2 (v 0) (c lF) (cmp .In),b2 (v 0) (c mE) (cmp .In)])])
def iD:Fn:=run 2 3 (ab [asg (.one 2) (v 1),sk (jO [tv (b2 (v 2) (ae aU [v 0]) (cmp .Lt)),tv (ae cy [b2 (v 0) (v 2) ix])]) (ab [aug .Add 2 (c (.int 1))]) lim,ret (v 2)])
def lG:Fn:=run 2 6 (ab [asg (.one 2) (lst f? []),asg (.one 3) (c (.int 0)),sk (tv (b2 (v 3) (ae aU [v 0]) (cmp .Lt))) (ab [asg (.one 4) (ae iD [v 0,v 3]),iff (tv (b2 (v 4) (v 3) (cmp .Gt))) (ab [di (aF (ar) (v 2) [sl t? (v 0) (s? (v 3)) (s? (v 4))]),asg (.one 3) (v 4),cnt]) (ab []),asg (.one 5) (b2 (v 0) (v 3) ix),iff (tv (b2 (v 5) (v 1) (cmp .In))) (ab [di (aF (ar) (v 2) [v 5])]) (ab [iff (tv (b2 (v 5) (c (.str (S " "))) (cmp .NotEq))) (ab [iU]) (ab [])]),aug .Add 3 (c (.int 1))]) lim,ret (v 2)])
def dZ:Fn:=run 1 1 (ab [ret (ae lG [v 0,c iA])])
def dR:Fn:=run 1 1 (ab [ret (om [xJ .LtE .LtE (c (.int 1)) (ae aU [v 0]) (c mF),ae nL [comp t? (src (v 0)) [n?,n?] (.one 1) yes (ae cy [v 1])]])])
def bF:Fn:=run 1 1 (ab [ret (om [ae dR [v 0],b2 (vi 0 0) (c lE) (cmp .In)])])
def gA:Fn:=run 1 1 (ab [iff (pB [tv (b2 (ae aU [v 0]) (c (.int 3)) (cmp .NotEq)),tv (b2 (vi 0 0) (c iB) (cmp .NotIn))]) (ab [iU]) (ab []),iff (df (tv (ae bF [vi 0 1]))) (ab [iU]) (ab []),iff (tv (b2 (vi 0 2) (c oK) (cmp .NotIn))) (ab [iU]) (ab []),ret (tup [vi 0 1,ae xM [vi 0 2],b2 (vi 0 0) (c (.str (S "lasting"))) (cmp .Eq)])])
def fX:Fn:=run 2 4 (ab [asg (.one 2) (lst f? [lst f? []]),aL (src (v 0)) (.one 3) (ab [iff (tv (b2 (v 3) (v 1) (cmp .Eq))) (ab [di (aF (ar) (v 2) [lst f? []])]) (ab [di (aF (ar) (b2 (v 2) (b1 (c (.int 1)) neg) ix) [v 3])])]),ret (v 2)])
def aH:Fn:=run 2 2 (ab [iff (tv (b2 (v 1) (ae aU [v 0]) (cmp .Lt))) (ab [ret (b2 (v 0) (v 1) ix)]) (ab []),ret (c (.str (S "")))])
def da:Fn:=run 3 3 (ab [cQ (v 0) "left" (v 1),cQ (v 0) "right" (v 2)])
def Bg:Fn:=make "Same" da
def tS:Fn:=make "Unlike" da
def bJ:Fn:=run 1 1 (ab [iff (pB [tv (b2 (ae aU [v 0]) (c (.int 3)) (cmp .NotEq)),df (tv (ae dR [vi 0 0])),df (tv (ae dR [vi 0 2]))]) (ab [iU]) (ab [])])
def gC:Fn:=run 1 1 (ab [di (ae bJ [v 0]),iff (tv (b2 (vi 0 1) (c (.str (S "same"))) (cmp .Eq))) (ab [ret (ae Bg [vi 0 0,vi 0 2])]) (ab []),iff (tv (b2 (vi 0 1) (c (.str (S "unlike"))) (cmp .Eq))) (ab [ret (ae tS [vi 0 0,vi 0 2])]) (ab []),iU])
def dz:Fn:=run 1 1 (ab [ret (comp t? (src (ae fX [v 0,c (.str (S ","))])) [n?,n?] (.one 1) yes (ae gC [v 1]))])
def gE:Fn:=run 1 1 (ab [di (ae bJ [v 0]),iff (tv (b2 (vi 0 1) (c (.str (S "="))) (cmp .NotEq))) (ab [iU]) (ab []),ret (tup [vi 0 0,vi 0 2])])
def dA:Fn:=run 1 1 (ab [ret (comp t? (src (ae fX [v 0,c (.str (S ","))])) [n?,n?] (.one 1) yes (ae gE [v 1]))])
def dB:Fn:=run 2 5 (ab [asg (.one 2) (lst f? []),iff (tv (b2 (ae aH [v 0,v 1]) (c (.str (S ")"))) (cmp .Eq))) (ab [ret (tup [tup [],b2 (v 1) (c (.int 1)) (aK t? .Add)])]) (ab []),sk (tv (c (.bl t?))) (ab [asg (.one 3) (ae aH [v 0,v 1]),iff (df (tv (ae dR [v 3]))) (ab [iU]) (ab []),di (aF (ar) (v 2) [v 3]),asg (.one 4) (ae aH [v 0,b2 (v 1) (c (.int 1)) (aK t? .Add)]),aug .Add 1 (c (.int 2)),iff (tv (b2 (v 4) (c (.str (S ")"))) (cmp .Eq))) (ab [ret (tup [ae m8 [v 2],v 1])]) (ab []),iff (tv (b2 (v 4) (c (.str (S ","))) (cmp .NotEq))) (ab [iU]) (ab [])]) lim])
def jF:Fn:=run 2 4 (ab [asg (.one 2) (ae aH [v 0,v 1]),iff (df (tv (ae bF [v 2]))) (ab [iU]) (ab []),iff (tv (b2 (ae aH [v 0,b2 (v 1) (c (.int 1)) (aK t? .Add)]) (c (.str (S "("))) (cmp .NotEq))) (ab [ret (tup [tup [v 2,tup []],b2 (v 1) (c (.int 1)) (aK t? .Add)])]) (ab []),asg (.one 3) (ae dB [v 0,b2 (v 1) (c (.int 2)) (aK t? .Add)]),ret (tup [tup [v 2,vi 3 0],vi 3 1])])
def dC:Fn:=run 1 4 (ab [asg (.one 1) (lst f? []),asg (.one 2) (c (.int 0)),sk (tv (c (.bl t?))) (ab [asg (.one 3) (ae jF [v 0,v 2]),di (aF (ar) (v 1) [vi 3 0]),asg (.one 2) (vi 3 1),iff (tv (b2 (v 2) (ae aU [v 0]) (cmp .Eq))) (ab [ret (v 1)]) (ab []),iff (tv (b2 (b2 (v 0) (v 2) ix) (c (.str (S ","))) (cmp .NotEq))) (ab [iU]) (ab []),aug .Add 2 (c (.int 1))]) lim])
def cz:Fn:=run 2 2 (ab [iff (tv (b2 (v 0) (c (.str (S "look"))) (cmp .Eq))) (ab [ret (ae dz [v 1])]) (ab []),iff (tv (b2 (v 0) (c (.str (S "tell"))) (cmp .Eq))) (ab [ret (ae dA [v 1])]) (ab []),ret (ae dC [v 1])])
def gF:Fn:=run 1 6 (ab [asg (.one 1) (ae aH [v 0,c (.int 1)]),iff (pB [tv (b2 (ae aH [v 0,c (.int 0)]) (c c7) wU),df (tv (ae bF [v 1])),tv (b2 (ae aH [v 0,c (.int 2)]) (c (.str (S ":"))) (cmp .NotEq))]) (ab [iU]) (ab []),asg (.one 2) (ku f?),asg (.one 3) (c (.int 0)),aL (src (ae fX [sl t? (v 0) (s? (c (.int 3))) n?,c (.str (S ";"))])) (.one 4) (ab [asg (.one 5) (ae aH [v 4,c (.int 0)]),iff (tv (b2 (v 5) (sl t? (c bU) (s? (v 3)) n?) (cmp .NotIn))) (ab [iU]) (ab []),asg (.one 3) (b2 (aF (qW) (c bU) [v 5]) (c (.int 1)) (aK t? .Add)),nK (v 2) (v 5) (ae cz [v 5,sl t? (v 4) (s? (c (.int 1))) n?])]),iff (jO [tv (b2 (c (.str (S "take"))) (v 2) (cmp .NotIn)),tv (b2 (c (.str (S "keep"))) (v 2) (cmp .NotIn))]) (ab [iU]) (ab []),ret (tup [v 1,v 2])])
def de:Fn:=run 3 6 (ab [asg (.one 3) (ae dZ [v 2]),iff (tv (b2 (vi 3 0) (c c7) (cmp .Eq))) (ab [asg (.one 4) (ae gF [v 3]),iff (tv (b2 (vi 4 0) (comp t? (src (v 1)) [n?,n?] (.one 1) yes (b1 (v 1) (fld "title"))) (cmp .In))) (ab [iU]) (ab []),di (aF (ar) (v 1) [ae vF [vi 4 0,vi 4 1]])]) (ab [asg (.one 5) (ae gA [v 3]),iff (tv (b2 (vi 5 0) (comp t? (src (v 0)) [n?,n?] (.one 1) yes (vi 1 0)) (cmp .In))) (ab [iU]) (ab []),di (aF (ar) (v 0) [v 5])])])
def jG:Fn:=run 1 2 (ab [asg (.one 1) (aF (nA) (v 0) [c (.str (S " "))]),ret (om [b2 (v 1) (c (.str (S ""))) (cmp .NotEq),b2 (vi 1 0) (c (.str (S "#"))) (cmp .NotEq)])])
def fu:Fn:=run 1 1 (ab [ret (comp t? (src (aF (nz t?) (v 0) [c (.str (S "\n"))])) [n?,n?] (.one 1) (tv (ae jG [v 1])) (v 1))])
def jk:Fn:=run 3 3 (ab [cQ (v 0) "kinds" (v 1),cQ (v 0) "rules" (v 2)])
def vG:Fn:=make "Book" jk
def bV:Fn:=run 1 1 (ab [ret (b2 (ae aU [b1 (v 0) (fld "taken")]) (c (.int 0)) (cmp .Eq))])
def dD:Fn:=run 2 3 (ab [iff (df (tv (aN "calls" (λy=>([("Rule",bV)]:List (Str × Fn)).lookup y) (v 1) []))) (ab [ret (c .aY)]) (ab []),aL (src (b1 (v 1) (fld "given"))) (.one 2) (ab [iff (tv (b2 (vi 2 0) (v 0) (cmp .NotIn))) (ab [iU]) (ab [])])])
def d6:Fn:=run 2 4 (ab [asg (.one 2) (ae iK [comp t? (src (v 0)) [n?,n?] (.one 1) yes (tup [vi 1 0,vi 1 1])]),aL (src (v 1)) (.one 3) (ab [iff (tv (b2 (vi 3 0) (v 2) (cmp .NotIn))) (ab [iU]) (ab []),iff (tv (b2 (ae aU [vi 3 1]) (b2 (v 2) (vi 3 0) ix) (cmp .NotEq))) (ab [iU]) (ab [])])])
def fv:Fn:=run 1 5 (ab [asg (.one 1) (lst f? []),aL (src (b1 (v 0) (fld "looks"))) (.one 2) (ab [di (aF (eH) (v 1) [lst t? [b1 (v 2) (fld "left"),b1 (v 2) (fld "right")]])]),aL (src (b1 (v 0) (fld "given"))) (.one 3) (ab [di (aF (eH) (v 1) [vi 3 1])]),aL (src (b1 (v 0) (fld "told"))) (.one 4) (ab [di (aF (eH) (v 1) [v 4])]),ret (v 1)])
def d7:Fn:=run 1 2 (ab [aL (src (ae fv [v 0])) (.one 1) (ab [iff (jO [tv (ae aQ [v 1]),tv (b2 (v 1) (b1 (v 0) (fld "names")) (cmp .NotIn))]) (ab [iU]) (ab [])])])
def cU:Fn:=run 2 3 (ab [aL (src (v 1)) (.one 2) (ab [iff (tv (b2 (vi 2 0) (v 0) (cmp .In))) (ab [iU]) (ab [])])])
def fy:Fn:=run 2 4 (ab [asg (.one 2) (comp t? (src (v 0)) [n?,n?] (.one 1) (tv (vi 1 2)) (vi 1 0)),aL (src (v 1)) (.one 3) (ab [di (ae d6 [v 0,b2 (b2 (b1 (v 3) (fld "taken")) (b1 (v 3) (fld "kept")) (aK t? .Add)) (b1 (v 3) (fld "given")) (aK t? .Add)]),di (ae cU [v 2,b1 (v 3) (fld "taken")]),di (ae dD [v 2,v 3]),di (ae d7 [v 3])]),ret (ae vG [v 0,v 1])])
def gG:Fn:=run 1 4 (ab [asg (.one 1) (lst f? []),asg (.one 2) (lst f? []),aL (src (ae fu [v 0])) (.one 3) (ab [di (ae de [v 1,v 2,v 3])]),ret (ae fy [v 1,v 2])])
def dS:Fn:=run 1 1 (ab [ret (tup [v 0,b1 (c (.int 1)) neg,c (.str (S ""))])])
def oL:Fn:=run 2 3 (ab [aL (src (v 1)) (.one 2) (ab [iff (tv (ae aQ [v 2])) (ab [di (aF (bT) (v 0) [v 2,v 2])]) (ab [])])])
def bW:Fn:=run 2 2 (ab [ret (Cw [sy (ae aQ [v 1]),b2 (ae aU [comp t? (src (v 0)) [n?,n?,s? 1] (.one 1) (tv (b2 (v 2) (v 1) (cmp .In))) (v 1)]) (c (.int 1)) (cmp .Eq)])])
def d8:Fn:=run 1 2 (ab [asg (.one 1) (b2 (comp t? (src (b1 (v 0) (fld "heads"))) [n?,n?] (.one 1) yes (vi 1 1)) (comp t? (src (b1 (v 0) (fld "looks"))) [n?,n?] (.one 1) yes (vi 1 1)) (aK t? .Add)),iff (tv (b1 (v 0) (fld "calls_in"))) (ab [asg (.one 1) (b2 (b2 (v 1) (comp t? (src (b1 (v 0) (fld "given"))) [n?,n?] (.one 1) yes (vi 1 1)) (aK t? .Add)) (b1 (v 0) (fld "told")) (aK t? .Add))]) (ab []),ret (comp t? (src (b1 (v 0) (fld "heads"))) [n?,n?,s? 1] (.one 1) (tv (ae nL [comp t? (src (vi 1 1)) [n?,n?,s? 2] (.one 1) yes (ae bW [v 2,v 1])])) (v 1))])
def cA:Fn:=run 2 2 (ab [ret (tup [aF (cR) (v 0) [vi 1 0,vi 1 0],aF (cR) (v 0) [vi 1 1,vi 1 1]])])
def lH:Fn:=run 2 2 (ab [iff (df (tv (ae aQ [v 0]))) (ab [ret (v 0)]) (ab []),iff (df (tv (ae aQ [v 1]))) (ab [ret (v 1)]) (ab []),ret (ae yY [v 0,v 1])])
def gH:Fn:=run 3 7 (ab [asg (.one 3) (aF (cR) (v 0) [v 1,v 1]),asg (.one 4) (aF (cR) (v 0) [v 2,v 2]),iff (tv (b2 (v 3) (v 4) (cmp .Eq))) (ab [ret (c (.bl t?))]) (ab []),iff (jO [df (tv (ae aQ [v 3])),df (tv (ae aQ [v 4]))]) (ab [ret (c (.bl f?))]) (ab []),asg (.one 5) (ae lH [v 3,v 4]),aL (src (ae (bG t?) [v 0])) (.one 6) (ab [iff (tv (b2 (b2 (v 0) (v 6) ix) (tup [v 3,v 4]) (cmp .In))) (ab [nK (v 0) (v 6) (v 5)]) (ab [])]),ret (c (.bl t?))])
def cF:Fn:=run 2 2 (ab [ret (tup [vi 1 0,ae m8 [comp t? (src (vi 1 1)) [n?,n?,s? 0] (.one 1) yes (aF (cR) (v 2) [v 1,v 1])]])])
def bO:Fn:=run 1 4 (ab [asg (.one 1) (ae (bG f?) [b1 (v 0) (fld "names")]),aL (src (b2 (b1 (v 0) (fld "heads")) (b1 (v 0) (fld "given")) (aK t? .Add))) (.one 2) (ab [di (aF (eH) (v 1) [vi 2 1])]),aL (src (b2 (b1 (v 0) (fld "told")) (comp t? (src (b1 (v 0) (fld "looks"))) [n?,n?] (.one 1) yes (vi 1 1)) (aK t? .Add))) (.one 3) (ab [di (aF (eH) (v 1) [v 3])]),ret (v 1)])
def gI:Fn:=run 1 1 (ab [ret (c (.str (S "same")))])
def d9:Fn:=run 1 1 (ab [ret (c (.str (S "unlike")))])
def fY:Fn:=runK 2 4 (ab [cQ (v 0) "calls_in" (aN "calls" (λy=>([("Rule",bV)]:List (Str × Fn)).lookup y) (v 1) []),asg (.one 2) (ku f?),di (ae oL [v 2,b1 (v 1) (fld "names")]),aL (src (b1 (v 1) (fld "looks"))) (.one 3) (ab [iff (tv (b2 (aN "word" (λy=>([("Unlike",d9),("Same",gI)]:List (Str × Fn)).lookup y) (v 3) []) (c (.str (S "same"))) (cmp .Eq))) (ab [di (ae gH [v 2,b1 (v 3) (fld "left"),b1 (v 3) (fld "right")])]) (ab [])]),cQ (v 0) "looks" (comp t? (src (b1 (v 1) (fld "looks"))) [n?,n?,s? 2] (.one 1) yes (tup [v 1,ae cA [v 2,tup [b1 (v 1) (fld "left"),b1 (v 1) (fld "right")]]])),cQ (v 0) "names" (comp t? (src (b1 (v 1) (fld "names"))) [n?,n?,s? 2] (.one 1) yes (b2 (v 2) (v 1) ix)),cQ (v 0) "heads" (comp t? (src (b2 (b1 (v 1) (fld "taken")) (b1 (v 1) (fld "kept")) (aK t? .Add))) [n?,n?,s? 2] (.one 1) yes (ae cF [v 2,v 1])),cQ (v 0) "given" (comp t? (src (b1 (v 1) (fld "given"))) [n?,n?,s? 2] (.one 1) yes (ae cF [v 2,v 1])),cQ (v 0) "told" (comp t? (src (b1 (v 1) (fld "told"))) [n?,n?,s? 2] (.one 1) yes (ae cA [v 2,v 1])),cQ (v 0) "words" (ae iK [comp t? (src (aN "said" (λy=>([("Reading",bO)]:List (Str × Fn)).lookup y) (v 0) [])) [n?,n?] (.one 1) (df (tv (ae aQ [v 1]))) (tup [v 1,v 1])]),cQ (v 0) "loose" (ae d8 [v 0]),cQ (v 0) "wanted" (ae (bG t?) [ae iK [comp t? (src (b1 (v 0) (fld "heads"))) [n?,n?] (.one 1) yes (tup [ae dS [vi 1 0],c (.bl t?)])]])])
def hV:Fn:=make "Reading" fY
def gR:Fn:=run 2 2 (ab [cQ (v 0) "readings" (comp t? (src (b1 (v 1) (fld "rules"))) [n?,n?] (.one 1) yes (ae hV [v 1]))])
def oM:Fn:=make "Player" gR
def jH:Fn:=run 1 1 (ab [ret (b2 (lst t? [ae dS [vi 0 0]]) (comp t? (CI (vi 0 1)) [n?,n?,n?,s? 0] (.many [1,2]) yes (tup [vi 3 0,v 1,v 2])) (aK t? .Add))])
def fA:Fn:=runK 2 4 (ab [aL (src (ae jH [v 1])) (.one 2) (ab [asg (.one 3) (aF (bT) (b1 (v 0) (fld "shelf")) [v 2,ku f?]),nK (v 3) (v 1) (c (.bl t?))])])
def gS:Fn:=runK 2 3 (ab [cQ (v 0) "shelf" (ku f?),cQ (v 0) "counts" (ku f?),cQ (v 0) "lasting" (ku f?),aL (src (vi 1 0)) (.one 2) (ab [nK (b1 (v 0) (fld "counts")) (v 2) (b2 (aF (cR) (b1 (v 0) (fld "counts")) [v 2,c (.int 0)]) (c (.int 1)) (aK t? .Add))]),aL (src (vi 1 1)) (.one 2) (ab [nK (b1 (v 0) (fld "lasting")) (v 2) (c (.bl t?))]),aL (src (b2 (ae (bG t?) [b1 (v 0) (fld "counts")]) (ae (bG t?) [b1 (v 0) (fld "lasting")]) (aK t? .Add))) (.one 2) (ab [di (aN "lay" (λy=>([("Layout",fA)]:List (Str × Fn)).lookup y) (v 0) [v 2])])])
def oO:Fn:=make "Layout" gS
def eB:Fn:=run 2 2 (ab [ret (ae m8 [comp t? (src (b1 (v 0) (fld "names"))) [n?,n?,s? 1] (.one 1) yes (b2 (v 2) (v 1) ix)])])
def gT:Fn:=runK 4 4 (ab [cQ (v 0) "layout" (v 1),cQ (v 0) "reading" (v 2),cQ (v 0) "most" (v 3),cQ (v 0) "found" (lst f? [])])
def oP:Fn:=oh "Search" gT
def b8:Fn:=run 3 6 (ab [asg (.one 3) (ae iK [v 0]),aL (Ai (vi 1 1) (vi 2 1)) (.many [4,5]) (ab [iff (tv (b2 (aF (bT) (v 3) [v 4,v 5]) (v 5) wU)) (ab [ret (c .aY)]) (ab [])]),ret (v 3)])
def dT:Fn:=run 2 2 (ab [ret (ae nL [comp t? (src (v 1)) [n?,n?,s? 0] (.one 1) yes (b2 (v 1) (v 2) (cmp .In))])])
def dE:Fn:=run 2 2 (ab [ret (Cw [b2 (v 1) (b1 (v 0) (fld "counts")) (cmp .In),b2 (v 1) (b1 (v 0) (fld "lasting")) (cmp .In)])])
def bY:Fn:=run 2 2 (ab [ret (aF (cR) (b1 (v 0) (fld "shelf")) [v 1,ku t?])])
def ai:Fn:=run 3 8 (ab [iff (tv (ae dT [v 1,vi 2 1])) (ab [asg (.one 3) (ae cF [v 1,v 2]),ret (N7 (tv (aN "has" (λy=>([("Layout",dE)]:List (Str × Fn)).lookup y) (b1 (v 0) (fld "layout")) [v 3])) (lst t? [v 3]) (lst t? []))]) (ab []),asg (.one 4) (aN "row" (λy=>([("Layout",bY)]:List (Str × Fn)).lookup y) (b1 (v 0) (fld "layout")) [ae dS [vi 2 0]]),aL (CI (vi 2 1)) (.many [5,6]) (ab [iff (tv (b2 (v 6) (v 1) (cmp .In))) (ab [asg (.one 7) (aN "row" (λy=>([("Layout",bY)]:List (Str × Fn)).lookup y) (b1 (v 0) (fld "layout")) [tup [vi 2 0,v 5,b2 (v 1) (v 6) ix]]),iff (tv (b2 (ae aU [v 7]) (ae aU [v 4]) (cmp .Lt))) (ab [asg (.one 4) (v 7)]) (ab [])]) (ab [])]),ret (v 4)])
def az:Fn:=run 2 5 (ab [asg (.one 2) (ku f?),aL (src (b1 (b1 (v 0) (fld "reading")) (fld "heads"))) (.one 3) (ab [asg (.one 4) (ae cF [v 1,v 3]),nK (v 2) (v 4) (b2 (aF (cR) (v 2) [v 4,c (.int 0)]) (c (.int 1)) (aK t? .Add)),iff (jO [tv (b2 (v 4) (b1 (b1 (v 0) (fld "layout")) (fld "counts")) (cmp .In)),tv (b2 (b2 (v 2) (v 4) ix) (b2 (b1 (b1 (v 0) (fld "layout")) (fld "counts")) (v 4) ix) (cmp .Gt))]) (ab [ret (c (.bl f?))]) (ab [])]),ret (c (.bl t?))])
def cG:Fn:=run 3 3 (ab [ret (b2 (v 1) (v 2) (cmp .Eq))])
def bP:Fn:=run 3 3 (ab [ret (om [sy (ae aQ [v 1]),sy (ae aQ [v 2]),b2 (v 1) (v 2) (cmp .NotEq)])])
def bt:Fn:=run 2 4 (ab [aL (src (b1 (b1 (v 0) (fld "reading")) (fld "given"))) (.one 2) (ab [iff (pB [df (tv (ae dT [v 1,vi 2 1])),tv (b2 (ae cF [v 1,v 2]) (b1 (b1 (v 0) (fld "layout")) (fld "lasting")) (cmp .NotIn))]) (ab [ret (c (.bl t?))]) (ab [])]),aL (src (b1 (b1 (v 0) (fld "reading")) (fld "told"))) (.one 3) (ab [iff (pB [df (tv (ae dT [v 1,v 3])),tv (b2 (b2 (v 1) (vi 3 0) ix) (b2 (v 1) (vi 3 1) ix) (cmp .NotEq))]) (ab [ret (c (.bl t?))]) (ab [])]),ret (c (.bl f?))])
def aw:Fn:=run 2 4 (ab [aL (src (b1 (b1 (v 0) (fld "reading")) (fld "looks"))) (.one 2) (ab [asg (.one 3) (vi 2 1),iff (jO [tv (b2 (vi 3 0) (v 1) (cmp .In)),tv (b2 (vi 3 1) (v 1) (cmp .In)),df (tv (aN "holds" (λy=>([("Unlike",bP),("Same",cG)]:List (Str × Fn)).lookup y) (vi 2 0) [b2 (v 1) (vi 3 0) ix,b2 (v 1) (vi 3 1) ix]))]) (ab [ret (c (.bl f?))]) (ab [])]),ret (Cw [sy (b1 (b1 (v 0) (fld "reading")) (fld "calls_in")),aN "may_change" (λy=>([("Search",bt)]:List (Str × Fn)).lookup y) (v 0) [v 1]])])
def au:Fn:=run 3 9 (ab [iff (tv (b2 (ae aU [v 2]) (c (.int 1)) (cmp .Eq))) (ab [ret (c (.int 0))]) (ab []),asg (.one 3) (c (.int 0)),asg (.one 4) (c .aY),aL (CI (v 2)) (.many [5,6]) (ab [asg (.one 7) (ae aU [aN "candidates" (λy=>([("Search",ai)]:List (Str × Fn)).lookup y) (v 0) [v 1,v 6]]),iff (tv (b2 (v 7) (c (.int 1)) (cmp .LtE))) (ab [ret (v 5)]) (ab []),asg (.one 8) (tup [b2 (v 6) (b1 (b1 (v 0) (fld "reading")) (fld "loose")) (cmp .In),v 7]),iff (pB [tv (b2 (v 4) (c .aY) (cmp .Is)),tv (b2 (v 8) (v 4) LJ)]) (ab [asg (.one 4) (v 8),asg (.one 3) (v 5)]) (ab [])]),ret (v 3)])
def bj:Fn:=run 3 7 (ab [iff (pB [tv (b2 (ae aU [b1 (v 0) (fld "found")]) (b1 (v 0) (fld "most")) (cmp .Eq)),df (tv (aN "hopeful" (λy=>([("Search",aw)]:List (Str × Fn)).lookup y) (v 0) [v 1]))]) (ab [ret (c .aY)]) (ab []),iff (tv (b2 (ae aU [v 2]) (c (.int 0)) (cmp .Eq))) (ab [iff (tv (aN "enough" (λy=>([("Search",az)]:List (Str × Fn)).lookup y) (v 0) [v 1])) (ab [di (aF (ar) (b1 (v 0) (fld "found")) [v 1])]) (ab []),ret (c .aY)]) (ab []),asg (.one 3) (aN "narrowest" (λy=>([("Search",au)]:List (Str × Fn)).lookup y) (v 0) [v 1,v 2]),asg (.one 4) (b2 (sl t? (v 2) n? (s? (v 3))) (sl t? (v 2) (s? (b2 (v 3) (c (.int 1)) (aK t? .Add))) n?) (aK t? .Add)),aL (src (aN "candidates" (λy=>([("Search",ai)]:List (Str × Fn)).lookup y) (v 0) [v 1,b2 (v 2) (v 3) ix])) (.one 5) (ab [asg (.one 6) (ae b8 [v 1,b2 (v 2) (v 3) ix,v 5]),iff (tv (b2 (v 6) (c .aY) (cmp .IsNot))) (ab [di no]) (ab [])])])
def bz:Fn:=run 3 7 (ab [iff (pB [tv (b2 (ae aU [b1 (v 0) (fld "found")]) (b1 (v 0) (fld "most")) (cmp .Eq)),df (tv (aN "hopeful" (λy=>([("Search",aw)]:List (Str × Fn)).lookup y) (v 0) [v 1]))]) (ab [ret (c .aY)]) (ab []),iff (tv (b2 (ae aU [v 2]) (c (.int 0)) (cmp .Eq))) (ab [iff (tv (aN "enough" (λy=>([("Search",az)]:List (Str × Fn)).lookup y) (v 0) [v 1])) (ab [di (aF (ar) (b1 (v 0) (fld "found")) [v 1])]) (ab []),ret (c .aY)]) (ab []),asg (.one 3) (aN "narrowest" (λy=>([("Search",au)]:List (Str × Fn)).lookup y) (v 0) [v 1,v 2]),asg (.one 4) (b2 (sl t? (v 2) n? (s? (v 3))) (sl t? (v 2) (s? (b2 (v 3) (c (.int 1)) (aK t? .Add))) n?) (aK t? .Add)),aL (src (aN "candidates" (λy=>([("Search",ai)]:List (Str × Fn)).lookup y) (v 0) [v 1,b2 (v 2) (v 3) ix])) (.one 5) (ab [asg (.one 6) (ae b8 [v 1,b2 (v 2) (v 3) ix,v 5]),iff (tv (b2 (v 6) (c .aY) (cmp .IsNot))) (ab [di (aN "walk" (λy=>([("Search",bj)]:List (Str × Fn)).lookup y) (v 0) [v 6,v 4])]) (ab [])])])
def bQ:Fn:=run 3 7 (ab [iff (pB [tv (b2 (ae aU [b1 (v 0) (fld "found")]) (b1 (v 0) (fld "most")) (cmp .Eq)),df (tv (aN "hopeful" (λy=>([("Search",aw)]:List (Str × Fn)).lookup y) (v 0) [v 1]))]) (ab [ret (c .aY)]) (ab []),iff (tv (b2 (ae aU [v 2]) (c (.int 0)) (cmp .Eq))) (ab [iff (tv (aN "enough" (λy=>([("Search",az)]:List (Str × Fn)).lookup y) (v 0) [v 1])) (ab [di (aF (ar) (b1 (v 0) (fld "found")) [v 1])]) (ab []),ret (c .aY)]) (ab []),asg (.one 3) (aN "narrowest" (λy=>([("Search",au)]:List (Str × Fn)).lookup y) (v 0) [v 1,v 2]),asg (.one 4) (b2 (sl t? (v 2) n? (s? (v 3))) (sl t? (v 2) (s? (b2 (v 3) (c (.int 1)) (aK t? .Add))) n?) (aK t? .Add)),aL (src (aN "candidates" (λy=>([("Search",ai)]:List (Str × Fn)).lookup y) (v 0) [v 1,b2 (v 2) (v 3) ix])) (.one 5) (ab [asg (.one 6) (ae b8 [v 1,b2 (v 2) (v 3) ix,v 5]),iff (tv (b2 (v 6) (c .aY) (cmp .IsNot))) (ab [di (aN "walk" (λy=>([("Search",bz),("Search",bj)]:List (Str × Fn)).lookup y) (v 0) [v 6,v 4])]) (ab [])])])
def cB:Fn:=run 3 7 (ab [iff (pB [tv (b2 (ae aU [b1 (v 0) (fld "found")]) (b1 (v 0) (fld "most")) (cmp .Eq)),df (tv (aN "hopeful" (λy=>([("Search",aw)]:List (Str × Fn)).lookup y) (v 0) [v 1]))]) (ab [ret (c .aY)]) (ab []),iff (tv (b2 (ae aU [v 2]) (c (.int 0)) (cmp .Eq))) (ab [iff (tv (aN "enough" (λy=>([("Search",az)]:List (Str × Fn)).lookup y) (v 0) [v 1])) (ab [di (aF (ar) (b1 (v 0) (fld "found")) [v 1])]) (ab []),ret (c .aY)]) (ab []),asg (.one 3) (aN "narrowest" (λy=>([("Search",au)]:List (Str × Fn)).lookup y) (v 0) [v 1,v 2]),asg (.one 4) (b2 (sl t? (v 2) n? (s? (v 3))) (sl t? (v 2) (s? (b2 (v 3) (c (.int 1)) (aK t? .Add))) n?) (aK t? .Add)),aL (src (aN "candidates" (λy=>([("Search",ai)]:List (Str × Fn)).lookup y) (v 0) [v 1,b2 (v 2) (v 3) ix])) (.one 5) (ab [asg (.one 6) (ae b8 [v 1,b2 (v 2) (v 3) ix,v 5]),iff (tv (b2 (v 6) (c .aY) (cmp .IsNot))) (ab [di (aN "walk" (λy=>([("Search",bQ),("Search",bz),("Search",bj)]:List (Str × Fn)).lookup y) (v 0) [v 6,v 4])]) (ab [])])])
def dG:Fn:=run 3 7 (ab [iff (pB [tv (b2 (ae aU [b1 (v 0) (fld "found")]) (b1 (v 0) (fld "most")) (cmp .Eq)),df (tv (aN "hopeful" (λy=>([("Search",aw)]:List (Str × Fn)).lookup y) (v 0) [v 1]))]) (ab [ret (c .aY)]) (ab []),iff (tv (b2 (ae aU [v 2]) (c (.int 0)) (cmp .Eq))) (ab [iff (tv (aN "enough" (λy=>([("Search",az)]:List (Str × Fn)).lookup y) (v 0) [v 1])) (ab [di (aF (ar) (b1 (v 0) (fld "found")) [v 1])]) (ab []),ret (c .aY)]) (ab []),asg (.one 3) (aN "narrowest" (λy=>([("Search",au)]:List (Str × Fn)).lookup y) (v 0) [v 1,v 2]),asg (.one 4) (b2 (sl t? (v 2) n? (s? (v 3))) (sl t? (v 2) (s? (b2 (v 3) (c (.int 1)) (aK t? .Add))) n?) (aK t? .Add)),aL (src (aN "candidates" (λy=>([("Search",ai)]:List (Str × Fn)).lookup y) (v 0) [v 1,b2 (v 2) (v 3) ix])) (.one 5) (ab [asg (.one 6) (ae b8 [v 1,b2 (v 2) (v 3) ix,v 5]),iff (tv (b2 (v 6) (c .aY) (cmp .IsNot))) (ab [di (aN "walk" (λy=>([("Search",cB),("Search",bQ),("Search",bz),("Search",bj)]:List (Str × Fn)).lookup y) (v 0) [v 6,v 4])]) (ab [])])])
def dH:Fn:=run 3 7 (ab [iff (pB [tv (b2 (ae aU [b1 (v 0) (fld "found")]) (b1 (v 0) (fld "most")) (cmp .Eq)),df (tv (aN "hopeful" (λy=>([("Search",aw)]:List (Str × Fn)).lookup y) (v 0) [v 1]))]) (ab [ret (c .aY)]) (ab []),iff (tv (b2 (ae aU [v 2]) (c (.int 0)) (cmp .Eq))) (ab [iff (tv (aN "enough" (λy=>([("Search",az)]:List (Str × Fn)).lookup y) (v 0) [v 1])) (ab [di (aF (ar) (b1 (v 0) (fld "found")) [v 1])]) (ab []),ret (c .aY)]) (ab []),asg (.one 3) (aN "narrowest" (λy=>([("Search",au)]:List (Str × Fn)).lookup y) (v 0) [v 1,v 2]),asg (.one 4) (b2 (sl t? (v 2) n? (s? (v 3))) (sl t? (v 2) (s? (b2 (v 3) (c (.int 1)) (aK t? .Add))) n?) (aK t? .Add)),aL (src (aN "candidates" (λy=>([("Search",ai)]:List (Str × Fn)).lookup y) (v 0) [v 1,b2 (v 2) (v 3) ix])) (.one 5) (ab [asg (.one 6) (ae b8 [v 1,b2 (v 2) (v 3) ix,v 5]),iff (tv (b2 (v 6) (c .aY) (cmp .IsNot))) (ab [di (aN "walk" (λy=>([("Search",dG),("Search",cB),("Search",bQ),("Search",bz),("Search",bj)]:List (Str × Fn)).lookup y) (v 0) [v 6,v 4])]) (ab [])])])
def fZ:Fn:=run 4 5 (ab [asg (.one 4) (ae oP [v 0,v 1,v 3]),iff (tv (ae nL [comp t? (src (b1 (v 1) (fld "wanted"))) [n?,n?,s? 0] (.one 1) yes (b2 (v 1) (b1 (v 2) (fld "shelf")) (cmp .In))])) (ab [di (aN "walk" (λy=>([("Search",dH),("Search",dG),("Search",cB),("Search",bQ),("Search",bz),("Search",bj)]:List (Str × Fn)).lookup y) (v 4) [v 2,b1 (v 1) (fld "heads")])]) (ab []),ret (b1 (v 4) (fld "found"))])
def bR:Fn:=pM 2 7 (ab [asg (.one 2) (lst f? []),iff (tv (vi 1 3)) (ab [ret (v 2)]) (ab []),asg (.one 3) (ae oO [v 1]),aL (CI (b1 (v 0) (fld "readings"))) (.many [4,5]) (ab [asg (.one 6) (ae fZ [v 3,v 5,b1 (v 5) (fld "words"),b1 (c (.int 1)) neg]),di (aF (eH) (v 2) [ae (iM t?) [comp t? (src (v 6)) [n?,n?,s? 4,s? 5] (.one 1) yes (tup [v 2,ae eB [v 3,v 1]])]])]),ret (v 2)])
def lJ:Fn:=pM 2 2 (ab [ret (aN "fitting" (λy=>([("Player",bR)]:List (Str × Fn)).lookup y) (ae oM [v 0]) [v 1])])
def tU:Fn:=run 1 14 (ab [asg (.many [1,2,3,4]) (ae gu [v 0]),asg (.one 5) (ae aJ [ae bH [v 0,c (.int 6)],lst t? [c (.int 2),c (.int 4),c (.int 4),c (.int 4)]]),asg (.one 6) (ae gG [ae gz [v 1,v 4]]),asg (.one 7) (b2 (v 3) (sl t? (v 2) (s? (c (.int 1))) (s? (c (.int 3)))) (aK t? .Add)),asg (.one 8) (ae cV [b2 (v 4) (vi 5 0) ix,ae dY [b2 (v 4) (vi 5 0) ix,sl t? (v 5) (s? (c (.int 1))) n?,v 7]]),aL (src (sl t? (v 0) (s? (c (.int 7))) (s? (c (.int 19))))) (.one 9) (ab [di (aF (ar) (v 8) [ae aP [v 1,b2 (ae aJ [v 9,lst t? [c (.int 1024)]]) (c (.int 0)) ix,v 7]])]),asg (.one 10) (ae eO [v 1,v 8,ae gy [v 2,v 3]]),asg (.one 11) (ae lJ [v 6,v 10]),iff (pB [df (tv (ae E8 [v 11,c (.cl (.type "list"))])),tv (b2 (v 11) (ae iC [v 1,v 10,v 4,v 7]) wU)]) (ab [ret (c (.bl f?))]) (ab []),asg (.one 12) (ae (bG t?) [v 11]),di (aF (ar) (v 11) [c (.int 3)]),di (aF (mw) (v 11) []),iff (tv (b2 (ae lJ [v 6,v 10]) (v 12) wU)) (ab [ret (c (.bl f?))]) (ab []),aL (src (v 12)) (.one 13) (ab [iff (pB [df (tv (ae E8 [v 13,c (.cl (.type "tuple"))])),df (tv (ae E8 [vi 13 1,c (.cl (.type "tuple"))])),tv (ae E8 [vi 13 0,c (.cl (.type "bool"))])]) (ab [ret (c (.bl f?))]) (ab [])]),ret (c (.bl t?))])
theorem vH(ch:Nat)(L:aa):cy [.str [ch]] L=.ok (.bl (gd ch)) L:=by
 unfold cy lE lF mE gd;show _=R.ok (T.bl (d? (ch∈S "abcdefghijklmnopqrstuvwxyz") || (d? (ch∈S "ABCDEFGHIJKLMNOPQRSTUVWXYZ") || d? (ch∈S "0123456789")))) L
 simp!;cases d? (ch∈S "abcdefghijklmnopqrstuvwxyz")<;>cases d? (ch∈S "ABCDEFGHIJKLMNOPQRSTUVWXYZ")<;>simp[AV]
def oQ(s:Cs)(hs:s.length<=100000)(L:aa):dR [.str s] L=.ok (.bl (aD s)) L:=by
 have hb:nL [.lst (s.map λch=>.bl (gd ch))] L=.ok (.bl (s.all gd)) L:=by
  have:=mapM_map (f:=N8) (g:=λch=>T.bl (gd ch)) (h:=gd) (λ_=>rfl) s;simp[nL,KD,vw,this,lift,aaN,Zh]
 unfold dR mF aD;by_cases h1:1<=s.length
 ·by_cases h2:s.length<=12
  ·simp![show(1:Int)<=s.length by omega,show(s.length:Int)<=12 by omega,h1,h2,decide_true]
   rw[aO rfl s (λch=>.str [ch]) (λch=>.bl (gd ch)) (by exact rfl) (by exact aG) (by exact VV hs ∅) (by exact λb _=>by simp![vH])];simp![hb]
  ·simp![show(1:Int)<=s.length by omega,show ¬ (s.length:Int)<=12 by omega,h1,h2,decide_true,decide_false]
 ·simp![show ¬ (1:Int)<=s.length by omega,h1,decide_false]
def qj(h:1<=s.length)(L:aa):ix (.str s) (.int 0) L=.ok (.str [s.headD 0]) L:=by
 cases s with
 |nil=>cases h
 |cons a r=>simp[ix,vw,place,lift]
def nE(s:Cs)(hs:s.length<=100000)(L:aa):bF [.str s] L=.ok (.bl (cf s)) L:=by
 unfold bF lE cf;simp![oQ s hs];cases h:aD s with
 |false=>simp!
 |true=>simp![qj (aV h).1];rfl
def dI(s:Cs)(hs:1<=s.length)(L:aa):aQ [.str s] L=.ok (.bl (great s)) L:=by
 unfold aQ lF great;simp![qj hs];rfl
def fB(ps:List Cs)(n:Nat)(L:aa):aH [.lst (ps.map .str),.int n] L=.ok (.str (ps.getD n [])) L:=by
 unfold aH;simp!;by_cases h:n<ps.length
 ·have e:(ps.map T.str)[n]?=s? (.str (ps.getD n [])):=by simp_all
  simp only[show(n:Int)<ps.length by omega,decide_true];simp![fS e]
 ·simp only[show ¬ (n:Int)<ps.length by omega,decide_false];simp!;simp_all
def iE(c:Nat)(r:Cs):dX (c::r)=if gd c=t? then dX r+1 else 0:=by
 unfold dX;rw[List.takeWhile_cons];split<;>simp
def M1(p:Cs)(s:Nat)(L:aa)(hs:s<=p.length)(hl:p.length<=100000):iD [.str p,.int s] L=.ok (.int ((s+dX (p.drop s):Nat):Int)) L:=by
 unfold iD;simp!;generalize ho:sk _ _ _ _ _=o;have h:=xi ho (λn φ L'=>L'=L/\∃e:Nat,n=p.length - e/\e<=p.length/\e+dX (p.drop e)=s+dX (p.drop s)/\φ=[s? (.str p),s? (.int s),s? (.int e)])
  (λo=>o=.nx [s? (.str p),s? (.int s),s? (.int ((s+dX (p.drop s):Nat):Int))] L) (n:=p.length - s) ⇑1 ⟨rfl,s,rfl,hs,rfl,rfl⟩ λ_ _ eJ eP n φ L' h=>by
   obtain⟨rfl,e,rfl,he,e1,rfl⟩:=h;by_cases cM:e<p.length
   ·have hd:p.drop e=p[e]::p.drop (e+1):=Wz cM
    rw[hd,iE]at e1;have hx:ix (.str p) (.int e) L'=.ok (.str [p[e]]) L':=by rw[vq ⇑0 ⇑0];simp[cM]
    cases hg:gd p[e] with
    |true=>
     rw[hg,if_pos rfl]at e1;refine .inr ⟨?_,?_⟩
     ·simp![eJ,eP,hx,vH,show(e:Int)<p.length by omega,decide_true,hg]
     ·simp![eJ,eP];grind
    |false=>
     rw[hg,if_neg ⋯]at e1;refine .inl ⟨?_,?_⟩
     ·simp![eJ,eP,hx,vH,show(e:Int)<p.length by omega,decide_true,hg]
     simp_all
   ·refine .inl ⟨?_,?_⟩
    ·simp![eJ,eP,show ¬ (e:Int)<p.length by omega,decide_false]
    ·rw[Zb ⇑0]at e1;rw[eP,<- e1];rfl
 subst h;simp!
def bK{α β:Type}(f:α->β)(l:List α)(x:α):l.map f++[f x]=(l++[x]).map f:=by simp
def kU{p:Cs}(h:a+n<=p.length)(L:aa):lV t? (.str p) (s? (a:Int)) (s? ((a+n:Nat):Int)) L=.ok (.str ((p.drop a).take n)) L:=by
 unfold lV vw;simp only[];rw[ba ⟨⇑0,⇑0,⇑0⟩,show((a:Int)).toNat=a by omega,show(((a+n:Nat):Int) - (a:Int)).toNat=n by omega]
def Bh(L:aa)(hp:p.length<=20000)(hk:Tk Jc p ts):lG [.str p,.str (S "(),:;=")] L=.ok (.lst (ts.map .str)) L:=by
 have PJ:=hk.len;unfold lG;simp!;generalize ho:sk _ _ _ _ _=o;have h:=xi ho (λn φ L'=>∃(e:Nat)(done rest:List Cs)(o4 o5:Option T),n=p.length - e/\e<=p.length/\Tk Jc (p.drop e) rest/\done++rest=ts/\φ=[s? (.str p),s? (.str (S "(),:;=")),s? (.ref L.length),s? (.int e),o4,o5]/\L'=.lst (done.map .str)::L)
  (λo=>∃o3 o4 o5,o=.nx [s? (.str p),s? (.str (S "(),:;=")),s? (.ref L.length),o3,o4,o5] (.lst (ts.map .str)::L)) (n:=p.length) ⇑1 ⟨0,[],ts,n?,n?,rfl,Wg _,hk,rfl,rfl,rfl⟩ λ_ _ eJ eP n φ L' h=>by
   obtain⟨e,done,rest,o4,o5,rfl,he,ht,rfl,rfl,rfl⟩:=h;have hlen:done.length<lim:=by
    rw[VN]at PJ;unfold lim;omega
   have ee:=M1 p e (.lst (done.map .str)::L) he ⇑0;have sg:∀{c r},p.drop e=c::r->e<p.length/\p.drop (e+1)=r/\ix (.str p) (.int e) (.lst (done.map .str)::L)=.ok (.str [c]) (.lst (done.map .str)::L):=λ{c r}hd=>by
    have cM:e<p.length:=by grind
    have h2:=(Wz cM).symm.trans hd;refine⟨cM,(XK h2).2,?_⟩;rw[vq ⇑0 ⇑0];simp[cM,(XK h2).1]
   generalize hd:p.drop e=d at ht ee;cases ht with
   |nil=>
    have:=congrArg Xg hd;rw[WG]at this;refine .inl ⟨by simp![eJ,eP,show ¬ (e:Int)<p.length by simp at this;omega,decide_false],?_⟩;simp_all
   |sp t=>
    obtain⟨cM,hr,hx⟩:=sg hd;rw[iE,Bk.AX]at ee;refine .inr ⟨by simp![eJ,eP,show(e:Int)<p.length by omega,decide_true],?_⟩;simp![eJ,eP,ee,Ws,if_false,ZY,aav,decide_false,hx,show(32∈S "(),:;=")=False from eq_false ∅];exact⟨p.length - (e+1),⇑0,e+1,done,rest,_,_,rfl,cM,hr ▸ t,rfl,rfl,rfl⟩
   | @mk c _ q hc t=>
    obtain⟨cM,hr,hx⟩:=sg hd;rw[iE,show gd c=f? from(by decide +kernel:∀c∈Jc,gd c=f?) c hc]at ee;refine .inr ⟨by simp![eJ,eP,show(e:Int)<p.length by omega,decide_true],?_⟩;simp![eJ,eP,ee,Ws,if_false,ZY,aav,decide_false,hx,show(c∈S "(),:;=")=True from eq_true hc,decide_true,ba hlen,bK];exact⟨p.length - (e+1),⇑0,e+1,done++[[c]],q,_,_,rfl,cM,hr ▸ t,⋯,rfl,rfl⟩
   | @name nm r q hn hs t=>
    have h1:=aV hn;have hl:=congrArg Xg hd
    rw[WG,VN]at hl;have en:dX (nm++r)=nm.length:=by
     unfold dX;rw[List.takeWhile_append_of_pos (Bk.FF hn)];cases r with
     |nil=>simp
     |cons c r=>simp_all
    rw[en]at ee;refine .inr ⟨by simp![eJ,eP,show(e:Int)<p.length by omega,decide_true],?_⟩;simp![eJ,eP,ee,show((e:Nat):Int)<((e+nm.length:Nat):Int) by omega,decide_true,kU (p:=p) (a:=e) (n:=nm.length) ⇑0,hd,List.take_left,ba hlen,bK];exact⟨p.length - (e+nm.length),⇑0,e+nm.length,done++[nm],q,_,_,rfl,⇑0,by rw[<- X4,hd,Zk];exact t,⋯,rfl,rfl⟩
 obtain⟨o3,o4,o5,rfl⟩:=h;simp!;exact du (af λ_ _=>rfl)
def gD{ps:List Cs}(h:ps.drop q=d):ps.getD (q+i) []=d.getD i []:=by
 grind
theorem xk:∀as:List Cs,as.length<=(between as).length
 | []=>V3 _
 | [_]=>XF _
 |_::b::t=>Nat.succ_le_succ (Xy (xk (b::t)))
def Jj(ps as:List Cs)(p:Nat)(r:List Cs)(L:aa)(hl:ps.length<=20000)(h0:as≠[])(hn:∀a∈as,aD a=t?)(hd:ps.drop p=between as++r):
  dB [.lst (ps.map .str),.int p] L=.ok (.tup [.tup (as.map .str),.int ((p+(between as).length:Nat):Int)]) L:=by
 have UB:(ps.getD p [] == [41])=f?:=by
  obtain⟨a,t,rfl⟩:=YL h0;rw[show ps.getD p []=a from(gD (i:=0) hd).trans (by cases t<;>rfl)];exact beq_eq_false_iff_ne.mpr λe=>absurd (hn a VL) (by rw[e];decide +kernel)
 have ha:as.length<lim:=by
  have z:=congrArg Xg hd;have:=xk as
  rw[WG,VN]at z;unfold lim;omega
 unfold dB;simp![fB,UB];generalize ho:sk _ _ _ _ _=o;have h:=xi ho (λm φ L'=>∃(q:Nat)(done as':List Cs)(o3 o4:Option T),m=as'.length/\as'≠[]/\ps.drop q=between as'++r/\done++as'=as/\q+(between as').length=p+(between as).length/\φ=[s? (.lst (ps.map .str)),s? (.int q),s? (.ref L.length),o3,o4]/\L'=.lst (done.map .str)::L)
  (λo=>o=.rt (.tup [.tup (as.map .str),.int ((p+(between as).length:Nat):Int)]) (.lst (as.map .str)::L)) (n:=as.length) ha ⟨p,[],as,n?,n?,rfl,h0,hd,rfl,rfl,rfl,rfl⟩ λ_ _ eJ eP m φ L' h=>by
   obtain⟨q,done,as',o3,o4,rfl,h0,hd,e1,e2,rfl,rfl⟩:=h;obtain⟨nm,t,rfl⟩:=YL h0;have hm:=hn nm (by rw[<- e1];simp)
   have CB:=fB ps q (.lst (done.map .str)::L);have Bi:=fB ps (q+1) (.lst ((done++[nm]).map .str)::L)
   rw[show ps.getD q []=nm from(gD (i:=0) hd).trans (by cases t<;>rfl)]at CB;have hb:done.length<lim:=by
    grind
   refine .inr ⟨rfl,?_⟩;cases t with
   |nil=>
    rw[show ps.getD (q+1) []=[41] from gD (i:=1) hd]at Bi;simp![eJ,eP,CB,oQ nm (VV (aV hm).2 ∅),hm,ba hb,bK,Bi];rw[e1,<- e2];rfl
   |cons b t=>
    rw[show ps.getD (q+1) []=[44] from gD (i:=1) hd]at Bi;simp![eJ,eP,CB,oQ nm (VV (aV hm).2 ∅),hm,ba hb,bK,Bi];exact⟨(b::t).length,⋯,q+2,done++[nm],b::t,_,_,rfl,Zt _ _,by rw[<- X4,hd];rfl,⇑e1,by rw[<- e2];show q+2+_=q+(_+2);omega,rfl,rfl⟩
 subst h;simp!;exact ji (by simp[lt,eR,mV])
def qk(ps:List Cs)(f:Fc)(p:Nat)(r:List Cs)(L:aa)(hl:ps.length<=20000)(hf:FG f)(hr:r.getD 0 []≠[40])(hd:ps.drop p=dm f++r):
  jF [.lst (ps.map .str),.int p] L=.ok (.tup [fT f,.int ((p+(dm f).length:Nat):Int)]) L:=by
 have CB:=fB ps p L;have Bi:=fB ps (p+1) L
 have hk:=aV (Bk.bx hf.k);unfold dm at hd;unfold jF dm;by_cases h0:f.as=[]
 ·rw[if_pos h0]at hd ⊢
  rw[show ps.getD p []=f.k from gD (i:=0) hd]at CB;rw[show ps.getD (p+1) []=r.getD 0 [] from gD (i:=1) hd]at Bi;simp![CB,nE f.k (VV hk.2 ∅),hf.k,Bi,beq_eq_false_iff_ne.mpr hr,show fT f=.tup [.str f.k,.tup []] by unfold fT;rw[h0];rfl];exact fin_same (by rfl)
 ·rw[if_neg h0]at hd ⊢
  rw[show ps.getD p []=f.k from gD (i:=0) hd]at CB;rw[show ps.getD (p+1) []=[40] from gD (i:=1) hd]at Bi;simp![CB,nE f.k (VV hk.2 ∅),hf.k,Bi,Jj ps f.as (p+2) r L hl h0 hf.as (by rw[<- X4,hd];rfl)];rw[show p+2+(between f.as).length=p+(f.k::[40]::between f.as).length by(simp;omega)];exact fin_same (by simp[fT,lt,eR,mV])
def Ep{α:Type}{m:Cs}(l:List α)(g:α->List Cs)(hg:∀x,g x≠[]):l.length<=(glue m (l.map g)).length:=by
 induction l with
 |nil=>simp
 |cons a t ih=>
  have:=YX.mpr (hg a);cases t with
  |nil=>exact this
  |cons b t=>
   show _<=(g a++m::glue m ((b::t).map g)).length;grind
def M3(fs:List Fc)(L:aa)(h0:fs≠[])(hl:(glue [44] (fs.map dm)).length<=20000)(hf:∀f∈fs,FG f):dC [.lst ((glue [44] (fs.map dm)).map .str)] L=.ok (.lst (fs.map fT)) L:=by
 generalize HK:glue [44] (fs.map dm)=ps at hl;have hn:fs.length<lim:=by
  have:=Ep (m:=[44]) fs dm λf=>by unfold dm;grind
  rw[HK]at this;unfold lim;omega
 unfold dC;simp!;generalize ho:sk _ _ _ _ _=o;have h:=xi ho (λm φ L'=>∃(q:Nat)(done rest:List Fc)(o3:Option T),m=rest.length/\rest≠[]/\ps.drop q=glue [44] (rest.map dm)/\done++rest=fs/\φ=[s? (.lst (ps.map .str)),s? (.ref L.length),s? (.int q),o3]/\L'=.lst (done.map fT)::L)
  (λo=>o=.rt (.ref L.length) (.lst (fs.map fT)::L)) (n:=fs.length) hn ⟨0,[],fs,n?,rfl,h0,HK.symm,rfl,rfl,rfl⟩ λ_ _ eJ eP m φ L' h=>by
   obtain⟨q,done,rest,o3,rfl,h0,hd,e1,rfl,rfl⟩:=h;obtain⟨f,t,rfl⟩:=YL h0;have hF:=hf f (by rw[<- e1];simp)
   have hb:done.length<lim:=by grind
   have hq:=congrArg Xg hd;rw[WG]at hq;have DH:1<=(dm f).length:=by unfold dm;split<;>simp
   refine .inr ⟨rfl,?_⟩;cases t with
   |nil=>
    have hq:ps.length - q=(dm f).length:=hq;simp![eJ,eP,qk ps f q [] _ hl hF ⋯ (by rw[hd,V8];rfl),ba hb,bK,show(((q+(dm f).length:Nat):Int)==(ps.length:Int))=t? from by simp;omega,e1]
   |cons g t=>
    have hq:ps.length - q=(dm f++[44]::glue [44] ((g::t).map dm)).length:=hq;have hd:ps.drop q=dm f++[44]::glue [44] ((g::t).map dm):=hd
    rw[VN,VS]at hq;have hr:ps.drop (q+(dm f).length)=[44]::glue [44] ((g::t).map dm):=by rw[<- X4,hd,Zk]
    have hg:(ps.map T.str)[q+(dm f).length]?=s? (.str [44]):=by
     rw[Wx,<- ZY (q+(dm f).length),<- List.getElem?_drop,hr];rfl
    simp![eJ,eP,qk ps f q _ _ hl hF ⋯ hd,ba hb,bK,show(((q+(dm f).length:Nat):Int)==(ps.length:Int))=f? from by simp;omega,fS hg];exact⟨(g::t).length,⋯,q+(dm f).length+1,done++[f],g::t,_,rfl,Zt _ _,by rw[<- X4,hr];rfl,⇑e1,rfl,rfl⟩
 subst h;simp!;exact du (af bu)
def bL(m:Cs):List Cs->List (List Cs)->List (List Cs)
 | [],rows=>rows
 |p::r,rows=>bL m r (if p=m then rows++[[]] else rows.dropLast++[rows.getLastD []++[p]])
def mW:∀(q rest:List Cs)(done:List (List Cs))(cur:List Cs),m∉q->bL m (q++rest) (done++[cur])=bL m rest (done++[cur++q]):=by
 intro l9;induction l9 with
 |nil=>intro rest done cur _;simp
 |cons p q ih=>
  intro rest done cur h;have hp:p≠m:=λe=>h (by simp_all)
  have hq:m∉q:=λz=>h (VK _ z)
  show bL m (q++rest) (if p=m then _ else (done++[cur]).dropLast++[(done++[cur]).getLastD []++[p]])=_;rw[if_neg hp,List.dropLast_concat,show(done++[cur]).getLastD []=cur by simp,ih rest done (cur++[p]) hq,We,YF]
theorem lK:∀(qs:List (List Cs))(done:List (List Cs)),qs≠[]->(∀q∈qs,m∉q)->bL m (glue m qs) (done++[[]])=done++qs
 | [],_,h,_=>absurd rfl h
 | [q],done,_,h=>by
  have e:=mW q [] done [] (h q ⋯);rw[V8]at e;assumption
 |q::q2::r,done,_,h=>by
  have e:=mW q (m::glue m (q2::r)) done [] (h q ⋯);show bL m (q++m::glue m (q2::r)) _=_
  rw[e];show bL m (glue m (q2::r)) (if m=m then (done++[[]++q])++[[]] else _)=_
  rw[if_pos rfl,lK (q2::r) (done++[[]++q]) ⋯ λx hx=>h x (VK _ hx),WM,We,YF]
def bA(r:List Cs):T:=.lst (r.map .str)
def Jk(n:Nat)(r:List Cs):lt n (bA r)=t?:=by simp[bA,lt,mV]
def cK(n k:Nat):List T:=.ref n::(W9 k).map λi=>.ref (n+2+i)
def dJ(L:aa)(r0:List Cs)(rest:List (List Cs)):aa:=(rest.map bA).reverse++(.lst (cK L.length rest.length)::bA r0::L)
def gU:∀(A:List α){n:Nat},n<L.length->at_ (A++L) n=at_ L n:=by
 intro l9;induction l9 with
 |nil=>intro n h;exact rfl
 |cons a A ih=>intro n h;rw[WJ,at_,if_neg (by simp;omega),ih h]
def rE:∀(A:List α){n:Nat},n<L.length->put (A++L) n d=A++put L n d:=by
 intro l9;induction l9 with
 |nil=>intro n h;exact rfl
 |cons a A ih=>intro n h;rw[WJ,put,if_neg (by simp;omega),ih h];rfl
section
variable{L:aa}{r0:List Cs}{rest:List (List Cs)}
def oR:(dJ L r0 rest).length=L.length+2+rest.length:=by unfold dJ;simp;omega
def qm:(cK n k).length=k+1:=by simp[cK]
def nF:at_ (dJ L r0 rest) (L.length+1)=s? (.lst (cK L.length rest.length)):=by
 unfold dJ;rw[gU _ ⋯];exact tN
def vI:cK n k++[.ref (n+2+k)]=cK n (k+1):=by simp[cK,List.range_succ]
def yB:put (.lst []::dJ L r0 rest) (L.length+1) (.lst (cK L.length rest.length++[.ref (dJ L r0 rest).length]))=dJ L r0 (rest++[[]]):=by
 rw[oR,vI];show put ((T.lst []::(rest.map bA).reverse)++(.lst (cK L.length rest.length)::bA r0::L)) (L.length+1) _=_
 rw[rE _ ⋯,El];simp[dJ,bA]
def vJ:place (n+1) (-1)=s? n:=by
 unfold place
 (simp;omega)
def yC(q:Cs):∃n last M4 qn,ix (.ref (L.length+1)) (.int (-1)) (dJ L r0 rest)=.ok (.ref n) (dJ L r0 rest)/\at_ (dJ L r0 rest) n=s? (bA last)/\put (dJ L r0 rest) n (bA (last++[q]))=dJ L M4 qn /\
  (∀mk qs,q≠mk->bL mk (q::qs) (r0::rest)=bL mk qs (M4::qn))/\(M4::qn).flatten.length=(r0::rest).flatten.length+1/\last.length<=(r0::rest).flatten.length/\qn.length=rest.length:=by
 have OD:∀n,(cK L.length rest.length)[rest.length]?=s? (.ref n)->ix (.ref (L.length+1)) (.int (-1)) (dJ L r0 rest)=.ok (.ref n) (dJ L r0 rest):=λn h=>by
  simp only[ix,vw,nF,Zr,qm,vJ,Yt,h,lift]
 rcases List.eq_nil_or_concat rest with rfl|⟨pre,last,e⟩
 ·refine⟨L.length,r0,r0++[q],[],OD _ rfl,?_,?_,λmk qs h=>?_,⋯,⋯,rfl⟩
  ·exact vD
  ·show put (T.lst (cK L.length 0)::bA r0::L) L.length _=_
   rw[MF];rfl
  ·show bL mk qs (if q=mk then _ else _)=_
   rw[if_neg h];rfl
 ·rw[List.concat_eq_append]at e
  subst e;have ec:∀z:List Cs,dJ L r0 (pre++[z])=bA z::((pre.map bA).reverse++(.lst (cK L.length (pre.length+1))::bA r0::L)):=λz=>by simp[dJ]
  have el:((pre.map bA).reverse++(T.lst (cK L.length (pre.length+1))::bA r0::L)).length=L.length+2+pre.length:=by simp;omega
  refine⟨L.length+2+pre.length,last,r0,pre++[last++[q]],OD _ ?_,?_,?_,λmk qs h=>?_,by simp;omega,by simp;omega,⋯⟩
  ·simp[cK]
  ·rw[ec,<- el];exact cq
  ·rw[ec,ec,<- el];exact mC
  ·show bL mk qs (if q=mk then _ else _)=_
   grind
end
theorem tV{L L':aa}:∀(ns:List Nat)(rows:List (List Cs)),ns.length=rows.length->(∀i(h:i<ns.length)(h':i<rows.length),L.length<=ns[i]/\at_ L' ns[i]=s? (bA rows[i]))->(ns.map T.ref).mapM (bE L.length L' 7)=s? (rows.map bA)
 | [],[],_,_=>rfl
 |n::ns,r::rows,hl,h=>by
  obtain⟨h1,h2⟩:=h 0 ⋯ ⋯;have h1:L.length<=n:=h1
  have h2:at_ L' n=s? (bA r):=h2
  have e:bE L.length L' 7 (.ref n)=s? (bA r):=by
   unfold bE;rw[if_neg (by rw[lt];simp;omega)];simp only[h2];unfold bE;rw[if_pos (Jk _ _)]
  rw[VU,Xj,e,tV ns rows ⇑hl λi a b=>h (i+1) ⇑a ⇑b];rfl
def Bj:fin L (.ref (L.length+1)) (dJ L r0 rest)=.ok (.lst ((r0::rest).map bA)) L:=by
 have hd:(dJ L r0 rest).drop ((dJ L r0 rest).length - L.length)=L:=by
  rw[oR,show dJ L r0 rest=((rest.map bA).reverse++[.lst (cK L.length rest.length),bA r0])++L by simp[dJ],List.drop_left' (by simp;omega)]
 unfold fin;rw[hd,if_pos (eL L)];unfold bE;rw[if_neg (by rw[lt];simp)];simp only[nF];unfold bE;rw[if_neg (by rw[lt,cK,eR,lt];simp)];have e:cK L.length rest.length=(L.length::(W9 rest.length).map λi=>L.length+2+i).map T.ref:=by simp[cK]
 rw[e];simp only[];rw[tV _ (r0::rest) ⋯]
 ·rfl
 ·intro i h h'
  cases i with
  |zero=>
   refine⟨V3 _,?_⟩;show at_ (dJ L r0 rest) L.length=s? (bA r0)
   unfold dJ;rw[gU _ (by(simp;omega))];exact vD
  |succ i=>
   simp only[List.getElem_cons_succ,XY,List.getElem_range];refine⟨⇑0,?_⟩;have hi:i<rest.length:=by simpa using h'
   have e:dJ L r0 rest=((rest.drop (i+1)).map bA).reverse++(bA rest[i]::(((rest.take i).map bA).reverse++(.lst (cK L.length rest.length)::bA r0::L))):=by
    have e0:rest.map bA=(rest.take i).map bA++(bA rest[i]::(rest.drop (i+1)).map bA):=by rw[<- VU,<- Wz hi,<- V1,XE]
    unfold dJ;grind
   rw[e,gU _ (by simp;omega),show L.length+2+i=(((rest.take i).map bA).reverse++(T.lst (cK L.length rest.length)::bA r0::L)).length by simp;omega];exact cq
def Bl(ps:List Cs)(mk:Cs)(L:aa)(hl:ps.length<=20000):fX [.lst (ps.map .str),.str mk] L=.ok (.lst ((bL mk ps [[]]).map bA)) L:=by
 unfold fX;simp!;generalize ho:forL _ _ _ _ _ _=o;have h:=bN ho ps T.str (λqs φ L'=>∃r0 rest o3,bL mk qs (r0::rest)=bL mk ps [[]]/\(r0::rest).flatten.length+qs.length<=20000/\rest.length+qs.length<=20000/\φ=[s? (.lst (ps.map .str)),s? (.str mk),s? (.ref (L.length+1)),o3]/\L'=dJ L r0 rest)
  (λo=>∃r0 rest o3,r0::rest=bL mk ps [[]]/\o=.nx [s? (.lst (ps.map .str)),s? (.str mk),s? (.ref (L.length+1)),o3] (dJ L r0 rest)) rfl ⟨[],[],n?,rfl,⇑hl,⇑hl,rfl,rfl⟩ (λ_ _ eJ eP q qs φ L' h=>by
   obtain⟨r0,rest,o3,e1,e2,e3,rfl,rfl⟩:=h;refine⟨sv,_,rfl,?_⟩;simp only[VS]at e2 e3;by_cases hq:q=mk
   ·subst hq
    simp![eJ,eP];have ha:at_ (.lst []::dJ L r0 rest) (L.length+1)=s? (.lst (cK L.length rest.length)):=by rw[at_,if_neg (by rw[oR];omega)];exact nF
    simp![eJ,eP,nF,ha,ba (show(cK L.length rest.length).length<lim by rw[qm];unfold lim;omega),yB];refine⟨r0,rest++[[]],_,?_,by simp at e2 ⊢;omega,by simp;omega,rfl,rfl⟩;rw[<- e1];show _=bL q qs (if q=q then _ else _)
    simp
   ·obtain⟨n,last,M4,qn,i1,i2,i3,i4,i5,i6,i7⟩:=yC (L:=L) (r0:=r0) (rest:=rest) q
    simp![eJ,eP,show(q==mk)=f? from beq_eq_false_iff_ne.mpr hq,i1,i2,bA,ba (show last.length<lim by unfold lim;omega),bK];refine⟨M4,qn,_,by simp_all,⇑0,⇑0,rfl,i3⟩)
  λφ L' h=>by
   obtain⟨r0,rest,o3,e1,e2,e3,rfl,rfl⟩:=h;exact⟨sv,r0,rest,o3,e1,rfl⟩
 obtain⟨r0,rest,o3,e,rfl⟩:=h;simp!;rw[Bj,e]
def FP(hl:L'.length=L.length)(ho:old L L')(ht:lt L.length t=t?):fin L t (Ln++L')=.ok t L':=by
 have e:(Ln++L').drop ((Ln++L').length - L.length)=L':=by simp_all
 unfold fin;rw[e,if_pos ho];unfold bE;rw[if_pos ht];rfl
def M5{L:aa}{c c':T}(h:lt (L.length+1) c'=t?):old (c::L) (c'::L):=λn d e=>by
 unfold at_ at e ⊢
 grind
def M6{L:aa}{c c' d d':T}(h:lt (L.length+2) c'=t?)(h':lt (L.length+2) d'=t?):old (d::c::L) (d'::c'::L):=λn e q=>by
 unfold at_ at q ⊢
 split at q
 ·simp_all
 ·rename_i z
  rw[if_neg (show ¬ n=(c::L).length from z)];unfold at_ at q ⊢
  grind
def j6{L:aa}{c c' t:T}(h:lt (L.length+1) c'=t?)(ht:lt (L.length+1) t=t?):fin (c::L) t (c'::L)=.ok t (c'::L):=FP (Ln:=[]) rfl (M5 h) ht
theorem ax:∀{fs:List (Str × T)},(fs.map (·.1)).contains f=f?->fL fs f t=fs++[(f,t)]
 | [],_=>rfl
 | (g,u)::r,h=>by
  simp only[VU,List.contains_cons,ZC]at h;have:g≠f:=λe=>by simp_all
  rw[fL,if_neg this,ax h.2];rfl
def Bm(cn:Str)(a b:Cs)(L:aa):make cn da [.str a,.str b] L=.ok (.obj cn [("left",.str a),("right",.str b)]) L:=by
 unfold make da;simp![iV,ax (fs:=[]) (f:="left") rfl,WM,Xf,show(0:Nat)<200 by decide];simp![ax (fs:=[("left",.str a)]) (f:="right") (by rfl),show(0+1:Nat)<200 by decide,show(1:Nat)<200 by decide];rw[j6 (by rfl) rfl];simp!;exact du (by rfl)
def UC:(([x,y,z].map T.str).length:Int)=3:=rfl
def FQ(x y z:Cs)(hx:aD x=t?)(hz:aD z=t?)(L:aa):bJ [.lst [.str x,.str y,.str z]] L=.ok .aY L:=by
 unfold bJ;simp![show(((0+1+1+1:Nat):Int) != 3)=f? from rfl,show(((3:Nat):Int) != 3)=f? from rfl];simp![oQ x (VV (aV hx).2 ∅),oQ z (VV (aV hz).2 ∅),hx,hz]
def tW(k:Lk)(h:aD k.l=t?/\aD k.r=t?)(L:aa):gC [bA (jR k)] L=.ok (lT k) L:=by
 unfold gC bA jR lT;simp![FQ _ _ _ h.1 h.2];cases k.same with
 |true=>
  simp![show(eK t?==S "same")=t? from rfl,Bg,Bm];exact fin_same (by rfl)
 |false=>
  simp![show(eK f?==S "same")=f? from rfl,show(eK f?==S "unlike")=t? from rfl,tS,Bm];exact fin_same (by rfl)
def tX(p:Cs × Cs)(h:aD p.1=t?/\aD p.2=t?)(L:aa):gE [bA (jS p)] L=.ok (pT p) L:=by
 unfold gE bA jS;simp![FQ _ _ _ h.1 h.2];exact fin_same (by rfl)
def mG{α:Type}{mk:Cs}{g:α->List Cs}{l:List α}(h0:l≠[])(hq:∀x∈l,mk∉g x)(hl:(glue mk (l.map g)).length<=20000):fX [.lst ((glue mk (l.map g)).map .str),.str mk] L=.ok (.lst (l.map λx=>bA (g x))) L:=by
 rw[Bl _ _ _ hl,show bL mk (glue mk (l.map g)) [[]]=l.map g from lK (l.map g) [] ⇑h0 λq h=>by grind,Wc];rfl
def rF(l:List Lk)(h0:l≠[])(hl:(glue [44] (l.map jR)).length<=20000)(hn:l.length<=3)(h:∀k∈l,aD k.l=t?/\aD k.r=t?)(L:aa):dz [.lst ((glue [44] (l.map jR)).map .str)] L=.ok (.lst (l.map lT)) L:=by
 unfold dz;simp!;rw[aO (k:=stays (.lst (l.map λk=>bA (jR k))) L) rfl l (λk=>bA (jR k)) lT (by simp![mG h0 (λk hk=>(Bk.xc (h k hk)).2) hl]) (by exact aG) (by exact VV hn ∅) (by exact λk hk=>by simp![tW k (h k hk)])];simp!;exact fin_same (af qh)
def rG(l:List (Cs × Cs))(h0:l≠[])(hl:(glue [44] (l.map jS)).length<=20000)(hn:l.length<=3)(h:∀k∈l,aD k.1=t?/\aD k.2=t?)(L:aa):dA [.lst ((glue [44] (l.map jS)).map .str)] L=.ok (.lst (l.map pT)) L:=by
 unfold dA;simp!;rw[aO (k:=stays (.lst (l.map λk=>bA (jS k))) L) rfl l (λk=>bA (jS k)) pT (by simp![mG h0 (λk hk=>(Bk.xe (h k hk)).2) hl]) (by exact aG) (by exact VV hn ∅) (by exact λk hk=>by simp![tX k (h k hk)])];simp!;exact fin_same (af iR)
def yV(x:Nat × List Im):T:=.lst (x.2.map (·.t))
def FU(n:Nat):∀x∈rows r,lt n (yV x)=t?:=by
 refine Bk.Eh ?_ ?_ ?_ ?_ ?_<;>(show lt n (T.lst (List.map _ (List.map _ _)))=t?;rw[Wc])
 ·exact af bu
 ·exact af bu
 ·exact af qh
 ·exact af bu
 ·exact af iR
def oT(hw:(w==S "look")=f?/\(w==S "tell")=f?)(hf:∀f∈l,FG f)(h0:l≠[])(hl:(glue [44] (l.map dm)).length<=20000)(L:aa):cz [.str w,.lst ((glue [44] (l.map dm)).map .str)] L=.ok (.lst (l.map fT)) L:=by
 unfold cz;simp![hw.1,hw.2,M3 l L h0 hl hf];exact fin_same (af bu)
def Jl(h:uD ks r):∀x∈rows r,x.2≠[]->(glue [44] (x.2.map (·.tp))).length<=20000->∀L,cz [.str (wordAt x.1),.lst ((glue [44] (x.2.map (·.tp))).map .str)] L=.ok (yV x) L:=by
 obtain⟨_,_,f3,_,f5⟩:=h.ip;have hf:=λg hg=>(h.f g hg).1
 unfold yV;refine Bk.Eh ?_ ?_ ?_ ?_ ?_<;>(intro h0 hl L;rw[Wc]at hl ⊢;rw[Wc];have h0:=λe=>h0 (XS.mpr e))
 ·exact oT ⟨rfl,rfl⟩ (λg hg=>hf g (V2 _ (V2 _ hg))) h0 hl L
 ·exact oT ⟨rfl,rfl⟩ (λg hg=>hf g (V2 _ (V6 _ hg))) h0 hl L
 ·unfold cz
  simp![show(wordAt 2==S "look")=t? from rfl,show dz [.lst ((glue [44] (r.ah.map ((·.tp) ∘ lI))).map .str)] L=_ from rF _ h0 hl f3 h.l L];exact fin_same (af qh)
 ·exact oT ⟨rfl,rfl⟩ (λg hg=>hf g (V6 _ hg)) h0 hl L
 ·unfold cz
  simp![show(wordAt 4==S "look")=f? from rfl,show(wordAt 4==S "tell")=t? from rfl,show dA [.lst ((glue [44] (r.tell.map ((·.tp) ∘ pI))).map .str)] L=_ from rG _ h0 hl f5 h.p L];exact fin_same (af iR)
def Jm(k:Kd)(h:cf k.n=t?/\k.c<=4)(L:aa):gA [.lst ((Bk.tF k).map .str)] L=.ok (kT k) L:=by
 obtain⟨nm,c,la⟩:=k;obtain⟨h1,h2⟩:=h;have h1:cf nm=t?:=h1
 have h2:c<=4:=h2;have hn:=aV (Bk.bx h1)
 unfold gA Bk.tF iB oK;have hc:∀c≤4,(lQ (.str [48+c]) (.tup [.str (S "0"),.str (S "1"),.str (S "2"),.str (S "3"),.str (S "4")]) L=.ok t? L)/\xM [.str [48+c]] L=.ok (.int c) L:=λc h=>by
  have z:∀c≤4,PySem.intText? ⟨#[48+c]⟩=s? (c:Int):=by decide +kernel
  refine⟨by rcases(by omega:c=0\/c=1\/c=2\/c=3\/c=4) with rfl|rfl|rfl|rfl|rfl<;>rfl,?_⟩;unfold xM;simp only[z c h,Yi];rfl
 have hw:lQ (.str (if la=t? then Bk.cD else Bk.cC)) (.tup [.str (S "passing"),.str (S "lasting")]) L=.ok t? L/\((if la=t? then Bk.cD else Bk.cC)==S "lasting")=la:=by cases la<;>exact⟨rfl,rfl⟩
 simp![hw.1,hw.2,nE nm (VV hn.2 ∅),h1,(hc c h2).1,(hc c h2).2,show(((3:Nat):Int) != 3)=f? from rfl];exact fin_same (by rfl)
def M7:dN [] k=n?:=rfl
def jI:dN ((a,b)::ks) k=(open Classical in if a=k then s? b else dN ks k):=by
 unfold dN;grind
def Jn{α:Type}{g:α->Cs}(l:List α)(y:Cs):gM (.str y::l.map λx=>.str (g x))=t?:=by
 unfold gM;rw[W6,W6];refine .inl (.inl (VQ.mpr λx hx=>?_));rcases Wt.mp hx with rfl|hx
 ·rfl
 ·obtain⟨z,_,rfl⟩:=VP.mp hx;rfl
def xl{α:Type}{g:α->Cs}{h:α->T}(l:List α)(y:Cs):eD (l.map λx=>(.str (g x),h x)) (.str y):=by
 unfold eD;rw[Wc];exact Jn l y
def fN(h:∀p∈ks,p.1≠k):dput ks k t=ks++[(k,t)]:=by
 unfold dput;grind
def yD(p:Cs)(hp:p.length<=20000)(hc:∃c r,p=c::r/\c≠32/\c≠35)(L:aa):jG [.str p] L=.ok (.bl t?) L:=by
 obtain⟨c,p,rfl,h1,h2⟩:=hc;obtain⟨q,e,hl⟩:=Bk.A9 h1 p;have hs:nN (.str (c::p)) [.str [32]] L=.ok (.str (c::q)) L:=by
  unfold nN;simp only[];rw[e,Bk.nB,ba (by simp only[VS]at hp ⊢;unfold lim;omega)]
 unfold jG;simp![nA,hs,show((c::q:Cs) == [])=f? from rfl,qj (s:=c::q) ⋯,List.headD_cons,show(([c]:Cs) == [35])=f? from beq_eq_false_iff_ne.mpr λz=>h2 (XK z).1]
def Er(ls:List Cs)(h0:ls≠[])(hn:ls.length<=6)(h:∀l∈ls,10∉l/\l.length<=20000/\∃c r,l=c::r/\c≠32/\c≠35)(L:aa):fu [.str (jn [10] ls)] L=.ok (.lst (ls.map .str)) L:=by
 have hs:nM t? (.str (jn [10] ls)) [.str (S "\n")] L=.ok (.lst (ls.map .str)) L:=by
  unfold nM;simp only[];have hd:((ls.map toS).all λs=>decide (s.cps.toList.length<=lim))=t?:=by
   rw[aaN];refine VQ.mpr λl hl=>?_
   simp only[Zh,Bk.nB,decide_eq_true_eq];exact VV (h l hl).2.1 ∅
  rw[show YQ (toS (jn [10] ls)) (toS (S "\n"))=ls.map toS from Bk.tJ h0 λl hl=>(h l hl).1,ba ⟨∅,hd⟩,fG,ba (by simp;unfold lim;omega),Wc];rfl
 unfold fu;simp!;rw[dP (k:=stays (.lst (ls.map .str)) L) rfl ls T.str (λ_=>t?) T.str (by simp![nz,hs]) (by exact aG) ⇑1 (by exact λb hb=>by simp![yD b (h b hb).2.1 (h b hb).2.2]) (by exact λb _ _=>by simp!),abg.mpr λ_ _=>rfl];simp!;exact fin_same (af λ_ _=>rfl)
def tY(acc:List Cs):T:=.ay (acc.map λx=>(.str x,.bl t?))
def Bn(acc:List Cs)(x:Cs):dput (acc.map λx=>(T.str x,T.bl t?)) (.str x) (.bl t?)=(if x∈acc then acc else acc++[x]).map λx=>(T.str x,T.bl t?):=by
 by_cases h:x∈acc
 ·rw[if_pos h]
  unfold dput;simp_all
 ·rw[if_neg h,fN]
  ·simp
  grind
def qo{fs:List Fc}{L:aa}{E:List Cs->T}{k:aa->Prop}{P:Cs->Prop}(ho:forL k (.one 2) (ab [aL (src (vi 2 1)) (.one 3) b]) (fs.map fT) [s? (.lst (fs.map fT)),s? (.ref L.length),n?,n?] (E []::L)=o)(hk:∀L,k L)(hl:(fs.flatMap (·.as)).length<=32)(hf:∀f∈fs,∀a∈f.as,P a)
  (hb:∀(f:Fc)(a:Cs)(acc:List Cs),P a->acc.length<lim->b [s? (.lst (fs.map fT)),s? (.ref L.length),s? (fT f),s? (.str a)] (E acc::L)=.nx [s? (.lst (fs.map fT)),s? (.ref L.length),s? (fT f),s? (.str a)] (E (fU a acc)::L)):∃z w,o=.nx [s? (.lst (fs.map fT)),s? (.ref L.length),z,w] (E (opens fs)::L):=by
 have h:=lD fs fT E (λacc f=>je f.as acc) (λr acc=>acc.length+(r.flatMap (·.as)).length<=32/\∀f∈r,∀a∈f.as,P a) (λz w=>[s? (.lst (fs.map fT)),s? (.ref L.length),z,w]) (s:=[]) ho (λ_=>hk _) (λ_ _ _=>rfl) ⟨⇑hl,hf⟩ λf r acc w h=>by
  have h1:=jE f.as acc;have h2:=h.1
  rw[XO,VN]at h2;refine⟨⟨⇑0,λg hg=>h.2 g (VK _ hg)⟩,?_⟩;simp!;generalize ho:forL _ _ _ _ _ _=o;obtain⟨z,_,rfl⟩:=lD f.as T.str E (λacc a=>fU a acc) (λr acc=>acc.length+r.length<=32/\∀a∈r,P a) (λz(_:Unit)=>[s? (.lst (fs.map fT)),s? (.ref L.length),s? (fT f),z]) (w:=()) ho (λ_=>sv) (λ_ _ _=>rfl) ⟨⇑0,h.2 f VL⟩ λa r acc _ h=>by
   have h1:=Bk.tE a acc;have h2:=h.1
   rw[VS]at h2;exact⟨⟨⇑0,λg hg=>h.2 g (VK _ hg)⟩,(),hb f a acc (h.2 a VL) ⇑1⟩
  exact⟨z,rfl⟩
 rw[show fs.foldl (λacc f=>je f.as acc) []=opens fs from List.foldl_flatMap.symm]at h;exact h
def Es(fs:List Fc)(hf:∀f∈fs,∀a∈f.as,aD a=t?)(hl:(fs.flatMap (·.as)).length<=32)(L:aa):fq [.lst (fs.map fT)] L=.ok (.lst ((opens fs).map .str)) L:=by
 unfold fq;simp!;generalize ho:forL _ _ _ _ _ _=o;obtain⟨z,w,rfl⟩:=qo (E:=tY) ho (λ_=>sv) hl hf λf a acc hn hl=>by
  simp![dI a (aV hn).1];unfold fU;cases hg:great a with
  |false=>simp!
  |true=>simp![jL,tY,hl,show eD (acc.map λx=>(T.str x,T.bl t?)) (.str a) from xl (g:=id) _ a,and_self,Bn]
 have hz:(opens fs).length<=lim:=by
  have:(opens fs).length<=_:=jE (fs.flatMap (·.as)) [];simp only[WL]at this;unfold lim;omega
 have hb:bG t? [.ref L.length] (tY (opens fs)::L)=.ok (.lst ((opens fs).map .str)) (tY (opens fs)::L):=by
  have e:((opens fs).map λx=>(T.str x,T.bl t?)).map (·.1)=(opens fs).map .str:=by simp
  unfold bG tY;simp only[eU,cq,eV];rw[e,fG,ba ⇑hz];rfl
 simp![hb];exact ji (af λ_ _=>rfl)
def fE(x:Nat × List Im):T × T:=(.str (wordAt x.1),yV x)
theorem vK(n:Nat):∀l:List (Nat × List Im),(∀x∈l,lt n (yV x)=t?)->lt n (.ay (l.map fE))=t?
 | [],_=>rfl
 |x::l,h=>by
  have:=vK n l λy hy=>h y (VK _ hy)
  simp only[lt,VU,yO,fE]at this ⊢;simp_all
def Jo(h:r.length<=lim):lV t? (.lst (x::r)) (s? 1) n? L=.ok (.lst r) L:=by
 unfold lV vw cut clip;simp[fG,ba h,mk]
def M8(h:r.length<=lim):lV t? (.lst (x::y::z::r)) (s? 3) n? L=.ok (.lst r) L:=by
 have e:cut (x::y::z::r) (s? 3) n?=r:=by
  unfold cut clip;simp
 unfold lV vw;simp[e,fG,ba h,mk]
def QM:List T:=[.str (S "take"),.str (S "keep"),.str (S "look"),.str (S "put"),.str (S "tell")]
theorem M9{m n:Nat}(h:m<=n)(hn:n<5):∃t,lV t? bU (s? (m:Int)) n? L=.ok t L/\lQ (.str (wordAt n)) t L=.ok t? L:=by
 obtain⟨a,b,c⟩:=(by decide +kernel:∀n<5,∀m≤n,dat 8 (.str (wordAt n))=t?/\(cut QM (s? (m:Int)) n?).all (dat 8)=t?/\((cut QM (s? (m:Int)) n?).any λy=>eqT y (.str (wordAt n)))=t?) n hn m h;refine⟨_,rfl,?_⟩;show cm _ (R.ok ((cut QM (s? (m:Int)) n?).any λy=>eqT y (.str (wordAt n))) L)=_
 rw[ba ⟨a,b⟩,c]
def Na(hn:n<5):CL bU [.str (wordAt n)] L=.ok (.int n) L:=by
 rcases(by omega:n=0\/n=1\/n=2\/n=3\/n=4) with rfl|rfl|rfl|rfl|rfl<;>rfl
def Bo{L:aa}{a c:T}(ha:lt L.length a=t?)(hc:lt L.length c=t?):fin L (.tup [a,.ref L.length]) (c::L)=.ok (.tup [a,c]) L:=by
 unfold fin;have e:(c::L).drop ((c::L).length - L.length)=L:=by simp
 rw[e,if_pos (eL L)];unfold bE;rw[if_neg (by simp[lt,eR,ha])];have e1:bE L.length (c::L) 8 a=s? a:=by unfold bE;rw[if_pos ha]
 have e2:bE L.length (c::L) 8 (.ref L.length)=s? c:=by
  unfold bE;rw[if_neg (by simp[lt])];simp only[cq];unfold bE;rw[if_pos hc]
 simp[Xj,e1,e2,lift]
def Jp{α:Type}{g:α->Cs}{l:List α}(h:(l.map g).Nodup):(l.map λx=>T.str (g x)).Nodup:=by
 grind
def Bp{α:Type}{g:α->Cs}{h:α->T}{l:List α}{x:α}(hn:(l.map g).Nodup)(hx:x∈l):dN (l.map λx=>(.str (g x),h x)) (.str (g x))=s? (h x):=by
 induction l with
 |nil=>cases hx
 |cons y l ih=>
  rw[VU,WZ]at hn;rw[VU,jI];grind
def Et(h:∀p∈l,p.1≠k):dN l k=n?:=by
 induction l with
 |nil=>rfl
 |cons p l ih=>rw[jI,if_neg (h p VL),ih λq hq=>h q (VK _ hq)]
def rH(l:List (Nat × List Im))(y:Cs):eD (l.map fE) (.str y):=xl (g:=λx:Nat × List Im=>wordAt x.1) (h:=yV) l y
def Bq:∀x∈rows r,x.1<5:=Bk.Eh (show 0<5 by decide) (show 1<5 by decide) (show 2<5 by decide) (show 3<5 by decide) (show 4<5 by decide)
def jl(h:x∈i0 r):x∈rows r/\x.1<5/\x.2≠[]:=by
 obtain⟨h1,h2⟩:=Wq.mp h;exact⟨h1,Bq x h1,λe=>by unfold Bk.ne at h2;simp_all⟩
def Br(r:Rl):((i0 r).map (·.1)).Pairwise (· < ·):=List.Pairwise.sublist (List.filter_sublist.map _) (show [0,1,2,3,4].Pairwise (· < ·) by decide)
def tZ{r:Rl}(hx:x∈rows r):dN ((i0 r).map fE) (.str (wordAt x.1))=if x.2=[] then n? else s? (yV x):=by
 by_cases h0:x.2=[]
 ·rw[if_pos h0]
  refine Et λp hp e=>?_
  obtain⟨y,hy,rfl⟩:=VP.mp hp;obtain⟨h1,h2,h3⟩:=jl hy;have e:=Bk.vC (f:=λz:Nat × List Im=>z.1) (show((rows r).map (·.1)).Nodup from(by decide:[0,1,2,3,4].Nodup)) h1 hx (Bk.j4 h2 (Bq x hx) (T.str.inj (show T.str (wordAt y.1)=T.str (wordAt x.1) from e)))
  exact h3 (e ▸ h0)
 ·rw[if_neg h0]
  refine Bp (g:=λx:Nat × List Im=>wordAt x.1) (h:=yV) (l:=i0 r) ?_ (Wq.mpr ⟨hx,?_⟩)
  ·refine Yf.mpr ((Yf.mp (Br r)).imp_of_mem λha hb h e=>?_)
   exact Xf _ (Bk.j4 (jl ha).2.1 (jl hb).2.1 e ▸ h)
  ·unfold Bk.ne
   simpa using h0
def Bs(hx:x∈rows r)(L:aa):lQ (.str (wordAt x.1)) (.ref L.length) (.ay ((i0 r).map fE)::L)=.ok (!d? (x.2=[])) (.ay ((i0 r).map fE)::L):=by
 unfold lQ;simp only[eU,cq,eV];rw[ba (rH _ _),tZ hx];by_cases h:x.2=[]<;>simp[h]
def oU(hx:x∈rows r)(L:aa):ij (.ay ((i0 r).map fE)) [.str (wordAt x.1),.lst []] L=.ok (yV x) L:=by
 unfold ij vw;simp only[];rw[ba (rH _ _),tZ hx];by_cases h:x.2=[]
 ·rw[if_pos h];unfold yV;rw[h];rfl
 simp_all
def vL(h:uD ks r)(L:aa):vF [.str r.title,.ay ((i0 r).map fE)] L=.ok (aX r) L:=by
 have m:∀{α:Type}(i:α->Im)(l:List α),(l.map i).map (·.t)=l.map λa=>(i a).t:=λi l=>by simp
 have g0:=oU (r:=r) (x:=(0,r.take.map fI)) (by simp[rows]);have g1:=oU (r:=r) (x:=(1,r.keep.map fI)) (by simp[rows])
 have g2:=oU (r:=r) (x:=(2,r.ah.map lI)) (by simp[rows]);have g3:=oU (r:=r) (x:=(3,r.put.map fI)) (by simp[rows])
 have g4:=oU (r:=r) (x:=(4,r.tell.map pI)) (by simp[rows]);unfold yV at g0 g1 g2 g3 g4;rw[m]at g0 g1 g2 g3 g4;have g0:∀L,ij (.ay ((i0 r).map fE)) [.str (wordAt 0),.lst []] L=.ok (.lst (r.take.map fT)) L:=g0
 have g1:∀L,ij (.ay ((i0 r).map fE)) [.str (wordAt 1),.lst []] L=.ok (.lst (r.keep.map fT)) L:=g1;have g2:∀L,ij (.ay ((i0 r).map fE)) [.str (wordAt 2),.lst []] L=.ok (.lst (r.ah.map lT)) L:=g2
 have g3:∀L,ij (.ay ((i0 r).map fE)) [.str (wordAt 3),.lst []] L=.ok (.lst (r.put.map fT)) L:=g3;have g4:∀L,ij (.ay ((i0 r).map fE)) [.str (wordAt 4),.lst []] L=.ok (.lst (r.tell.map pT)) L:=g4
 obtain⟨f1,f2,_⟩:=h.ip;have hl:r.take.length+r.keep.length<=lim:=by unfold lim;omega
 have hf:=λf hf=>(h.f f (V2 r.put hf)).1
 have ho:=Es (r.take++r.keep) (λf h=>(hf f h).as) (by
  have:=Bk.bZ (l:=r.take++r.keep) (g:=(·.as)) (B:=4) λf h=>(hf f h).n
  grind)
 rw[V1]at ho;unfold vF make jj aX;simp![iV,show S "take"=wordAt 0 from rfl,show S "keep"=wordAt 1 from rfl,show S "look"=wordAt 2 from rfl,show S "put"=wordAt 3 from rfl,show S "tell"=wordAt 4 from rfl,g0,g1,g2,g3,g4,WM,Xi,ax (fs:=[]) (f:="title") (by rfl),ax (fs:=[("title",.str r.title)]) (f:="taken") (by rfl),ax (fs:=[("title",.str r.title),("taken",.lst (r.take.map fT))]) (f:="kept") (by rfl),ax (fs:=[("title",.str r.title),("taken",.lst (r.take.map fT)),("kept",.lst (r.keep.map fT))]) (f:="looks") (by rfl),ax (fs:=[("title",.str r.title),("taken",.lst (r.take.map fT)),("kept",.lst (r.keep.map fT)),("looks",.lst (r.ah.map lT))]) (f:="given") (by rfl),ax (fs:=[("title",.str r.title),("taken",.lst (r.take.map fT)),("kept",.lst (r.keep.map fT)),("looks",.lst (r.ah.map lT)),("given",.lst (r.put.map fT))]) (f:="told") (by rfl),ax (fs:=[("title",.str r.title),("taken",.lst (r.take.map fT)),("kept",.lst (r.keep.map fT)),("looks",.lst (r.ah.map lT)),("given",.lst (r.put.map fT)),("told",.lst (r.tell.map pT))]) (f:="names") (by rfl),WJ,fld,WI,show(("taken":Str)=="title")=f? by decide,show(("kept":Str)=="title")=f? by decide,show(("kept":Str)=="taken")=f? by decide,VN,ba hl,ho];rw[j6]
 ·simp!
  refine(du ?_).trans ?_
  ·simp[lt,jW,lC,bu,iR,qh,mV]
  ·rfl
 ·simp[lt,jW,lC,bu,iR,qh,mV]
 ·rfl
theorem ua:∀(qs:List (List Cs))(q:List Cs),q∈qs->q.length<=(glue m qs).length
 | [a],q,h=>by rw[Wb.mp h];exact V3 _
 |a::b::r,q,h=>by
  show q.length<=(a++m::glue m (b::r)).length;rw[VN,VS];rcases Wt.mp h with e|h
  ·rw[e];omega
  ·have:=ua (m:=m) (b::r) q h;omega
def ub(h:uD ks r)(hl:(fV r).length<=20000)(L:aa):
  gF [.lst ((fV r).map .str)] L=.ok (.tup [.str r.title,.ay ((i0 r).map fE)]) L:=by
 have ht:=aV (Bk.bx h.t);have CB:∀L,aH [.lst ((fV r).map .str),.int 0] L=.ok (.str Bk.iy) L:=λL=>fB (fV r) 0 L
 have Bi:∀L,aH [.lst ((fV r).map .str),.int 1] L=.ok (.str r.title) L:=λL=>fB (fV r) 1 L
 have Oh:∀L,aH [.lst ((fV r).map .str),.int 2] L=.ok (.str [58]) L:=λL=>fB (fV r) 2 L
 have R0:(glue [59] ((i0 r).map jT)).length<=20000:=VV (Ys _ 3) hl;have hne:i0 r≠[]:=λe=>by
  have z:∀x∈rows r,x.2=[]:=λx hx=>by
   have:=List.filter_eq_nil_iff.mp e x hx;unfold Bk.ne at this;simpa using this
  have z0:=z (0,r.take.map fI) (by simp[rows]);have z1:=z (1,r.keep.map fI) (by simp[rows])
  exact h.hd (XS.mp z0) (XS.mp z1)
 have O8:=λL=>mG (L:=L) (mk:=[59]) hne (λx hx=>(W.no (by rfl) ∅ (h.part (jl hx).1).1).1) R0
 unfold gF bU;simp![CB,Bi,Oh,c7,show S "rule"=Bk.iy from rfl,nE r.title (VV ht.2 ∅),h.t];rw[show lV t? (.lst ((fV r).map .str)) (s? 3) n? (.ay []::L)=.ok (.lst ((glue [59] ((i0 r).map jT)).map .str)) (.ay []::L) from M8 (by simp;unfold lim;omega)];simp![O8];generalize ho:forL _ _ _ _ _ _=o;have h2:=bN ho (i0 r) (λx=>bA (jT x)) (λq φ L'=>∃done m o4 o5,done++q=i0 r/\(∀y∈q,m<=y.1)/\φ=[s? (.lst ((fV r).map .str)),s? (.str r.title),s? (.ref L.length),s? (.int (m:Nat)),o4,o5]/\L'=.ay (done.map fE)::L)
  (λo=>∃o3 o4 o5,o=.nx [s? (.lst ((fV r).map .str)),s? (.str r.title),s? (.ref L.length),o3,o4,o5] (.ay ((i0 r).map fE)::L)) rfl ⟨[],0,n?,n?,rfl,λ_ _=>Wg _,rfl,rfl⟩ (λ_ _ eJ eP x q φ L' hh=>by
   obtain⟨done,m,o4,o5,e1,hm,rfl,rfl⟩:=hh;refine⟨sv,_,rfl,?_⟩;have R1:x∈i0 r:=by rw[<- e1];simp
   obtain⟨x1,x2,x3⟩:=jl R1;have hs:=Br r
   rw[<- e1,V1,VU,Xr,Y7]at hs;obtain⟨_,⟨hq,_⟩,hd⟩:=hs;obtain⟨t,w1,w2⟩:=M9 (L:=.ay (done.map fE)::L) (hm x VL) x2;have w3:=Na (L:=.ay (done.map fE)::L) x2
   unfold bU at w1 w3;have UD:aH [bA (jT x),.int 0] (.ay (done.map fE)::L)=.ok (.str (wordAt x.1)) (.ay (done.map fE)::L):=fB (jT x) 0 _
   have hlen:=VV (ua (m:=[59]) ((i0 r).map jT) _ (VP.mpr ⟨x,R1,rfl⟩)) R0;have hlen:(glue [44] (x.2.map (·.tp))).length<=20000:=Nat.le_of_succ_le hlen
   have G9:lV t? (bA (jT x)) (s? 1) n? (.ay (done.map fE)::L)=.ok (.lst ((glue [44] (x.2.map (·.tp))).map .str)) (.ay (done.map fE)::L):=Jo (by simp;unfold lim;omega);have yo:done.length<lim:=by
    have z:done.length<=(i0 r).length:=by rw[<- e1];simp
    have:(i0 r).length<=5:=Ww _ _;unfold lim;omega
   have u4:dput (done.map fE) (.str (wordAt x.1)) (yV x)=(done++[x]).map fE:=by
    rw[fN,V1];rfl;intro p hp e;obtain⟨y,hy,rfl⟩:=VP.mp hp;have:=Bk.j4 (jl (by rw[<- e1];exact V2 _ hy)).2.1 x2 (T.str.inj (show T.str (wordAt y.1)=T.str (wordAt x.1) from e))
    have:=hd y.1 (V4 hy) x.1 VL;omega
   simp![eJ,eP,UD,w1,w2,w3,G9,Jl h x x1 x3 hlen,jL,yo,rH,and_self,u4];exact⟨done++[x],x.1+1,_,_,⇑e1,λy hy=>hq y.1 (V4 hy),rfl,rfl⟩)
  λφ L' hh=>by
   obtain⟨done,m,o4,o5,e1,hm,rfl,rfl⟩:=hh;rw[V8]at e1;rw[e1];exact⟨sv,_,_,_,rfl⟩
 obtain⟨o3,o4,o5,rfl⟩:=h2;have n0:=Bs (r:=r) (x:=(0,r.take.map fI)) (by simp[rows]) L
 have n1:=Bs (r:=r) (x:=(1,r.keep.map fI)) (by simp[rows]) L;simp only[XS]at n0 n1;simp![show S "take"=wordAt 0 from rfl,show S "keep"=wordAt 1 from rfl,n0,n1];by_cases h0:r.take=[]
 ·simp![h0,h.hd h0,decide_true,decide_false,ZE,aaa,if_true,if_false]
  exact Bo rfl (vK _ _ λx hx=>FU _ x (jl hx).1)
 ·simp![h0,decide_false,ZE,aaa,if_true,if_false]
  exact Bo rfl (vK _ _ λx hx=>FU _ x (jl hx).1)
def jV(h:W Jc p ts)(L:aa)(hp:p.length<=20000):dZ [.str p] L=.ok (.lst (ts.map .str)) L:=by
 have z:=h.tk ⇑2 (r:=[]) (λc h=>nomatch h) .nil;rw[V8,V8]at z;unfold dZ iA;simp![Bh L hp z];exact fin_same (af λ_ _=>rfl)
def Bt{L:aa}{c c' d d' t:T}(h:lt (L.length+2) c'=t?)(h':lt (L.length+2) d'=t?)(ht:lt (L.length+2) t=t?):fin (d::c::L) t (d'::c'::L)=.ok t (d'::c'::L):=FP (Ln:=[]) rfl (M6 h h') ht
def uc(ks:List Kd)(rs:List Rl)(k:Kd)(ok:cf k.n=t?/\k.c<=4)(hn:k.n∉ks.map (·.n))(hz:ks.length<20000)(L:aa):
  de [.ref L.length,.ref (L.length+1),.str (Bk.aC k)] (.lst (rs.map aX) :: .lst (ks.map kT)::L)=.ok .aY (.lst (rs.map aX) :: .lst ((ks++[k]).map kT)::L):=by
 obtain⟨w,hl⟩:=Bk.my ok;have h0:((if k.l=t? then Bk.cD else Bk.cC)==Bk.iy)=f?:=by cases k.l<;>rfl
 unfold de c7;simp![jV w _ (VV hl ∅),show ∀L,ix (.lst ((tF k).map .str)) (.int 0) L=.ok (.str (if k.l=t? then Bk.cD else Bk.cC)) L from λ_=>Jf,show S "rule"=Bk.iy from rfl,h0,Jm k ok];rw[aO (k:=stays (.ref L.length) (.lst (rs.map aX) :: .lst (ks.map kT)::L)) rfl ks kT (λk=>.str k.n) (by simp!) (by exact aG) ⇑1 (by exact λb _=>by simp!)];have uC:=En (x:=k.n) (ys:=ks.map (·.n)) (L:=.lst (rs.map aX) :: .lst (ks.map kT)::L)
 rw[Wc,decide_eq_false hn]at uC;simp![show(T.lst (ks.map λk=>.str k.n))=.lst (ks.map (T.str ∘ λk=>k.n)) from rfl,uC,ba (show ks.length<lim by unfold lim;omega),bK];exact Bt (af tQ) (af rD) rfl
def ud(ks:List Kd)(rs:List Rl){r:Rl}(h:uD ks r)(hn:r.title∉rs.map (·.title))(hz:rs.length<20000)(L:aa):
  de [.ref L.length,.ref (L.length+1),.str (Bk.cg r)] (.lst (rs.map aX) :: .lst (ks.map kT)::L)=.ok .aY (.lst ((rs++[r]).map aX) :: .lst (ks.map kT)::L):=by
 obtain⟨w,hl⟩:=h.line;have pv:(fV r).length<=20000:=by
  have z:=(w.tk ⇑2 (r:=[]) (λc h=>nomatch h) .nil).len;grind
 unfold de c7;simp![jV w _ (VV hl ∅),show ∀L,ix (.lst ((fV r).map .str)) (.int 0) L=.ok (.str Bk.iy) L from λ_=>Jf,show S "rule"=Bk.iy from rfl,ub h pv];rw[aO (k:=stays (.ref (L.length+1)) (.lst (rs.map aX) :: .lst (ks.map kT)::L)) rfl rs aX (λk=>.str k.title) (by simp!) (by exact aG) ⇑1 (by exact λb _=>by simp!)];have uC:=En (x:=r.title) (ys:=rs.map (·.title)) (L:=.lst (rs.map aX) :: .lst (ks.map kT)::L)
 rw[Wc,decide_eq_false hn]at uC;simp![show(T.lst (rs.map λk=>.str k.title))=.lst (rs.map (T.str ∘ λk=>k.title)) from rfl,uC,vL h,ba (show rs.length<lim by unfold lim;omega),bK];exact Bt (af tQ) (af rD) rfl
def Jq{ps:List (T × T)}(h:(ps.map (·.1)).Nodup):qw ps=ps:=by
 have key:∀(r d:List (T × T)),((d++r).map (·.1)).Nodup->r.foldl (λacc p=>dput acc p.1 p.2) d=d++r:=by
  intro r;induction r with
  |nil=>intro d _;simp
  |cons p r ih=>
   intro d hn;rw[XR,fN,ih,We];rfl
   ·rw[We];exact hn
   ·intro q hq e
    rw[V1,WW]at hn;exact hn.2.2 _ (V4 hq) _ (V4 VL) e
 exact key ps [] h
def Nb{α:Type}{g h:α->T}(l:List α):prsOf (l.map λx=>.tup [g x,h x])=s? (l.map λx=>(g x,h x)):=by
 induction l with
 |nil=>rfl
 |cons x l ih=>simp only[VU,prsOf,ih]
def Bu{α:Type}{g:α->Cs}{h:α->T}(l:List α)(hn:(l.map g).Nodup)(hl:l.length<=100000)(L:aa):uJ (l.map λx=>.tup [.str (g x),h x]) L=.ok (.ref L.length) (.ay (l.map λx=>(.str (g x),h x))::L):=by
 have e:(l.map λx=>(T.str (g x),h x)).map (·.1)=l.map λx=>T.str (g x):=by simp
 have hm:gM (l.map λx=>T.str (g x))=t?:=by
  unfold gM;rw[W6,W6];exact .inl (.inl (by simp[uF]))
 unfold uJ;rw[Nb];simp only[];rw[Jq (by rw[e];exact Jp hn),e,ba ⟨hm,⇑hl⟩]
def pQ(ks:List Kd)(fs:List Fc)(x:T)(L:aa)(hx:vw L x=.lst (ks.map kT))(hn:(ks.map (·.n)).Nodup)(hk:ks.length<=20000)(hf:∀f∈fs,cT ks f):
  d6 [x,.lst (fs.map fT)] L=.ok .aY L:=by
 unfold d6;simp!;rw[aO (k:=stays x L) rfl ks kT (λk=>.tup [.str k.n,.int k.c]) (by simp only[mS,vo,Xb,WK,a8,ak,xj hx]) (by exact aG) ⇑1 (by exact λb _=>by simp!)];simp![iK,Bu (g:=λk:Kd=>k.n) (h:=λk=>.int k.c) ks hn ⇑0];generalize ho:forL _ _ _ _ _ _=o;obtain⟨z,rfl⟩:=mD fs fT (λz=>[s? x,s? (.lst (fs.map fT)),s? (.ref L.length),z]) ho sv (λ_ _=>rfl) λf hm=>by
  obtain⟨k,hk,e1,e2⟩:=hf f hm;have hg:=Bp (g:=λk:Kd=>k.n) (h:=λk=>T.int k.c) hn hk
  rw[e1]at hg;have hfit:eD (ks.map λk=>(T.str k.n,T.int k.c)) (.str f.k):=xl (g:=λk:Kd=>k.n) (h:=λk=>T.int k.c) ks f.k
  have i1:lQ (.str f.k) (.ref L.length) (.ay (ks.map λk=>(.str k.n,.int k.c))::L)=.ok t? (.ay (ks.map λk=>(.str k.n,.int k.c))::L):=by
   unfold lQ;simp only[eU,cq,eV];rw[ba hfit,hg];rfl
  have i2:ix (.ref L.length) (.str f.k) (.ay (ks.map λk=>(.str k.n,.int k.c))::L)=.ok (.int k.c) (.ay (ks.map λk=>(.str k.n,.int k.c))::L):=by
   unfold ix;simp only[eU,cq,eV];rw[ba hfit,hg];rfl
  simp![i1,i2,show((f.as.length:Int) != (k.c:Int))=f? by simp;omega]
 simp!;exact ji rfl
def pR(ls:List Cs)(fs:List Fc)(hf:∀f∈fs,f.k∉ls)(L:aa):cU [.lst (ls.map .str),.lst (fs.map fT)] L=.ok .aY L:=by
 unfold cU;simp!;generalize ho:forL _ _ _ _ _ _=o;obtain⟨z,rfl⟩:=mD fs fT (λz=>[s? (.lst (ls.map .str)),s? (.lst (fs.map fT)),z]) ho sv (λ_ _=>rfl) λf hm=>by simp![decide_eq_false (hf f hm)]
 simp!
def ue{f:Str->Option Fn}{F:Fn}{a:SE}{φ:Fr}{L:aa}{r:Rl}(ha:a φ L=.ok (aX r) L)(hf:f "Rule"=s? F):aN "calls" f a [] φ L=F [aX r] L:=by
 unfold aN;rw[ha,ak,vr];unfold aX;simp only[hf];rfl
def xo(r:Rl)(L:aa):bV [aX r] L=.ok (.bl (d? (r.take=[]))) L:=by
 unfold bV;simp!;cases r.take with
 |nil=>rfl
 |cons a l=>rfl
def rI(ls:List Cs)(r:Rl)(hc:r.take=[]->∀f∈r.put,f.k∈ls)(L:aa):dD [.lst (ls.map .str),aX r] L=.ok .aY L:=by
 unfold dD;simp only[lz,VS,WL,YJ,if_true];simp!;rw[ue (r:=r) (F:=bV) rfl rfl];simp![xo];cases ht:r.take with
 |cons a l=>simp only[reduceCtorEq,decide_false];simp!
 |nil=>
  simp only[decide_true];simp!;generalize ho:forL _ _ _ _ _ _=o;obtain⟨z,rfl⟩:=mD r.put fT (λz=>[s? (.lst (ls.map .str)),s? (aX r),z]) ho sv (λ_ _=>rfl) λf hm=>by simp![decide_eq_true (hc ht f hm)]
  simp!
def Bv{L:aa}{xs ys:List T}{t:T}(ht:vw (.lst xs::L) t=.lst ys\/vw (.lst xs::L) t=.tup ys)(h:xs.length+ys.length<=lim):qv (.ref L.length) [t] (.lst xs::L)=.ok .aY (.lst (xs++ys)::L):=by
 unfold qv;simp only[cq];rcases ht with ht|ht<;>· simp only[ht];rw[ba h,mC]
def rJ{α:Type}{k:aa->Prop}{b:SS}{o:O}{L:aa}{acc:List Cs}(xs:List α)(enc:α->T)(g:α->List Cs)(i:Nat)(F:Option T->Fr)(z:Option T)
  (ho:forL k (.one i) b (xs.map enc) (F z) (.lst (acc.map .str)::L)=o) (hl:acc.length+(xs.flatMap g).length<=20000) (hk:∀L',k L') (hF:∀z x,(F z).set i (s? x)=F (s? x))
  (hb:∀x∈xs,∀acc:List Cs,acc.length+(g x).length<=20000->b (F (s? (enc x))) (.lst (acc.map .str)::L)=.nx (F (s? (enc x))) (.lst ((acc++g x).map .str)::L)):
  ∃z,o=.nx (F z) (.lst ((acc++xs.flatMap g).map .str)::L) :=
 bN ho xs enc (λr φ L'=>∃z m9,φ=F z/\L'=.lst (m9.map .str)::L/\m9++r.flatMap g=acc++xs.flatMap g/\∀x∈r,x∈xs) (λo=>∃z,o=.nx (F z) (.lst ((acc++xs.flatMap g).map .str)::L)) rfl ⟨z,acc,rfl,rfl,rfl,λ_ h=>h⟩ (λ_ _ eJ eP x r φ L' hh=>by
  obtain⟨z,m9,rfl,rfl,e,hx⟩:=hh;refine⟨hk _,_,rfl,?_⟩;rw[hF,hb x (hx x VL) m9 (by have:=congrArg Xg e;simp at this hl ⊢;omega),oJ,eJ];exact⟨_,m9++g x,rfl,rfl,by rw[<- e];simp,λy hy=>hx y (VK _ hy)⟩)
 λφ L' hh=>by
  obtain⟨z,m9,rfl,rfl,e,_⟩:=hh;exact⟨hk _,z,by simp at e;rw[<- e]⟩
def Jr(r:Rl)(hl:(fW r).length<=20000)(L:aa):fv [aX r] L=.ok (.lst ((fW r).map .str)) L:=by
 have hs:fW r=(r.ah.flatMap λk=>[k.l,k.r])++((r.put.flatMap (·.as))++(r.tell.flatMap λp=>[p.1,p.2])):=rfl;rw[hs]at hl;simp only[VN]at hl;unfold fv;simp!;generalize ho:forL _ _ _ _ _ _=o;obtain⟨z1,rfl⟩:=rJ (acc:=[]) r.ah lT (λk=>[k.l,k.r]) 2 (λz=>[s? (aX r),s? (.ref L.length),z,n?,n?]) n? ho (by grind) (λ_=>sv) (λ_ _=>rfl) (λk _ acc h=>by
  simp![show vw (.lst (acc.map .str)::L) (.lst [.str k.l,.str k.r])=.lst ([k.l,k.r].map .str) from rfl,Bv (L:=L) (xs:=acc.map .str) (t:=.lst [.str k.l,.str k.r]) (ys:=[k.l,k.r].map .str) (.inl rfl) (by simp at h⊢;unfold lim;omega)];simp)
 simp!;generalize ho:forL _ _ _ _ _ _=o;obtain⟨z2,rfl⟩:=rJ (acc:=[]++r.ah.flatMap λk=>[k.l,k.r]) r.put fT (·.as) 3 (λz=>[s? (aX r),s? (.ref L.length),z1,z,n?]) n? ho (by grind) (λ_=>sv) (λ_ _=>rfl) (λf _ acc h=>by
  simp![Bv (L:=L) (xs:=acc.map .str) (t:=.tup (f.as.map .str)) (.inr rfl) (by simp at h⊢;unfold lim;omega),<- V1])
 simp!;generalize ho:forL _ _ _ _ _ _=o;obtain⟨z3,rfl⟩:=rJ (acc:=([]++r.ah.flatMap λk=>[k.l,k.r])++r.put.flatMap (·.as)) r.tell pT (λp=>[p.1,p.2]) 4 (λz=>[s? (aX r),s? (.ref L.length),z1,z2,z]) n? ho (by grind) (λ_=>sv) (λ_ _=>rfl) (λp _ acc h=>by
  simp![Bv (L:=L) (xs:=acc.map .str) (t:=pT p) (ys:=[p.1,p.2].map .str) (.inr rfl) (by simp at h⊢;unfold lim;omega)];simp)
 simp!;rw[hs];simp only[WM,We];exact du (af λ_ _=>rfl)
def pS(r:Rl)(hl:(fW r).length<=20000)(hs:∀a∈fW r,aD a=t?/\(great a=t?->a∈opens (r.take++r.keep)))(L:aa):d7 [aX r] L=.ok .aY L:=by
 unfold d7;simp![Jr r hl];generalize ho:forL _ _ _ _ _ _=o;obtain⟨z,rfl⟩:=mD (fW r) T.str (λz=>[s? (aX r),z]) ho sv (λ_ _=>rfl) λf hm=>by
  simp![dI f (aV (hs f hm).1).1];cases hg:great f with
  |true=>simp![decide_eq_true ((hs f hm).2 hg)]
  |false=>simp!
 simp!
mutual
theorem uf{n m:Nat}(h:n<=m):∀{t:T},lt n t=t?->lt m t=t?
 | .ref k,e=>by rw[lt]at e ⊢;exact decide_eq_true (by have:=of_decide_eq_true e;omega)
 | .tup xs,e=>by rw[lt]at e ⊢;exact vM h e
 | .lst xs,e=>by rw[lt]at e ⊢;exact vM h e
 | .ay ks,e=>by rw[lt]at e ⊢;exact Bw h e
 | .obj _ fs,e=>by rw[lt]at e ⊢;exact Bx h e
 | .aY,_=>rfl
 | .bl _,_=>rfl
 | .int _,_=>rfl
 | .str _,_=>rfl
 | .cl _,_=>rfl
theorem vM{n m:Nat}(h:n<=m):∀{t:List T},eR n t=t?->eR m t=t?
 | [],_=>rfl
 |x::xs,e=>by rw[eR,VW]at e ⊢;exact⟨uf h e.1,vM h e.2⟩
theorem Bw{n m:Nat}(h:n<=m):∀{t:List (T × T)},yO n t=t?->yO m t=t?
 | [],_=>rfl
 | (x,y)::xs,e=>by rw[yO,VW,VW]at e ⊢;exact⟨⟨uf h e.1.1,uf h e.1.2⟩,Bw h e.2⟩
theorem Bx{n m:Nat}(h:n<=m):∀{t:List (Str × T)},jW n t=t?->jW m t=t?
 | [],_=>rfl
 | (x,y)::xs,e=>by rw[jW,VW]at e ⊢;exact⟨uf h e.1,Bx h e.2⟩
end
def vN(a b:T)(L:aa)(ha:lt L.length a=t?)(hb:lt L.length b=t?):vG [a,b] L=.ok (.obj "Book" [("kinds",a),("rules",b)]) L:=by
 have up:∀{t:T},lt L.length t=t?->lt (L.length+1) t=t?:=uf (XF _);unfold vG make jk;simp![iV,ax (fs:=[]) (f:="kinds") (by rfl),ax (fs:=[("kinds",a)]) (f:="rules") (by rfl),WM,Xi];rw[j6 (by simp[lt,jW,up ha,up hb]) rfl];simp!;exact du (by simp[lt,jW,ha,hb])
def Eu{ks:List Kd}{rs:List Rl}(hG:KG ks)(hg:∀r∈rs,uD ks r)(L:aa):
  fy [.ref L.length,.ref (L.length+1)] (.lst (rs.map aX) :: .lst (ks.map kT)::L)=.ok (.obj "Book" [("kinds",.ref L.length),("rules",.ref (L.length+1))]) (.lst (rs.map aX) :: .lst (ks.map kT)::L):=by
 have hk:ks.length<=20000:=VV hG.len ∅;unfold fy;simp!;rw[dP (k:=stays (.ref L.length) (.lst (rs.map aX) :: .lst (ks.map kT)::L)) rfl ks kT (·.l) (λk=>.str k.n) (by simp!) (by exact aG) ⇑1 (by exact λb _=>by simp!) (by exact λb _ _=>by simp!)];simp!;generalize ho:forL _ _ _ _ _ _=o;have Js:((ks.filter (·.l)).map λk=>T.str k.n)=((ks.filter (·.l)).map (·.n)).map T.str:=by simp
 rw[Js]at ho;obtain⟨z,rfl⟩:=mD rs aX (λz=>[s? (.ref L.length),s? (.ref (L.length+1)),s? (.lst (((ks.filter (·.l)).map (·.n)).map T.str)),z]) ho aG (λ_ _=>rfl) λr hr=>by
  have g:=hg r hr;obtain⟨f1,f2,f3,f4,f5⟩:=g.ip;have hs:(fW r).length<=20000:=by
   have z1:=Bk.bZ (l:=r.ah) (g:=λk=>[k.l,k.r]) (B:=2) λ_ _=>V3 2
   have z2:=Bk.bZ (l:=r.put) (g:=(·.as)) (B:=4) λf hf=>(g.f f (V6 _ hf)).1.n
   have z3:=Bk.bZ (l:=r.tell) (g:=λp=>[p.1,p.2]) (B:=2) λ_ _=>V3 2
   unfold fW;rw[VN,VN];omega
  have ct:∀L,cU [.lst (((ks.filter (·.l)).map (·.n)).map T.str),_] L=_:=pR _ _ g.takes;have cc:∀L,dD [.lst (((ks.filter (·.l)).map (·.n)).map T.str),_] L=_:=rI _ r g.calls
  have R2:=pQ ks (r.take++r.keep++r.put) (.ref L.length) (.lst (rs.map aX) :: .lst (ks.map kT)::L) (by simp!) hG.nd hk λf hf=>(g.f f hf).2
  rw[V1,V1]at R2;simp![VN,ba (show r.take.length+r.keep.length<=lim by unfold lim;omega),ba (show r.take.length+r.keep.length+r.put.length<=lim by unfold lim;omega),R2,ct,cc,pS r hs g.Qe]
 simp![vN (.ref L.length) (.ref (L.length+1)) (.lst (rs.map aX) :: .lst (ks.map kT)::L) (by simp[lt];omega) (by simp[lt])];exact fin_same (by simp[lt,jW];omega)
def By{ks:List Kd}{rs:List Rl}{L:aa}:fin L (.obj "Book" [("kinds",.ref L.length),("rules",.ref (L.length+1))]) (.lst (rs.map aX) :: .lst (ks.map kT)::L)=.ok (rB ks rs) L:=by
 unfold fin;have e:(T.lst (rs.map aX) :: .lst (ks.map kT)::L).drop ((T.lst (rs.map aX) :: .lst (ks.map kT)::L).length - L.length)=L:=by
  rw[show(T.lst (rs.map aX) :: .lst (ks.map kT)::L).length - L.length=2 by(simp;omega)];rfl
 rw[e,if_pos (eL L)];unfold bE;rw[if_neg (by simp[lt,jW])];have e1:bE L.length (.lst (rs.map aX) :: .lst (ks.map kT)::L) 8 (.ref L.length)=s? (.lst (ks.map kT)):=by
  unfold bE;rw[if_neg (by simp[lt])];simp only[vD];unfold bE;rw[if_pos (af tQ)]
 have e2:bE L.length (.lst (rs.map aX) :: .lst (ks.map kT)::L) 8 (.ref (L.length+1))=s? (.lst (rs.map aX)):=by
  unfold bE;rw[if_neg (by simp[lt])];simp only[tN];unfold bE;rw[if_pos (af rD)]
 simp[Xj,e1,e2,lift,rB]
def ug{ks:List Kd}{rs:List Rl}(hG:KG ks)(hr:rs.length<=2)(hg:∀r∈rs,uD ks r)(hn:(rs.map (·.title)).Nodup)(L:aa):
  gG [.str (jn [10] (ks.map aC++rs.map cg))] L=.ok (rB ks rs) L:=by
 have h4:=hG.len;have hl:∀l∈ks.map aC++rs.map cg,10∉l/\l.length<=20000/\∃c r,l=c::r/\c≠32/\c≠35:=λl hl=>by
  rcases VR.mp hl with h|h
  ·obtain⟨k,hk,rfl⟩:=VP.mp h
   obtain⟨w,hz⟩:=Bk.my (hG.ok k hk);refine⟨(w.no ⇑2 ∅).2 ∅,VV hz ∅,?_⟩;unfold aC;cases k.l
   ·exact⟨112,_,rfl,∅,∅⟩
   ·exact⟨108,_,rfl,∅,∅⟩
  ·obtain⟨r,hr,rfl⟩:=VP.mp h
   obtain⟨w,hz⟩:=(hg r hr).line;exact⟨(w.no ⇑2 ∅).2 ∅,VV hz ∅,114,_,rfl,∅,∅⟩
 have ne:ks.map aC++rs.map cg≠[]:=λe=>by
  obtain⟨k,hk,_⟩:=hG.yes;have z:aC k∈ks.map aC++rs.map cg:=V2 _ (V4 hk)
  rw[e]at z;cases z
 have en:(ks.map aC++rs.map cg).map T.str=(ks.map Sum.inl++rs.map Sum.inr).map λx:Kd ⊕ Rl=>.str (x.elim aC cg):=by
  rw[V1,V1,Wc,Wc,Wc,Wc];rfl
 unfold gG;simp![Er _ ne (by rw[VN,Lm9,Lm9];omega) hl,en];generalize hT:jn [10] (ks.map aC++rs.map cg)=tx;generalize ho:forL _ _ _ _ _ _=o;have h2:=bN ho (ks.map Sum.inl++rs.map Sum.inr) _ (λq φ L'=>∃dk k' dr r' o3,q=k'.map Sum.inl++r'.map Sum.inr/\dk++k'=ks/\dr++r'=rs/\φ=[s? (.str tx),s? (.ref L.length),s? (.ref (L.length+1)),o3]/\L'=.lst (dr.map aX) :: .lst (dk.map kT)::L)
  (λo=>∃o3,o=.nx [s? (.str tx),s? (.ref L.length),s? (.ref (L.length+1)),o3] (.lst (rs.map aX) :: .lst (ks.map kT)::L)) rfl ⟨[],ks,[],rs,n?,rfl,rfl,rfl,rfl,rfl⟩ (λ_ _ eJ eP x q φ L' hh=>by
   obtain⟨dk,k',dr,r',o3,e0,e1,e2,rfl,rfl⟩:=hh;refine⟨sv,_,rfl,?_⟩;cases k' with
   |cons k k'=>
    obtain⟨rfl,e9⟩:=XK e0;have nn:=hG.nd
    rw[<- e1,V1,VU,WW]at nn;rw[<- e1,VN]at h4;simp![eJ,eP,Sum.elim_inl,uc dk dr k (hG.ok k (by rw[<- e1];simp)) (λz=>nn.2.2 _ z _ VL rfl) ⇑0 L];exact⟨dk++[k],k',dr,r',_,e9,⇑e1,e2,rfl,rfl⟩
   |nil=>
    cases r' with
    |nil=>cases e0
    |cons r r'=>
     obtain⟨rfl,e9⟩:=XK e0;rw[V8]at e1;subst e1;rw[<- e2,V1,VU,WW]at hn;rw[<- e2,VN]at hr;simp![eJ,eP,Sum.elim_inr,ud dk dr (hg r (by rw[<- e2];simp)) (λz=>hn.2.2 _ z _ VL rfl) ⇑0 L];exact⟨dk,[],dr++[r],r',_,e9,V8 _,⇑e2,rfl,rfl⟩)
  λφ L' hh=>by
   obtain⟨dk,k',dr,r',o3,e0,e1,e2,rfl,rfl⟩:=hh;obtain⟨z1,z2⟩:=List.append_eq_nil_iff.mp e0.symm;rw[XS.mp z1,V8]at e1;rw[XS.mp z2,V8]at e2;rw[e1,e2];exact⟨sv,_,rfl⟩
 obtain⟨o3,rfl⟩:=h2;simp![Eu hG hg L];exact By
def rK(ns:List Int)(k:Int)(hk:0<=k)(L:aa):bH [.lst (ns.map .int),.int k] L=.ok (.int (ns.getD k.toNat 0)) L:=by
 unfold bH;simp!;by_cases h:k<ns.length
 ·have e:(ns.map T.int)[k.toNat]?=s? (.int (ns.getD k.toNat 0)):=by
   simp_all
  simp![h,decide_true,w9 hk e]
 ·simp![h,decide_false]
  simp_all
def dg:Int->List Int->List Nat
 |_,[]=>[]
 |n,m::ms=>(n % m).toNat::dg (n / m) ms
theorem qp:∀(n:Int)(ms:List Int),(∀m∈ms,0<m/\m<1073741824)->Paired (λ(m:Int)(d:Nat)=>(d:Int)<m) ms (dg n ms)
 |_,[],_=>.nil
 |n,m::ms,h=>.cons (by
   have:=h m VL;have h1:=Y8 n (show m≠0 by omega)
   have h2:=Y9 n this.1;omega) (qp (n / m) ms λx hx=>h x (VK _ hx))
def mX(c:Int)(ms:List Int)(hm:∀m∈ms,0<m/\m<1073741824)(hl:ms.length<=100):∃ds:List Nat,Paired (λ(m:Int)(d:Nat)=>(d:Int)<m) ms ds/\∀L,aJ [.int c,.lst (ms.map .int)] L=.ok (.lst (ds.map λd=>.int (d:Nat))) L:=by
 refine⟨dg (c % 2147483647 * 48271 % 2147483647) ms,qp _ _ hm,λL=>?_⟩;unfold aJ;simp!;generalize ho:forL _ _ _ _ _ _=o;have h:=bN ho ms T.int (λr φ L'=>∃(n:Int)(done:List Nat)(o4:Option T),done++dg n r=dg (c % 2147483647 * 48271 % 2147483647) ms/\(∀m∈r,0<m/\m<1073741824)/\done.length+r.length<=100/\φ=[s? (.int c),s? (.lst (ms.map .int)),s? (.int n),s? (.ref L.length),o4]/\L'=.lst (done.map λd=>.int (d:Nat))::L)
  (λo=>∃o2 o4,o=.nx [s? (.int c),s? (.lst (ms.map .int)),o2,s? (.ref L.length),o4] (.lst ((dg (c % 2147483647 * 48271 % 2147483647) ms).map λd=>.int (d:Nat))::L)) rfl ⟨_,[],n?,rfl,hm,⇑hl,rfl,rfl⟩ (λ_ _ eJ eP m r φ L' hh=>by
   obtain⟨n,done,o4,e1,h1,h2,rfl,rfl⟩:=hh;obtain⟨m1,m2⟩:=h1 m VL;have h0:=Y8 n (show m≠0 by omega)
   refine⟨sv,_,rfl,?_⟩;simp only[VS]at h2;simp![eJ,eP,m1,m2,ba (show done.length<lim by unfold lim;omega),show T.int (n % m)=(λd:Nat=>T.int (d:Int)) (n % m).toNat by(simp;omega),bK (λd:Nat=>T.int (d:Int))];exact⟨n / m,done++[(n % m).toNat],_,by rw[<- e1];simp[dg],λx hx=>h1 x (VK _ hx),by simp;omega,rfl,rfl⟩)
  λφ L' hh=>by
   obtain⟨n,done,o4,e1,h1,h2,rfl,rfl⟩:=hh;have e:dg (c % 2147483647 * 48271 % 2147483647) ms=done:=by rw[<- e1];simp[dg]
   rw[e];exact⟨sv,_,_,rfl⟩
 obtain⟨o2,o4,rfl⟩:=h;simp!;exact du (af λ_ _=>rfl)
def Nc(s:Int):∃a b:Nat,a+b<=4/\∀k:Int,0<=k->k<8->∀L,bw [.int s,.int k] L=.ok (.str (nameOf a b k.toNat)) L:=by
 have h1:=Y8 s (show(5:Int)≠0 by decide);have h2:=Y9 s (show(0:Int)<5 by decide)
 have h3:=Y8 (s / 5) (show 1+s % 5≠0 by omega);have h4:=Y9 (s / 5) (show 0<1+s % 5 by omega)
 refine⟨(s / 5 % (1+s % 5)).toNat,(1+s % 5 - 1 - s / 5 % (1+s % 5)).toNat,⇑0,λk k1 k2 L=>?_⟩;have hx:ix (.str (S "abcdefgh")) (.int k) L=.ok (.str [Bk.mB.getD k.toNat 0]) L:=by
  rw[vq k1 (show k<((S "abcdefgh").length:Int) from k2)];rfl
 unfold bw;simp![show 0<1+s % 5 by omega,hx,show S "m"=[109] from rfl];generalize s / 5 % (1+s % 5)=a at *
 generalize s % 5=q at *
 simp![hx,show(-4611686018427387904:Int)<=a by omega,show a<=1000000 by omega,show(-4611686018427387904:Int)<=1+q - 1 - a by omega,show 1+q - 1 - a<=1000000 by omega];rw[ao (by simp;unfold lim;omega)];simp!;rw[ao (by simp;unfold lim;omega)];simp!;simp[nameOf]
def dw:Int->Nat->List Cs->List Cs
 |_,0,_=>[]
 |n,m+1,as=>as.getD (n % as.length).toNat []::dw (n / as.length) m as
theorem Bz:∀(m:Nat)(n:Int)(as:List Cs),(dw n m as).length=m
 |0,_,_=>rfl
 |m+1,n,as=>by simp[dw,Bz m]
def md{n:Int}{l:Nat}(h:1<=l):0<=n % (l:Int)/\(n % (l:Int)).toNat<l:=by
 have h1:=Y8 n (show(l:Int)≠0 by omega);have h2:=Y9 n (show(0:Int)<l by omega)
 omega
theorem FV:∀(m:Nat)(n:Int)(as:List Cs),1<=as.length->∀a∈dw n m as,a∈as
 |0,_,_,_,a,h=>by cases h
 |m+1,n,as,hl,a,h=>by
  rcases Wt.mp h with rfl|h
  ·have:=(md (n:=n) hl).2
   simp_all
  ·exact FV m _ as hl a h
def BB{α:Type}{g:α->T}{l:List α}{n:Int}{d:α}(h:1<=l.length)(L:aa):ix (.lst (l.map g)) (.int (n % (l.length:Int))) L=.ok (g (l.getD (n % l.length).toNat d)) L:=by
 have:=md (n:=n) h;exact w9 this.1 (by simp_all)
def iF(ks:List Kd)(as:List Cs)(n:Int)(hk:1<=ks.length)(lR:ks.length<=100)(hc:∀k∈ks,k.c<=4)(ha:1<=as.length)(Kx:as.length<=100):
  ∃f,oG ks as f/\∀L,aP [.lst (ks.map kT),.int n,.lst (as.map .str)] L=.ok (fT f) L:=by
 have hi:=(md (n:=n) hk).2;have QN:ks.getD (n % ks.length).toNat ⟨[],0,f?⟩∈ks:=by
  simp_all
 have hx:=λL=>BB (g:=kT) (n:=n) (d:=⟨[],0,f?⟩) hk L
 generalize ks.getD (n % ks.length).toNat ⟨[],0,f?⟩=k at QN hx;refine⟨⟨k.n,dw (n / ks.length) k.c as⟩,⟨⟨k,QN,rfl,Bz _ _ _⟩,FV _ _ _ ha⟩,λL=>?_⟩;have UE:=hc k QN
 have UG:xK 0/\xK (k.c:Int):=⟨qi (n:=0) ∅,qi ⇑0⟩;have hr:∀(φ:Fr)(L':aa),φ[3]?=s? (s? (kT k))->yX (c (.int 0)) (vi 3 1) φ L'=.ok (M.upTo 0 ((k.c:Int) - 0).toNat,λ_=>True) L':=λφ L' h=>Be _ _ _ _ rfl (by simp only[M0,tB,vo,h,WK,a8,ak,RS,RX]) UG
 have hy:=λn' L=>BB (g:=T.str) (l:=as) (n:=n') (d:=[]) ha L
 have VA:∀n' m,dw n' (m+1) as=as.getD (n' % as.length).toNat []::dw (n' / as.length) m as:=λ_ _=>rfl
 unfold aP;simp![show(0:Int)<ks.length by omega,show(ks.length:Int)<1073741824 by omega,hx,hr];generalize ho:forL _ _ _ _ _ _=o;have h:=bN ho (W9 k.c) (λj:Nat=>T.int (0+(j:Int))) (λr φ L'=>∃(n':Int)(done:List Cs)(o5:Option T),done++dw n' r.length as=dw (n / ks.length) k.c as/\done.length+r.length<=4/\φ=[s? (.lst (ks.map kT)),s? (.int n'),s? (.lst (as.map .str)),s? (kT k),s? (.ref L.length),o5]/\L'=.lst (done.map .str)::L)
  (λo=>∃o1 o5,o=.nx [s? (.lst (ks.map kT)),o1,s? (.lst (as.map .str)),s? (kT k),s? (.ref L.length),o5] (.lst ((dw (n / ks.length) k.c as).map .str)::L)) (by rfl) ⟨n / ks.length,[],n?,⋯,⇑UE,rfl,rfl⟩ (λ_ _ eJ eP j r φ L' hh=>by
   obtain⟨n',done,o5,e1,e2,rfl,rfl⟩:=hh;refine⟨trivial,_,rfl,?_⟩;simp only[VS]at e1 e2;simp![eJ,eP,show(0:Int)<as.length by omega,show(as.length:Int)<1073741824 by omega,hy,ba (show done.length<lim by unfold lim;omega),bK];grind)
  λφ L' hh=>by
   obtain⟨n',done,o5,e1,e2,rfl,rfl⟩:=hh;have e:dw (n / ks.length) k.c as=done:=by rw[<- e1];simp[dw]
   simp_all
 obtain⟨o1,o5,rfl⟩:=h;simp!;exact ji (by simp[lt,eR,mV])
def xp{m d a:Nat}:clip m d (s? (a:Int))=min a m:=by
 show(if (a:Int)<0 then ((a:Int)+m).toNat else min a m)=_;exact if_neg (Int.not_lt.mpr (Int.natCast_nonneg a))
def Nd{α:Type}{xs:List α}{n:Nat}:cut xs (s? (n:Int)) n?=xs.drop n:=by
 unfold cut;rw[xp];show(xs.drop (min n xs.length)).take (xs.length - min n xs.length)=_
 rw[WE ⋯];rcases Nat.le_total n xs.length with h|h
 ·rw[Nat.min_eq_left h]
 ·rw[Nat.min_eq_right h,List.drop_length,Zb h]
def FW{α:Type}{xs:List α}{n:Nat}:cut xs n? (s? (n:Int))=xs.take n:=by
 unfold cut;rw[xp];show xs.take (min n xs.length)=_
 exact List.take_eq_take_min.symm
def FX{xs:List T}{n:Nat}(h:xs.length<=lim):lV t? (.lst xs) (s? (n:Int)) n? L=.ok (.lst (xs.drop n)) L:=by
 show fG t? (cut xs (s? (n:Int)) n?) L=_;rw[Nd,fG,ao (by simp;omega)];rfl
def mY{xs:List T}{n:Nat}(h:xs.length<=lim):lV t? (.lst xs) n? (s? (n:Int)) L=.ok (.lst (xs.take n)) L:=by
 show fG t? (cut xs n? (s? (n:Int))) L=_;rw[FW,fG,ao (by simp;omega)];rfl
def BC{xs:List T}{n:Nat}(h:xs.length<=lim):lV f? (.lst xs) n? (s? (n:Int)) L=.ok (.ref L.length) (.lst (xs.take n)::L):=by
 show fG f? (cut xs n? (s? (n:Int))) L=_;rw[FW,fG,ao (by simp;omega)];rfl
def P0{α β:Type}{R:α->β->Prop}{ds:List β}(h:Paired R [] ds):ds=[]:=by cases h;rfl
def P1{α β:Type}{R:α->β->Prop}{m:α}{ms:List α}{ds:List β}(h:Paired R (m::ms) ds):∃d r,ds=d::r/\R m d/\Paired R ms r:=by cases h with|cons a b=>exact⟨_,_,rfl,a,b⟩
def Nf:∀d:Nat,d<4->∃c:Nat,c<=4/\∀L,ix (.tup [.int 0,.int 1,.int 2,.int 4]) (.int (d:Nat)) L=.ok (.int (c:Nat)) L
 |0,_=>⟨0,∅,λ_=>rfl⟩
 |1,_=>⟨1,∅,λ_=>rfl⟩
 |2,_=>⟨2,∅,λ_=>rfl⟩
 |3,_=>⟨4,∅,λ_=>rfl⟩
def Ew(c:Int):∃ks,KG ks/\(ks.filter vB).length=2/\∀L,fj [.int c] L=.ok (.lst (ks.map kT)) L:=by
 refine gK λG n9=>?_
 obtain⟨_,p,e⟩:=mX c [25,2,4,2,4] ∅ ∅;obtain⟨d0,_,rfl,h0,p⟩:=P1 p;obtain⟨d1,_,rfl,h1,p⟩:=P1 p;obtain⟨d2,_,rfl,h2,p⟩:=P1 p;obtain⟨d3,_,rfl,h3,p⟩:=P1 p;obtain⟨d4,_,rfl,h4,p⟩:=P1 p;obtain rfl:=P0 p;simp only[VU,WH]at e;obtain⟨a,b,hab,hn⟩:=Nc (d0:Int);have n0:=hn 0 ∅ ∅
 have n1:=hn 1 ∅ ∅;have n2:=hn 2 ∅ ∅
 have n3:=hn 3 ∅ ∅;obtain⟨c2,xX,UH⟩:=Nf d2 ⇑0;have G:KG [⟨nameOf a b 0,d1,f?⟩,⟨nameOf a b 1,c2,f?⟩,⟨nameOf a b 2,2,t?⟩,⟨nameOf a b 3,d3,t?⟩]:=by
  refine⟨V3 4,?_,?_,⟨_,VK _ (VK _ VL),rfl⟩,⟨_,VL,rfl⟩⟩
  ·simp only[VU,WH,WZ,Wt,Zu,or_false,not_or,not_false_eq_true,and_true,Xz]
   have ne:∀i j,i<8->j<8->i≠j->nameOf a b i≠nameOf a b j:=λi j h1 h2 h e=>h (Bk.oE h1 h2 e)
   simp_all
  ·intro k hk
   simp only[Wt,Zu,or_false]at hk;rcases hk with rfl|rfl|rfl|rfl
   ·exact⟨Bk.cZ ∅ hab,by(simp;omega)⟩
   ·exact⟨Bk.cZ ∅ hab,xX⟩
   ·exact⟨Bk.cZ ∅ hab,⋯⟩
   ·exact⟨Bk.cZ ∅ hab,by(simp;omega)⟩
 refine n9 ?_;clear n9;refine⟨_,G.Ei (Bk.tL d4 _),?_,λL=>?_⟩
 ·rw[((Bk.tL d4 _).filter vB).length_eq];rfl
 ·unfold fj
  simp![e,n0,n1,n2,n3,UH];rw[FX (by simp;decide),ak,mY (by simp;decide)];simp!;rw[ao (by rw[VN,WG,W8];simp only[VS,WL];unfold lim;omega)];simp!;rw[V1,aau,XJ];refine fin_same ?_;rw[lt,jz];intro i x hx;have hm:=Wd hx
  have:x∈[kT ⟨nameOf a b 0,d1,f?⟩,kT ⟨nameOf a b 1,c2,f?⟩,kT ⟨nameOf a b 2,2,t?⟩,kT ⟨nameOf a b 3,d3,t?⟩]:=by
   rcases VR.mp hm with h|h
   ·exact aa2 h
   ·exact WQ h
  simp only[Wt,Zu,or_false]at this;rcases this with rfl|rfl|rfl|rfl<;>exact tQ _ _
def Ex{α β:Type}(f:α->β)(a b:α):[f a,f b]=[a,b].map f:=rfl
def QO{α β:Type}(f:α->β)(a:α):[f a]=[a].map f:=rfl
def KG.pass(h:KG ks):1<=(ks.filter vB).length:=by
 obtain⟨k,hk,e⟩:=h.no;exact aaJ (Wq.mpr ⟨hk,by simp[vB,e]⟩)
def KG.last(h:KG ks):1<=(ks.filter (·.l)).length:=by
 obtain⟨k,hk,e⟩:=h.yes;exact aaJ (Wq.mpr ⟨hk,by simp[e]⟩)
def nG{α:Type}{p:α->Bool}{l:List α}(h:l.length<=n):(l.filter p).length<=n:=VV (Ww _ _) h
def all2{α:Type}{P:α->Prop}{a b f:α}(ha:P a)(hb:P b)(h:f∈[a,b]):P f:=by
 grind
def Jt{α:Type}{P:α->Prop}{a b f:α}{n:Nat}(ha:P a)(hb:P b)(h:f∈[a,b].take n):P f:=all2 ha hb (WQ h)
def Ey(ks:List Kd)(hG:KG ks)(c:Int)(as:List Cs)(ha:1<=as.length)(Kx:as.length<=100):
  ∃tk kp:List Fc,tk.length<=2/\kp.length<=2/\1<=tk.length+kp.length/\(∀f∈tk,oG (ks.filter vB) as f)/\(∀f∈kp,oG ks as f)/\∀L,dy [.lst (ks.map kT),.int c,.lst (as.map .str)] L=.ok (.tup [.lst (tk.map fT),.lst (kp.map fT)]) L:=by
 have h4:ks.length<=100:=VV hG.len ∅;have Ju:∀k∈ks,k.c<=4:=λk hk=>(hG.ok k hk).2
 have R3:∀k∈ks.filter vB,k.c<=4:=λk hk=>Ju k (Wq.mp hk).1
 refine gK λG n9=>?_
 obtain⟨_,p,e⟩:=mX c [3,3,512,512] ∅ ∅;obtain⟨d0,_,rfl,h0,p⟩:=P1 p;obtain⟨d1,_,rfl,h1,p⟩:=P1 p;obtain⟨d2,_,rfl,h2,p⟩:=P1 p;obtain⟨d3,_,rfl,h3,p⟩:=P1 p;obtain rfl:=P0 p;obtain⟨_,p,e'⟩:=mX (c % 2147483629 * 69621 % 2147483629) [1024,1024] ∅ ∅;obtain⟨e0,_,rfl,_,p⟩:=P1 p;obtain⟨e1,_,rfl,_,p⟩:=P1 p;obtain rfl:=P0 p;simp only[VU,WH]at e e';obtain⟨f1,F1,x1⟩:=iF (ks.filter vB) as d2 (KG.pass hG) (nG h4) R3 ha Kx;obtain⟨f2,F2,x2⟩:=iF (ks.filter vB) as d3 (KG.pass hG) (nG h4) R3 ha Kx;obtain⟨g1,G1,y1⟩:=iF ks as e0 (VV (KG.pass hG) (Ww _ _)) h4 Ju ha Kx;obtain⟨g2,G2,y2⟩:=iF ks as e1 (VV (KG.pass hG) (Ww _ _)) h4 Ju ha Kx;have mT:∀f∈[f1,f2].take d0,oG (ks.filter vB) as f:=λf hf=>Jt F1 F2 hf
 have mK:∀f∈[g1,g2].take d1,oG ks as f:=λf hf=>Jt G1 G2 hf
 have run:∀L,dy [.lst (ks.map kT),.int c,.lst (as.map .str)] L=.ok (.tup [.lst (([f1,f2].take d0).map fT),.lst ((if ([f1,f2].take d0).length+([g1,g2].take d1).length=0 then [g1] else [g1,g2].take d1).map fT)]) L:=λL=>by
  unfold dy;simp!;rw[dP rfl ks kT vB kT (by exact rfl) (by exact aG) (by exact VV h4 ∅) (by exact λb _=>by simp!;rfl) (by exact λb _ _=>by simp!)];simp![e,e',x1,x2,y1,y2];rw[Ex fT,mY (by simp;decide)];simp![y1,y2];rw[Ex fT,mY (by simp;decide),<- XJ,Ex fT f1 f2,<- XJ];simp![<- Int.natCast_add];by_cases hz:([f1,f2].take d0).length+([g1,g2].take d1).length=0
  ·rw[if_pos hz,hz]
   simp![show(((0:Nat):Int)==0)=t? from rfl,y1];exact fin_same (by rw[lt,eR,eR,eR,af bu,QO fT,af bu];rfl)
  ·rw[if_neg hz,show((((([f1,f2].take d0).length+([g1,g2].take d1).length:Nat)):Int)==0)=f? by grind]
   simp!;exact fin_same (by rw[lt,eR,eR,eR,af bu,af bu];rfl)
 have t2:([f1,f2].take d0).length<=2:=by(simp;omega)
 have k2:([g1,g2].take d1).length<=2:=by(simp;omega)
 refine n9 ?_;clear n9;by_cases hz:([f1,f2].take d0).length+([g1,g2].take d1).length=0
 ·rw[if_pos hz]at run
  exact⟨_,_,t2,⋯,⋯,mT,λf hf=>by simp_all,run⟩
 grind
def gV(h:cP a):1<=a.length/\a.length<=12:=aV h.1
def Ng(h:cP a):([a.headD 0] == [78])=great a:=by
 rw[h.2];grind
def rL(fs:List Fc)(hf:∀f∈fs,∀a∈f.as,cP a)(hl:(fs.flatMap (·.as)).length<=32)(L:aa):cE [.lst (fs.map fT)] L=.ok (.lst ((opens fs).map .str)) L:=by
 unfold cE;simp!;generalize ho:forL _ _ _ _ _ _=o;obtain⟨z,w,rfl⟩:=qo (E:=λacc=>.lst (acc.map .str)) ho (λ_=>sv) hl hf λf a acc hn hl=>by
  simp![qj (gV hn).1,show S "N"=[78] from rfl,Ng hn];unfold fU;cases hg:great a with
  |false=>simp!
  |true=>
   simp![QL (x:=a) (t:=.ref L.length) (ys:=acc) (L:=.lst (acc.map .str)::L) (by simp!)];by_cases hm:a∈acc
   ·simp![hm,decide_true]
   ·simp![hm,decide_false,ba hl,bK]
 simp!;exact du (af λ_ _=>rfl)
def mZ(ns:List Cs)(h:1<=ns.length)(d:Nat):∃a∈ns,∀L,ix (.lst (ns.map .str)) (.int ((d:Int) % (ns.length:Int))) L=.ok (.str a) L:=by
 have:=md (n:=(d:Int)) h;refine⟨ns.getD ((d:Int) % ns.length).toNat [],?_,λL=>BB h L⟩;simp_all
def BD{L:aa}{a b c:T}(h:lt L.length c=t?):fin L (.ref (L.length+2)) (c::b::a::L)=.ok c L:=xg (Ln:=[c,b,a]) Jg ⇑0 h
def Nh:∀d:Nat,∃b:Bool,d<2->∀L,ix (.tup [.str (S "same"),.str (S "unlike")]) (.int (d:Nat)) L=.ok (.str (Bk.eK b)) L
 |0=>⟨t?,λ_ _=>rfl⟩
 |1=>⟨f?,λ_ _=>rfl⟩
 |d+2=>⟨t?,λz=>absurd z ⇑0⟩
def Ez(ns:List Cs)(hn:1<=ns.length)(uB:ns.length<=100)(c:Int):∃ks:List Lk,ks.length<=2/\(∀k∈ks,k.l∈ns/\k.r∈ns)/\∀L,fm [.lst (ns.map .str),.int c] L=.ok (.lst (ks.map pP)) L:=by
 refine gK λG n9=>?_
 obtain⟨_,p,e⟩:=mX c [3,5,5,5,5,5] ∅ ∅;obtain⟨d0,_,rfl,h0,p⟩:=P1 p;obtain⟨d1,_,rfl,h1,p⟩:=P1 p;obtain⟨d2,_,rfl,h2,p⟩:=P1 p;obtain⟨d3,_,rfl,h3,p⟩:=P1 p;obtain⟨d4,_,rfl,h4,p⟩:=P1 p;obtain⟨d5,_,rfl,h5,p⟩:=P1 p;obtain rfl:=P0 p;simp only[VU,WH]at e;obtain⟨a1,A1,x1⟩:=mZ ns hn d1;obtain⟨a2,A2,x2⟩:=mZ ns hn d2;obtain⟨a4,A4,x4⟩:=mZ ns hn d4;obtain⟨a5,A5,x5⟩:=mZ ns hn d5;have l1:pP ⟨t?,a1,a2⟩=.tup [.str (S "same"),.str a1,.str a2]:=rfl
 have l2:pP ⟨f?,a1,a2⟩=.tup [.str (S "unlike"),.str a1,.str a2]:=rfl;obtain⟨b3,R4⟩:=Nh d3;have l3:pP ⟨b3,a4,a5⟩=.tup [.str (Bk.eK b3),.str a4,.str a5]:=rfl
 refine n9 ?_;clear n9;refine⟨(if d0<2 then [(⟨f?,a1,a2⟩:Lk)].take d0 else [⟨t?,a1,a2⟩])++(if d3<2 then [⟨b3,a4,a5⟩] else []),?_,?_,λL=>?_⟩
 ·grind
 ·grind
 ·have hp:(0:Int)<ns.length:=by omega
  have tl:∀ks:List Lk,lt L.length (.lst (ks.map pP))=t?:=λks=>af vE
  unfold fm;simp![e,hp,x1,x2,<- l1];by_cases z0:d0<2
  ·simp![show((d0:Nat):Int)<2 by omega,decide_true,l1,<- l2]
   rw[BC (by simp;decide)];simp!;rw[if_pos z0];by_cases z3:d3<2
   ·simp![show((d3:Nat):Int)<2 by omega,decide_true,R4 z3,x4,x5,<- l3,hp]
    rw[ao (show _<_ by rw[W8];simp;unfold lim;omega),if_pos z3];simp!;rw[show [pP ⟨f?,a1,a2⟩].take d0++[pP ⟨b3,a4,a5⟩]=([(⟨f?,a1,a2⟩:Lk)].take d0++[(⟨b3,a4,a5⟩:Lk)]).map pP by simp];exact BD (tl _)
   ·simp![show ¬ ((d3:Nat):Int)<2 by omega,decide_false]
    rw[if_neg z3,V8,show [pP ⟨f?,a1,a2⟩].take d0=([(⟨f?,a1,a2⟩:Lk)].take d0).map pP by simp];exact BD (tl _)
  ·simp![show ¬ ((d0:Nat):Int)<2 by omega,decide_false]
   rw[if_neg z0];by_cases z3:d3<2
   ·simp![show((d3:Nat):Int)<2 by omega,decide_true,R4 z3,x4,x5,<- l3,hp]
    rw[ao (show _<_ by decide),if_pos z3];simp!;exact du (tl [⟨t?,a1,a2⟩,⟨b3,a4,a5⟩])
   ·simp![show ¬ ((d3:Nat):Int)<2 by omega,decide_false]
    rw[if_neg z3];exact du (tl [⟨t?,a1,a2⟩])
def yE{fs:List Fc}(hc:∀k∈ks,k.c<=4)(h:∀f∈fs,oG ks as f)(hl:fs.length<=8):(fs.flatMap (·.as)).length<=32:=by
 have:=Bk.bZ (l:=fs) (g:=(·.as)) (B:=4) λf hf=>by
  obtain⟨⟨k,hk,_,e⟩,_⟩:=h f hf;simp_all
 omega
def Jv{L:aa}{a b c d:T}(h:lt L.length a=t?/\lt L.length b=t?/\lt L.length c=t?/\lt L.length d=t?)(hy:lt L.length y=t?):fin L (.tup [a,b,c,d,.ref (L.length+1)]) (y::x::L)=.ok (.tup [a,b,c,d,y]) L:=by
 unfold fin;have e:(y::x::L).drop ((y::x::L).length - L.length)=L:=by
  rw[show(y::x::L).length - L.length=2 by(simp;omega)];rfl
 rw[e,if_pos (eL L)];unfold bE;rw[if_neg (by simp[lt,eR,h])];have f:∀{t:T},lt L.length t=t?->bE L.length (y::x::L) 8 t=s? t:=λh=>by unfold bE;rw[if_pos h]
 have e2:bE L.length (y::x::L) 8 (.ref (L.length+1))=s? y:=by
  unfold bE;rw[if_neg (by simp[lt])];simp only[tN];unfold bE;rw[if_pos hy]
 simp[Xj,f h.1,f h.2.1,f h.2.2.1,f h.2.2.2,e2,lift]
def twice{T g:Prop}(a:T->g)(b:T):g:=a b
def BE(ks:List Kd)(hG:KG ks)(c1 c2:Int)(as os ws:List Cs)(ha:1<=as.length)(Kx:as.length<=10)(hw:1<=ws.length)(VB:ws.length<=10)(uC:∀a∈as,a∈os++ws)(hok:∀a∈as,cP a):
  ∃r:Rl,MC ks os ws r/\∀L,gq [.lst (ks.map kT),.int c1,.int c2,.lst (as.map .str),.lst (ws.map .str)] L=.ok (xT r) L:=by
 refine gK λG n9=>?_
 obtain⟨tk,kp,t2,k2,Dx,FT,FK,eh⟩:=Ey ks hG c1 as ha ⇑0;have Ju:∀k∈ks,k.c<=4:=λk hk=>(hG.ok k hk).2
 have FA:∀f∈tk++kp,oG ks as f:=λf hf=>by
  rcases VR.mp hf with h|h
  ·obtain⟨⟨k,hk,e⟩,h2⟩:=FT f h
   exact⟨⟨k,(Wq.mp hk).1,e⟩,h2⟩
  ·exact FK f h
 have Fb:=yE Ju FA (by simp;omega);have en:=λL=>rL (tk++kp) (λf hf a h=>hok a ((FA f hf).2 a h)) Fb L
 have ho:(opens (tk++kp)).length<=0+_:=Bk.jE _ [];obtain⟨ns,Fy⟩:∃ns,ns=opens (tk++kp)++ws:=⟨_,rfl⟩;have yS:1<=ns.length:=by rw[Fy,VN];omega
 have uB:ns.length<=100:=by rw[Fy,VN];omega
 obtain⟨kk,Dw⟩:∃kk,kk=if tk=[] then ks.filter (·.l) else ks:=⟨_,rfl⟩
 have lX:1<=kk.length:=by rw[Dw];split;exact KG.last hG;exact VV (KG.pass hG) (Ww _ _)
 have lR:kk.length<=100:=by rw[Dw];split;exact nG (VV hG.len ∅);exact VV hG.len ∅
 have Ks:∀k∈kk,k.c<=4:=λk hk=>by
  rw[Dw]at hk;split at hk
  ·exact Ju k (Wq.mp hk).1
  ·exact Ju k hk
 obtain⟨_,p,e⟩:=mX c2 [3,2500,2500] ∅ ∅;obtain⟨d0,_,rfl,h0,p⟩:=P1 p;obtain⟨d1,_,rfl,h1,p⟩:=P1 p;obtain⟨d2,_,rfl,h2,p⟩:=P1 p;obtain rfl:=P0 p;obtain⟨_,p,e'⟩:=mX (c2 % 2147483629 * 40692 % 2147483629) [2,5,5,3,5,5] ∅ ∅;obtain⟨b0,_,rfl,q0,p⟩:=P1 p;obtain⟨b1,_,rfl,_,p⟩:=P1 p;obtain⟨b2,_,rfl,_,p⟩:=P1 p;obtain⟨b3,_,rfl,_,p⟩:=P1 p;obtain⟨b4,_,rfl,_,p⟩:=P1 p;obtain⟨b5,_,rfl,_,p⟩:=P1 p;obtain rfl:=P0 p;simp only[VU,WH]at e e';obtain⟨f1,F1,x1⟩:=iF kk ns d1 lX lR Ks yS uB;obtain⟨f2,F2,x2⟩:=iF kk ns d2 lX lR Ks yS uB;obtain⟨lk,l2,UI,el⟩:=Ez ns yS uB (c2 % 2147483629 * 69621 % 2147483629);obtain⟨a1,A1,y1⟩:=mZ ns yS b1;obtain⟨a2,A2,y2⟩:=mZ ns yS b2;obtain⟨a4,A4,y4⟩:=mZ ns yS b4;obtain⟨a5,A5,y5⟩:=mZ ns yS b5;have hp:(0:Int)<ns.length:=by omega
 have tT:∀f∈tk,oG (ks.filter vB) (os++ws) f:=λf hf=>⟨(FT f hf).1,λa h=>uC a ((FT f hf).2 a h)⟩
 have tK:∀f∈kp,oG ks (os++ws) f:=λf hf=>⟨(FK f hf).1,λa h=>uC a ((FK f hf).2 a h)⟩
 have tP:∀f∈[f1,f2].take d0,oG kk ns f:=λf hf=>Jt F1 F2 hf
 obtain⟨tl,UJ,QP,tell⟩:∃tl:List (Cs × Cs),(∀p∈tl,p.1∈ns/\p.2∈ns)/\tl.length<=2/\tl=[(a1,a2)].take b0++(if b3=1 then [(a4,a5)] else []):=by
  refine⟨_,λp hp=>?_,?_,rfl⟩
  ·rcases VR.mp hp with h|h
   ·rw[Wb.mp (WQ h)];exact⟨A1,A2⟩
   ·split at h
    ·rw[Wb.mp h];exact⟨A4,A5⟩
    ·cases h
  ·have:([(a1,a2)].take b0).length<=1:=by rw[W8];exact aaC _ _
   rw[VN];split<;>simp at this ⊢<;>omega
 have p2:([f1,f2].take d0).length<=2:=by rw[W8];exact aaC _ _
 refine n9 ?_;clear n9;refine⟨⟨[],tk,kp,lk,[f1,f2].take d0,tl⟩,⟨tT,tK,?_,?_,?_,Dx,t2,k2,l2,p2,QP⟩,λL=>?_⟩
 ·rw[<- Dw,<- Fy];exact tP
 ·rw[<- Fy];exact UI
 ·rw[<- Fy];exact UJ
 ·unfold gq
  simp![eh,VN,ao (show tk.length+kp.length<=lim by unfold lim;omega),en,ao (show(opens (tk++kp)).length+ws.length<=lim by unfold lim;omega),<- V1,<- Fy,ao (show ns.length<=lim by unfold lim;omega)];have fin:∀L,fin L (.tup [.lst (tk.map fT),.lst (kp.map fT),.lst (lk.map pP),.lst (([f1,f2].take d0).map fT),.ref (L.length+1)]) (.lst (tl.map pT) :: .lst [pT (a1,a2)]::L)=.ok (xT ⟨[],tk,kp,lk,[f1,f2].take d0,tl⟩) L:=λL=>Jv ⟨af bu,af bu,af vE,af bu⟩ (af iR)
  apply twice
  ·intro key
   by_cases ht:tk=[]
   ·rw[if_pos ht]at Dw
    simp![show((tk.length:Int)==0)=t? by rw[ht];rfl];rw[dP rfl ks kT (·.l) kT (by exact rfl) (by exact aG) (VV hG.len ∅) (by exact λb _=>by simp!) (by exact λb _ _=>by simp!)];simp![<- Dw];exact key
   ·rw[if_neg ht]at Dw
    simp![show((tk.length:Int)==0)=f? by simpa using ht,<- Dw];exact key
  simp![e,x1,x2];rw[Ex fT f1 f2,mY (by simp;decide),<- XJ];simp![el,e',hp,y1,y2];rw[show T.tup [.str a1,.str a2]=pT (a1,a2) from rfl,BC (by simp;decide)];simp!;by_cases h3:b3=1
  ·rw[if_pos h3]at tell
   simp![show((b3:Int)==1)=t? by rw[h3];rfl,hp,y4,y5];rw[ao (show _<_ by rw[W8];simp;unfold lim;omega)];simp!;rw[show [pT (a1,a2)].take b0++[.tup [.str a4,.str a5]]=tl.map pT by rw[tell,V1,XJ];rfl];exact fin L
  ·rw[if_neg h3,V8]at tell
   simp![show((b3:Int)==1)=f? by simp;omega];rw[show [pT (a1,a2)].take b0=tl.map pT by rw[tell,XJ];rfl];exact fin L
def Jw:∀{ls:List Cs},(∀l∈ls,l.length<=B)->(ls.map (·.length)).sum<=ls.length * B:=by
 intro l9;induction l9 with
 |nil=>intro _;simp
 |cons a r ih=>
  intro h;have h1:=ih (λl hl=>h l (VK _ hl))
  have h2:=h a VL;rw[VU,List.sum_cons,VS,abA];omega
def rM(ht:t=.lst (zs.map .str))(hz:zs.length<=n)(hB:∀z∈zs,z.length<=B)(h:n * B+n * sep.length<=16777216):mO (.str sep) [t] L=.ok (.str (jn sep zs)) L:=by
 subst ht;refine I9 ?_;have:=Jw hB
 have h1:=XG B hz;have h2:=XG sep.length hz
 omega
def BF(f:Fc):jf f=if f.as=[] then f.k else ((f.k++[40])++jn [44] f.as)++[41]:=rfl
def EA(f:Fc)(h:FG f)(L:aa):cx [fT f] L=.ok (.str (jf f)) L:=by
 have ha:∀a∈f.as,a.length<=12:=λa h2=>(aV (h.as a h2)).2
 have hn:=h.n;have hf:(jf f).length<=70:=h.im.1
 unfold cx;simp!;by_cases h0:f.as=[]
 ·simp![show((f.as.length:Int)==0)=t? by rw[h0];rfl]
  rw[BF,if_pos h0]
 ·have hb:bG t? [.tup (f.as.map .str)] L=.ok (.lst (f.as.map .str)) L:=by
   show fG t? (f.as.map .str) L=_;rw[fG,ao (by rw[Lm9];unfold lim;omega)];rfl
  rw[BF,if_neg h0]at hf;simp only[VN,Zq]at hf;simp![show((f.as.length:Int)==0)=f? by simpa using h0,Zq];rw[ao ⇑1];simp![hb,rM (sep:=[44]) rfl hn ha ∅];simp only[VN,VS,WL];rw[ao ⇑1];simp!;rw[ao (by simp only[VN,VS,WL];unfold lim;omega),BF,if_neg h0];simp!
def lL{α:Type}(n:Nat)(l:List α)(g:α->Im)(h:n<5/\(l.map g).length<=3/\∀i∈l.map g,tG i)(L:aa):aM [.str (wordAt n),.lst (l.map λa=>.str (g a).tx)] L=.ok (.lst ((qe (wordAt n) ((l.map g).map (·.tx))).map .str)) L:=by
 have hw:=(Bk.AZ h.1).2;have hl:∀m∈(l.map g).map (·.tx),m.length<=70:=λm hm=>by
  obtain⟨i,hi,rfl⟩:=VP.mp hm;exact(h.2.2 i hi).1
 have hr:=Bk.mx (sep:=[44,32]) hl;have hm:((l.map g).map (·.tx)).length<=3:=by simp_all
 rw[show(l.map λa=>T.str (g a).tx)=((l.map g).map (·.tx)).map .str by simp];generalize (l.map g).map (·.tx)=ms at hr hm hl;unfold aM qe;simp!;by_cases h0:ms=[]
 ·simp![show((ms.length:Int)==0)=t? by rw[h0];rfl]
  rw[if_pos h0];exact fin_same rfl
 ·simp![show((ms.length:Int)==0)=f? by simpa using h0,Zq]
  rw[ao ⇑1];simp![show S ", "=[44,32] from rfl,rM (sep:=[44,32]) rfl hm hl ∅];rw[ao (by simp only[VN,VS,WL]at hr ⊢;unfold lim;omega)];simp!;rw[if_neg h0,We];exact fin_same rfl
def EB{α:Type}{g:α->T}:∀(l:List α)(n:Nat),num n (l.map g)=(l.zipIdx n).map λp=>.tup [.int (p.2:Nat),g p.1]:=by
 intro l9;induction l9 with
 |nil=>intro _;exact rfl
 |cons a l ih=>intro n;rw[VU,num,ih (n+1)];rfl
def xq:∀c≤4,(WS (toString ((c:Nat):Int))).cps.toList=[48+c]/\((c:Nat):Int).natAbs.log2<1920:=by decide +kernel
def xr(c:Nat)(h:c<=4)(L:aa):uI [.int (c:Nat)] L=.ok (.str [48+c]) L:=by
 unfold uI;simp only[(xq c h).1];exact ao ⟨(xq c h).2,by simp;decide⟩
def rN(fs:List Fc)(h:∀f∈fs,FG f)(hl:fs.length<=10){s:SI}{aZ:List (Option Nat)}{φ:Fr}{k:aa->Prop}(hc:comp t? s aZ (.one 1) yes (ae cx [v 1]) φ L=r)(hs:s φ L=.ok (fs.map fT,k) L)(hk:k L)(hv:∀x,((inner aZ φ).set 1 (s? x))[1]?=s? (s? x)):
  r=.ok (.lst (fs.map λf=>.str (jf f))) L:=by
 rw[aO hc fs fT (λf=>.str (jf f)) hs hk ⇑1 λf hf=>by simp only[tC,iw,gP,vo,hv,WK,a8,ak];exact EA f (h f hf) L];rfl
def jm(w:Cs)(m:List Cs):(qe w m).length<=1:=by
 unfold qe;split<;>simp
def yF{α β:Type}(f:α->β):∀(l:List α)(acc:List β),l.foldl (λacc k=>acc++[f k]) acc=acc++l.map f:=by
 intro l9;induction l9 with
 |nil=>intro acc;exact(V8 acc).symm
 |cons a l ih=>intro acc;rw[XR,ih,We];rfl
def oV:List Kd × List Rl × aa->Prop:=λ(ks,rs,L)=>∀(hG:KG ks)(h2:rs.length=2)(hT:∀r∈rs,∀i<2,uD ks (Bk.lA r (Bk.rT i))),gz [.lst (ks.map kT),.lst (rs.map xT)] L=.ok (.str (jn [10] (ks.map aC++(aA rs).map cg))) L
namespace uh
def c:=uA ⟨by repeat' first|exact default|constructor⟩ oV
def ks:=c.1
def rs:=c.2.1
def L:=c.2.2
def t:oV (ks,rs,L):=by
 intro hG h2 hT;unfold gz;simp!;generalize ho:forL _ _ _ _ _ _=o;obtain⟨o3,o4,rfl⟩:=lD ks kT (λacc=>.lst (acc.map .str)) (λacc k=>acc++[aC k]) (λr acc=>acc.length+r.length<=4/\∀k∈r,cf k.n=t?/\k.c<=4) (λz w=>[s? (.lst (ks.map kT)),s? (.lst (rs.map xT)),s? (.ref L.length),z,w,n?,n?,n?]) (s:=[]) ho (λ_=>sv) (λ_ _ _=>rfl) ⟨⇑hG.len,hG.ok⟩ λk r acc w h=>by
  have hk:=h.2 k VL;have hl:=(aV (Bk.bx hk.1)).2
  have h1:=h.1;rw[VS]at h1;have hd:acc.length<lim:=by unfold lim;omega
  refine⟨⟨by(simp;omega),λg hg=>h.2 g (VK _ hg)⟩,?_⟩;simp_all![xr k.c hk.2,show S "lasting "=Bk.cD++[32] from rfl,show S "passing "=Bk.cC++[32] from rfl];cases R5:k.l with
  |true=>
   simp_all![xr k.c hk.2];exact⟨_,by simp[aC,R5];rfl⟩
  |false=>
   simp_all![xr k.c hk.2];exact⟨_,by simp[aC,R5];rfl⟩
 rw[yF,WM];simp!;rw[EB rs 0];generalize ho:forL _ _ _ _ _ _=o;have h:=bN ho rs.zipIdx (λp=>.tup [.int (p.2:Nat),xT p.1]) (λq φ L'=>∃done o5 o6 o7,done++q=rs.zipIdx/\φ=[s? (.lst (ks.map kT)),s? (.lst (rs.map xT)),s? (.ref L.length),o3,o4,o5,o6,o7]/\L'=.lst ((ks.map aC++done.map λp=>cg (Bk.lA p.1 (Bk.rT p.2))).map .str)::L)
  (λo=>∃φ,o=.nx (s? (.lst (ks.map kT))::s? (.lst (rs.map xT))::s? (.ref L.length)::φ) (.lst ((ks.map aC++(aA rs).map cg).map .str)::L)) rfl ⟨[],n?,n?,n?,rfl,rfl,⋯⟩ (λ_ _ eJ eP p q φ L' hh=>by
   obtain⟨done,o5,o6,o7,e1,rfl,rfl⟩:=hh;obtain⟨r,i⟩:=p;have hm:(r,i)∈rs.zipIdx:=by rw[<- e1];simp
   have hi:i<2:=by have:=List.mem_zipIdx hm;omega
   have hr:r∈rs:=(List.mem_zipIdx' hm).2 ▸ Wn _;refine gK λG n9=>?_
   have H:=hT r hr i hi;have hf:∀f∈r.take++r.keep++r.put,FG f:=λf hf=>(H.f f hf).1
   have gt:∀f∈r.take,FG f:=λf h=>hf f (V2 _ (V2 _ h))
   have gk:∀f∈r.keep,FG f:=λf h=>hf f (V2 _ (V6 _ h))
   have gp:∀f∈r.put,FG f:=λf h=>hf f (V6 _ h)
   have g2:∀k∈r.ah,aD k.l=t?/\aD k.r=t?:=H.l;have g3:∀k∈r.tell,aD k.1=t?/\aD k.2=t?:=H.p
   obtain⟨f1,f2,f3,f4,f5⟩:OA 3 r:=H.ip;have c1:=jm (wordAt 0) ((r.take.map fI).map (·.tx))
   have c2:=jm (wordAt 1) ((r.keep.map fI).map (·.tx));have c3:=jm (wordAt 2) ((r.ah.map lI).map (·.tx))
   have c4:=jm (wordAt 3) ((r.put.map fI).map (·.tx));have c5:=jm (wordAt 4) ((r.tell.map pI).map (·.tx))
   have row:=H.row;have q0:∀L,aM [.str (wordAt 0),.lst (r.take.map λf=>.str (jf f))] L=_:=lL 0 r.take fI (row _ (.head _))
   have q1:∀L,aM [.str (wordAt 1),.lst (r.keep.map λf=>.str (jf f))] L=_:=lL 1 r.keep fI (row _ (.tail _ (.head _)));have q2:∀L,aM [.str (wordAt 2),.lst (r.ah.map λf=>.str (oB f))] L=_:=lL 2 r.ah lI (row _ (.tail _ (.tail _ (.head _))))
   have q3:∀L,aM [.str (wordAt 3),.lst (r.put.map λf=>.str (jf f))] L=_:=lL 3 r.put fI (row _ (.tail _ (.tail _ (.tail _ (.head _)))));have q4:∀L,aM [.str (wordAt 4),.lst (r.tell.map λf=>.str (oC f))] L=_:=lL 4 r.tell pI (row _ (.tail _ (.tail _ (.tail _ (.tail _ (.head _))))))
   have hdn:done.length<=2:=by
    have:=congrArg Xg e1;simp[h2]at this;omega
   have h4:=hG.len;refine n9 ?_;clear n9;refine⟨sv,_,rfl,?_⟩;simp![eJ,eP];rw[rN r.take gt ⇑0 rfl (by exact rfl) (by exact sv) (by exact λ_=>rfl)];simp![eJ,eP,show S "take"=wordAt 0 from rfl,q0];rw[rN r.keep gk ⇑0 rfl (by exact rfl) (by exact sv) (by exact λ_=>rfl)];simp_all![eJ,eP,show S "keep"=wordAt 1 from rfl,q1];rw[aO rfl r.ah pP (λk=>.str (oB k)) (by exact rfl) (by exact sv) ⇑1 (λk hk=>by
    have z:=g2 k hk;have z1:=(aV z.1).2
    have z2:=(aV z.2).2;have z3:=(Bk.A0 k.same).2
    simp_all![eJ,eP];simp[oB])]
   simp_all![eJ,eP,show S "look"=wordAt 2 from rfl,q2];rw[rN r.put gp ⇑0 rfl (by exact rfl) (by exact sv) (by exact λ_=>rfl)];simp_all![eJ,eP,show S "put"=wordAt 3 from rfl,q3];rw[aO rfl r.tell pT (λk=>.str (oC k)) (by exact rfl) (by exact sv) ⇑1 (λk hk=>by
    have z:=g3 k hk;have z1:=(aV z.1).2
    have z2:=(aV z.2).2;simp_all![eJ,eP,show S " = "=[32,61,32] from rfl];simp[oC])]
   simp_all![eJ,eP,show S "tell"=wordAt 4 from rfl,q4];have hz:_++(_++(_++(_++(_++[]))))=(i0 r).map iN:=Bk.A3 (rows r)
   obtain⟨zl,zb⟩:((i0 r).map iN).length<=5/\∀l∈(i0 r).map iN,l.length<=230:=H.parts;have zj:=VV (Bk.mx (sep:=[59,32]) zb) (XG 232 zl)
   have hj:=λL=>rM (sep:=S "; ") (zs:=(i0 r).map iN) (L:=L) rfl zl zb ∅
   rw[<- hz]at hj;simp only[V8,V1,<- We]at hj;simp only[V8,<- We]at hz;rw[hz,show S "; "=[59,32] from rfl]at hj;simp_all![eJ,eP,xr i ⇑0,show S "rule r"=[114,117,108,101,32,114] from rfl,show S ": "=[58,32] from rfl,show S "; "=[59,32] from rfl,hj];exact⟨done++[(r,i)],_,_,_,⇑e1,rfl,by simp[cg,Bk.lA,Bk.rT,i0,rows]⟩)
  λφ L' hh=>by
   obtain⟨done,o5,o6,o7,e1,rfl,rfl⟩:=hh;rw[V8]at e1;subst e1;rw[show(aA rs).map cg=rs.zipIdx.map λp=>cg (Bk.lA p.1 (Bk.rT p.2)) by unfold aA;simp];exact⟨sv,_,rfl⟩
 obtain⟨φ,rfl⟩:=h;have UK:(ks.map aC++(aA rs).map cg).length<=6:=by have:=hG.len;simp[aA,h2];omega
 have UL:mO (.str (S "\n")) [.ref L.length] (.lst ((ks.map aC++(aA rs).map cg).map .str)::L)=.ok (.str (jn [10] (ks.map aC++(aA rs).map cg))) (.lst ((ks.map aC++(aA rs).map cg).map .str)::L):=by
  have:=rM (sep:=S "\n") (zs:=ks.map aC++(aA rs).map cg) (L:=.lst ((ks.map aC++(aA rs).map cg).map .str)::L) (B:=1300) rfl UK (λl h=>by
   rcases VR.mp h with h|h
   ·obtain⟨k,hk,rfl⟩:=VP.mp h
    exact VV (Bk.my (hG.ok k hk)).2 ∅
   ·obtain⟨r,hr,rfl⟩:=VP.mp h
    obtain⟨x,hx,rfl⟩:=VP.mp hr;have:=List.mem_zipIdx hx
    exact(hT x.1 ((List.mem_zipIdx' hx).2 ▸ Wn _) x.2 ⇑0).line.2) ∅
  rw[show S "\n"=[10] from rfl]at this ⊢;rw[<- this];unfold mO;simp only[items,eU,cq,eV];rfl
 simp![UL];exact ji rfl
end uh
def Jy(ks rs L):oV (ks,rs,L):=cW uh.t _
def oN(a b k:Nat):Cs:=78::nameOf a b k
def Jz(hk:k<8)(hab:a+b<=4):(nameOf a b k).all gd=t?:=by
 have h:=Bk.bx (Bk.cZ hk hab);unfold aD at h;simp_all
def FY(a b k:Nat):(nameOf a b k).length=a+b+1:=by simp[nameOf];omega
def jo(a b k:Nat):great (oN a b k)=t?:=by
 rfl
def jq(hk:k<8)(hab:a+b<=4):great (nameOf a b k)=f?:=by
 have h:=Bk.cZ hk hab;unfold cf at h;rw[VW]at h;have h:=of_decide_eq_true h.2
 unfold great;refine decide_eq_false λz=>?_
 generalize (nameOf a b k).headD 0=c at h z;exact(by decide +kernel:∀c∈Ja.vt.cps.toList,c∉Ja.vz.cps.toList) c h z
def j7(hk:k<8)(hab:a+b<=4):cP (oN a b k):=by
 refine⟨?_,by rfl⟩;unfold aD oN;rw[WD,Jz hk hab,show gd 78=t? by rfl,VS,FY,decide_eq_true ⇑0,decide_eq_true ⇑0];rfl
def vO(hk:k<8)(hab:a+b<=4):cP (nameOf a b k):=by
 refine⟨Bk.bx (Bk.cZ hk hab),?_⟩;rw[jq hk hab];refine(decide_eq_false λz=>?_).symm;have:great (nameOf a b k)=t?:=by unfold great;rw[z];rfl
 rw[jq hk hab]at this;cases this
def JA{L:aa}{a b c x:T}(ha:lt L.length a=t?)(hb:lt L.length b=t?)(hc:lt L.length c=t?)(hx:lt L.length x=t?):fin L (.tup [a,b,c,.ref L.length]) (x::L)=.ok (.tup [a,b,c,x]) L:=by
 unfold fin;have e:(x::L).drop ((x::L).length - L.length)=L:=by simp
 rw[e,if_pos (eL L)];unfold bE;rw[if_neg (by simp[lt,eR,ha,hb,hc])];have f:∀{t:T},lt L.length t=t?->bE L.length (x::L) 8 t=s? t:=λh=>by unfold bE;rw[if_pos h]
 have e2:bE L.length (x::L) 8 (.ref L.length)=s? x:=by
  unfold bE;rw[if_neg (by simp[lt])];simp only[cq];unfold bE;rw[if_pos hx]
 simp[Xj,f ha,f hb,f hc,e2,lift]
def al{α:Type}{p:α->Prop}{a:α}{l:List α}(h:p a)(t:∀x∈l,p x):∀x∈a::l,p x:=YO.mpr ⟨h,t⟩
def OE{α:Type}{p:α->Prop}:∀x∈([]:List α),p x:=λ_ h=>nomatch h
def QR(cs:List Int):∃ks ns ws rs,rA ks ns ws rs/\(ks.filter vB).length=2/\∀L,gu [.lst (cs.map .int)] L=.ok (.tup [.lst (ks.map kT),.lst (ns.map .str),.lst (ws.map .str),.lst (rs.map xT)]) L:=by
 refine gK λG n9=>?_
 obtain⟨ks,hG,hP,ek⟩:=Ew (cs.getD 0 0);obtain⟨a,b,hab,hn⟩:=Nc (cs.getD 1 0 % 25);have n4:=hn 4 ∅ ∅
 have n5:=hn 5 ∅ ∅;have R6:∀x∈[oN a b 0,oN a b 1,oN a b 2,nameOf a b 4],cP x:=al (j7 ∅ hab) (al (j7 ∅ hab) (al (j7 ∅ hab) (al (vO ∅ hab) OE)))
 have R7:∀x∈[oN a b 0,oN a b 1,oN a b 2,nameOf a b 4],x∈[oN a b 0,oN a b 1,oN a b 2]++[nameOf a b 4,nameOf a b 5]:=λx hx=>(VR.mp (show x∈[oN a b 0,oN a b 1,oN a b 2]++[nameOf a b 4] from hx)).elim (V2 _) λh=>V6 _ (V2 [nameOf a b 5] h)
 obtain⟨r1,D1,x1⟩:=BE ks hG (cs.getD 2 0) (cs.getD 3 0) [oN a b 0,oN a b 1,oN a b 2,nameOf a b 4] [oN a b 0,oN a b 1,oN a b 2] [nameOf a b 4,nameOf a b 5] ⋯ ⋯ ⋯ ⋯ R7 R6;obtain⟨r2,D2,x2⟩:=BE ks hG (cs.getD 4 0) (cs.getD 5 0) [oN a b 0,oN a b 1,oN a b 2,nameOf a b 4] [oN a b 0,oN a b 1,oN a b 2] [nameOf a b 4,nameOf a b 5] ⋯ ⋯ ⋯ ⋯ R7 R6;have neN:∀i j,i<8->j<8->i≠j->oN a b i≠oN a b j:=λi j h1 h2 h e=>h (Bk.oE h1 h2 (XK e).2)
 have VC:nameOf a b 4≠nameOf a b 5:=λe=>absurd (Bk.oE ∅ ∅ e) ∅
 have VD:∀i j,j<8->oN a b i≠nameOf a b j:=λi j h e=>by have:=jo a b i;rw[e,jq h hab]at this;cases this
 refine n9 ?_;clear n9;refine⟨ks,[oN a b 0,oN a b 1,oN a b 2,oN a b 3],[nameOf a b 4,nameOf a b 5],[r1,r2],⟨hG,rfl,rfl,?_,?_,?_,?_,rfl,?_⟩,hP,λL=>?_⟩
 ·exact al (j7 ∅ hab) (al (j7 ∅ hab) (al (j7 ∅ hab) (al (j7 ∅ hab) (al (vO ∅ hab) (al (vO ∅ hab) OE)))))
 ·exact al (jo _ _ _) (al (jo _ _ _) (al (jo _ _ _) (al (jo _ _ _) OE)))
 ·exact al (jq ∅ hab) (al (jq ∅ hab) OE)
 ·simp_all
 ·simp_all
 ·have UM:∀k,k<8->(nameOf a b k).length<=5:=λk _=>by rw[FY];omega
  unfold gu;simp_all![rK,ek];rw[aO rfl (W9 4) (λj:Nat=>T.int (0+(j:Int))) (λj=>.str (oN a b j)) (by exact Be _ _ _ _ rfl rfl ⟨qi (n:=0) ∅,qi (n:=4) ∅⟩) ⋯ ∅ (λj hj=>by
   have hj:j<4:=Z7.mp hj;have:=UM j ⇑0
   have e:=λL=>hn (0+(j:Int)) ⇑0 ⇑0 L
   simp only[show(0+(j:Int)).toNat=j by omega]at e;simp_all![e,show S "N"=[78] from rfl];rfl)]
  simp_all![n4,n5];rw[show(W9 4).map (λj=>T.str (oN a b j))=[.str (oN a b 0),.str (oN a b 1),.str (oN a b 2),.str (oN a b 3)] from rfl];simp only[VU,WH]at x1 x2;have s3:∀L,lV t? (.lst [.str (oN a b 0),.str (oN a b 1),.str (oN a b 2),.str (oN a b 3)]) n? (s? 3) L=.ok (.lst [.str (oN a b 0),.str (oN a b 1),.str (oN a b 2)]) L:=λL=>mY (n:=3) (by simp;decide)
  have s1:∀L,lV t? (.lst [.str (nameOf a b 4),.str (nameOf a b 5)]) n? (s? 1) L=.ok (.lst [.str (nameOf a b 4)]) L:=λL=>mY (n:=1) (by simp;decide)
  generalize ho:forL _ _ _ _ _ _=o;have h:=bN ho [2,4] T.int (λq φ L'=>∃done o6 o7 o8,φ=[s? (.lst (cs.map .int)),s? (.lst (ks.map kT)),s? (.int (cs.getD 1 0 % 25)),s? (.lst [.str (oN a b 0),.str (oN a b 1),.str (oN a b 2),.str (oN a b 3)]),s? (.lst [.str (nameOf a b 4),.str (nameOf a b 5)]),s? (.ref L.length),o6,o7,o8]/\L'=.lst done::L/\((q=[2,4]/\done=[])\/(q=[4]/\done=[xT r1])\/(q=[]/\done=[xT r1,xT r2])))
   (λo=>∃o2 o6 o7 o8,o=.nx [s? (.lst (cs.map .int)),s? (.lst (ks.map kT)),o2,s? (.lst [.str (oN a b 0),.str (oN a b 1),.str (oN a b 2),.str (oN a b 3)]),s? (.lst [.str (nameOf a b 4),.str (nameOf a b 5)]),s? (.ref L.length),o6,o7,o8] (.lst [xT r1,xT r2]::L)) rfl ⟨[],n?,n?,n?,rfl,rfl,.inl ⟨rfl,rfl⟩⟩ (λ_ _ eJ eP x q φ L' hh=>by
    obtain⟨done,o6,o7,o8,rfl,rfl,hh⟩:=hh;refine⟨sv,_,rfl,?_⟩;rcases hh with⟨hq,rfl⟩|⟨hq,rfl⟩|⟨hq,_⟩
    ·obtain⟨rfl,rfl⟩:=XK hq
     simp_all![eJ,eP,rK,s3,s1,Int.reduceAdd,x1];simp
    ·obtain⟨rfl,rfl⟩:=XK hq
     simp_all![eJ,eP,rK,s3,s1,Int.reduceAdd,x2];simp
    ·cases hq)
   λφ L' hh=>by
    obtain⟨done,o6,o7,o8,rfl,rfl,hh⟩:=hh;rcases hh with⟨hq,_⟩|⟨hq,_⟩|⟨_,rfl⟩
    ·cases hq
    ·cases hq
    ·exact⟨sv,_,_,_,_,rfl⟩
  obtain⟨o2,o6,o7,o8,rfl⟩:=h;simp!;refine(JA (af tQ) ?_ ?_ ?_).trans rfl
  ·rfl
  ·rfl
  ·exact af (g:=xT) (l:=[r1,r2]) MG
theorem iG:∀(st:aS)(n:Cs),dN (st.map λp=>(T.str p.1,T.str p.2)) (.str n)=(gQ st n).map .str
 | [],n=>rfl
 | (a,b)::st,n=>by
  rw[VU,jI,iG st n];unfold gQ;grind
def j8(st:aS)(n:Cs):eD (st.map λp=>(T.str p.1,T.str p.2)) (.str n):=xl (g:=λp:Cs × Cs=>p.1) (h:=λp=>T.str p.2) st n
def FZ(st:aS)(n:Cs)(L:aa):ij (.ay (st.map λp=>(T.str p.1,T.str p.2))) [.str n,.str n] L=.ok (.str (aq st n)) L:=by
 unfold ij vw;simp only[];rw[ao (j8 st n),iG];unfold aq;simp
def Ni(h:at_ L m=s? (aI st)):ij (.ref m) [.str n,.str n] L=.ok (.str (aq st n)) L:=by
 have:=FZ st n L;unfold ij at this ⊢;rw[eU,h];exact this
def nt(L:aa)(x:T)(st:aS):Prop:=x=aI st\/∃n,x=.ref n/\at_ L n=s? (aI st)
def vP(h:nt L x st)(ha:a φ L=.ok x L)(hm:iT ms φ L=.ok [.str n,.str n] L):aF cR a ms φ L=.ok (.str (aq st n)) L:=by
 unfold aF;rw[ha,ak];rcases h with rfl|⟨m,rfl,h⟩
 ·simp only[CH,vw,aI,Yt,cR,hm,ak,FZ]
 ·simp only[CH,eU,h,eV,aI,Yt,cR,hm,ak]
  exact Ni h
def jJ(h:nt L x st)(f:Fc)(hf:f.as.length<=1000):cF [x,fT f] L=.ok (fT (wr st f)) L:=by
 unfold cF;simp!;rw[aO rfl f.as T.str (λn=>.str (aq st n)) (by exact rfl) (by exact aG) ⇑1 (by exact λb _=>vP h rfl rfl)];simp!;rw[show((f.as.map λn=>T.str (aq st n)))=(f.as.map (aq st)).map .str by simp];exact fin_same (bu _ (wr st f))
def JB(h:nt L x st)(f:Fc)(hf:f.as.length<=1000):fJ [fT f,x] L=.ok (fT (wr st f)) L:=by
 unfold fJ;simp!;rw[aO rfl f.as T.str (λn=>.str (aq st n)) (by exact rfl) (by exact aG) ⇑1 (by exact λb _=>vP h rfl rfl)];simp!;rw[show((f.as.map λn=>T.str (aq st n)))=(f.as.map (aq st)).map .str by simp];exact fin_same (bu _ (wr st f))
def xu(h:nt L x st)(p:Cs × Cs):cA [x,pT p] L=.ok (pT (aq st p.1,aq st p.2)) L:=by
 unfold cA;simp only[lz,VS,WL,YJ,if_true,cO,oz,w7,FC,iw,gP,VU,WH,WJ,WM];rw[vP (n:=p.1) h rfl rfl];simp only[ak];rw[vP (n:=p.2) h rfl rfl];simp!;exact fin_same (iR _ (aq st p.1,aq st p.2))
def rO(st:aS)(n v:Cs):dput (st.map λp=>(T.str p.1,T.str p.2)) (.str n) (.str v)=(if n∈st.map (·.1) then st.map (λe=>if e.1=n then (e.1,v) else e) else st++[(n,v)]).map λp=>(T.str p.1,T.str p.2):=by
 by_cases h:n∈st.map (·.1)
 ·obtain⟨e,he,rfl⟩:=VP.mp h
  rw[if_pos h];unfold dput;rw[if_pos (Xt.mpr ⟨(.str e.1,.str e.2),VP.mpr ⟨e,he,rfl⟩,⋯⟩),Wc,Wc];refine Wv λp hp=>?_
  grind
 ·rw[if_neg h,fN]
  ·simp
  grind
def JC(hl:st.length<lim)(hg:great n=t?):∃t,pC (.ref L.length) [.str n,.str n] (aI st::L)=.ok t (aI (hK st n)::L):=by
 unfold pC;simp only[cq,aI];rw[ao ⟨⇑hl,j8 st n⟩,iG];cases e:gQ st n with
 |some v=>
  refine⟨.str v,?_⟩;have hm:n∈st.map (·.1):=by
   unfold gQ at e;obtain⟨p,hp,_⟩:=V7.mp e;grind
  unfold hK;simp_all
 |none=>
  refine⟨.str n,?_⟩;have hm:n∉st.map (·.1):=λh=>by
   obtain⟨p,hp,rfl⟩:=VP.mp h;unfold gQ at e;have:=X0.mp (Zd.mp e) p hp
   simp at this
  unfold hK;rw[if_pos hg,if_neg hm];simp only[Option.map_none];rw[rO,if_neg hm,mC]
def ui(st:aS)(n:Cs):(hK st n).length<=st.length+1:=by unfold hK;split<;>(try split)<;>simp
def EC(ns:List Cs):∀st:aS,(uE st ns).length<=st.length+ns.length:=by
 induction ns with
 |nil=>intro st;simp[uE]
 |cons n ns ih=>
  intro st;have h1:=ih (hK st n)
  have h2:=ui st n;have:uE st (n::ns)=uE (hK st n) ns:=rfl
  rw[this,VS];omega
def JD(st:aS)(ns:List Cs)(x:T)(hx:items x (aI st::L)=s? (ns.map .str))(hv:∀k,x≠.ref k)(hn:∀n∈ns,1<=n.length)(hl:st.length+ns.length<1000):oL [.ref L.length,x] (aI st::L)=.ok .aY (aI (uE st ns)::L):=by
 have hs:src (v 1) [s? (.ref L.length),s? x,n?] (aI st::L)=.ok (ns.map .str,stays x (aI st::L)) (aI st::L):=by
  simp only[mS,vo,Xo,Xb,WK,a8,ak,hx]
 unfold oL;simp only[lz,VS,WL,YJ,if_true,cO,oz,VU,WH,WJ,WM,ZG,Wj,rz,hs,of_ok];generalize ho:forL _ _ _ _ _ _=o;obtain⟨z,_,rfl⟩:=lD ns T.str aI hK (λr s=>s.length+r.length<1000/\∀n∈r,1<=n.length) (λz(_:Unit)=>[s? (.ref L.length),s? x,z]) (w:=()) ho (λ_=>Eg hv _) (λ_ _ _=>rfl) ⟨hl,hn⟩ λn r s _ h=>by
  have h1:=ui s n;have h2:=h.1
  rw[VS]at h2;refine⟨⟨⇑0,λm hm=>h.2 m (VK _ hm)⟩,(),?_⟩;simp![dI n (h.2 n VL)];cases hg:great n with
  |false=>simp!;rw[show hK s n=s by unfold hK;rw[hg];rfl]
  |true=>
   obtain⟨t,ht⟩:=JC (L:=L) (st:=s) (n:=n) ⇑1 hg;simp only[aI]at ht ⊢;simp![ht]
 simp!;exact j6 (jh _ _) rfl
def Nj(a b:Cs):Ba a b=d? (a<b):=rfl
def BG(p q:Cs)(hp:1<=p.length)(hq:1<=q.length)(L:aa):lH [.str p,.str q] L=.ok (.str (Un.iO great Ba p q)) L:=by
 unfold lH Un.iO;simp![dI p hp];cases h1:great p with
 |false=>simp!
 |true=>
  simp![dI q hq];cases h2:great q with
  |false=>simp!;simp
  |true=>simp![yY,OM,Un.mn,Nj,decide_eq_true_eq];simp
def yG{k:aa->Prop}{b:SS}{o:O}{L:aa}{st:aS}{ch:Cs}(g:Cs->Bool)(i:Nat)(F:Option T->Fr)(z:Option T)(nd:(st.map (·.1)).Nodup)(hl:st.length<=1000)
  (ho:forL k (.one i) b ((st.map (·.1)).map .str) (F z) (aI st::L)=o) (hk:∀L',k L') (hF:∀z x,(F z).set i (s? x)=F (s? x))
  (hb:∀(D D':aS)(x:Cs × Cs),ix (.ref L.length) (.str x.1) (aI D::L)=.ok (.str x.2) (aI D::L)->jL (.ref L.length) (.str x.1) (.str ch) (aI D::L)=s? (aI D'::L)->b (F (s? (.str x.1))) (aI D::L)=.nx (F (s? (.str x.1))) (aI (if g x.2=t? then D' else D)::L)):
  ∃z,o=.nx (F z) (aI (st.map λe=>(e.1,if g e.2=t? then ch else e.2))::L):=by
 generalize hG:(λe:Cs × Cs=>(e.1,if g e.2=t? then ch else e.2))=G;have gk:∀l:aS,(l.map G).map (·.1)=l.map (·.1):=λl=>by rw[Wc,<- hG];rfl
 refine bN ho st (λe=>T.str e.1) (λr φ L'=>∃done z,done++r=st/\φ=F z/\L'=aI (done.map G++r)::L) (λo=>∃z,o=.nx (F z) (aI (st.map G)::L)) ⋯ ⟨[],z,rfl,rfl,rfl⟩ (λ_ _ eJ eP x r φ L' hh=>?_) λφ L' hh=>?_
 ·obtain⟨done,z,e1,rfl,rfl⟩:=hh
  refine⟨hk _,_,rfl,?_⟩;have nk:((done.map G++x::r).map (·.1)).Nodup:=by
   rw[V1,gk,<- V1,e1];exact nd
  have hlen:(done.map G++x::r).length<=1000:=by rw[VN,Lm9,<- VN,e1];exact hl
  rw[V1,WW,VU,WZ]at nk;have hx:gQ (done.map G++x::r) x.1=s? x.2:=by
   unfold gQ;rw[List.find?_append,X0.mpr,Option.none_or,aaX,decide_eq_true rfl];rfl;exact λy hy z=>nk.2.2 _ (V4 hy) _ VL ⇑z
  rw[hF,hb (done.map G++x::r) (done.map G++(x.1,ch)::r) x ?_ ?_,oJ,eJ]
  ·refine⟨done++[x],_,⇑e1,rfl,?_⟩
   rw[V1,VU,WH,We,YF,<- hG];by_cases h:g x.2=t?<;>simp only[h,if_true,if_false,Ws]
  ·unfold ix
   simp only[eU,cq,eV,aI];rw[ao (j8 _ _),iG,hx];rfl
  ·have R8:∀l:List (Cs × Cs),(∀e∈l,e.1≠x.1)->l.map (λe=>if e.1=x.1 then (e.1,ch) else e)=l:=λl h=>by
    conv=>rhs;rw[<- List.map_id l]
    exact Wv λe he=>by rw[if_neg (h e he)];rfl
   unfold jL aI;simp only[cq];rw[if_pos ⟨by rw[Lm9];unfold lim;omega,j8 _ _⟩,rO,if_pos ⋯,mC];congr 4;rw[V1,VU,if_pos rfl,R8 _ λe he z=>nk.2.2 _ (V4 he) _ VL z,R8 r λe he z=>nk.2.1.1 (by rw[<- z];exact V4 he)]
 ·obtain⟨done,z,e1,rfl,rfl⟩:=hh
  rw[V8]at e1;rw[e1,V8];exact⟨hk _,_,rfl⟩
def list_st{st:aS}{L:aa}(hl:st.length<=1000):bG t? [.ref L.length] (aI st::L)=.ok (.lst ((st.map (·.1)).map .str)) (aI st::L):=by
 have e:(st.map λp=>(T.str p.1,T.str p.2)).map (·.1)=(st.map (·.1)).map .str:=by simp
 unfold bG aI;simp only[eU,cq,eV];rw[e,fG,ao (by simp;unfold lim;omega)];rfl
def JE(st:aS)(a b:Cs)(nd:(st.map (·.1)).Nodup)(hl:st.length<=1000)(hp:1<=(aq st a).length)(hq:1<=(aq st b).length)(L:aa):
  gH [.ref L.length,.str a,.str b] (aI st::L)=if mU (aq st a) (aq st b) then .ok (.bl f?) (aI st::L) else .ok (.bl t?) (aI (iP st (aq st a) (aq st b))::L):=by
 have wc:nt (aI st::L) (.ref L.length) st:=.inr ⟨_,rfl,cq⟩;unfold gH;simp only[lz,VS,WL,YJ,if_true,cO,VU,WH,WJ,WM,ZG,Wj,oy];rw[vP (n:=a) wc rfl rfl];simp only[of_ok,Tg.set,jD,Xq,Xp,cO,oy];rw[vP (n:=b) wc rfl rfl];generalize aq st a=p at *
 generalize aq st b=q at *
 simp!;by_cases e:p=q
 ·subst e
  rw[if_neg (show ¬ mU p p from λz=>z.1 rfl),show iP st p p=st by unfold iP;simp];simp!
 ·simp![show(p==q)=f? from beq_eq_false_iff_ne.mpr e,dI p hp,dI q hq]
  by_cases ht:mU p q
  ·rw[if_pos ht]
   simp![ht.2.1,ht.2.2]
  ·rw[if_neg ht]
   have hg:(if (!great p)=t? then !great q else f?)=f?:=by
    cases h1:great p with
    |true=>rfl
    |false=>
     cases h2:great q with
     |true=>rfl
     |false=>exact absurd ⟨e,h1,h2⟩ ht
   simp![hg,BG p q hp hq,list_st hl];generalize yZ:Un.iO great Ba p q=ch;generalize ho:forL _ _ _ _ _ _=o;obtain⟨z,rfl⟩:=yG (ch:=ch) (λv=>decide (v∈[p,q])) 6 (λz=>[s? (.ref L.length),s? (.str a),s? (.str b),s? (.str p),s? (.str q),s? (.str ch),z]) n? nd hl ho (λ_=>sv) (λ_ _=>rfl) (λD D' x OD QS=>by
    have uC:=MS (x:=x.2) (ys:=[p,q]) (L:=aI D::L);simp only[VU,WH]at uC;simp![OD,uC];by_cases hm:x.2∈[p,q]
    ·simp![hm,decide_true,QS]
    ·simp only[hm,decide_false,Ws,if_false];simp!)
   simp!;rw[show iP st p q=st.map λe=>(e.1,if d? (e.2∈[p,q])=t? then ch else e.2) by unfold iP;rw[if_neg e,<- yZ];exact Wv λe _=>by simp[oF]];exact j6 (jh _ _) rfl
def f6{f g:Fc}(h:fT f=fT g):f=g:=by
 have:=congrArg (λt=>eqT t (fT g)) h;simp only[tR,decide_true,decide_eq_true_eq]at this;omega
def JF(n:Nat)(l:List Cs):(l.map T.str).all (kd (n+1))=t?:=by simp[kd,uF]
def f7(f:Fc):uG (fT f)=t?:=by
 show(kd 6 (.str f.k) && (kd 6 (.tup (f.as.map .str)) && t?))=t?;rw[show kd 6 (.tup (f.as.map .str))=(f.as.map T.str).all (kd 5) from rfl,JF 4];rfl
abbrev Ky:=Cs × Int × Cs
def gf(k:Ky):T:=.tup [.str k.1,.int k.2.1,.str k.2.2]
def lM{a b:Ky}(h:gf a=gf b):a=b:=by
 obtain⟨a,i,c⟩:=a;obtain⟨b,j,d⟩:=b;unfold gf at h;simp_all
def rP(k:Ky):uG (gf k)=t?:=rfl
section
variable{α:Type}[DecidableEq α]{enc:α->T}
def fD(enc:α->T)(ks:List α)(g:α->T):List (T × T):=ks.map λa=>(enc a,g a)
theorem oW(inj:∀{a b},enc a=enc b->a=b)(g:α->T)(a:α):∀ks:List α,dN (fD enc ks g) (enc a)=if a∈ks then s? (g a) else n?
 | []=>rfl
 |b::ks=>by
  have ih:=oW inj g a ks;unfold fD at ih ⊢;rw[VU,jI,ih];by_cases h:b=a
  ·subst h
   rw[if_pos rfl,if_pos VL]
  ·rw[if_neg λe=>h (inj e)]
   by_cases m:a∈ks
   ·rw[if_pos m,if_pos (VK _ m)]
   ·rw[if_neg m,if_neg λz=>(Wt.mp z).elim (λe=>h e.symm) m]
def cS(ks:List α)(a:α):List α:=if a∈ks then ks else ks++[a]
def vQ(inj:∀{a b},enc a=enc b->a=b)(g:α->T)(a:α)(v:T)(ks:List α):dput (fD enc ks g) (enc a) v=fD enc (cS ks a) λb=>if b=a then v else g b:=by
 unfold cS;by_cases h:a∈ks
 ·rw[if_pos h]
  unfold dput fD;rw[if_pos (Xt.mpr ⟨(enc a,g a),VP.mpr ⟨a,h,rfl⟩,⋯⟩),Wc];refine Wv λp hp=>?_
  grind
 ·rw[if_neg h,fN]
  ·unfold fD
   rw[V1];congr 1
   ·refine Wv λp hp=>?_
    grind
   ·simp
  ·intro p hp
   obtain⟨y,hy,rfl⟩:=VP.mp hp;exact λe=>h (by rw[<- inj e];exact hy)
def oX(kt:∀a,uG (enc a)=t?)(g:α->T)(ks:List α)(a:α):eD (fD enc ks g) (enc a):=by
 unfold eD gM fD;simp_all
def rQ(ks:List α)(g:α->T):(fD enc ks g).length=ks.length:=by unfold fD;simp
def nH(ks:List α)(g:α->T):(fD enc ks g).map (·.1)=ks.map enc:=by unfold fD;rw[Wc];rfl
theorem BH{n:Nat}{g:α->T}(he:∀a,lt n (enc a)=t?):∀{ks:List α},(∀a∈ks,lt n (g a)=t?)->lt n (.ay (fD enc ks g))=t?
 | [],_=>rfl
 |a::ks,h=>by
  have z:=BH he λb hb=>h b (VK _ hb)
  unfold fD at z ⊢;rw[lt]at z ⊢;rw[VU,yO,he,h a VL,z];rfl
section
variable(inj:∀{a b},enc a=enc b->a=b)(kt:∀a,uG (enc a)=t?){x:T}{L:aa}{ks:List α}{g:α->T}(hx:vw L x=.ay (fD enc ks g))(a:α)
include inj kt hx
def BI:lQ (enc a) x L=.ok (d? (a∈ks)) L:=by
 unfold lQ;rw[hx];simp only[];rw[ao (oX kt g ks a),oW inj];by_cases h:a∈ks<;>simp[h]
def JG(t:T):ij x [enc a,t] L=.ok (if a∈ks then g a else t) L:=by
 unfold ij;rw[hx];simp only[];rw[ao (oX kt g ks a),oW inj];by_cases h:a∈ks<;>simp[h]
def F3(h:a∈ks):ix x (enc a) L=.ok (g a) L:=by
 unfold ix;rw[hx];simp only[];rw[ao (oX kt g ks a),oW inj,if_pos h];rfl
end
def oY(inj:∀{a b},enc a=enc b->a=b)(kt:∀a,uG (enc a)=t?){n:Nat}{L:aa}{ks:List α}{g:α->T}(h:at_ L n=s? (.ay (fD enc ks g)))(hl:ks.length<lim)(a:α)(v:T):jL (.ref n) (enc a) v L=s? (put L n (.ay (fD enc (cS ks a) λb=>if b=a then v else g b))):=by
 unfold jL;simp only[h];rw[if_pos ⟨by rw[rQ];exact hl,oX kt g ks a⟩,vQ inj]
def BJ(ks:List α)(a:α):(cS ks a).length<=ks.length+1:=by unfold cS;split<;>simp
def BK{ks:List α}{a b:α}:b∈cS ks a↔b∈ks\/b=a:=by
 unfold cS;split
 ·exact⟨.inl,λz=>z.elim id λe=>by rw[e];assumption⟩
 ·rw[VR,Wb]
def ED{ks:List α}{a:α}(h:ks.Nodup):(cS ks a).Nodup:=by
 unfold cS;split
 ·exact h
 ·rename_i hx
  exact WW.mpr ⟨h,⋯,λb hb c hc e=>hx (by rw[<- Wb.mp hc,<- e];exact hb)⟩
def dF(l:List α):List α:=l.foldl cS []
def EE(l:List α)(a:α):dF (l++[a])=cS (dF l) a:=by unfold dF;simp
def bb(l:List α):(dF l).Nodup/\(∀a,a∈dF l↔a∈l)/\(dF l).length<=l.length:=by
 suffices h:∀(l acc:List α),acc.Nodup->(l.foldl cS acc).Nodup/\(∀a,a∈l.foldl cS acc↔a∈acc\/a∈l)/\(l.foldl cS acc).length<=acc.length+l.length by
  have z:=h l [] Xz;exact⟨z.1,λa=>(z.2.1 a).trans ⋯,by unfold dF;simpa using z.2.2⟩
 intro l;induction l with
 |nil=>simp
 |cons x l ih=>
  intro acc h;obtain⟨h1,h2,h3⟩:=ih (cS acc x) (ED h);have:=BJ acc x
  refine⟨h1,λa=>(h2 a).trans ?_,by(simp;omega)⟩;rw[BK,Wt,or_assoc]
end
def cu{L:aa}{n:Nat}{c:T}(h:at_ L n=s? c):n<L.length:=by
 induction L with
 |nil=>cases h
 |cons d L ih=>
  unfold at_ at h
  split at h
  ·rename_i e;rw[e];exact XW _
  ·exact Xh (ih h)
def ky{α:Type}{c:α}{m:Nat}:∀L:List α,(put L m c).length=L.length:=by
 intro l9;induction l9 with
 |nil=>exact rfl
 |cons d L ih=>
  unfold put;split
  ·rfl
  ·rw[VS,ih];rfl
def i8{L:aa}{m n:Nat}{c:T}(hm:m<L.length):at_ (put L m c) n=if n=m then s? c else at_ L n:=by
 induction L with
 |nil=>cases hm
 |cons d L ih=>
  unfold put;by_cases e:m=L.length
  ·rw[if_pos e,at_,at_,e]
   simp_all
  ·rw[if_neg e,at_,at_,ky]
   grind
theorem oZ{R:aa}{m:Nat}{c:T}(h:R.length<=m):∀X:aa,∃X',put (X++R) m c=X'++R
 | []=>⟨[],by
  suffices ∀R:aa,R.length<=m->put R m c=R from this R h
  intro R;induction R with
  |nil=>exact λ_=>rfl
  |cons d R ih=>
   intro h;rw[VS]at h;rw[put,if_neg ⇑0,ih ⇑0]⟩
 |x::X=>by
  obtain⟨X',e⟩:=oZ h X;rw[WJ,put];split
  ·exact⟨c::X,rfl⟩
  ·exact⟨x::X',by rw[e];rfl⟩
def mH{n k:Nat}{L:aa}{t:T}(h:lt n t=t?):bE n L (k+1) t=s? t:=by unfold bE;rw[if_pos h]
def iH{n k m:Nat}{L:aa}{c:T}(h:n<=m)(ha:at_ L m=s? c):bE n L (k+1) (.ref m)=bE n L k c:=by
 conv=>lhs;unfold bE
 rw[if_neg (by rw[lt];simp;omega)];simp only[ha]
def EF{α:Type}[DecidableEq α]{enc:α->T}{n k:Nat}{L:aa}(he:∀a,lt n (enc a)=t?){g g':α->T}{ks:List α}(h:∀a∈ks,bE n L (k+1) (g a)=s? (g' a)):bE n L (k+2) (.ay (fD enc ks g))=s? (.ay (fD enc ks g')):=by
 unfold bE;by_cases z:lt n (.ay (fD enc ks g))=t?
 ·rw[if_pos z]
  congr 2;unfold fD;refine Wv λa ha=>?_
  have q:∀{ks:List α},lt n (.ay (fD enc ks g))=t?->∀a∈ks,lt n (g a)=t?:=by
   intro ks;induction ks with
   |nil=>simp
   |cons b ks ih=>
    intro z a ha;unfold fD at z;rw[lt,VU,yO,VW,VW]at z;rcases Wt.mp ha with rfl|ha
    ·exact z.1.2
    ·exact ih (by unfold fD;rw[lt];exact z.2) a ha
  have e:=h a ha;rw[mH (q z a ha)]at e;simp_all
 ·rw[if_neg z]
  simp only[];have q:∀ks:List α,(∀a∈ks,bE n L (k+1) (g a)=s? (g' a))->((fD enc ks g).mapM λp=>if lt n p.1=t? then (bE n L (k+1) p.2).map λx=>(p.1,x) else n?)=s? (fD enc ks g'):=by
   intro ks;induction ks with
   |nil=>exact λ_=>rfl
   |cons b ks ih=>
    intro h;have ih:=ih λa ha=>h a (VK _ ha)
    unfold fD at ih ⊢;simp_all
  rw[q ks h];rfl
def JH{β:Type}{s:SI}{aZ:List (Option Nat)}{tg:Tg}{m:SE}{φ:Fr}{L:aa}{k:aa->Prop}{r:R T}{fz:Bool}(hc:comp fz s aZ tg yes m φ L=r)(xs:List β)(enc:β->T)(f:β->T)(hs:s φ L=.ok (xs.map enc,k) L)(hk:k L)(hl:xs.length<=lim)
  (hm:∀b∈xs,∃ψ,tg.set (enc b) (inner aZ φ)=s? ψ/\m ψ L=.ok (f b) L):r=mk fz (.lst (xs.map f)) L:=by
 subst hc;have key:∀(ys:List β)(acc:List T),(∀b∈ys,b∈xs)->acc.length+ys.length<=lim->compLoop k tg yes m (inner aZ φ) (ys.map enc) acc L=.ok (acc++ys.map f) L:=by
  intro ys;induction ys with
  |nil=>intro acc _ _;simp[compLoop,hk]
  |cons b ys ih=>
   intro acc hb hz;obtain⟨ψ,h1,h2⟩:=hm b (hb b VL);simp only[VS]at hz;rw[VU,compLoop,if_pos ⟨hk,⇑0⟩];simp only[h1,Fz,ak,if_true,h2];rw[ih _ (λc hc=>hb c (VK _ hc)) (by simp;omega)];simp
 rw[comp,hs,ak,key xs [] (λ_ h=>h) ⇑hl,ak];rfl
def uj{α:Type}{g:α->T}:∀(l:List α)(n:Nat),num n (l.map g)=(l.zipIdx n).map λp=>.tup [.int (p.2:Nat),g p.1]:=by
 intro l9;induction l9 with
 |nil=>intro _;exact rfl
 |cons a l ih=>intro n;rw[VU,num,ih (n+1),Yq,VU]
def kk(k:Cs):Ky:=(k,-1,[])
def keysOf(f:Fc):List Ky:=kk f.k::f.as.zipIdx.map λp=>(f.k,(p.2:Int),p.1)
def j9(k:Cs)(L:aa):dS [.str k] L=.ok (gf (kk k)) L:=by
 unfold dS;simp!;exact fin_same rfl
def yH(f:Fc)(h:f.as.length<=4)(L:aa):jH [fT f] L=.ok (.lst ((keysOf f).map gf)) L:=by
 unfold jH;simp![j9];generalize hc:comp _ _ _ _ _ _ _ _=r;obtain rfl:=JH hc f.as.zipIdx (λp=>.tup [.int (p.2:Nat),.str p.1]) (λp=>gf (f.k,(p.2:Int),p.1)) (k:=stays (.tup (f.as.map .str)) L) (by simp![uj]) sv (by rw[X1];unfold lim;omega) (λp _=>⟨_,rfl,by simp!;rfl⟩);have hl:(keysOf f).map gf=gf (kk f.k)::f.as.zipIdx.map λp=>gf (f.k,(p.2:Int),p.1):=by unfold keysOf;rw[VU,Wc];rfl
 simp_all![X1];rw[<- hl];exact fin_same (af λ_ _=>rfl)
def tt:Fc->T:=λ_=>.bl t?
def jP(l:List Fc):T:=.ay (fD fT l tt)
def bo(l:List Fc)(f:Fc):Nat:=l.countP λa=>decide (a=f)
def jr(l:List Fc):T:=.ay (fD fT (dF l) λf=>.int (bo l f))
def o9(n:Nat):T:=.obj "Layout" [("shelf",.ref (n+1)),("counts",.ref (n+2)),("lasting",.ref (n+3))]
def b6(l:List Fc)(k:Ky):List Fc:=l.filter λf=>decide (k∈keysOf f)
section
variable{L:aa}{a b c d x:T}
def Nk:at_ (d::c::b::a::L) L.length=s? a:=by simp only[at_,VS];grind
def R9:at_ (d::c::b::a::L) (L.length+1)=s? b:=by simp[at_]
def Kz:at_ (d::c::b::a::L) (L.length+2)=s? c:=by simp[at_]
def OG:at_ (d::c::b::a::L) (L.length+3)=s? d:=by simp[at_]
def Sa:put (d::c::b::a::L) L.length x=d::c::b::x::L:=by simp only[put,VS];grind
def UN:put (d::c::b::a::L) (L.length+1) x=d::c::x::a::L:=by simp[put]
def UO:put (d::c::b::a::L) (L.length+2) x=d::x::b::a::L:=by simp[put]
def UP:put (d::c::b::a::L) (L.length+3) x=x::c::b::a::L:=by simp[put]
def QT:put (c::b::a::L) L.length x=c::b::x::L:=by simp only[put,VS];(simp;omega)
end
def h8{f:Str}{n:Nat}{L:aa}{c:Str}{fs:List (Str × T)}(h:at_ L n=s? (.obj c fs)):fld f (.ref n) L=lift (fs.lookup f) L:=by
 unfold fld;rw[eU,h];rfl
def um(l:List Fc)(f:Fc):(fD fT (cS (dF l) f) λb=>if b=f then T.int ((bo l f:Int)+1) else .int (bo l b))=fD fT (dF (l++[f])) λg=>.int (bo (l++[f]) g):=by
 rw[EE];unfold fD;refine Wv λg _=>?_
 have e:bo (l++[f]) g=bo l g+if g=f then 1 else 0:=by
  unfold bo;rw[List.countP_append,aaA,List.countP_nil];by_cases h:g=f
  ·rw[if_pos h,h];simp
  ·rw[if_neg h];simp[YA h]
 show(fT g,if g=f then T.int ((bo l f:Int)+1) else .int (bo l g))=(fT g,T.int (bo (l++[f]) g));rw[e];by_cases h:g=f
 ·subst h;simp
 ·simp[h]
def F5{l:List Fc}{f:Fc}(h:f∉dF l):bo l f=0:=by
 unfold bo;rw[List.countP_eq_zero];intro a ha e;exact h (((bb l).2.1 f).mpr (by simp_all))
structure Lay(L0:aa)(B1 B2:T)(L:aa)(ks:List Ky)(ρ:Ky->Nat)(R:Ky->List Fc):Prop where
 sh:∃X,L=X++B2::B1 :: .ay (fD gf ks λk=>.ref (ρ k))::o9 L0.length::L0
 Sb:∀k∈ks,at_ L (ρ k)=s? (jP (R k))/\L0.length+4<=ρ k
 inj:∀j∈ks,∀k∈ks,ρ j=ρ k->j=k
 has:∀k,k∈ks↔R k≠[]
def vR{l:List Fc}{f:Fc}(hf:f∉l):(fD fT (cS l f) λb=>if b=f then T.bl t? else tt b)=fD fT (l++[f]) tt:=by
 unfold cS;rw[if_neg hf];unfold fD;exact Wv λb _=>by
  show(fT b,if b=f then T.bl t? else .bl t?)=_;split<;>rfl
def ki:aa × T × T × aa × List Ky × (Ky->Nat) × (Ky->List Fc) × Ky × Fc->Prop:=λ(L0,B1,B2,L,ks,ρ,R,k,f)=>∀(h:Lay L0 B1 B2 L ks ρ R)(hf:f∉R k)(hl:(R k).length<lim)(hk:ks.length<lim),∃r L2 L3 mR ρ',pC (.ref (L0.length+1)) [gf k,.ref L.length] (.ay []::L)=.ok (.ref r) L2/\jL (.ref r) (fT f) (.bl t?) L2=s? L3/\mR.length<=ks.length+1/\Lay L0 B1 B2 L3 mR ρ' λj=>if j=k then R k++[f] else R j
namespace pe
def c:=uA ⟨by repeat' first|exact default|constructor⟩ ki
def L0:=c.1
def B1:=c.2.1
def B2:=c.2.2.1
def L:=c.2.2.2.1
def ks:=c.2.2.2.2.1
def ρ:=c.2.2.2.2.2.1
def R:=c.2.2.2.2.2.2.1
def k:=c.2.2.2.2.2.2.2.1
def f:=c.2.2.2.2.2.2.2.2
def t:ki (L0,B1,B2,L,ks,ρ,R,k,f):=by
 intro h hf hl hk;obtain⟨⟨X,hX⟩,xf,hinj,EG⟩:=h;have h1:at_ (.ay []::L) (L0.length+1)=s? (.ay (fD gf ks λk=>.ref (ρ k))):=by
  rw[hX,<- WJ,gU _ ⋯];exact R9
 have hL:L0.length+4<=L.length:=by rw[hX];simp
 have cM:∀j∈ks,ρ j<L.length:=λj hj=>cu (xf j hj).1
 have up:∀{m c},at_ L m=s? c->at_ (.ay []::L) m=s? c:=λ{m c}z=>by
  rw[at_,if_neg (Wm (cu z))];exact z
 unfold pC;simp only[h1];rw[ao ⟨by rw[rQ];exact hk,oX rP _ _ _⟩,oW lM];by_cases hm:k∈ks
 ·obtain⟨q1,q2⟩:=xf k hm
  refine⟨ρ k,.ay []::L,put (.ay []::L) (ρ k) (jP (R k++[f])),ks,ρ,by rw[if_pos hm],?_,XF _,?_,λj hj=>?_,hinj,λj=>?_⟩
  ·rw[oY f6 f7 (up q1) hl,vR hf];rfl
  ·obtain⟨X',e⟩:=oZ (R:=B2::B1 :: .ay (fD gf ks λk=>.ref (ρ k))::o9 L0.length::L0) (m:=ρ k) (c:=jP (R k++[f])) (by simp;omega) (.ay []::X)
   exact⟨X',by rw[<- e,hX];rfl⟩
  ·rw[i8 (Xh (cM k hm))]
   refine⟨?_,(xf j hj).2⟩;by_cases e:j=k
   ·rw[if_pos (by rw[e]),if_pos e]
   ·rw[if_neg λz=>e (hinj j hj k hm z),if_neg e]
    exact up (xf j hj).1
  ·by_cases e:j=k
   ·rw[if_pos e,e];exact⟨λ_=>⋯,λ_=>hm⟩
   ·rw[if_neg e];exact EG j
 ·have hR:R k=[]:=YR λz=>hm ((EG k).mpr z)
  have e1:put (.ay []::L) (L0.length+1) (.ay (fD gf (ks++[k]) λj=>.ref (if j=k then L.length else ρ j)))=.ay []::X++B2::B1 :: .ay (fD gf (ks++[k]) λj=>.ref (if j=k then L.length else ρ j))::o9 L0.length::L0:=by
   rw[hX,<- WJ,rE _ ⋯,UN]
  have e2:(fD gf (cS ks k) λb=>if b=k then T.ref L.length else .ref (ρ b))=fD gf (ks++[k]) λj=>.ref (if j=k then L.length else ρ j):=by
   unfold cS;rw[if_neg hm];unfold fD;exact Wv λb _=>by
    show(gf b,if b=k then T.ref L.length else .ref (ρ b))=(gf b,T.ref (if b=k then L.length else ρ b));split<;>rfl
  have a2:∀m c,L0.length+4<=m->at_ (.ay []::L) m=s? c->at_ (put (.ay []::L) (L0.length+1) (.ay (fD gf (ks++[k]) λj=>.ref (if j=k then L.length else ρ j)))) m=s? c:=λm c z q=>by
   rw[i8 (cu h1),if_neg ⇑0];exact q
  have a3:at_ (.ay []::L) L.length=s? (.ay (fD fT [] tt)):=cq
  refine⟨L.length,put (.ay []::L) (L0.length+1) (.ay (fD gf (ks++[k]) λj=>.ref (if j=k then L.length else ρ j))),_,ks++[k],λj=>if j=k then L.length else ρ j,by rw[if_neg hm,vQ lM,e2],oY f6 f7 (a2 _ _ hL a3) (by simp;decide) f (.bl t?),⋯,?_,λj hj=>?_,λj hj i hi e=>?_,λj=>?_⟩
  ·obtain⟨X',e⟩:=oZ (R:=B2::B1 :: .ay (fD gf (ks++[k]) λj=>.ref (if j=k then L.length else ρ j))::o9 L0.length::L0) (m:=L.length) (c:=.ay (fD fT (cS [] f) λb=>if b=f then .bl t? else tt b)) (by simp;omega) (.ay []::X)
   exact⟨X',by rw[<- e,e1]⟩
  ·rw[i8 (by rw[ky];exact XW _)]
   by_cases e:j=k
   ·rw[if_pos e,if_pos rfl,if_pos e,hR,vR ⋯]
    exact⟨rfl,hL⟩
   ·have hj:j∈ks:=by
     rcases VR.mp hj with z|z
     ·exact z
     ·exact absurd (Wb.mp z) e
    rw[if_neg e,if_neg (Wm (cM j hj)),if_neg e];exact⟨a2 _ _ (xf j hj).2 (up (xf j hj).1),(xf j hj).2⟩
  ·have o:∀i,i∈ks++[k]->i≠k->i∈ks:=λi hi z=>(VR.mp hi).elim id λy=>absurd (Wb.mp y) z
   by_cases ej:j=k
   ·by_cases ei:i=k
    ·rw[ej,ei]
    ·rw[if_pos ej,if_neg ei]at e
     exact absurd e.symm (Wm (cM i (o i hi ei)))
   ·by_cases ei:i=k
    ·rw[if_neg ej,if_pos ei]at e
     exact absurd e (Wm (cM j (o j hj ej)))
    ·rw[if_neg ej,if_neg ei]at e
     exact hinj j (o j hj ej) i (o i hi ei) e
  ·rw[VR,Wb]
   by_cases e:j=k
   ·rw[if_pos e];exact⟨λ_=>⋯,λ_=>.inr e⟩
   ·rw[if_neg e];exact⟨λz=>(EG j).mp (z.resolve_right e),λz=>.inl ((EG j).mpr z)⟩
end pe
def BL(L0 B1 B2 L ks ρ R k f):ki (L0,B1,B2,L,ks,ρ,R,k,f):=cW pe.t _
def EH(f:Fc):(keysOf f).Nodup:=by
 have z:((keysOf f).map λk=>k.2.1).Nodup:=by
  unfold keysOf;rw[VU,Wc,WZ];refine⟨λh=>?_,?_⟩
  ·obtain⟨p,_,e⟩:=VP.mp h
   have e:(p.2:Int) = -1:=e;omega
  ·have e:(f.as.zipIdx.map ((λk:Ky=>k.2.1) ∘ λp=>(f.k,(p.2:Int),p.1)))=(f.as.zipIdx.map (·.2)).map λn:Nat=>(n:Int):=by rw[Wc];rfl
   rw[e,List.zipIdx_map_snd,YM,Yf];exact(List.nodup_range' (step:=1)).imp λh e=>h (Int.ofNat.inj e)
 exact List.Pairwise.of_map _ (λa b h e=>h (by rw[e])) z
def BM(l:List Fc)(f:Fc)(k:Ky):b6 (l++[f]) k=if k∈keysOf f then b6 l k++[f] else b6 l k:=by
 unfold b6;rw[List.filter_append,List.filter_cons];by_cases h:k∈keysOf f<;>simp[h]
def Lay.obj{L0:aa}{B1 B2:T}{L:aa}{ks:List Ky}{ρ:Ky->Nat}{R:Ky->List Fc}(h:Lay L0 B1 B2 L ks ρ R):at_ L L0.length=s? (o9 L0.length)/\at_ L (L0.length+1)=s? (.ay (fD gf ks λk=>.ref (ρ k))):=by
 obtain⟨X,hX⟩:=h.sh;rw[hX,gU _ (by(simp;omega)),gU _ ⋯];exact⟨Nk,R9⟩
def rR:aa × T × T × aa × List Ky × (Ky->Nat) × List Fc × Fc->Prop:=λ(L0,B1,B2,L,ks,ρ,l,f)=>∀(h:Lay L0 B1 B2 L ks ρ (b6 l))(hf:f∉l)(h4:f.as.length<=4)(hl:l.length<=1000)(hk:ks.length<=2000),∃L' mR ρ',mR.length<=ks.length+5/\Lay L0 B1 B2 L' mR ρ' (b6 (l++[f]))/\fA [.ref L0.length,fT f] L=.ok .aY L'
namespace xw
def c:=uA ⟨by repeat' first|exact default|constructor⟩ rR
def L0:=c.1
def B1:=c.2.1
def B2:=c.2.2.1
def L:=c.2.2.2.1
def ks:=c.2.2.2.2.1
def ρ:=c.2.2.2.2.2.1
def l:=c.2.2.2.2.2.2.1
def f:=c.2.2.2.2.2.2.2
def t:rR (L0,B1,B2,L,ks,ρ,l,f):=by
 intro h hf h4 hl hk;have hlen:(keysOf f).length<=5:=by unfold keysOf;simp_all
 unfold fA runK;rw[if_pos (show [T.ref L0.length,fT f].length=2 from rfl)];simp![yH f h4];generalize ho:forL _ _ _ _ _ _=o;have z:=bN ho (keysOf f) gf (λq φ L'=>∃done mR ρ' o2 o3,done++q=keysOf f/\mR.length<=ks.length+done.length/\Lay L0 B1 B2 L' mR ρ' (λj=>if j∈done then b6 l j++[f] else b6 l j)/\φ=[s? (.ref L0.length),s? (fT f),o2,o3])
  (λo=>∃L' mR ρ' φ,mR.length<=ks.length+5/\Lay L0 B1 B2 L' mR ρ' (b6 (l++[f]))/\o=.nx φ L') rfl ⟨[],ks,ρ,_,_,rfl,V3 _,by assumption,rfl⟩ (λ_ _ eJ eP k q φ L' hh=>by
   obtain⟨done,mR,ρ',o2,o3,e1,e2,hh,rfl⟩:=hh;have hd:k∉done:=λz=>by
    have:=EH f;grind
   have yo:done.length<=5:=by
    grind
   obtain⟨r,L2,L3,Sd,ρ2,m1,m2,m3,m4⟩:=BL _ _ _ _ _ _ _ k f hh (by rw[if_neg hd];exact λz=>hf (Wq.mp z).1) (by
    rw[if_neg hd];have:(b6 l k).length<=l.length:=Ww _ _
    unfold lim;omega) ⇑1
   obtain⟨g1,g2⟩:=hh.obj;have g1:fld "shelf" (.ref L0.length) L'=.ok (.ref (L0.length+1)) L':=(h8 g1).trans rfl
   refine⟨sv,_,rfl,?_⟩;simp![eJ,eP,g1,g2,m1,m2];refine⟨done++[k],Sd,ρ2,_,_,⇑e1,by simp;omega,?_,rfl⟩;grind) λφ L' hh=>by
   obtain⟨done,mR,ρ',o2,o3,e1,e2,hh,rfl⟩:=hh;rw[V8]at e1;subst e1;refine⟨sv,L',mR,ρ',_,⇑0,?_,rfl⟩;have e:b6 (l++[f])=λj=>if j∈keysOf f then b6 l j++[f] else b6 l j:=funext λj=>BM l f j
   simp_all
 obtain⟨L',mR,ρ',φ,q1,q2,rfl⟩:=z;exact⟨L',mR,ρ',q1,q2,by simp!⟩
end xw
def Nl(L0 B1 B2 L ks ρ l f):rR (L0,B1,B2,L,ks,ρ,l,f):=cW xw.t _
def pU{m:Str}{f:Str->Option Fn}{a:SE}{ms:List SE}{φ:Fr}{L:aa}{n:Nat}{c:Str}{fs:List (Str × T)}{F:Fn}(ha:a φ L=.ok (.ref n) L)(h:at_ L n=s? (.obj c fs))(hf:f c=s? F)(hn:(fs.lookup m).isNone=t?):aN m f a ms φ L=(iT ms φ L).bind λts L2=>F (.ref n::ts) L2:=by
 unfold aN;rw[ha,ak,eU,h];simp only[eV,hf];rw[if_pos hn]
def Nm{m:Str}{f:Str->Option Fn}{a:SE}{ms:List SE}{φ:Fr}{L:aa}{c:Str}{fs:List (Str × T)}{F:Fn}(ha:a φ L=.ok (.obj c fs) L)(hf:f c=s? F)(hn:(fs.lookup m).isNone=t?):aN m f a ms φ L=(iT ms φ L).bind λts L2=>F (.obj c fs::ts) L2:=by
 unfold aN;rw[ha,ak];simp only[vw,hf];rw[if_pos hn]
def fF(bp bl:List Fc)(ks:List Ky):T:=.obj "Layout" [("shelf",.ay (fD gf ks λk=>jP (b6 (dF bp++bl) k))),("counts",jr bp),("lasting",jP bl)]
def BN(n:Nat)(k:Ky):lt n (gf k)=t?:=rfl
def xx(n:Nat)(l:List Fc):lt n (jP l)=t?:=BH (bu n) λ_ _=>rfl
def Nn(n:Nat)(l:List Fc):lt n (jr l)=t?:=BH (bu n) λ_ _=>rfl
def vS{α:Type}:∀l acc:List α,l.foldl (λs f=>s++[f]) acc=acc++l:=by
 intro l9;induction l9 with
 |nil=>intro acc;simp
 |cons a l ih=>intro acc;rw[XR,ih];simp
def BO(k:Ky):b6 [] k=[]:=rfl
def kj:List Fc × List Fc × aS × aa->Prop:=λ(bp,bl,st,L)=>∀(nd:(dF bp++bl).Nodup)(h4:∀f∈bp++bl,f.as.length<=4)(hl:bp.length+bl.length<=300),∃ks,(∀k,k∈ks↔b6 (dF bp++bl) k≠[])/\oO [.tup [.tup (bp.map fT),.tup (bl.map fT),.tup (st.map pT),.bl f?]] L=.ok (fF bp bl ks) L
namespace ph
def c:=uA ⟨by repeat' first|exact default|constructor⟩ kj
def bp:=c.1
def bl:=c.2.1
def st:=c.2.2.1
def L:=c.2.2.2
def t:kj (bp,bl,st,L):=by
 intro nd h4 hl;have UQ:bl.Nodup:=(WW.mp nd).2.1
 have dl:=(bb bp).2.2;unfold oO make gS runK;simp![iV,ax (fs:=[]) (f:="shelf") (by rfl),ax (fs:=[("shelf",.ref (L.length+1))]) (f:="counts") (by rfl),ax (fs:=[("shelf",.ref (L.length+1)),("counts",.ref (L.length+2))]) (f:="lasting") (by rfl),WM,Xi,QT,Nk,Sa];have gL:∀(f:Str)(A B C:T),fld f (.ref L.length) (C::B::A::o9 L.length::L)=lift (Ze f [("shelf",T.ref (L.length+1)),("counts",.ref (L.length+2)),("lasting",.ref (L.length+3))]) (C::B::A::o9 L.length::L):=λf A B C=>h8 Nk
 have gc:∀A B C:T,fld "counts" (.ref L.length) (C::B::A::o9 L.length::L)=.ok (.ref (L.length+2)) (C::B::A::o9 L.length::L):=λA B C=>(gL _ A B C).trans rfl
 have gl:∀A B C:T,fld "lasting" (.ref L.length) (C::B::A::o9 L.length::L)=.ok (.ref (L.length+3)) (C::B::A::o9 L.length::L):=λA B C=>(gL _ A B C).trans rfl
 generalize ho:forL _ _ _ _ _ _=o;obtain⟨z,_,rfl⟩:=Bf bp fT (λs:List Fc=>[.ay [],jr s,.ay [],o9 L.length]++L) (λs f=>s++[f]) (λr s=>s.length+r.length<=300) (λz(_:Unit)=>[s? (.ref L.length),s? (.tup [.tup (bp.map fT),.tup (bl.map fT),.tup (st.map pT),.bl f?]),z]) (w:=()) (s:=[]) ho (λ_=>sv) (λ_ _ _=>rfl) (by simp;omega) (λf r s _ h=>by
  refine⟨by rw[VN];rw[VS]at h;simp;omega,(),?_⟩;have e:=JG f6 f7 (x:=.ref (L.length+2)) (L:=.ay []::jr s :: .ay []::o9 L.length::L) (ks:=dF s) (g:=λf=>.int (bo s f)) (by rw[eU,Kz];rfl) f (.int 0)
  have e:ij (.ref (L.length+2)) [fT f,.int 0] (.ay []::jr s :: .ay []::o9 L.length::L)=.ok (.int (bo s f)) (.ay []::jr s :: .ay []::o9 L.length::L):=by
   rw[e];by_cases hm:f∈dF s
   ·rw[if_pos hm]
   ·rw[if_neg hm,F5 hm];rfl
  have p:=oY f6 f7 (n:=L.length+2) (L:=.ay []::jr s :: .ay []::o9 L.length::L) (ks:=dF s) (g:=λf=>.int (bo s f)) Kz (by have:=(bb s).2.2;unfold lim;omega) f (.int ((bo s f:Int)+1));rw[um,UO]at p;unfold jr at e p;rw[Ji]at p;simp![gc,Kz,jr,e,p])
 rw[vS];simp!;generalize ho:forL _ _ _ _ _ _=o;obtain⟨z,_,rfl⟩:=Bf bl fT (λs:List Fc=>[jP s,jr bp,.ay [],o9 L.length]++L) (λs f=>s++[f]) (λr s=>(s++r).Nodup/\s.length+r.length<=300) (λz(_:Unit)=>[s? (.ref L.length),s? (.tup [.tup (bp.map fT),.tup (bl.map fT),.tup (st.map pT),.bl f?]),z]) (w:=()) (s:=[]) ho (λ_=>sv) (λ_ _ _=>rfl) ⟨UQ,by simp;omega⟩ (λf r s _ h=>by
  obtain⟨h1,h2⟩:=h;have hf:f∉s:=λz=>(WW.mp h1).2.2 f z f VL rfl
  refine⟨⟨⇑h1,by grind⟩,(),?_⟩;have p:=oY f6 f7 (n:=L.length+3) (L:=jP s::jr bp :: .ay []::o9 L.length::L) (ks:=s) (g:=tt) OG (by rw[VS]at h2;unfold lim;omega) f (.bl t?)
  rw[vR hf,UP]at p;simp![gl,p];rfl)
 rw[vS];have l1:bG t? [.ref (L.length+2)] (jP bl::jr bp :: .ay []::o9 L.length::L)=.ok (.lst ((dF bp).map fT)) (jP bl::jr bp :: .ay []::o9 L.length::L):=by
  unfold bG jr;simp only[eU,Kz,eV];rw[nH,fG,ao (by rw[Lm9];unfold lim;omega)];rfl
 have l2:bG t? [.ref (L.length+3)] (jP bl::jr bp :: .ay []::o9 L.length::L)=.ok (.lst (bl.map fT)) (jP bl::jr bp :: .ay []::o9 L.length::L):=by
  unfold bG jP;simp only[eU,OG,eV];rw[nH,fG,ao (by rw[Lm9];unfold lim;omega)];rfl
 simp_all![gc,gl,l1,l2,<- V1];generalize ho:forL _ _ _ _ _ _=o;have z:=bN ho (dF bp++bl) fT (λq φ L'=>∃done ks ρ o2,done++q=dF bp++bl/\ks.length<=5 * done.length/\Lay L (jr bp) (jP bl) L' ks ρ (b6 done)/\φ=[s? (.ref L.length),s? (.tup [.tup (bp.map fT),.tup (bl.map fT),.tup (st.map pT),.bl f?]),o2])
  (λo=>∃L' ks ρ φ,Lay L (jr bp) (jP bl) L' ks ρ (b6 (dF bp++bl))/\o=.nx φ L') rfl ⟨[],[],λ_=>0,_,rfl,Wg _,⟨⟨[],rfl⟩,(λk h=>nomatch h),(λk h=>nomatch h),λk=>⟨(λh=>nomatch h),λh=>absurd (BO k) h⟩⟩,rfl⟩ (λ_ _ eJ eP f q φ L' hh=>by
   obtain⟨done,ks,ρ,o2,e1,e2,hh,rfl⟩:=hh;have hd:f∉done:=λz=>by
    grind
   have hm:f∈bp++bl:=by
    have:f∈dF bp++bl:=by rw[<- e1];simp
    rw[VR]at this ⊢;exact this.imp (((bb bp).2.1 f).mp) id
   have yo:done.length<=300:=by
    have:=congrArg Xg e1;grind
   obtain⟨L2,Sd,ρ2,m1,m2,m3⟩:=Nl _ _ _ _ _ _ _ f hh hd (h4 f hm) ⇑0 ⇑0;refine⟨sv,_,rfl,?_⟩;simp only[cO,FE,Xq,Xp];rw[pU (n:=L.length) rfl hh.obj.1 rfl rfl];simp![eJ,eP,m3];grind) λφ L' hh=>by
   obtain⟨done,ks,ρ,o2,e1,e2,hh,rfl⟩:=hh;rw[V8]at e1;subst e1;exact⟨sv,L',ks,ρ,_,hh,rfl⟩
 obtain⟨L',ks,ρ,φ,hL,rfl⟩:=z;refine⟨ks,hL.has,?_⟩;simp!;obtain⟨X,hX⟩:=hL.sh;have QU:fin L (.ref L.length) L'=lift (bE L.length L' 9 (.ref L.length)) L:=by
  unfold fin;have e:L'.drop (L'.length - L.length)=L:=by
   rw[hX,show ∀a b c d:T,X++a::b::c::d::L=(X++[a,b,c,d])++L by simp,VN,Z0,Zk]
  rw[e,if_pos (eL L)]
 rw[QU,iH (V3 _) hL.obj.1];have f1:bE L.length L' 7 (.ref (L.length+1))=s? (.ay (fD gf ks λk=>jP (b6 (dF bp++bl) k))):=by
  rw[iH (XF _) hL.obj.2];exact EF (BN _) λk hk=>by
   rw[iH (by have:=(hL.Sb k hk).2;omega) (hL.Sb k hk).1];exact mH (xx _ _)
 have f2:bE L.length L' 7 (.ref (L.length+2))=s? (jr bp):=by
  rw[iH ⇑0 (c:=jr bp) (by rw[hX,gU _ ⋯];exact Kz)];exact mH (Nn _ _)
 have f3:bE L.length L' 7 (.ref (L.length+3))=s? (jP bl):=by
  rw[iH ⇑0 (c:=jP bl) (by rw[hX,gU _ ⋯];exact OG)];exact mH (xx _ _)
 unfold o9 bE;rw[if_neg (by simp[lt,jW])];simp[Xj,f1,f2,f3,lift,fF]
end ph
def BP(bp bl st L):kj (bp,bl,st,L):=cW ph.t _
def bd(b:aS)(n:Cs):Bool:=(gQ b n).isSome
def BQ(θ:Cs->Cs)(b:aS):Prop:=∀p∈b,θ p.1=p.2
def eC(θ:Cs->Cs)(f:Fc):Fc:=⟨f.k,f.as.map θ⟩
def nJ(b c:aS)(a:Cs):gQ (b++c) a=(gQ b a).or (gQ c a):=by
 unfold gQ;grind
def vU{b:aS}{a v:Cs}(e:gQ b a=s? v):(a,v)∈b:=by
 unfold gQ at e;obtain⟨p,hp,h⟩:=V7.mp e;grind
def BR{θ:Cs->Cs}{b:aS}(h:BQ θ b){a v:Cs}(e:gQ b a=s? v):θ a=v:=h _ (vU e)
def iJ{θ:Cs->Cs}{b:aS}(h:BQ θ b){a:Cs}(e:bd b a=t?):θ a=aq b a:=by
 obtain⟨v,hv⟩:=WC.mp e;rw[BR h hv];unfold aq;rw[hv];rfl
def vV{b c:aS}{a:Cs}(h:bd b a=t?):bd (b++c) a=t?/\aq (b++c) a=aq b a:=by
 obtain⟨v,hv⟩:=WC.mp h;unfold bd aq;rw[nJ,hv];simp
def fK{θ η:Cs->Cs}{f:Fc}(h:∀a∈f.as,θ a=η a):eC θ f=eC η f:=by
 unfold eC;rw[Wv h]
def yI(b:aS)(f:Fc):wr b f=eC (aq b) f:=rfl
def lU:aS->List (Cs × Cs)->Option aS
 |b,[]=>s? b
 |b,(a,v)::r=>match gQ b a with
  |some w=>if w=v then lU b r else n?
  |none=>lU (b++[(a,v)]) r
def vW:∀(zs:List (Cs × Cs)){b m:aS},lU b zs=s? m->∃c,m=b++c/\(∀p∈c,p∈zs)/\∀p∈zs,gQ m p.1=s? p.2:=by
 intro l9;induction l9 with
 |nil=>intro b m h;exact⟨[],by cases h;simp,⋯,⋯⟩
 |cons y9 r ih=>
  intro b m h;obtain⟨a,v⟩:=y9;unfold lU at h;cases e:gQ b a with
  |some w=>
   simp only[e]at h;split at h
   ·rename_i hw
    obtain⟨c,h1,h2,h3⟩:=ih h;refine⟨c,h1,λp hp=>VK _ (h2 p hp),λp hp=>?_⟩;rcases Wt.mp hp with rfl|hp
    ·rw[h1,nJ,e,hw];rfl
    ·exact h3 p hp
   ·cases h
  |none=>
   simp only[e]at h;obtain⟨c,h1,h2,h3⟩:=ih h;refine⟨(a,v)::c,by rw[h1];simp,λp hp=>?_,λp hp=>?_⟩
   ·grind
   ·rcases Wt.mp hp with rfl|hp
    ·rw[h1,nJ,nJ,e]
     unfold gQ;simp
    ·exact h3 p hp
def EI{θ:Cs->Cs}:∀(zs:List (Cs × Cs)){b:aS},BQ θ b->(∀p∈zs,θ p.1=p.2)->∃m,lU b zs=s? m/\BQ θ m:=by
 intro l9;induction l9 with
 |nil=>intro b h _;exact⟨b,rfl,h⟩
 |cons y9 r ih=>
  intro b h hz;obtain⟨a,v⟩:=y9;have hv:θ a=v:=hz _ VL
  have hr:=λp hp=>hz p (VK _ hp)
  unfold lU;cases e:gQ b a with
  |some w=>
   simp only[];rw[if_pos ((BR h e).symm.trans hv)];exact ih h hr
  |none=>
   simp only[];refine ih (λp hp=>?_) hr;rcases VR.mp hp with hp|hp
   ·exact h p hp
   simp_all
def EJ:∀(zs:List (Cs × Cs)){b m:aS},lU b zs=s? m->m.length<=b.length+zs.length:=by
 intro l9;induction l9 with
 |nil=>intro b m h;cases h;exact V3 _
 |cons y9 r ih=>
  intro b m h;obtain⟨a,v⟩:=y9;unfold lU at h;rw[VS];split at h
  ·split at h
   ·have:=ih h;omega
   ·cases h
  ·have:=ih h
   rw[VN]at this;simp at this;omega
def zip_map{as vs:List Cs}{g:Cs->Cs}(hl:as.length=vs.length)(h:∀p∈as.zip vs,g p.1=p.2):as.map g=vs:=by
 induction as generalizing vs with
 |nil=>
  cases vs with
  |nil=>rfl
  |cons v vs=>cases hl
 |cons a as ih=>
  cases vs with
  |nil=>cases hl
  |cons v vs=>
   rw[Xc]at h;rw[VU,h _ VL,ih (abx hl) λp hp=>h p (VK _ hp)]
def JI{as:List Cs}{g:Cs->Cs}:∀p∈as.zip (as.map g),g p.1=p.2:=by
 induction as with
 |nil=>simp
 |cons a as ih=>
  intro p hp;rw[VU,Xc]at hp;grind
def JJ{b m:aS}{h f:Fc}(hk:f.k=h.k)(hl:h.as.length=f.as.length)(e:lU b (h.as.zip f.as)=s? m):wr m h=f/\∀a∈h.as,bd m a=t?:=by
 obtain⟨c,_,_,h3⟩:=vW _ e;constructor
 ·obtain⟨fk,fa⟩:=f
  unfold wr;rw[zip_map hl λp hp=>by unfold aq;rw[h3 p hp];rfl];rw[<- hk]
 ·intro a ha
  obtain⟨i,hi,rfl⟩:=Xw ha;have:=h3 (h.as[i],f.as[i]'⇑0) (ZA.mpr ⟨i,by(simp;omega),⋯⟩)
  unfold bd;rw[this];rfl
structure Rd where
 calls:Bool
 ah:List (Lk × (Cs × Cs))
 names:List Cs
 heads:List Fc
 given:List Fc
 told:List (Cs × Cs)
 words:aS
 loose:List Fc
 wanted:List Ky
def Np(R:Rd)(n:Cs):Prop:=(∃k∈R.ah,n=k.2.1\/n=k.2.2)\/(∃h∈R.heads,n∈h.as)\/(∃f∈R.given,n∈f.as)\/∃p∈R.told,n=p.1\/n=p.2
def OH(R:Rd)(lB:List Fc)(θ:Cs->Cs):Prop:=(∃f∈R.given,eC θ f∉lB)\/∃p∈R.told,θ p.1≠θ p.2
structure EK(R:Rd)(nC lB:List Fc)(θ:Cs->Cs):Prop where
 lk:∀k∈R.ah,dq k.1.same (θ k.2.1) (θ k.2.2)=t?
 en:∀h∈R.heads,eC θ h∈nC->bo (R.heads.map (eC θ)) (eC θ h)<=bo nC (eC θ h)
 ch:R.calls=t?->OH R lB θ
theorem EK.congr{R:Rd}{nC lB:List Fc}{θ η:Cs->Cs}(h:∀n,Np R n->θ n=η n)(o:EK R nC lB θ):EK R nC lB η:=by
 have hh:∀f∈R.heads,eC θ f=eC η f:=λf hf=>fK λa ha=>h a (.inr (.inl ⟨f,hf,ha⟩))
 refine⟨λk hk=>?_,λf hf hb=>?_,λc=>?_⟩
 ·rw[<- h _ (.inl ⟨k,hk,.inl rfl⟩),<- h _ (.inl ⟨k,hk,.inr rfl⟩)]
  exact o.lk k hk
 ·rw[<- hh f hf]at hb ⊢
  rw[<- Wv hh];exact o.en f hf hb
 ·rcases o.ch c with⟨f,hf,z⟩|⟨p,hp,z⟩
  ·exact .inl ⟨f,hf,by rw[<- fK λa ha=>h a (.inr (.inr (.inl ⟨f,hf,ha⟩)))];exact z⟩
  ·exact .inr ⟨p,hp,by rw[<- h _ (.inr (.inr (.inr ⟨p,hp,.inl rfl⟩))),<- h _ (.inr (.inr (.inr ⟨p,hp,.inr rfl⟩)))];exact z⟩
def yJ(R:Rd)(lB:List Fc)(b:aS):Bool:=(R.given.any λf=>!f.as.all (bd b) || !d? (eC (aq b) f∈lB)) || R.told.any λp=>!(bd b p.1 && bd b p.2) || !d? (aq b p.1=aq b p.2)
def JK(b:aS)(k:Lk × (Cs × Cs)):Bool:=!(bd b k.2.1 && (bd b k.2.2 && !dq k.1.same (aq b k.2.1) (aq b k.2.2)))
def uo(R:Rd)(lB:List Fc)(b:aS):Bool:=R.ah.all (JK b) && (!R.calls || yJ R lB b)
def JL(R:Rd)(nC:List Fc)(b:aS):Bool:=R.heads.all λh=>!d? (eC (aq b) h∈nC) || d? (bo (R.heads.map (eC (aq b))) (eC (aq b) h)<=bo nC (eC (aq b) h))
section
variable{R:Rd}{nC lB:List Fc}{b:aS}{θ:Cs->Cs}
def JM(h:uo R lB b=f?)(g:BQ θ b)(o:EK R nC lB θ):False:=by
 unfold uo at h;rw[Bool.and_eq_false_iff]at h;rcases h with h|h
 ·obtain⟨k,hk,z⟩:=aao.mp h
  unfold JK at z;simp only[Ye,aap,VW]at z;obtain⟨z1,z2,z3⟩:=z;have:=o.lk k hk
  rw[iJ g z1,iJ g z2,z3]at this;cases this
 ·rw[ZC]at h
  obtain⟨h1,h2⟩:=h;unfold yJ at h2;rw[ZC]at h2;rcases o.ch ⇑h1 with⟨f,hf,z⟩|⟨p,hp,z⟩
  ·have q:=aac.mp h2.1 f hf
   simp only[W6,Ye,not_or,aap]at q;refine z ?_;rw[fK λa ha=>iJ g (VQ.mp q.1 a ha)];exact of_decide_eq_true q.2
  ·have q:=aac.mp h2.2 p hp
   simp only[W6,Ye,not_or,aap,VW]at q;exact z (by rw[iJ g q.1.1,iJ g q.1.2];exact of_decide_eq_true q.2)
def leaf(hb:∀n,Np R n->bd b n=t?)(h1:uo R lB b=t?)(h2:JL R nC b=t?):EK R nC lB (aq b):=by
 unfold uo at h1;rw[VW]at h1;refine⟨λk hk=>?_,λf hf hm=>?_,λc=>?_⟩
 ·have z:=VQ.mp h1.1 k hk
  unfold JK at z;rw[hb _ (.inl ⟨k,hk,.inl rfl⟩),hb _ (.inl ⟨k,hk,.inr rfl⟩)]at z;simpa using z
 ·have z:=VQ.mp h2 f hf
  simp_all
 ·have z:=h1.2
  rw[c]at z;have z:yJ R lB b=t?:=by assumption
  unfold yJ at z;rw[W6]at z;rcases z with z|z
  ·obtain⟨f,hf,z⟩:=Xt.mp z
   rw[VQ.mpr λa ha=>hb a (.inr (.inr (.inl ⟨f,hf,ha⟩)))]at z;exact .inl ⟨f,hf,⇑z⟩
  ·obtain⟨p,hp,z⟩:=Xt.mp z
   rw[hb _ (.inr (.inr (.inr ⟨p,hp,.inl rfl⟩))),hb _ (.inr (.inr (.inr ⟨p,hp,.inr rfl⟩)))]at z;exact .inr ⟨p,hp,⇑z⟩
def Nq(o:EK R nC lB (aq b)):JL R nC b=t?:=by
 refine VQ.mpr λh hh=>?_
 by_cases z:eC (aq b) h∈nC
 ·rw[decide_eq_true z,decide_eq_true (o.en h hh z)];rfl
 ·rw[decide_eq_false z];rfl
end
structure Wk(facts:List Fc)(R:Rd)(nC lB:List Fc)(b:aS)(hs:List Fc)(res:List aS):Prop where
 ext:∀β∈res,(∃c,β=b++c)/\(∀h∈hs,wr β h∈facts)/\(∀n,Np R n->bd β n=t?)/\EK R nC lB (aq β)/\tM β/\β.length<=100
 all:∀θ,BQ θ b->(∀h∈hs,eC θ h∈facts)->EK R nC lB θ->∃β∈res,BQ θ β
 one:res.Pairwise λβ γ=>∃h∈hs,wr β h≠wr γ h
def Nr{α β:Type}{g:α->T}{h:β->T}(a:List α)(b:List β):zp (a.map g) (b.map h)=(a.zip b).map λp=>.tup [g p.1,h p.2]:=by
 unfold zp;rw[List.zip_map,Wc];rfl
def BU{f:Str->Option Fn}{a:SE}{ms:List SE}{φ:Fr}{L:aa}{k:Lk}(ha:a φ L=.ok (lT k) L)(h1:f "Same"=s? cG)(h2:f "Unlike"=s? bP):aN "holds" f a ms φ L=(iT ms φ L).bind λts L2=>(if k.same=t? then cG else bP) (lT k::ts) L2:=by
 unfold aN;rw[ha,ak];cases hs:k.same with
 |true=>
  have e:vw L (lT k)=.obj "Same" [("left",.str k.l),("right",.str k.r)]:=by unfold lT;rw[hs];rfl
  rw[e];simp only[h1];rfl
 |false=>
  have e:vw L (lT k)=.obj "Unlike" [("left",.str k.l),("right",.str k.r)]:=by unfold lT;rw[hs];rfl
  rw[e];simp only[h2];rfl
def EL(k:Lk)(a b:Cs)(ha:1<=a.length)(hb:1<=b.length)(L:aa):(if k.same=t? then cG else bP) [lT k,.str a,.str b] L=.ok (.bl (dq k.same a b)) L:=by
 cases hs:k.same with
 |true=>
  rw[if_pos rfl];unfold cG dq;simp!;grind
 |false=>
  rw[if_neg ⋯];unfold bP dq;simp![dI a ha,dI b hb,if_false];cases great a<;>cases great b<;>simp!;grind
def vX{α:Type}{p:α->Bool}(l:List α)(L:aa):nL [.lst (l.map λx=>.bl (p x))] L=.ok (.bl (l.all p)) L:=by
 have:=mapM_map (f:=N8) (g:=λx=>T.bl (p x)) (h:=p) (λ_=>rfl) l;simp[nL,KD,vw,this,lift,aaN,Zh]
def F6(a b:Cs):(a != b) = !d? (a=b):=by by_cases h:a=b<;>simp[h]
def BV(b:aS)(n:Cs)(L:aa):lQ (.str n) (aI b) L=.ok (bd b n) L:=by
 unfold lQ aI vw;simp only[];rw[ao (j8 b n),iG];unfold bd;simp
def m5{b:aS}{n:Cs}(h:bd b n=t?)(L:aa):ix (aI b) (.str n) L=.ok (.str (aq b n)) L:=by
 obtain⟨v,hv⟩:=WC.mp h;unfold ix aI vw;simp only[];rw[ao (j8 b n),iG,hv];unfold aq;rw[hv];rfl
def kq(b:aS)(ns:List Cs)(hl:ns.length<=1000)(L:aa):dT [aI b,.tup (ns.map .str)] L=.ok (.bl (ns.all (bd b))) L:=by
 unfold dT;simp!;rw[aO rfl ns T.str (λn=>.bl (bd b n)) (by exact rfl) (by exact sv) ⇑1 (by exact λn _=>by simp![BV])];simp![vX]
def Nt{b:aS}{a v:Cs}{L:aa}(hl:b.length<lim):pC (.ref L.length) [.str a,.str v] (aI b::L)=match gQ b a with
  |some w=>.ok (.str w) (aI b::L)
  |none=>.ok (.str v) (aI (b++[(a,v)])::L):=by
 unfold pC;simp only[cq,aI];rw[ao ⟨⇑hl,j8 b a⟩,iG];cases e:gQ b a with
 |some w=>rfl
 |none=>
  have hm:a∉b.map (·.1):=λh=>by
   obtain⟨p,hp,rfl⟩:=VP.mp h;unfold gQ at e;have:=X0.mp (Zd.mp e) p hp
   simp at this
  simp only[Option.map_none];rw[rO,if_neg hm,mC]
def Se{L:aa}{m:aS}{a:SE}{ms:List SE}{φ:Fr}{ts:List T}(ha:a φ (aI m::L)=.ok (.ref L.length) (aI m::L))(hm:iT ms φ (aI m::L)=.ok ts (aI m::L)):aF bT a ms φ (aI m::L)=pC (.ref L.length) ts (aI m::L):=by
 unfold aF;rw[ha,ak];unfold aI at hm ⊢;simp only[CH,eU,cq,eV,Yt,bT,hm,ak]
def jt:aS × Fc × Fc × aa->Prop:=λ(b,h,f,L)=>∀(hl:h.as.length=f.as.length)(h4:f.as.length<=4)(hb:b.length<=1000),b8 [aI b,fT h,fT f] L=.ok (match lU b (h.as.zip f.as) with
  |some m=>aI m
  |none=>.aY) L
namespace m6
def c:=uA ⟨by repeat' first|exact default|constructor⟩ jt
def b:=c.1
def h:=c.2.1
def f:=c.2.2.1
def L:=c.2.2.2
def t:jt (b,h,f,L):=by
 intro hl h4 hb;have hd:iK [aI b] L=.ok (.ref L.length) (aI b::L):=by
  unfold iK aI vw;simp only[];rw[ao (by simp[Co])]
 have hz:Ai (vi 1 1) (vi 2 1) [s? (aI b),s? (fT h),s? (fT f),s? (.ref L.length),n?,n?] (aI b::L)=.ok ((h.as.zip f.as).map λp=>.tup [.str p.1,.str p.2],λ_=>True) (aI b::L):=by
  unfold Ai;simp!;rw[ao ⇑hl,Nr]
 unfold b8;simp![hd,hz];generalize UR:h.as.zip f.as=zs;have TQ:zs.length<=4:=by rw[<- UR,List.length_zip];omega
 generalize ho:forL _ _ _ _ _ _=o;have z:=bN ho zs (λp=>.tup [.str p.1,.str p.2]) (λq φ L'=>∃m o4 o5,lU m q=lU b zs/\m.length+q.length<=1004/\φ=[s? (aI b),s? (fT h),s? (fT f),s? (.ref L.length),o4,o5]/\L'=aI m::L)
  (λo=>(lU b zs=n?/\∃m,o=.rt .aY (aI m::L))\/∃m o4 o5,lU b zs=s? m/\o=.nx [s? (aI b),s? (fT h),s? (fT f),s? (.ref L.length),o4,o5] (aI m::L)) rfl ⟨b,n?,n?,rfl,⇑0,rfl,rfl⟩ (λ_ _ eJ eP p q φ L' hh=>by
   obtain⟨m,o4,o5,e1,e2,rfl,rfl⟩:=hh;obtain⟨a,v⟩:=p;rw[VS]at e2;refine⟨trivial,_,rfl,?_⟩;have hD:=Nt (a:=a) (v:=v) (L:=L) (b:=m) ⇑1
   rw[lU]at e1;cases e:gQ m a with
   |some w=>
    simp only[e]at hD e1;simp only[cO,w8,Eb,tB,sets,Xq,Xp];rw[Se rfl rfl,hD];simp![eJ,eP,F6];by_cases hw:w=v
    ·rw[if_pos hw]at e1
     simp![eJ,eP,hw,decide_true];exact⟨m,_,_,e1,⇑0,rfl,rfl⟩
    ·rw[if_neg hw]at e1
     simp![eJ,eP,show(w==v)=f? from beq_eq_false_iff_ne.mpr hw];exact .inl ⟨e1.symm,m,rfl⟩
   |none=>
    simp only[e]at hD e1;simp only[cO,w8,Eb,tB,sets,Xq,Xp];rw[Se rfl rfl,hD];simp![eJ,eP,F6,decide_true];exact⟨_,_,_,e1,by rw[VN];simp;omega,rfl,rfl⟩) λφ L' hh=>by
   obtain⟨m,o4,o5,e1,_,rfl,rfl⟩:=hh;exact⟨trivial,.inr ⟨m,o4,o5,e1.symm,rfl⟩⟩
 rcases z with⟨e,m,rfl⟩|⟨m,o4,o5,e,rfl⟩
 ·rw[e];simp!;exact ji rfl
 ·rw[e];simp!;exact du (jh _ _)
end m6
def yK(b h f L):jt (b,h,f,L):=cW m6.t _
def lN(R:Rd):T:=.obj "Reading" [("calls_in",.bl R.calls),("looks",.lst (R.ah.map λk=>.tup [lT k.1,pT k.2])),("names",.lst (R.names.map .str)),("heads",.lst (R.heads.map fT)),("given",.lst (R.given.map fT)),("told",.lst (R.told.map pT)),("words",aI R.words),("loose",.lst (R.loose.map fT)),("wanted",.lst (R.wanted.map gf))]
def F7(ly:T)(R:Rd)(n:Nat):T:=.obj "Search" [("layout",ly),("reading",lN R),("most",.int (-1)),("found",.ref (n+1))]
section
variable{L:aa}{R:Rd}{bp bl:List Fc}{ks:List Ky}
theorem r1:fld "calls_in" (lN R) L=.ok (.bl R.calls) L:=rfl
theorem r2:fld "looks" (lN R) L=.ok (.lst (R.ah.map λk=>.tup [lT k.1,pT k.2])) L:=rfl
theorem r3:fld "names" (lN R) L=.ok (.lst (R.names.map .str)) L:=rfl
theorem r4:fld "heads" (lN R) L=.ok (.lst (R.heads.map fT)) L:=rfl
theorem r5:fld "given" (lN R) L=.ok (.lst (R.given.map fT)) L:=rfl
theorem r6:fld "told" (lN R) L=.ok (.lst (R.told.map pT)) L:=rfl
theorem r7:fld "words" (lN R) L=.ok (aI R.words) L:=rfl
theorem r8:fld "loose" (lN R) L=.ok (.lst (R.loose.map fT)) L:=rfl
theorem r9:fld "wanted" (lN R) L=.ok (.lst (R.wanted.map gf)) L:=rfl
def y1:fld "shelf" (fF bp bl ks) L=.ok (.ay (fD gf ks λk=>jP (b6 (dF bp++bl) k))) L:=rfl
def y2:fld "counts" (fF bp bl ks) L=.ok (jr bp) L:=rfl
def y3:fld "lasting" (fF bp bl ks) L=.ok (jP bl) L:=rfl
end
section
variable{L:aa}{R:Rd}{ly:T}{n:Nat}(hS:at_ L n=s? (F7 ly R n))
include hS
def s1:fld "layout" (.ref n) L=.ok ly L:=(h8 hS).trans rfl
def s2:fld "reading" (.ref n) L=.ok (lN R) L:=(h8 hS).trans rfl
def s3:fld "most" (.ref n) L=.ok (.int (-1)) L:=(h8 hS).trans rfl
def s4:fld "found" (.ref n) L=.ok (.ref (n+1)) L:=(h8 hS).trans rfl
end
def F8(bp:List Fc)(f:Fc)(L:aa):lQ (fT f) (jr bp) L=.ok (d? (f∈dF bp)) L:=BI f6 f7 (ks:=dF bp) (g:=λf=>.int (bo bp f)) rfl f
def F9(l:List Fc)(f:Fc)(L:aa):lQ (fT f) (jP l) L=.ok (d? (f∈l)) L:=BI f6 f7 (ks:=l) (g:=tt) rfl f
def Nu(bp bl:List Fc)(ks:List Ky)(f:Fc)(L:aa):dE [fF bp bl ks,fT f] L=.ok (.bl (d? (f∈dF bp++bl))) L:=by
 unfold dE;simp![y2,y3,F8,F9];by_cases h1:f∈dF bp
 ·simp![h1,decide_true,VR,true_or]
 ·simp![h1,decide_false,VR,false_or]
def JN{bp bl:List Fc}{ks:List Ky}(hk:∀k,k∈ks↔b6 (dF bp++bl) k≠[])(k:Ky)(L:aa):bY [fF bp bl ks,gf k] L=.ok (jP (b6 (dF bp++bl) k)) L:=by
 have e:=λL=>JG lM rP (x:=.ay (fD gf ks λk=>jP (b6 (dF bp++bl) k))) (L:=L) (ks:=ks) (g:=λk=>jP (b6 (dF bp++bl) k)) rfl k (.ay [])
 have e:∀L,ij (.ay (fD gf ks λk=>jP (b6 (dF bp++bl) k))) [gf k,.ay []] L=.ok (jP (b6 (dF bp++bl) k)) L:=λL=>by
  rw[e];by_cases h:k∈ks
  ·rw[if_pos h]
  ·rw[if_neg h,YR λz=>h ((hk k).mpr z)];rfl
 unfold bY;simp![y1,e];exact fin_same (xx _ _)
structure Nv(facts:List Fc)(b:aS)(h:Fc)(cs:List Fc):Prop where
 nd:cs.Nodup
 ok:∀f∈cs,f∈facts/\f.k=h.k
 all:∀θ,BQ θ b->eC θ h∈facts->eC θ h∈cs
def xy(t:T)(cs:List Fc):Prop:=t=.lst (cs.map fT)\/t=jP cs
def xy.it{t:T}{cs:List Fc}(h:xy t cs)(L:aa):items t L=s? (cs.map fT)/\RU t=f?/\aU [t] L=.ok (.int cs.length) L:=by
 rcases h with rfl|rfl
 ·exact⟨rfl,rfl,by unfold aU vw;simp⟩
 ·refine⟨?_,rfl,by unfold aU vw jP;simp[rQ]⟩
  show s? ((fD fT cs tt).map (·.1))=_;rw[nH]
def JO{facts:List Fc}(nd:facts.Nodup)(k:Ky):(b6 facts k).Nodup/\∀f∈b6 facts k,f∈facts/\f.k=k.1:=by
 unfold b6;refine⟨nd.filter _,λf hf=>?_⟩;obtain⟨h1,h2⟩:=Wq.mp hf;refine⟨h1,?_⟩;have h2:=of_decide_eq_true h2
 unfold keysOf at h2;rcases Wt.mp h2 with rfl|h2
 ·rfl
 ·obtain⟨p,_,rfl⟩:=VP.mp h2
  rfl
def Ga{m:Str}{f:Str->Option Fn}{a:SE}{ms:List SE}{φ:Fr}{L:aa}{bp bl:List Fc}{ks:List Ky}{F:Fn}(ha:a φ L=.ok (fF bp bl ks) L)(hf:f "Layout"=s? F)(hn:(Ze m [("shelf",T.aY),("counts",.aY),("lasting",.aY)]).isNone=t?):aN m f a ms φ L=(iT ms φ L).bind λts L2=>F (fF bp bl ks::ts) L2:=Nm ha hf (by
 simp_all)
def mI:List Fc × List Fc × List Ky × aa × Rd × Nat × aS × Fc->Prop:=λ(bp,bl,ks,L,R,n,b,h)=>∀(hk:∀k,k∈ks↔b6 (dF bp++bl) k≠[])(nd:(dF bp++bl).Nodup)(hS:at_ L n=s? (F7 (fF bp bl ks) R n))(h4:h.as.length<=4),∃t cs,xy t cs/\Nv (dF bp++bl) b h cs/\ai [.ref n,aI b,fT h] L=.ok t L
namespace qq
def c:=uA ⟨by repeat' first|exact default|constructor⟩ mI
def bp:=c.1
def bl:=c.2.1
def ks:=c.2.2.1
def L:=c.2.2.2.1
def R:=c.2.2.2.2.1
def n:=c.2.2.2.2.2.1
def b:=c.2.2.2.2.2.2.1
def h:=c.2.2.2.2.2.2.2
def t:mI (bp,bl,ks,L,R,n,b,h):=by
 intro hk nd hS h4;have ro:=λk=>JO nd k
 unfold ai;simp![kq b h.as ⇑0 L,jJ (x:=aI b) (.inl rfl) h ⇑0,s1 hS];cases hb:h.as.all (bd b) with
 |true=>
  have hw:∀θ,BQ θ b->eC θ h=wr b h:=λθ g=>fK λa ha=>iJ g (VQ.mp hb a ha)
  rw[Ga (bp:=bp) (bl:=bl) (ks:=ks) (F:=dE) (by simp![s1 hS]) rfl rfl];simp![Nu];by_cases hm:wr b h∈dF bp++bl
  ·refine⟨.lst ([wr b h].map fT),[wr b h],.inl rfl,⟨⋯,λf hf=>?_,λθ g _=>?_⟩,?_⟩
   ·rw[Wb.mp hf];exact⟨hm,rfl⟩
   ·rw[hw θ g];exact Wb.mpr rfl
   ·simp![hm,decide_true]
    exact fin_same (af (l:=[wr b h]) bu)
  ·refine⟨.lst [],[],.inl rfl,⟨Xz,(λf hf=>nomatch hf),λθ g z=>?_⟩,?_⟩
   ·rw[hw θ g]at z;exact absurd z hm
   ·simp![hm,decide_false]
    exact fin_same rfl
 |false=>
  have rk:∀k,k.1=h.k->(∀θ,BQ θ b->k∈keysOf (eC θ h))->Nv (dF bp++bl) b h (b6 (dF bp++bl) k):=λk e z=>⟨(ro k).1,λf hf=>⟨((ro k).2 f hf).1,((ro k).2 f hf).2.trans e⟩,λθ g hm=>Wq.mpr ⟨hm,decide_eq_true (z θ g)⟩⟩
  have row:∀{a:SE}{φ:Fr}(k:Ky),iT [a] φ L=.ok [gf k] L->φ[0]?=s? (s? (.ref n))->aN "row" (λy=>([("Layout",bY)]:List (Str × Fn)).lookup y) (b1 (v 0) (fld "layout")) [a] φ L=.ok (jP (b6 (dF bp++bl) k)) L:=λ{a φ}k e h0=>by
   rw[Ga (bp:=bp) (bl:=bl) (ks:=ks) (F:=bY) (by simp only[Ea,vo,h0,WK,a8,ak,s1 hS]) rfl rfl,e,ak];exact JN hk k L
  simp!;rw[row (kk h.k) (by simp![j9]) rfl];simp![uj];generalize ho:forL _ _ _ _ _ _=o;have z:=bN ho h.as.zipIdx (λp=>.tup [.int (p.2:Nat),.str p.1]) (λq φ L'=>∃cs o5 o6 o7,Nv (dF bp++bl) b h cs/\(∀p∈q,p∈h.as.zipIdx)/\φ=[s? (.ref n),s? (aI b),s? (fT h),n?,s? (jP cs),o5,o6,o7]/\L'=L)
   (λo=>∃cs o5 o6 o7,Nv (dF bp++bl) b h cs/\o=.nx [s? (.ref n),s? (aI b),s? (fT h),n?,s? (jP cs),o5,o6,o7] L) rfl ⟨_,_,_,_,rk (kk h.k) rfl (λθ _=>VL),λ_ z=>z,rfl,rfl⟩ (λ_ _ eJ eP p q φ L' hh=>by
    obtain⟨cs,o5,o6,o7,hc,hq,rfl,rfl⟩:=hh;obtain⟨a,i⟩:=p;refine⟨sv,_,rfl,?_⟩;simp![eJ,eP,BV];cases hb:bd b a with
    |false=>
     simp![eJ,eP];exact⟨cs,_,_,_,hc,λp hp=>hq p (VK _ hp),rfl,by trivial⟩
    |true=>
     simp![eJ,eP];rw[row (h.k,(i:Int),aq b a) (by simp![m5 hb];rfl) rfl];simp![eJ,eP,jP,rQ];have xX:=rk (h.k,(i:Int),aq b a) rfl λθ g=>by
      refine VK _ (VP.mpr ⟨(θ a,i),?_,by rw[iJ g hb];rfl⟩);show(θ a,i)∈(h.as.map θ).zipIdx
      rw[List.zipIdx_map];exact VP.mpr ⟨(a,i),hq _ VL,rfl⟩
     by_cases hl:(((b6 (dF bp++bl) (h.k,(i:Int),aq b a)).length:Int)<cs.length)
     ·simp![eJ,eP,hl,decide_true]
      exact⟨_,_,_,_,xX,λp hp=>hq p (VK _ hp),rfl,by trivial⟩
     ·simp![eJ,eP,hl,decide_false]
      exact⟨cs,_,_,_,hc,λp hp=>hq p (VK _ hp),rfl,by trivial⟩) λφ L' hh=>by
    obtain⟨cs,o5,o6,o7,hc,hq,rfl,rfl⟩:=hh;exact⟨sv,cs,o5,o6,o7,hc,rfl⟩
  obtain⟨cs,o5,o6,o7,hc,rfl⟩:=z;exact⟨jP cs,cs,.inr rfl,hc,by simp!;exact fin_same (xx _ _)⟩
end qq
def xA(bp bl ks L R n b h):mI (bp,bl,ks,L,R,n,b,h):=cW qq.t _
def rS{α γ:Type}{k:aa->Prop}{b:SS}{L:aa}{o:O}{i:Nat}(xs:List α)(enc:α->T)(p:α->Bool)(r:T)(F:Option T->γ->Fr){z:Option T}{w:γ}(ho:forL k (.one i) b (xs.map enc) (F z w) L=o)(hk:k L)(hF:∀z w x,(F z w).set i (s? x)=F (s? x) w)
  (hb:∀x∈xs,∀w,∃w',b (F (s? (enc x)) w) L=if p x=t? then .rt r L else .nx (F (s? (enc x)) w') L):(xs.any p=t?/\o=.rt r L)\/(xs.any p=f?/\∃z w,o=.nx (F z w) L) :=
 bN ho xs enc (λq φ L'=>(∀x∈q,x∈xs)/\q.any p=xs.any p/\(∃z w,φ=F z w)/\L'=L) (λo=>(xs.any p=t?/\o=.rt r L)\/(xs.any p=f?/\∃z w,o=.nx (F z w) L)) rfl ⟨λ_ h=>h,rfl,⟨z,w,rfl⟩,rfl⟩ (λ_ _ eJ eP x q φ L' hh=>by
  obtain⟨hq,e,⟨z,w,rfl⟩,rfl⟩:=hh;refine⟨hk,_,rfl,?_⟩;obtain⟨w',h⟩:=hb x (hq x VL) w;rw[hF,h];rw[List.any_cons]at e;cases hp:p x with
  |true=>
   rw[hp,Bool.true_or]at e;rw[if_pos rfl,FO,eP];exact .inl ⟨e.symm,rfl⟩
  |false=>
   rw[hp,Bool.false_or]at e;rw[if_neg ⋯,oJ,eJ];exact⟨λy hy=>hq y (VK _ hy),e,⟨_,_,rfl⟩,rfl⟩) λφ L' hh=>by
  obtain⟨_,e,⟨z,w,rfl⟩,rfl⟩:=hh;exact⟨hk,.inr ⟨e.symm,z,w,rfl⟩⟩
section
variable{bp bl:List Fc}{ks:List Ky}{L:aa}{R:Rd}{n:Nat}(hS:at_ L n=s? (F7 (fF bp bl ks) R n))
include hS
theorem Nx(b:aS)(h4:∀f∈R.given,f.as.length<=4):bt [.ref n,aI b] L=.ok (.bl (yJ R bl b)) L:=by
 unfold bt yJ;simp![s2 hS,r5];generalize ho:forL _ _ _ _ _ _=o;rcases rS R.given fT (λf=>!f.as.all (bd b) || !d? (eC (aq b) f∈bl)) (.bl t?) (λz(_:Unit)=>[s? (.ref n),s? (aI b),z,n?]) (w:=()) ho sv (λ_ _ _=>rfl) (λf hf _=>⟨(),by
  have h4:=h4 f hf;simp![kq b f.as ⇑0 L];cases hb:f.as.all (bd b) with
  |false=>simp!;rfl
  |true=>
   simp![jJ (x:=aI b) (.inl rfl) f ⇑0,s1 hS,y3,F9,yI];by_cases hm:eC (aq b) f∈bl<;>simp[hm]<;>rfl⟩) with⟨e,rfl⟩|⟨e,z,_,rfl⟩
 ·rw[e];simp!;rfl
 ·rw[e]
  simp![s2 hS,r6];generalize ho:forL _ _ _ _ _ _=o;rcases rS R.told pT (λp=>!(bd b p.1 && bd b p.2) || !d? (aq b p.1=aq b p.2)) (.bl t?) (λz'(_:Unit)=>[s? (.ref n),s? (aI b),z,z']) (w:=()) ho sv (λ_ _ _=>rfl) (λp hp _=>⟨(),by
   have QV:=kq b [p.1,p.2] ⋯ L;rw[show T.tup ([p.1,p.2].map .str)=pT p from rfl]at QV;simp only[WD,ZZ,YI]at QV;simp![QV];cases h1:bd b p.1 with
   |false=>simp!;rfl
   |true=>
    cases h2:bd b p.2 with
    |false=>simp!;rfl
    |true=>
     simp![m5 h1,m5 h2];by_cases hm:aq b p.1=aq b p.2<;>simp[hm]<;>rfl⟩) with⟨e,rfl⟩|⟨e,z,_,rfl⟩
  ·rw[e];simp!;rfl
  ·rw[e];simp!;rfl
theorem Ny(b:aS)(sm:tM b)(h4:∀f∈R.given,f.as.length<=4)(hl:∀k∈R.ah,cP k.2.1/\cP k.2.2):aw [.ref n,aI b] L=.ok (.bl (uo R bl b)) L:=by
 unfold aw uo;simp![s2 hS,r2];generalize ho:forL _ _ _ _ _ _=o;rcases rS R.ah (λk=>.tup [lT k.1,pT k.2]) (λk=>!JK b k) (.bl f?) (λz w=>[s? (.ref n),s? (aI b),z,w]) ho sv (λ_ _ _=>rfl) (λk hk w=>⟨s? (pT k.2),by
  obtain⟨n1,n2⟩:=hl k hk;unfold JK;simp![BV];cases h1:bd b k.2.1 with
  |false=>simp!
  |true=>
   cases h2:bd b k.2.2 with
   |false=>simp!
   |true=>
    simp!;rw[BU (k:=k.1) (by simp!) rfl rfl];simp![m5 h1,m5 h2,EL k.1 _ _ (gV (sm.aq n1)).1 (gV (sm.aq n2)).1];cases dq k.1.same (aq b k.2.1) (aq b k.2.2)<;>simp!⟩) with⟨e,rfl⟩|⟨e,z,w,rfl⟩
 ·rw[show R.ah.all (JK b)=f? by
   rw[aay,e];rfl]
  simp!
 ·rw[show R.ah.all (JK b)=t? by
   rw[aay,e];rfl]
  simp![s2 hS,r1];cases R.calls with
  |false=>simp!;rfl
  |true=>
   simp!;rw[pU (F:=bt) (by simp!) hS rfl rfl];simp![Nx hS b h4];rfl
end
def ju(l m:List Fc)(f:Fc):bo (l++m) f=bo l f+bo m f:=by unfold bo;simp
section
variable{bp bl:List Fc}{ks:List Ky}{L:aa}{R:Rd}{n:Nat}(hS:at_ L n=s? (F7 (fF bp bl ks) R n))
include hS
theorem BW(b:aS)(h4:∀f∈R.heads,f.as.length<=4)(hl:R.heads.length<=100):az [.ref n,aI b] L=.ok (.bl (JL R bp b)) L:=by
 have hn:=cu hS;have up:∀c:T,at_ (c::L) n=s? (F7 (fF bp bl ks) R n):=λc=>by rw[at_,if_neg (Wm hn)];exact hS
 unfold az;simp![s2 (up _),r4];generalize ho:forL _ _ _ _ _ _=o;have z:=bN ho R.heads fT (λq φ L'=>∃done o3 o4,done++q=R.heads/\(∀f∈done.map (eC (aq b)),f∈bp->bo (done.map (eC (aq b))) f<=bo bp f)/\φ=[s? (.ref n),s? (aI b),s? (.ref L.length),o3,o4]/\L'=jr (done.map (eC (aq b)))::L)
  (λo=>(JL R bp b=f?/\∃c,o=.rt (.bl f?) (c::L))\/(JL R bp b=t?/\∃φ c,o=.nx φ (c::L))) rfl ⟨[],n?,n?,rfl,(λf hf=>nomatch hf),rfl,rfl⟩ (λ_ _ eJ eP h q φ L' hh=>by
   obtain⟨done,o3,o4,e1,e2,rfl,rfl⟩:=hh;refine⟨sv,_,rfl,?_⟩;have hm:h∈R.heads:=by rw[<- e1];simp
   have h4:=h4 h hm;have yo:done.length<=100:=by
    grind
   generalize hd:done.map (eC (aq b))=dn at *
   have hdn:dn.length<=100:=by rw[<- hd,Lm9];exact yo
   have w:=jJ (L:=jr dn::L) (x:=aI b) (.inl rfl) h ⇑0;rw[yI]at w;generalize hf:eC (aq b) h=f at *
   have e:=JG f6 f7 (x:=.ref L.length) (L:=jr dn::L) (ks:=dF dn) (g:=λf=>.int (bo dn f)) (by rw[eU,cq];rfl) f (.int 0);have e:ij (.ref L.length) [fT f,.int 0] (jr dn::L)=.ok (.int (bo dn f)) (jr dn::L):=by
    rw[e];by_cases hm:f∈dF dn
    ·rw[if_pos hm]
    ·rw[if_neg hm,F5 hm];rfl
   have p:=oY f6 f7 (n:=L.length) (L:=jr dn::L) (ks:=dF dn) (g:=λf=>.int (bo dn f)) cq (by have:=(bb dn).2.2;unfold lim;omega) f (.int ((bo dn f:Int)+1));rw[um,mC,Ji]at p;have i1:=F3 f6 f7 (x:=.ref L.length) (L:=jr (dn++[f])::L) (ks:=dF (dn++[f])) (g:=λg=>.int (bo (dn++[f]) g)) (by rw[eU,cq];rfl) f (((bb _).2.1 f).mpr ⋯)
   have i2:∀L,f∈dF bp->ix (jr bp) (fT f) L=.ok (.int (bo bp f)) L:=λL h=>F3 f6 f7 (ks:=dF bp) (g:=λg=>.int (bo bp g)) rfl f h
   have st:∀g,bo (dn++[f]) g<=bo (R.heads.map (eC (aq b))) g:=λg=>by
    rw[<- e1,V1,VU,hd,hf,ju,ju,show f::q.map (eC (aq b))=[f]++q.map (eC (aq b)) from rfl,ju];omega
   have bg:aF cR (v 2) [v 4,c (.int 0)] [s? (.ref n),s? (aI b),s? (.ref L.length),s? (fT h),s? (fT f)] (jr dn::L)=.ok (.int (bo dn f)) (jr dn::L):=by
    rw[<- e];unfold jr;simp!
   simp only[cO,oy,tC,iw,gP,vo,Xq,Xp,Xb,Xo,WK,a8,ak,of_ok,w,Tg.set,jD,AW,tB];rw[bg];have p:jL (.ref L.length) (fT f) (.int ((bo dn f+1:Nat))) (jr dn::L)=s? (jr (dn++[f])::L):=p
   simp![p,s1 (up _),y2,F8];by_cases hb:f∈dF bp
   ·simp![hb,decide_true,i1,s1 (up _),y2,i2 _ hb]
    by_cases hc:bo (dn++[f]) f<=bo bp f
    ·simp![eJ,eP,show d? (((bo bp f:Nat):Int)<(bo (dn++[f]) f:Nat))=f? from decide_eq_false ⇑0]
     refine⟨done++[h],_,_,⇑e1,λg hg QW=>?_,rfl,by simp_all⟩;rw[V1,hd,VU,hf,WH]at hg ⊢;by_cases eg:g=f
     ·rw[eg];exact hc
     ·have hg:g∈dn:=(VR.mp hg).elim id λz=>absurd (Wb.mp z) eg
      rw[ju,show bo [f] g=0 by simp[bo,YA eg]];exact e2 g hg QW
    ·simp![eJ,eP,show d? (((bo bp f:Nat):Int)<(bo (dn++[f]) f:Nat))=t? from decide_eq_true ⇑0]
     refine .inl ⟨aao.mpr ⟨h,hm,?_⟩,_,rfl⟩;rw[hf,decide_eq_true (((bb bp).2.1 f).mp hb),decide_eq_false (by have:=st f;omega)];simp
   ·simp![eJ,eP,hb,decide_false]
    refine⟨done++[h],_,_,⇑e1,λg hg QW=>?_,rfl,by simp_all⟩;rw[V1,hd,VU,hf,WH]at hg ⊢;have eg:g≠f:=λz=>hb (((bb bp).2.1 f).mpr (by simp_all))
    have hg:g∈dn:=(VR.mp hg).elim id λz=>absurd (Wb.mp z) eg
    rw[ju,show bo [f] g=0 by simp[bo,YA eg]];exact e2 g hg QW) λφ L' hh=>by
   obtain⟨done,o3,o4,e1,e2,rfl,rfl⟩:=hh;rw[V8]at e1;subst e1;refine⟨sv,.inr ⟨VQ.mpr λh hh=>?_,_,_,rfl⟩⟩;grind
 rcases z with⟨e,c,rfl⟩|⟨e,φ,c,rfl⟩
 ·rw[e];simp!;exact ji rfl
 ·rw[e];simp!;exact ji rfl
end
def QX:Option (Bool × Int)->T
 |none=>.aY
 |some p=>.tup [.bl p.1,.int p.2]
theorem BX{bp bl:List Fc}{ks:List Ky}(hk:∀k,k∈ks↔b6 (dF bp++bl) k≠[])(nd:(dF bp++bl).Nodup){L:aa}{R:Rd}{n:Nat}(hS:at_ L n=s? (F7 (fF bp bl ks) R n))(b:aS)(hs:List Fc)(hn:hs≠[])(h4:∀h∈hs,h.as.length<=4):
  ∃i,i<hs.length/\au [.ref n,aI b,.lst (hs.map fT)] L=.ok (.int (i:Nat)) L:=by
 have pos:=YX.mpr hn;unfold au;simp!;by_cases h1:hs.length=1
 ·exact⟨0,pos,by simp![show((hs.length:Int)==1)=t? by simp;omega];rfl⟩
 ·simp![show((hs.length:Int)==1)=f? by simp;omega,uj]
  generalize ho:forL _ _ _ _ _ _=o;have z:=bN ho hs.zipIdx (λp=>.tup [.int (p.2:Nat),fT p.1]) (λq φ L'=>∃(best:Nat)(ls:Option (Bool × Int))(o5 o6 o7 o8:Option T),best<hs.length/\(∀p∈q,p∈hs.zipIdx)/\φ=[s? (.ref n),s? (aI b),s? (.lst (hs.map fT)),s? (.int (best:Nat)),s? (QX ls),o5,o6,o7,o8]/\L'=L)
   (λo=>(∃i:Nat,i<hs.length/\o=.rt (.int (i:Nat)) L)\/∃(best:Nat)(o4 o5 o6 o7 o8:Option T),best<hs.length/\o=.nx [s? (.ref n),s? (aI b),s? (.lst (hs.map fT)),s? (.int (best:Nat)),o4,o5,o6,o7,o8] L) rfl ⟨0,n?,n?,n?,n?,n?,pos,λ_ z=>z,rfl,rfl⟩ (λ_ _ eJ eP p q φ L' hh=>by
    obtain⟨best,ls,o5,o6,o7,o8,hb,hq,rfl,rfl⟩:=hh;obtain⟨h,i⟩:=p;have hi:i<hs.length/\h∈hs:=by
     have z:=hq (h,i) VL;rw[XM]at z;obtain⟨z1,z2⟩:=VZ.mp z;exact⟨z1,Wd z⟩
    have hq':=λp hp=>hq p (VK _ hp)
    obtain⟨t,cs,c1,c2,c3⟩:=xA _ _ _ _ _ _ b h hk nd hS (h4 h hi.2);have c4:=(c1.it L').2.2
    refine⟨sv,_,rfl,?_⟩;simp only[cO,oy,tC,iw,gP,sets,Xq,Xp];rw[pU (F:=ai) (by simp!) hS rfl rfl];simp only[iw,gP,vo,Xb,Xo,WK,a8,ak,c3,c4];simp![eJ,eP,s2 hS,r8];by_cases hc:(cs.length:Int)<=1
    ·simp![eJ,eP,hc,decide_true]
     exact .inl ⟨i,hi.1,rfl⟩
    ·simp![eJ,eP,hc,decide_false,s2 hS,r8]
     cases ls with
     |none=>
      simp![eJ,eP,QX];exact⟨i,s? (_,_),_,_,_,_,hi.1,hq',rfl,by trivial⟩
     |some p=>
      simp![eJ,eP,QX,LK];cases yj (d? (h∈R.loose)) p.1 (cs.length:Int) p.2 with
      |true=>
       simp![eJ,eP];exact⟨i,s? (_,_),_,_,_,_,hi.1,hq',rfl,by trivial⟩
      |false=>
       simp![eJ,eP];exact⟨best,s? p,_,_,_,_,hb,hq',rfl,by trivial⟩) λφ L' hh=>by
    obtain⟨best,ls,o5,o6,o7,o8,hb,_,rfl,rfl⟩:=hh;exact⟨sv,.inr ⟨best,_,_,_,_,_,hb,rfl⟩⟩
  rcases z with⟨i,hi,rfl⟩|⟨best,o4,o5,o6,o7,o8,hb,rfl⟩
  ·exact⟨i,hi,by simp!⟩
  ·exact⟨best,hb,by simp!⟩
def QY(call:SE):Fn:=run 3 7 (ab [iff (pB [tv (b2 (ae aU [b1 (v 0) (fld "found")]) (b1 (v 0) (fld "most")) (cmp .Eq)),df (tv (aN "hopeful" (λy=>([("Search",aw)]:List (Str × Fn)).lookup y) (v 0) [v 1]))]) (ab [ret (c .aY)]) (ab []),iff (tv (b2 (ae aU [v 2]) (c (.int 0)) (cmp .Eq))) (ab [iff (tv (aN "enough" (λy=>([("Search",az)]:List (Str × Fn)).lookup y) (v 0) [v 1])) (ab [di (aF (ar) (b1 (v 0) (fld "found")) [v 1])]) (ab []),ret (c .aY)]) (ab []),asg (.one 3) (aN "narrowest" (λy=>([("Search",au)]:List (Str × Fn)).lookup y) (v 0) [v 1,v 2]),asg (.one 4) (b2 (sl t? (v 2) n? (s? (v 3))) (sl t? (v 2) (s? (b2 (v 3) (c (.int 1)) (aK t? .Add))) n?) (aK t? .Add)),aL (src (aN "candidates" (λy=>([("Search",ai)]:List (Str × Fn)).lookup y) (v 0) [v 1,b2 (v 2) (v 3) ix])) (.one 5) (ab [asg (.one 6) (ae b8 [v 1,b2 (v 2) (v 3) ix,v 5]),iff (tv (b2 (v 6) (c .aY) (cmp .IsNot))) (ab [di call]) (ab [])])])
structure Sx(bp bl:List Fc)(ks:List Ky)(R:Rd):Prop where
 hk:∀k,k∈ks↔b6 (dF bp++bl) k≠[]
 nd:(dF bp++bl).Nodup
 ip:(dF bp++bl).length<=20
 fn:∀f∈dF bp++bl,f.as.length<=4/\∀a∈f.as,cP a
 h4:∀h∈R.heads,h.as.length<=4
 hl:R.heads.length<=100
 g4:∀f∈R.given,f.as.length<=4
 lk:∀k∈R.ah,cP k.2.1/\cP k.2.2
structure Pre(bp bl:List Fc)(R:Rd)(b:aS)(hs:List Fc):Prop where
 sm:tM b
 len:b.length+4 * hs.length<=100
 hd:∀h∈hs,h.as.length<=4/\(∀a∈h.as,cP a)/\∀f∈dF bp++bl,f.k=h.k->h.as.length=f.as.length
 Sf:∀m,Np R m->bd b m=t?\/∃h∈hs,m∈h.as
def Lv(bp bl:List Fc)(ks:List Ky)(R:Rd)(L0:aa)(fs:List aS):aa:=.lst (fs.map aI)::F7 (fF bp bl ks) R L0.length::L0
section
variable{bp bl:List Fc}{ks:List Ky}{R:Rd}{L0:aa}{fs:List aS}
def Lv.s:at_ (Lv bp bl ks R L0 fs) L0.length=s? (F7 (fF bp bl ks) R L0.length):=vD
def Lv.f:at_ (Lv bp bl ks R L0 fs) (L0.length+1)=s? (.lst (fs.map aI)):=tN
theorem Lv.fin(gs:List aS):fin (Lv bp bl ks R L0 fs) .aY (Lv bp bl ks R L0 gs)=.ok .aY (Lv bp bl ks R L0 gs):=j6 (af jh) rfl
end
def lO{α:Type}{l:List α}{i:Nat}{a:α}(h:l[i]?=s? a)(x:α):x∈l↔x=a\/x∈l.take i++l.drop (i+1):=by
 obtain⟨hi,rfl⟩:=VZ.mp h
 conv=>lhs;rw[<- XE i l,Wz hi]
 rw[VR,Wt,VR];exact⟨λz=>z.elim (λy=>.inr (.inl y)) λz=>z.imp id .inr,λz=>z.elim (λy=>.inr (.inl y)) λz=>z.imp id .inr⟩
def xB{α:Type}{l:List α}{i:Nat}(h:i<l.length):(l.take i++l.drop (i+1)).length+1=l.length:=by
 (simp;omega)
def Pre.next{bp bl:List Fc}{ks:List Ky}{R:Rd}(S:Sx bp bl ks R){b m:aS}{hs:List Fc}(P:Pre bp bl R b hs){i:Nat}{h f:Fc}(hi:hs[i]?=s? h)(hf:f∈dF bp++bl)(hk:f.k=h.k)(e:lU b (h.as.zip f.as)=s? m):Pre bp bl R m (hs.take i++hs.drop (i+1))/\wr m h=f/\∀a∈h.as,bd m a=t?:=by
 have hh:h∈hs:=Wd hi;obtain⟨p1,p2,p3⟩:=P.hd h hh;have hl:=p3 f hf hk
 obtain⟨w1,w2⟩:=JJ hk hl e;obtain⟨c,c1,c2,_⟩:=vW _ e;refine⟨⟨λp hp=>?_,?_,λg hg=>P.hd g ((lO hi g).mpr (.inr hg)),λa ha=>?_⟩,w1,w2⟩
 ·rw[c1]at hp
  rcases VR.mp hp with hp|hp
  ·exact P.sm p hp
  ·have z:=Xm (show(p.1,p.2)∈_ from c2 p hp)
   exact⟨p2 _ z.1,(S.fn f hf).2 _ z.2⟩
 ·have z1:=EJ _ e
  have z2:=xB (VZ.mp hi).1;have z3:=P.len
  rw[List.length_zip]at z1;omega
 ·rcases P.Sf a ha with z|⟨g,hg,z⟩
  ·rw[c1];exact .inl (vV z).1
  ·rcases(lO hi g).mp hg with rfl|hg
   ·exact .inl (w2 a z)
   ·exact .inr ⟨g,hg,z⟩
def EM(bp bl:List Fc)(ks:List Ky)(R:Rd)(L0:aa)(d:Nat)(F:Fn):Prop:=∀b hs,hs.length<=d->Pre bp bl R b hs->∀fs:List aS,fs.length+20 ^ hs.length<=1000000->∃res,Wk (dF bp++bl) R bp bl b hs res/\res.length<=20 ^ hs.length/\F [.ref L0.length,aI b,.lst (hs.map fT)] (Lv bp bl ks R L0 fs)=.ok .aY (Lv bp bl ks R L0 (fs++res))
def BY{l m:List Fc}(nd:l.Nodup)(h:∀f∈l,f∈m):l.length<=m.length:=Bk.qf l m λf=>by
 by_cases hf:f∈l
 ·rw[List.Nodup.count nd,if_pos hf]
  exact List.count_pos_iff.mpr (h f hf)
 ·rw[List.count_eq_zero.mpr hf];exact Wg _
def Wk.join{bp bl:List Fc}{ks:List Ky}{R:Rd}(S:Sx bp bl ks R){b:aS}{hs cs:List Fc}{i:Nat}{h:Fc}(P:Pre bp bl R b hs)(hi:hs[i]?=s? h)(C:Nv (dF bp++bl) b h cs)(g:Fc->List aS)
  (hg:∀f∈cs,(lU b (h.as.zip f.as)=n?/\g f=[])\/∃m,lU b (h.as.zip f.as)=s? m/\Wk (dF bp++bl) R bp bl m (hs.take i++hs.drop (i+1)) (g f)):Wk (dF bp++bl) R bp bl b hs (cs.flatMap g):=by
 have key:∀f∈cs,∀β∈g f,wr β h=f/\∃m c,lU b (h.as.zip f.as)=s? m/\Wk (dF bp++bl) R bp bl m (hs.take i++hs.drop (i+1)) (g f)/\β=b++c:=λf hf β hβ=>by
  obtain⟨o1,o2⟩:=C.ok f hf;rcases hg f hf with⟨_,e⟩|⟨m,e,W⟩
  ·simp_all
  ·obtain⟨_,w1,w2⟩:=P.next S hi o1 o2 e
   obtain⟨c,c1,_⟩:=vW _ e;obtain⟨⟨c',rfl⟩,_⟩:=W.ext β hβ;refine⟨?_,m,c++c',e,W,by rw[c1];simp⟩;rw[<- w1,yI,yI];exact fK λa ha=>(vV (w2 a ha)).2
 refine⟨λβ hβ=>?_,λθ hb ha o=>?_,?_⟩
 ·obtain⟨f,hf,hβ⟩:=W2.mp hβ
  obtain⟨k1,m,c,_,W,k2⟩:=key f hf β hβ;obtain⟨_,x1,x2⟩:=W.ext β hβ;refine⟨⟨c,k2⟩,λj hj=>?_,x2⟩;rcases(lO hi j).mp hj with rfl|hj
  ·rw[k1];exact(C.ok f hf).1
  ·exact x1 j hj
 ·have hm:=C.all θ hb (ha h (Wd hi))
  obtain⟨m,e,ag⟩:=EI (h.as.zip (eC θ h).as) hb JI;rcases hg _ hm with⟨z,_⟩|⟨m',e',W⟩
  ·simp_all
  ·rw[e]at e';cases e'
   obtain⟨β,h1,h2⟩:=W.all θ ag (λj hj=>ha j ((lO hi j).mpr (.inr hj))) o;exact⟨β,W2.mpr ⟨_,hm,h1⟩,h2⟩
 ·rw[aaY]
  refine⟨λf hf=>?_,?_⟩
  ·rcases hg f hf with⟨_,e⟩|⟨m,_,W⟩
   ·rw[e];exact .nil
   ·exact W.one.imp λ⟨j,hj,z⟩=>⟨j,(lO hi j).mpr (.inr hj),z⟩
  ·refine C.nd.imp_of_mem λ{f f'}hf hf' ne β hβ γ hγ=>⟨h,Wd hi,?_⟩
   rw[(key f hf β hβ).1,(key f' hf' γ hγ).1];exact ne
def xC{g:Fc->List aS}{X:Nat}:∀cs:List Fc,(∀f∈cs,(g f).length<=X)->(cs.flatMap g).length<=cs.length * X:=λcs h=>Bk.bZ h
def JP{hs:List Fc}{i:Nat}{h:Fc}(hi:hs[i]?=s? h)(L:aa):ix (.lst (hs.map fT)) (.int (i:Nat)) L=.ok (fT h) L:=fS (by simp_all)
def Sh{t:T}{cs:List Fc}(h:xy t cs){L L':aa}:stays t L L':=sv (h.it L).2.1
def BZ{bp bl:List Fc}{ks:List Ky}{R:Rd}(S:Sx bp bl ks R){L0:aa}{call:SE}{d:Nat}(Nz:∀b' rest,rest.length<d->Pre bp bl R b' rest->∀(fs:List aS)(φ:Fr),fs.length+20 ^ rest.length<=1000000->φ[0]?=s? (s? (.ref L0.length))->φ[4]?=s? (s? (.lst (rest.map fT)))->φ[6]?=s? (s? (aI b'))->∃res,Wk (dF bp++bl) R bp bl b' rest res/\res.length<=20 ^ rest.length/\call φ (Lv bp bl ks R L0 fs)=.ok .aY (Lv bp bl ks R L0 (fs++res))):EM bp bl ks R L0 d (QY call):=by
 intro b hs hd P fs hf;have US:aw [.ref L0.length,aI b] (Lv bp bl ks R L0 fs)=.ok (.bl (uo R bl b)) (Lv bp bl ks R L0 fs):=Ny Lv.s b P.sm S.g4 S.lk
 have JQ:az [.ref L0.length,aI b] (Lv bp bl ks R L0 fs)=.ok (.bl (JL R bp b)) (Lv bp bl ks R L0 fs):=BW Lv.s b S.h4 S.hl;have ln:((fs.length:Int) == -1)=f?:=by simp
 unfold QY;generalize QZ:aL _ _ _=F0;simp![s4 Lv.s,s3 Lv.s,Lv.f,ln];rw[pU (F:=aw) (by simp!) Lv.s rfl rfl];simp![US];cases hh:uo R bl b with
 |false=>
  refine⟨[],⟨(λβ h=>nomatch h),λθ g _ o=>(JM hh g o).elim,.nil⟩,Wg _,?_⟩;simp![V8]
 |true=>
  simp!;cases hs with
  |nil=>
   have Q0:∀n,Np R n->bd b n=t?:=λn hn=>(P.Sf n hn).elim id λ⟨_,h,_⟩=>nomatch h
   simp![show(((0:Nat):Int)==0)=t? from rfl];rw[pU (F:=az) (by simp!) Lv.s rfl rfl];simp![JQ];cases he:JL R bp b with
   |false=>
    refine⟨[],⟨(λβ h=>nomatch h),λθ g _ o=>?_,.nil⟩,Wg _,?_⟩
    ·have:=Nq (o.congr λn hn=>iJ g (Q0 n hn))
     rw[he]at this;cases this
    ·simp![V8]
   |true=>
    refine⟨[b],⟨λβ h=>?_,λθ g _ o=>⟨b,Wb.mpr rfl,g⟩,⋯⟩,⋯,?_⟩
    ·rw[Wb.mp h]
     exact⟨⟨[],⋯⟩,(λj hj=>nomatch hj),Q0,leaf Q0 hh he,P.sm,by have:=P.len;omega⟩
    ·have hp:put (Lv bp bl ks R L0 fs) (L0.length+1) (.lst (fs.map aI++[aI b]))=Lv bp bl ks R L0 (fs++[b]):=by
      unfold Lv;rw[El,V1];rfl
     simp![s4 Lv.s,Lv.f,ao (show fs.length<lim from ZV (VV (Ys _ _) hf) ∅),hp];exact Lv.fin _
  |cons h0 hr=>
   generalize Si:h0::hr=hs at *
   have hne:hs≠[]:=by rw[<- Si];simp
   have DH:=YX.mpr hne;have h4:∀h∈hs,h.as.length<=4:=λh hm=>(P.hd h hm).1
   obtain⟨i,hi,en⟩:=BX S.hk S.nd (Lv.s (fs:=fs) (L0:=L0) (R:=R)) b hs hne h4;obtain⟨h,hx⟩:∃h,hs[i]?=s? h:=⟨hs[i],Ge9 hi⟩;obtain⟨t,cs,c1,C,ec⟩:=xA _ _ _ _ _ _ b h S.hk S.nd (Lv.s (fs:=fs) (L0:=L0) (R:=R)) (h4 h (Wd hx));have hlen:hs.length<=25:=by have:=P.len;omega
   have dl:=xB hi;simp![show((hs.length:Int)==0)=f? by simp;omega];rw[pU (F:=au) (by simp!) Lv.s rfl rfl];have hm:(hs.map fT).length<=lim:=by rw[Lm9];unfold lim;omega
   have er:∀L,aK t? .Add (.lst ((hs.map fT).take i)) (.lst ((hs.map fT).drop (i+1))) L=.ok (.lst ((hs.take i++hs.drop (i+1)).map fT)) L:=λL=>by
    rw[Bc,fG,<- XJ,<- aau,<- V1,ao (by rw[Lm9];unfold lim;omega)];rfl
   simp![en,mY hm,FX (n:=i+1) hm,er];subst QZ;simp only[rz,mS];rw[pU (F:=ai) (by simp!) Lv.s rfl rfl];simp only[iw,gP,vo,tB,Xb,Xo,WK,a8,ak,of_ok,JP hx,ec,(c1.it (Lv bp bl ks R L0 fs)).1];generalize Sj:hs.take i++hs.drop (i+1)=rest at *
   have Pu:cs.length<=20:=VV (BY C.nd λf hf=>(C.ok f hf).1) S.ip;have UT:20 ^ hs.length=20 * 20 ^ rest.length:=by rw[<- dl,Nat.pow_succ,Nat.mul_comm]
   generalize hX:20 ^ rest.length=X at *
   generalize ho:forL _ _ _ _ _ _=o;have z:=bN ho cs fT (λq φ L'=>∃(done:List Fc)(g:Fc->List aS)(o5 o6:Option T),done++q=cs/\(∀f∈done,(g f).length<=X/\((lU b (h.as.zip f.as)=n?/\g f=[])\/∃m,lU b (h.as.zip f.as)=s? m/\Wk (dF bp++bl) R bp bl m rest (g f)))/\φ=[s? (.ref L0.length),s? (aI b),s? (.lst (hs.map fT)),s? (.int (i:Nat)),s? (.lst (rest.map fT)),o5,o6]/\L'=Lv bp bl ks R L0 (fs++done.flatMap g))
    (λo=>∃(g:Fc->List aS)(φ:Fr),(∀f∈cs,(g f).length<=X/\((lU b (h.as.zip f.as)=n?/\g f=[])\/∃m,lU b (h.as.zip f.as)=s? m/\Wk (dF bp++bl) R bp bl m rest (g f)))/\o=.nx φ (Lv bp bl ks R L0 (fs++cs.flatMap g))) rfl ⟨[],λ_=>[],n?,n?,rfl,(λf hf=>nomatch hf),rfl,by rw[Zv,V8]⟩ (λ_ _ eJ eP f q φ L' hh=>by
     obtain⟨done,g,o5,o6,e1,e2,rfl,rfl⟩:=hh;have UU:f∈cs:=by rw[<- e1];simp
     obtain⟨f1,f2⟩:=C.ok f UU;have UW:f∉done:=λz=>by
      have:=C.nd;rw[<- e1,WW]at this;exact this.2.2 f z f VL rfl
     have yo:done.length+1<=20:=by
      have:=congrArg Xg e1;rw[VN,VS]at this;omega
     have Fb:=xC done λf hf=>(e2 f hf).1
     have Q1:(fs++done.flatMap g).length+X<=1000000:=by
      rw[VN];have:(done.length+1) * X<=20 * X:=XG X yo
      rw[abA]at this;omega
     have upd:∀rf,(rf.length<=X/\((lU b (h.as.zip f.as)=n?/\rf=[])\/∃m,lU b (h.as.zip f.as)=s? m/\Wk (dF bp++bl) R bp bl m rest rf))->∃g':Fc->List aS,(∀f'∈done++[f],(g' f').length<=X/\((lU b (h.as.zip f'.as)=n?/\g' f'=[])\/∃m,lU b (h.as.zip f'.as)=s? m/\Wk (dF bp++bl) R bp bl m rest (g' f')))/\(done++[f]).flatMap g'=done.flatMap g++rf:=λrf UX=>by
      have ne:∀f'∈done,(if f'=f then rf else g f')=g f':=λf' hf'=>if_neg λe=>UW (by rw[<- e];exact hf')
      refine⟨λf'=>if f'=f then rf else g f',λf' hf'=>?_,?_⟩
      ·rcases VR.mp hf' with hf'|hf'
       ·simp only[ne f' hf'];exact e2 f' hf'
       ·rw[Wb.mp hf'];simp only[if_true];exact UX
      ·rw[ZP,XO,Zv,V8,if_pos rfl]
       congr 1;exact congrArg List.flatten (Wv ne)
     refine⟨Sh c1,_,rfl,?_⟩;have em:=λL=>yK b h f L ((P.hd h (Wd hx)).2.2 f f1 f2) (S.fn f f1).1 (by have:=P.len;omega)
     cases eq:lU b (h.as.zip f.as) with
     |none=>
      simp only[eq]at em;obtain⟨g',k1,k2⟩:=upd [] ⟨Wg _,.inl ⟨eq,rfl⟩⟩;simp![eJ,eP,JP hx,em];exact⟨done++[f],g',_,_,⇑e1,k1,rfl,by rw[k2,V8]⟩
     |some m=>
      simp only[eq]at em;obtain⟨rf,w1,w2,w3⟩:=Nz m rest ⇑0 (by rw[<- Sj];exact(P.next S hx f1 f2 eq).1) (fs++done.flatMap g) [s? (.ref L0.length),s? (aI b),s? (.lst (hs.map fT)),s? (.int (i:Nat)),s? (.lst (rest.map fT)),s? (fT f),s? (aI m)] (by rw[hX];exact Q1) rfl rfl rfl;rw[hX]at w2;obtain⟨g',k1,k2⟩:=upd rf ⟨w2,.inr ⟨m,eq,w1⟩⟩;have w4:Kc (aI m)=f?:=rfl
      unfold Kc at w4;simp![eJ,eP,JP hx,em,w4,w3];exact⟨done++[f],g',_,_,⇑e1,k1,rfl,by rw[k2,We]⟩) λφ L' hh=>by
     obtain⟨done,g,o5,o6,e1,e2,rfl,rfl⟩:=hh;rw[V8]at e1;subst e1;exact⟨Sh c1,g,_,e2,rfl⟩
   obtain⟨g,φ,g1,rfl⟩:=z;refine⟨cs.flatMap g,Wk.join S P hx C g (by rw[Sj];exact λf hf=>(g1 f hf).2),?_,?_⟩
   ·have:=xC cs λf hf=>(g1 f hf).1
    rw[UT];exact VV this (XG X Pu)
   ·simp!
    exact Lv.fin _
def ic{bp bl:List Fc}{ks:List Ky}{R:Rd}(S:Sx bp bl ks R){L0:aa}{F:Fn}{d:Nat}{tb:Str->Option Fn}(hF:EM bp bl ks R L0 d F)(ht:tb "Search"=s? F):EM bp bl ks R L0 (d+1) (QY (aN "walk" tb (v 0) [v 6,v 4])):=BZ S λb' rest hr P fs φ hl h0 h4 h6=>by
 obtain⟨res,w1,w2,w3⟩:=hF b' rest ⇑0 P fs hl;refine⟨res,w1,w2,?_⟩;rw[pU (n:=L0.length) (F:=F) (by simp only[vo,h0,WK,a8]) Lv.s ht rfl];simp only[iw,gP,vo,h4,h6,WK,a8,ak];exact w3
def JR{bp bl:List Fc}{ks:List Ky}{R:Rd}(S:Sx bp bl ks R)(L0:aa):EM bp bl ks R L0 5 dH:=by
 have w1:EM bp bl ks R L0 0 bj:=BZ (call:=no) S λb' rest hr=>absurd hr (Nat.not_lt_zero _)
 have w2:EM bp bl ks R L0 1 bz:=ic S w1 rfl;have w3:EM bp bl ks R L0 2 bQ:=ic S w2 rfl
 have w4:EM bp bl ks R L0 3 cB:=ic S w3 rfl;have w5:EM bp bl ks R L0 4 dG:=ic S w4 rfl
 exact ic S w5 rfl
def NA(ks:List Ky)(g:Ky->T)(k:Ky)(L:aa):lQ (gf k) (.ay (fD gf ks g)) L=.ok (d? (k∈ks)) L:=by
 rw[BI lM rP rfl k];congr
theorem vY{bp bl:List Fc}{ks:List Ky}{R:Rd}(S:Sx bp bl ks R)(P:Pre bp bl R R.words R.heads)(h5:R.heads.length<=4)(hw:∀k,k∈R.wanted↔∃h∈R.heads,k=kk h.k)(hwl:R.wanted.length<=100)(L:aa):
  ∃res,Wk (dF bp++bl) R bp bl R.words R.heads res/\fZ [fF bp bl ks,lN R,aI R.words,.int (-1)] L=.ok (.lst (res.map aI)) L:=by
 have hp:20 ^ R.heads.length<=20 ^ 4:=X5 ∅ h5;have UY:oP [fF bp bl ks,lN R,.int (-1)] L=.ok (.ref L.length) (Lv bp bl ks R L []):=by
  unfold oP oh gT runK;simp![iV,ax (fs:=[]) (f:="layout") (by rfl),ax (fs:=[("layout",fF bp bl ks)]) (f:="reading") (by rfl),ax (fs:=[("layout",fF bp bl ks),("reading",lN R)]) (f:="most") (by rfl),ax (fs:=[("layout",fF bp bl ks),("reading",lN R),("most",.int (-1))]) (f:="found") (by rfl),WM,Xi];rfl
 unfold fZ;simp![UY,r9];generalize hc:comp _ _ _ _ _ _ _ _=r;obtain rfl:=aO hc R.wanted gf (λk=>.bl (d? (k∈ks))) rfl sv ⇑1 (λk _=>by simp![y1,NA]);simp![vX];cases ha:R.wanted.all λk=>decide (k∈ks) with
 |true=>
  obtain⟨res,w1,w2,w3⟩:=JR S L R.words R.heads ⇑0 P [] (by(simp;omega));refine⟨res,w1,?_⟩;simp![r4];rw[pU (n:=L.length) (F:=dH) (by simp!) Lv.s rfl rfl];simp![r4,w3,s4 Lv.s];exact Bb (af jh)
 |false=>
  refine⟨[],⟨(λβ h=>nomatch h),λθ g hh _=>?_,.nil⟩,?_⟩
  ·obtain⟨k,hk,z⟩:=aao.mp ha
   obtain⟨h,hm,rfl⟩:=(hw k).mp hk;refine absurd (decide_eq_true ((S.hk _).mpr λe=>?_)) z;have:eC θ h∈b6 (dF bp++bl) (kk h.k):=Wq.mpr ⟨hh h hm,decide_eq_true VL⟩
   simp_all
  ·simp![s4 Lv.s]
   exact Bb rfl
def B0{st:aS}{x:T}{L:aa}(hx:nt L x st){fs:List Fc}(hf:∀f∈fs,f.as.length<=1000)(hl:fs.length<=1000){s:SI}{aZ:List (Option Nat)}{φ:Fr}{k:aa->Prop}{r:R T}(hc:comp t? s aZ (.one 1) yes (ae cF [v 2,v 1]) φ L=r)(hs:s φ L=.ok (fs.map fT,k) L)(hk:k L)
  (h1:∀y,((inner aZ φ).set 1 (s? y))[1]?=s? (s? y)) (h2:∀y,((inner aZ φ).set 1 (s? y))[2]?=s? (s? x)):r=.ok (.lst ((fs.map (wr st)).map fT)) L:=by
 rw[aO hc fs fT (λf=>fT (wr st f)) hs hk ⇑1 λf UZ=>by
  simp only[tC,iw,gP,vo,h1,h2,WK,a8,ak];exact jJ hx f (hf f UZ),Wc]
 rfl
def lP(st:aS)(k:Lk):aS:=if k.same=t? then (if mU (aq st k.l) (aq st k.r) then st else iP st (aq st k.l) (aq st k.r)) else st
def eW(r:Rl):List Cs:=opens (r.take++r.keep)
def bD(r:Rl):aS:=r.ah.foldl lP (uE [] (eW r))
def EN{f:Str->Option Fn}{a:SE}{φ:Fr}{L:aa}{k:Lk}(ha:a φ L=.ok (lT k) L)(h1:f "Same"=s? gI)(h2:f "Unlike"=s? d9):aN "word" f a [] φ L=.ok (.str (Bk.eK k.same)) L:=by
 unfold aN;rw[ha,ak];cases hs:k.same with
 |true=>
  have e:vw L (lT k)=.obj "Same" [("left",.str k.l),("right",.str k.r)]:=by unfold lT;rw[hs];rfl
  rw[e];simp only[h1];unfold gI;simp!;rfl
 |false=>
  have e:vw L (lT k)=.obj "Unlike" [("left",.str k.l),("right",.str k.r)]:=by unfold lT;rw[hs];rfl
  rw[e];simp only[h2];unfold d9;simp!;rfl
def JS{st:aS}{n:Cs}(h:(st.map (·.1)).Nodup):((hK st n).map (·.1)).Nodup:=by
 unfold hK;split
 ·split
  ·exact h
  ·rename_i hn
   rw[V1,WW];exact⟨h,⋯,λa ha b hb e=>hn (by simp at hb;rw[<- hb,<- e];exact ha)⟩
 ·exact h
def NB:∀(ns:List Cs){st:aS},(st.map (·.1)).Nodup->((uE st ns).map (·.1)).Nodup:=by
 intro l9;induction l9 with
 |nil=>intro _ h;exact h
 |cons n ns ih=>intro _ h;exact ih (JS h)
def JT{st:aS}{n:Cs}(h:tM st)(hn:cP n):tM (hK st n):=by
 unfold hK;split
 ·split
  ·exact h
  ·intro e he
   rcases VR.mp he with he|he
   ·exact h e he
   simp_all
 omega
def NC:∀(ns:List Cs){st:aS},tM st->(∀n∈ns,cP n)->tM (uE st ns):=by
 intro l9;induction l9 with
 |nil=>intro _ h _;exact h
 |cons n ns ih=>intro _ h hn;exact ih (JT h (hn n VL)) λm hm=>hn m (VK _ hm)
structure SG(ns:List Cs)(st:aS):Prop where
 nd:(st.map (·.1)).Nodup
 sm:tM st
 ks:∀n,n∈st.map (·.1)↔n∈ns
 len:st.length<=ns.length
def mJ(st:aS)(p q:Cs):(iP st p q).map (·.1)=st.map (·.1):=by
 unfold iP;split
 ·rfl
 ·exact Bk.vA p q st
def SG.step{ns:List Cs}{st:aS}(h:SG ns st){k:Lk}(h1:cP k.l)(h2:cP k.r):SG ns (lP st k):=by
 unfold lP;split
 ·split
  ·exact h
  ·exact⟨by rw[mJ];exact h.nd,h.sm.tell (h.sm.aq h1) (h.sm.aq h2),by rw[mJ];exact h.ks,by rw[<- Lm9 (f:=(·.1)),mJ,Lm9];exact h.len⟩
 omega
def EO:∀(ns:List Cs)(st:aS),(∀n∈ns,great n=t?)->∀n,n∈(uE st ns).map (·.1)↔n∈st.map (·.1)\/n∈ns:=by
 intro l9;induction l9 with
 |nil=>intro st _ n;simp[uE]
 |cons m ns ih=>
  intro st hg n;show n∈(uE (hK st m) ns).map (·.1)↔_
  rw[ih _ (λx hx=>hg x (VK _ hx)) n];unfold hK;rw[if_pos (hg m VL)];split
  ·rename_i hm
   rw[Wt];exact⟨λz=>z.imp id .inr,λz=>z.elim .inl λz=>z.elim (λe=>.inl (by rw[e];exact hm)) .inr⟩
  ·rw[V1,VR,Wt,or_assoc]
   simp
def Gb(r:Rl)(hn:∀n∈eW r,cP n):SG (eW r) (uE [] (eW r)):=⟨NB _ Xz,NC _ (λe he=>nomatch he) hn,λn=>(EO _ _ (λn hn=>(Bk.cv hn).2) n).trans (by simp;rfl),by have:=EC (eW r) [];simpa using this⟩
def rU(r:Rl)(hn:∀n∈eW r,cP n)(hl:∀k∈r.ah,cP k.l/\cP k.r):SG (eW r) (bD r):=by
 unfold bD
 suffices h:∀(l:List Lk)(st:aS),(∀k∈l,cP k.l/\cP k.r)->SG (eW r) st->SG (eW r) (l.foldl lP st) from h _ _ hl (Gb r hn)
 intro l;induction l with
 |nil=>exact λst _ h=>h
 |cons k l ih=>exact λst hk h=>ih _ (λj hj=>hk j (VK _ hj)) (h.step (hk k VL).1 (hk k VL).2)
theorem SG.bd{ns:List Cs}{st:aS}(h:SG ns st){n:Cs}(hn:n∈ns):bd st n=t?:=by
 obtain⟨e,he,rfl⟩:=VP.mp ((h.ks n).mpr hn);unfold Eo.bd gQ;grind
def vZ(l:List (List Cs)):T:=.lst (l.map λns=>.tup (ns.map .str))
def ER(as:List (List Cs))(n:Cs)(hn:1<=n.length)(hl:as.length<=1000)(L:aa):∃b,bW [vZ as,.str n] L=.ok (.bl b) L:=by
 unfold bW vZ;simp![dI n hn];cases great n with
 |false=>exact⟨t?,by simp!⟩
 |true=>
  simp!;generalize hc:comp _ _ _ _ _ _ _ _=r;obtain rfl:=dP hc as (λns=>.tup (ns.map .str)) (λns=>decide (n∈ns)) (λns=>.tup (ns.map .str)) rfl sv ⇑1 (λns _=>by simp!) λns _ _=>by simp!
  exact⟨_,by simp!;rfl⟩
structure Rv(L:aa)(n:Nat)(cl:Bool)(lk:List (Lk × (Cs × Cs)))(nm:List Cs)(hd gv:List Fc)(td:List (Cs × Cs)):Prop where
 fc:fld "calls_in" (.ref n) L=.ok (.bl cl) L
 fl:fld "looks" (.ref n) L=.ok (.lst (lk.map λk=>.tup [lT k.1,pT k.2])) L
 fn:fld "names" (.ref n) L=.ok (.lst (nm.map .str)) L
 fh:fld "heads" (.ref n) L=.ok (.lst (hd.map fT)) L
 fg:fld "given" (.ref n) L=.ok (.lst (gv.map fT)) L
 ft:fld "told" (.ref n) L=.ok (.lst (td.map pT)) L
def ES{L:aa}{n:Nat}{cl:Bool}{lk:List (Lk × (Cs × Cs))}{nm:List Cs}{hd gv:List Fc}{td:List (Cs × Cs)}(V:Rv L n cl lk nm hd gv td)(hn:∀f∈hd,f.as.length<=4/\∀a∈f.as,cP a)(h1:hd.length<=100)(h2:lk.length<=100)(h3:gv.length<=100)(h4:td.length<=100):∃ls:List Fc,d8 [.ref n] L=.ok (.lst (ls.map fT)) L:=by
 have main:∀as:List (List Cs),as.length<=1000->∃ls:List Fc,comp t? (src (b1 (v 0) (fld "heads"))) [n?,n?,s? 1] (.one 1) (tv (ae nL [comp t? (src (vi 1 1)) [n?,n?,s? 2] (.one 1) yes (ae bW [v 2,v 1])])) (v 1) [s? (.ref n),s? (vZ as)] L=.ok (.lst (ls.map fT)) L:=λas hl=>by
  have ch:∃p:Cs->Bool,∀f∈hd,∀a∈f.as,bW [vZ as,.str a] L=.ok (.bl (p a)) L:=by
   have:∀a,∃b:Bool,cP a->bW [vZ as,.str a] L=.ok (.bl b) L:=λa=>by
    by_cases h:cP a
    ·obtain⟨b,e⟩:=ER as a (gV h).1 hl L
     exact⟨b,λ_=>e⟩
    ·exact⟨t?,λz=>absurd z h⟩
   exact⟨λa=>aaB (this a),λf hf a ha=>Zp (this a) ((hn f hf).2 a ha)⟩
  obtain⟨p,hp⟩:=ch;refine⟨hd.filter λf=>f.as.all p,?_⟩;generalize hc:comp _ _ _ _ _ _ _ _=r;obtain rfl:=dP hc hd fT (λf=>f.as.all p) fT (k:=stays (.lst (hd.map fT)) L) (by simp![V.fh]) sv ⇑1 (λf hf=>by
   simp!;generalize hc:comp _ _ _ _ _ _ _ _=r;obtain rfl:=aO hc f.as T.str (λa=>.bl (p a)) rfl sv (by have:=(hn f hf).1;unfold lim;omega) (λa ha=>by simp![hp f hf a ha]);simp![vX]) λf _ _=>by simp!
  rfl
 have eT:∀a b:List (List Cs),a.length+b.length<=1000->∀L,aK t? .Add (vZ a) (vZ b) L=.ok (vZ (a++b)) L:=λa b hl L=>by
  unfold vZ;rw[Bc,fG,<- V1,ao (by rw[Lm9,VN];unfold lim;omega)];rfl
 have c1:∀{f:Str}(xs:List Fc)(φ:Fr),φ[0]?=s? (s? (.ref n))->fld f (.ref n) L=.ok (.lst (xs.map fT)) L->xs.length<=100->comp t? (src (b1 (v 0) (fld f))) [n?,n?] (.one 1) yes (vi 1 1) φ L=.ok (vZ (xs.map (·.as))) L:=λ{f}xs φ h0 hf hl=>by
  rw[aO rfl xs fT (λg=>.tup (g.as.map .str)) (k:=stays (.lst (xs.map fT)) L) (by simp only[mS,Ea,vo,h0,WK,a8,ak,hf,items,gN,vw]) (by exact sv) ⇑1 (by exact λg _=>by simp!)];unfold vZ;rw[Wc];rfl
 have c2:∀φ:Fr,φ[0]?=s? (s? (.ref n))->comp t? (src (b1 (v 0) (fld "looks"))) [n?,n?] (.one 1) yes (vi 1 1) φ L=.ok (vZ (lk.map λk=>[k.2.1,k.2.2])) L:=λφ h0=>by
  rw[aO rfl lk (λk=>.tup [lT k.1,pT k.2]) (λk=>pT k.2) (k:=stays (.lst (lk.map λk=>.tup [lT k.1,pT k.2])) L) (by simp only[mS,Ea,vo,h0,WK,a8,ak,V.fl,items,gN,vw]) (by exact sv) ⇑1 (by exact λg _=>by simp!)];unfold vZ;rw[Wc];rfl
 have U0:(.lst (td.map pT):T)=vZ (td.map λp=>[p.1,p.2]):=by unfold vZ;rw[Wc];rfl
 unfold d8;simp only[lz,VS,WL,YJ,if_true,cO,oz,VU,WH,WJ,WM,ZG,Wj,oy,tB];rw[c1 hd _ rfl V.fh h1,ak,c2 _ rfl,ak,eT _ _ (by simp;omega)];simp![V.fc];cases cl with
 |false=>
  obtain⟨ls,e⟩:=main (hd.map (·.as)++lk.map λk=>[k.2.1,k.2.2]) (by simp;omega);refine⟨ls,?_⟩;simp!;rw[e];simp!;exact fin_same (af bu)
 |true=>
  obtain⟨ls,e⟩:=main (((hd.map (·.as)++lk.map λk=>[k.2.1,k.2.2])++gv.map (·.as))++td.map λp=>[p.1,p.2]) (by simp;omega);refine⟨ls,?_⟩;simp!;rw[c1 gv _ rfl V.fg h3];simp![V.ft,eT _ _ (show(hd.map (·.as)++lk.map λk=>[k.2.1,k.2.2]).length+(gv.map (·.as)).length<=1000 by simp;omega),U0,eT ((hd.map (·.as)++lk.map λk=>[k.2.1,k.2.2])++gv.map (·.as)) _ (show _+(td.map λp=>[p.1,p.2]).length<=1000 by simp;omega)];rw[e];simp!;exact fin_same (af bu)
def mL{α β:Type}{g:α->List β}:∀(l:List α)(acc:List β),l.foldl (λs x=>s++g x) acc=acc++l.flatMap g:=by
 intro l9;induction l9 with
 |nil=>intro acc;simp
 |cons a l ih=>intro acc;rw[XR,ih,XO,We]
def Ge{L:aa}{s as:List Cs}{t:T}(ht:vw (.lst (s.map .str)::L) t=.tup (as.map .str))(hl:s.length+as.length<=1000):qv (.ref L.length) [t] (.lst (s.map .str)::L)=.ok .aY (.lst ((s++as).map .str)::L):=by
 unfold qv;simp only[cq,ht];rw[ao (by rw[Lm9,Lm9];unfold lim;omega),mC,V1]
def ET{L:aa}{n:Nat}{cl:Bool}{lk:List (Lk × (Cs × Cs))}{nm:List Cs}{hd gv:List Fc}{td:List (Cs × Cs)}(V0:Rv L n cl lk nm hd gv td)(V:∀c,Rv (c::L) n cl lk nm hd gv td)(hn:∀f∈hd++gv,f.as.length<=4)(h0:nm.length<=100)(h1:(hd++gv).length<=100)(h4:(td++lk.map (·.2)).length<=100):
  bO [.ref n] L=.ok (.lst ((nm++(hd++gv).flatMap (·.as)++(td++lk.map (·.2)).flatMap λp=>[p.1,p.2]).map .str)) L:=by
 have e1:∀L,aK t? .Add (.lst (hd.map fT)) (.lst (gv.map fT)) L=.ok (.lst ((hd++gv).map fT)) L:=λL=>by
  rw[Bc,fG,<- V1,ao (by rw[Lm9];unfold lim;omega)];rfl
 have e2:∀L,aK t? .Add (.lst (td.map pT)) (.lst (lk.map λk=>pT k.2)) L=.ok (.lst ((td++lk.map (·.2)).map pT)) L:=λL=>by
  rw[Bc,fG,show(lk.map λk=>pT k.2)=(lk.map (·.2)).map pT by simp,<- V1,ao (by rw[Lm9];unfold lim;omega)];rfl
 have e0:bG f? [.lst (nm.map .str)] L=.ok (.ref L.length) (.lst (nm.map .str)::L):=by
  unfold bG;simp only[vw];rw[fG,ao (by rw[Lm9];unfold lim;omega)];rfl
 unfold bO;simp![V0.fn,e0,(V _).fh,(V _).fg,e1];generalize ho:forL _ _ _ _ _ _=o;obtain⟨z,_,rfl⟩:=lD (hd++gv) fT (λs:List Cs=>.lst (s.map .str)) (λs f=>s++f.as) (λr s=>(∀f∈r,f.as.length<=4)/\s.length+4 * r.length<=600) (λz(_:Unit)=>[s? (.ref n),s? (.ref L.length),z,n?]) (w:=()) (s:=nm) ho (λ_=>sv) (λ_ _ _=>rfl) ⟨hn,⇑0⟩ (λf r s _ h=>by
  have h4:=h.1 f VL;have hl:=h.2
  rw[VS]at hl;refine⟨⟨λg hg=>h.1 g (VK _ hg),by(simp;omega)⟩,(),?_⟩;simp![Ge (L:=L) (s:=s) (as:=f.as) (t:=.tup (f.as.map .str)) rfl ⇑0])
 rw[mL];have Fb:=Bk.bZ (l:=hd++gv) (g:=(·.as)) (B:=4) hn
 simp![(V _).ft];generalize hc:comp _ _ _ _ _ _ _ _=r;obtain rfl:=aO hc lk (λk=>.tup [lT k.1,pT k.2]) (λk=>pT k.2) (k:=stays (.lst (lk.map λk=>.tup [lT k.1,pT k.2])) (.lst ((nm++(hd++gv).flatMap (·.as)).map .str)::L)) (by simp![(V _).fl]) sv (by rw[VN,Lm9]at h4;unfold lim;omega) λg _=>by simp!
 simp![e2];generalize ho:forL _ _ _ _ _ _=o;obtain⟨z',_,rfl⟩:=lD (td++lk.map (·.2)) pT (λs:List Cs=>.lst (s.map .str)) (λs p=>s++[p.1,p.2]) (λr s=>s.length+2 * r.length<=900) (λz'(_:Unit)=>[s? (.ref n),s? (.ref L.length),z,z']) (w:=()) (s:=nm++(hd++gv).flatMap (·.as)) ho (λ_=>sv) (λ_ _ _=>rfl) (by rw[VN];omega) (λp r s _ h=>by
  rw[VS]at h;refine⟨by(simp;omega),(),?_⟩;simp![Ge (L:=L) (s:=s) (as:=[p.1,p.2]) (t:=pT p) rfl (by simp;omega)])
 rw[mL];simp!;exact du (af λ_ _=>rfl)
def iS(r:Rl):List Cs:=(eW r).map (aq (bD r))++((r.take++r.keep).map (wr (bD r))++r.put.map (wr (bD r))).flatMap (·.as)++(r.tell.map (nq (bD r))++r.ah.map λk=>nq (bD r) (k.l,k.r)).flatMap λp=>[p.1,p.2]
def Q2(r:Rl):List Cs:=(iS r).filter λa=>!great a
def aT(r:Rl)(ls:List Fc):Rd where
 calls:=d? (r.take=[])
 ah:=r.ah.map λk=>(k,nq (bD r) (k.l,k.r))
 names:=(eW r).map (aq (bD r))
 heads:=(r.take++r.keep).map (wr (bD r))
 given:=r.put.map (wr (bD r))
 told:=r.tell.map (nq (bD r))
 words:=(dF (Q2 r)).map λw=>(w,w)
 loose:=ls
 wanted:=dF ((r.take++r.keep).map λh=>kk h.k)
theorem rV{α:Type}{g h:α->T}:∀l:List α,prsOf (l.map λa=>.tup [g a,h a])=s? (l.map λa=>(g a,h a))
 | []=>rfl
 |a::l=>by
  have ih:=rV (g:=g) (h:=h) l;simp only[VU,prsOf,ih]
def Gf{α:Type}[DecidableEq α]{enc:α->T}(inj:∀{a b},enc a=enc b->a=b)(g:α->T)(l:List α):qw (l.map λa=>(enc a,g a))=fD enc (dF l) g:=by
 suffices h:∀(l acc:List α),(l.map λa=>(enc a,g a)).foldl (λacc p=>dput acc p.1 p.2) (fD enc acc g)=fD enc (l.foldl cS acc) g from h l []
 intro l;induction l with
 |nil=>exact λ_=>rfl
 |cons a l ih=>
  intro acc;rw[VU,XR,vQ inj,show(λb=>if b=a then g a else g b)=g from funext λb=>by split<;>simp_all,ih];rfl
def B3(n:Nat)(l:List (Lk × (Cs × Cs))):lt n (.lst (l.map λk=>.tup [lT k.1,pT k.2]))=t?:=af λn k=>by rfl
section
variable{a b c d e f g h i t:T}
def t1:fL ([]:List (Str × T)) "calls_in" t=([("calls_in",t)]:List (Str × T)):=ax (fs:=[]) (by rfl)
def t2:fL ([("calls_in",a)]:List (Str × T)) "looks" t=([("calls_in",a),("looks",t)]:List (Str × T)):=ax (fs:=[("calls_in",a)]) (by rfl)
def t3:fL ([("calls_in",a),("looks",b)]:List (Str × T)) "names" t=([("calls_in",a),("looks",b),("names",t)]:List (Str × T)):=ax (fs:=[("calls_in",a),("looks",b)]) (by rfl)
def t4:fL ([("calls_in",a),("looks",b),("names",c)]:List (Str × T)) "heads" t=([("calls_in",a),("looks",b),("names",c),("heads",t)]:List (Str × T)):=ax (fs:=[("calls_in",a),("looks",b),("names",c)]) (by rfl)
def t5:fL ([("calls_in",a),("looks",b),("names",c),("heads",d)]:List (Str × T)) "given" t=([("calls_in",a),("looks",b),("names",c),("heads",d),("given",t)]:List (Str × T)):=ax (fs:=[("calls_in",a),("looks",b),("names",c),("heads",d)]) (by rfl)
def t6:fL ([("calls_in",a),("looks",b),("names",c),("heads",d),("given",e)]:List (Str × T)) "told" t=([("calls_in",a),("looks",b),("names",c),("heads",d),("given",e),("told",t)]:List (Str × T)):=ax (fs:=[("calls_in",a),("looks",b),("names",c),("heads",d),("given",e)]) (by rfl)
def t7:fL ([("calls_in",a),("looks",b),("names",c),("heads",d),("given",e),("told",f)]:List (Str × T)) "words" t=([("calls_in",a),("looks",b),("names",c),("heads",d),("given",e),("told",f),("words",t)]:List (Str × T)):=ax (fs:=[("calls_in",a),("looks",b),("names",c),("heads",d),("given",e),("told",f)]) (by rfl)
def t8:fL ([("calls_in",a),("looks",b),("names",c),("heads",d),("given",e),("told",f),("words",g)]:List (Str × T)) "loose" t=([("calls_in",a),("looks",b),("names",c),("heads",d),("given",e),("told",f),("words",g),("loose",t)]:List (Str × T)):=ax (fs:=[("calls_in",a),("looks",b),("names",c),("heads",d),("given",e),("told",f),("words",g)]) (by rfl)
def t9:fL ([("calls_in",a),("looks",b),("names",c),("heads",d),("given",e),("told",f),("words",g),("loose",h)]:List (Str × T)) "wanted" t=([("calls_in",a),("looks",b),("names",c),("heads",d),("given",e),("told",f),("words",g),("loose",h),("wanted",t)]:List (Str × T)):=ax (fs:=[("calls_in",a),("looks",b),("names",c),("heads",d),("given",e),("told",f),("words",g),("loose",h)]) (by rfl)
end
structure B4(r:Rl):Prop where
 nn:∀n∈eW r,cP n
 n3:(eW r).length<=20
 lk:∀k∈r.ah,cP k.l/\cP k.r
 f4:∀f∈r.take++r.keep++r.put,f.as.length<=4/\∀a∈f.as,cP a
 tl:∀p∈r.tell,cP p.1/\cP p.2
 ip:r.take.length<=2/\r.keep.length<=2/\r.ah.length<=2/\r.put.length<=2/\r.tell.length<=2
def rW{r:Rl}(H:B4 r):(∀f∈(r.take++r.keep).map (wr (bD r)),f.as.length<=4/\∀a∈f.as,cP a)/\(∀f∈r.put.map (wr (bD r)),f.as.length<=4/\∀a∈f.as,cP a)/\(∀a∈iS r,cP a)/\(iS r).length<=52:=by
 obtain⟨w1,w2,w3,w4,w5⟩:=H.ip;have G:=rU r H.nn H.lk
 have hN:∀{f},f∈r.take++r.keep++r.put->(wr (bD r) f).as.length<=4/\∀a∈(wr (bD r) f).as,cP a:=λ{f}hf=>by
  refine⟨by show(f.as.map _).length<=4;rw[Lm9];exact(H.f4 f hf).1,λa ha=>?_⟩;obtain⟨b,hb,rfl⟩:=VP.mp ha;exact G.sm.aq ((H.f4 f hf).2 b hb)
 have q1:∀f∈(r.take++r.keep).map (wr (bD r)),f.as.length<=4/\∀a∈f.as,cP a:=λf hf=>by
  obtain⟨g,hg,rfl⟩:=VP.mp hf;exact hN (V2 _ hg)
 have q2:∀f∈r.put.map (wr (bD r)),f.as.length<=4/\∀a∈f.as,cP a:=λf hf=>by
  obtain⟨g,hg,rfl⟩:=VP.mp hf;exact hN (V6 _ hg)
 have q3:∀a∈iS r,cP a:=λa ha=>by
  unfold iS at ha;rcases VR.mp ha with ha|ha
  ·rcases VR.mp ha with ha|ha
   ·obtain⟨b,hb,rfl⟩:=VP.mp ha
    exact G.sm.aq (H.nn b hb)
   ·obtain⟨f,hf,ha⟩:=W2.mp ha
    rcases VR.mp hf with hf|hf
    ·exact(q1 f hf).2 a ha
    ·exact(q2 f hf).2 a ha
  ·obtain⟨p,hp,ha⟩:=W2.mp ha
   have z:cP p.1/\cP p.2:=by
    rcases VR.mp hp with hp|hp
    ·obtain⟨t,ht,rfl⟩:=VP.mp hp
     exact⟨G.sm.aq (H.tl t ht).1,G.sm.aq (H.tl t ht).2⟩
    ·obtain⟨t,ht,rfl⟩:=VP.mp hp
     exact⟨G.sm.aq (H.lk t ht).1,G.sm.aq (H.lk t ht).2⟩
   rcases Wt.mp ha with rfl|ha
   ·exact z.1
   ·rw[Wb.mp ha];exact z.2
 have q4:(iS r).length<=52:=by
  have z1:=Bk.bZ (l:=(r.take++r.keep).map (wr (bD r))++r.put.map (wr (bD r))) (g:=(·.as)) (B:=4) λf hf=>(VR.mp hf).elim (λh=>(q1 f h).1) λh=>(q2 f h).1
  have z2:=Bk.bZ (l:=r.tell.map (nq (bD r))++r.ah.map λk=>nq (bD r) (k.l,k.r)) (g:=λp:Cs × Cs=>[p.1,p.2]) (B:=2) λ_ _=>V3 2
  have z:=aa6 (aa6 (show((eW r).map (aq (bD r))).length<=20 by rw[Lm9];exact H.n3) z1) z2;unfold iS;rw[VN,VN];exact VV z (by simp only[VN,Lm9];omega)
 exact⟨q1,q2,q3,q4⟩
def ND{L:aa}{x:T}{st:aS}(h:nt L x st){n:Cs}(hb:bd st n=t?):ix x (.str n) L=.ok (.str (aq st n)) L:=by
 rcases h with rfl|⟨m,rfl,h⟩
 ·exact m5 hb L
 ·have:=m5 hb L
  unfold ix at this ⊢;rw[eU,h];exact this
def NF(ws:List Cs)(h:ws.length<=1000)(L:aa):uJ (ws.map λa=>.tup [.str a,.str a]) L=.ok (.ref L.length) (aI ((dF ws).map λw=>(w,w))::L):=by
 unfold uJ;rw[rV];simp only[];rw[ao ⟨by simp[gM,uF],by rw[Lm9];omega⟩,Gf (enc:=T.str) (λe=>T.str.inj e) T.str];unfold aI fD;rw[Wc];rfl
def NH(hs:List Fc)(h:hs.length<=1000)(L:aa):uJ (hs.map λh=>.tup [gf (kk h.k),.bl t?]) L=.ok (.ref L.length) (.ay (fD gf (dF (hs.map λh=>kk h.k)) λ_=>.bl t?)::L):=by
 unfold uJ;rw[rV];simp only[];rw[ao ⟨by simp[gM,rP],by(simp;omega)⟩,<- Gf lM,Wc];rfl
def B5{L:aa}{n:Nat}{cl:Bool}{lk:List (Lk × (Cs × Cs))}{nm:List Cs}{hd gv:List Fc}{td:List (Cs × Cs)}{rest:List (Str × T)}(h:at_ L n=s? (.obj "Reading" (("calls_in",.bl cl)::("looks",.lst (lk.map λk=>.tup [lT k.1,pT k.2]))::("names",.lst (nm.map .str))::("heads",.lst (hd.map fT))::("given",.lst (gv.map fT))::("told",.lst (td.map pT))::rest))):Rv L n cl lk nm hd gv td :=
 ⟨(h8 h).trans rfl,(h8 h).trans rfl,(h8 h).trans rfl,(h8 h).trans rfl,(h8 h).trans rfl,(h8 h).trans rfl⟩
def EU{X L:aa}{t:T}:fin L t (X++L)=lift (bE L.length (X++L) 9 t) L:=by
 have e:(X++L).drop ((X++L).length - L.length)=L:=by simp
 unfold fin;rw[e,if_pos (eL L)]
def jv:Rl × aa->Prop:=λ(r,L)=>∀(H:B4 r),∃ls,hV [aX r] L=.ok (lN (aT r ls)) L
namespace m7
def c:=uA ⟨by repeat' first|exact default|constructor⟩ jv
def r:=c.1
def L:=c.2
theorem t:jv (r,L):=by
 intro H;obtain⟨w1,w2,w3,w4,w5⟩:=H.ip;have G:=rU r H.nn H.lk
 have pk:=λ(L:aa)=>JD (L:=L) [] (eW r) (.lst ((eW r).map .str)) rfl (λ_ h=>nomatch h) (λn hn=>(gV (H.nn n hn)).1) (by have:=H.n3;simp;omega)
 unfold hV make fY runK;simp!;rw[ue (r:=r) (F:=bV) rfl rfl];simp![xo,iV,Xi,t1];rw[show oL [.ref (L.length+1),.lst ((opens (r.take++r.keep)).map .str)] (.ay [] :: .obj "Reading" [("calls_in",.bl (d? (r.take=[])))]::L)=_ from pk (.obj "Reading" [("calls_in",.bl (d? (r.take=[])))]::L)];simp!;generalize hO:T.obj "Reading" [("calls_in",T.bl (d? (r.take=[])))]=Q3;generalize ho:forL _ _ _ _ _ _=o;obtain⟨z,_,rfl⟩:=lD (L:=Q3::L) r.ah lT aI lP (λq s=>SG (eW r) s/\∀k∈q,cP k.l/\cP k.r) (λz(_:Unit)=>[s? (.ref L.length),s? (aX r),s? (.ref (L.length+1)),z]) (w:=()) (s:=uE [] (eW r)) ho (λ_=>sv) (λ_ _ _=>rfl) ⟨Gb r H.nn,H.lk⟩ (λk q s _ h=>by
  obtain⟨g,hk⟩:=h;obtain⟨k1,k2⟩:=hk k VL;refine⟨⟨g.step k1 k2,λj hj=>hk j (VK _ hj)⟩,(),?_⟩;have pt:=JE s k.l k.r g.nd (by have:=g.len;have:=H.n3;omega) (gV (g.sm.aq k1)).1 (gV (g.sm.aq k2)).1 (Q3::L)
  simp only[VS]at pt;simp only[cO,w8,Eb,tB];rw[EN (k:=k) (by simp!) rfl rfl];unfold lP;cases hs:k.same with
  |false=>simp![show(Bk.eK f?==S "same")=f? by decide +kernel]
  |true=>
   simp![show(Bk.eK t?==S "same")=t? by decide +kernel,pt];by_cases ht:mU (aq s k.l) (aq s k.r)
   ·simp only[if_pos ht];simp!
   ·simp only[if_neg ht];simp!)
 rw[show r.ah.foldl lP (uE [] (eW r))=bD r from rfl];have wc:nt (aI (bD r)::Q3::L) (.ref (L.length+1)) (bD r):=.inr ⟨_,rfl,cq⟩
 simp!;generalize hc:comp _ _ _ _ _ _ _ _=r';obtain rfl:=aO hc r.ah lT (λk=>.tup [lT k,pT (nq (bD r) (k.l,k.r))]) rfl sv ⇑1 (λk _=>by
  have e:=xu wc (k.l,k.r);rw[show pT (k.l,k.r)=.tup [.str k.l,.str k.r] from rfl]at e;simp![e];rfl)
 subst hO;have wc:∀ob,nt (aI (bD r)::ob::L) (.ref (L.length+1)) (bD r):=λob=>.inr ⟨_,rfl,cq⟩
 simp![t2,Xi,iV];generalize hc:comp _ _ _ _ _ _ _ _=r';obtain rfl:=aO hc (eW r) T.str (λn=>.str (aq (bD r) n)) rfl sv (by have:=H.n3;unfold lim;omega) (λn hn=>by simp![ND (wc _) (G.bd hn)]);simp![t3,Xi,iV];rw[B0 (fs:=r.take++r.keep) (wc _) (λf hf=>by have:=(H.f4 f (V2 _ hf)).1;omega) (by simp;omega) rfl (k:=stays (.lst ((r.take++r.keep).map fT)) _) (by simp_all![<- V1];rfl) (by exact sv) (by exact λ_=>rfl) (by exact λ_=>rfl)];simp![t4,Xi,iV];rw[B0 (fs:=r.put) (wc _) (λf hf=>by have:=(H.f4 f (V6 _ hf)).1;omega) ⇑0 rfl (by exact rfl) (by exact sv) (by exact λ_=>rfl) (by exact λ_=>rfl)];simp![t5,Xi,iV];rw[aO rfl r.tell pT (λp=>pT (nq (bD r) p)) (by exact rfl) (by exact sv) ⇑1 (by exact λp hp=>by simp![xu (wc _) p];rfl)];simp![t6,Xi,iV];rw[show(r.ah.map λk=>T.tup [lT k,pT (nq (bD r) (k.l,k.r))])=(r.ah.map λk=>(k,nq (bD r) (k.l,k.r))).map λk=>.tup [lT k.1,pT k.2] by rw[Wc];rfl,show((eW r).map λn=>T.str (aq (bD r) n))=((eW r).map (aq (bD r))).map .str by rw[Wc];rfl,show(r.tell.map λp=>pT (nq (bD r) p))=(r.tell.map (nq (bD r))).map pT by rw[Wc];rfl];obtain⟨q1,q2,q3,q4⟩:=rW H;have q5:(dF ((r.take++r.keep).map λh=>kk h.k)).length<=100:=VV (bb _).2.2 (by simp;omega)
 have e9:aT r=λls=>{aT r [] with loose:=ls}:=rfl
 have s9:iS r=(eW r).map (aq (bD r))++((r.take++r.keep).map (wr (bD r))++r.put.map (wr (bD r))).flatMap (·.as)++(r.tell.map (nq (bD r))++(r.ah.map λk=>(k,nq (bD r) (k.l,k.r))).map (·.2)).flatMap λp=>[p.1,p.2]:=by unfold iS;rw[Wc];rfl
 rw[e9];unfold aT;rw[show((r.take++r.keep).map λh=>kk h.k)=((r.take++r.keep).map (wr (bD r))).map λh=>kk h.k by rw[Wc];rfl]at q5 ⊢;have l1:(r.ah.map λk=>(k,nq (bD r) (k.l,k.r))).length<=2:=by rw[Lm9];exact w3
 have l2:((eW r).map (aq (bD r))).length<=20:=by rw[Lm9];exact H.n3
 have l3:((r.take++r.keep).map (wr (bD r))).length<=4:=by simp;omega
 have l4:(r.put.map (wr (bD r))).length<=2:=by rw[Lm9];exact w4
 have l5:(r.tell.map (nq (bD r))).length<=2:=by rw[Lm9];exact w5
 unfold Q2;generalize VE:iS r=sd at *
 generalize (r.ah.map λk=>(k,nq (bD r) (k.l,k.r)))=lk at *
 generalize (eW r).map (aq (bD r))=nm at *
 generalize (r.take++r.keep).map (wr (bD r))=hd at *
 generalize r.put.map (wr (bD r))=gv at *
 generalize r.tell.map (nq (bD r))=td at *
 generalize d? (r.take=[])=cl at *
 simp only[];have LI:∀(c:T)(fs:List (Str × T)),at_ (c::T.obj "Reading" fs::L) L.length=s? (.obj "Reading" fs):=λc fs=>vD
 have at2:∀(d c:T)(fs:List (Str × T)),at_ (d::c::T.obj "Reading" fs::L) L.length=s? (.obj "Reading" fs):=λd c fs=>MD
 have U1:∀(e d c:T)(fs:List (Str × T)),at_ (e::d::c::T.obj "Reading" fs::L) L.length=s? (.obj "Reading" fs):=λe d c fs=>Nk
 have NI:∀c:T,bO [.ref L.length] (c::T.obj "Reading" [("calls_in",.bl cl),("looks",.lst (lk.map λk=>.tup [lT k.1,pT k.2])),("names",.lst (nm.map .str)),("heads",.lst (hd.map fT)),("given",.lst (gv.map fT)),("told",.lst (td.map pT))]::L)=.ok (.lst (sd.map .str)) (c::T.obj "Reading" [("calls_in",.bl cl),("looks",.lst (lk.map λk=>.tup [lT k.1,pT k.2])),("names",.lst (nm.map .str)),("heads",.lst (hd.map fT)),("given",.lst (gv.map fT)),("told",.lst (td.map pT))]::L):=λc=>by
  rw[s9];exact ET (cl:=cl) (B5 (LI _ _)) (λc=>B5 (at2 _ _ _)) (λf hf=>(VR.mp hf).elim (λh=>(q1 f h).1) λh=>(q2 f h).1) ⇑0 (by rw[VN];omega) (by rw[VN,Lm9];omega)
 have U2:∀(e d c:T)(fs:List (Str × T)),at_ ([e,d,c,T.obj "Reading" fs]++L) L.length=s? (.obj "Reading" fs):=λ_ _ _ _=>Nk
 generalize hc:comp _ _ _ _ _ _ _ _=r';obtain rfl:=dP hc sd T.str (λa=>!great a) (λa=>.tup [.str a,.str a]) (k:=stays (.lst (sd.map .str)) _) (by
  simp only[mS];rw[pU (F:=bO) (by simp!) (LI _ _) rfl rfl];simp![NI];rfl) sv ⇑1 (λa ha=>by simp![dI a (gV (q3 a ha)).1]) λa _ _=>by simp!
 have Fb:(sd.filter λa=>!great a).length<=1000:=VV (Ww _ _) ⇑0;simp![iK,NF _ Fb,QT,at2,Xi,t7];obtain⟨ls,Js⟩:=ES (n:=L.length) (L:=aI ((dF (sd.filter λa=>!great a)).map λw=>(w,w))::aI (bD r)::T.obj "Reading" [("calls_in",.bl cl),("looks",.lst (lk.map λk=>.tup [lT k.1,pT k.2])),("names",.lst (nm.map .str)),("heads",.lst (hd.map fT)),("given",.lst (gv.map fT)),("told",.lst (td.map pT)),("words",.ref (L.length+1+1))]::L) (B5 (at2 _ _ _)) q1 ⇑0 ⇑0 ⇑0 ⇑0;have U3:fld "heads" (.ref L.length) (aI ((dF (sd.filter λa=>!great a)).map λw=>(w,w))::aI (bD r)::T.obj "Reading" [("calls_in",.bl cl),("looks",.lst (lk.map λk=>.tup [lT k.1,pT k.2])),("names",.lst (nm.map .str)),("heads",.lst (hd.map fT)),("given",.lst (gv.map fT)),("told",.lst (td.map pT)),("words",.ref (L.length+1+1)),("loose",.lst (ls.map fT))]::L)=.ok (.lst (hd.map fT)) (aI ((dF (sd.filter λa=>!great a)).map λw=>(w,w))::aI (bD r)::T.obj "Reading" [("calls_in",.bl cl),("looks",.lst (lk.map λk=>.tup [lT k.1,pT k.2])),("names",.lst (nm.map .str)),("heads",.lst (hd.map fT)),("given",.lst (gv.map fT)),("told",.lst (td.map pT)),("words",.ref (L.length+1+1)),("loose",.lst (ls.map fT))]::L):=(h8 (at2 _ _ _)).trans rfl
 refine⟨ls,?_⟩;simp![Js,iV,QT,at2,Xi,t8];generalize hc:comp _ _ _ _ _ _ _ _=r';obtain rfl:=aO hc hd fT (λh=>.tup [gf (kk h.k),.bl t?]) (k:=stays (.lst (hd.map fT)) _) (by simp![U3];rfl) sv ⇑1 (λh _=>by simp![j9]);have U4:∀e d c:T,bG t? [.ref (L.length+1+1+1)] (.ay (fD gf (dF (hd.map λh=>kk h.k)) λ_=>.bl t?)::d::c::e::L)=.ok (.lst ((dF (hd.map λh=>kk h.k)).map gf)) (.ay (fD gf (dF (hd.map λh=>kk h.k)) λ_=>.bl t?)::d::c::e::L):=λe d c=>by
  unfold bG;simp only[eU,show ∀w:T,at_ (w::d::c::e::L) (L.length+1+1+1)=s? w from λw=>OG,eV];rw[nH,fG,ao (by rw[Lm9];unfold lim;omega)];rfl
 simp![iK,NH hd ⇑0,U4,iV,Sa,U1,Xi,t9];rw[show ∀a b c d:T,a::b::c::d::L=[a,b,c,d]++L from λ_ _ _ _=>rfl,EU,iH (V3 _) (U2 _ _ _ _)];have fw:∀(a c d:T)(b:aS),bE L.length ([a,aI b,c,d]++L) 7 (.ref (L.length+1+1))=s? (aI b):=λa c d b=>by
  rw[iH ⇑0 (show at_ ([a,aI b,c,d]++L) (L.length+1+1)=s? (aI b) from Kz)];exact mH (jh _ _)
 have fl:∀{X:aa}{t:T},lt L.length t=t?->bE L.length X 7 t=s? t:=λh=>mH h
 unfold bE;rw[if_neg (by simp[lt,jW];intros;omega)];simp only[Xj,List.mapM_nil,fw,fl (t:=.bl cl) rfl,fl (B3 L.length lk),fl (af (g:=T.str) (l:=nm) λ_ _=>rfl),fl (af (l:=hd) bu),fl (af (l:=gv) bu),fl (af (l:=td) iR),fl (af (l:=ls) bu),fl (af (l:=dF (hd.map λh=>kk h.k)) BN)];rfl
end m7
def yL(r L):jv (r,L):=cW m7.t _
def B6(st:aS)(p q x:Cs):gQ (st.map (oF p q)) x=(gQ st x).map λv=>if v=p\/v=q then Un.iO great Bk.Ba p q else v:=by
 unfold gQ;rw[List.find?_map];have e:((λe:Cs × Cs=>decide (e.1=x)) ∘ oF p q)=λe=>decide (e.1=x):=rfl
 rw[e,Option.map_map,Option.map_map];rfl
def B7(p q:Cs):Un.iO great Bk.Ba p q=p\/Un.iO great Bk.Ba p q=q:=by
 unfold Un.iO;split
 ·simp
 ·split
  ·simp
  ·exact Un.FH p q
def B8{θ:Cs->Cs}(l:List Lk)(hl:∀k∈l,k.same=t?->θ k.l=θ k.r):∀st:aS,(∀x,θ (aq st x)=θ x)->∀x,θ (aq (l.foldl lP st) x)=θ x:=by
 induction l with
 |nil=>simp
 |cons k l ih=>
  intro st h;refine ih (λj hj=>hl j (VK _ hj)) _ λx=>?_
  unfold lP;split
  ·rename_i hs
   split
   ·exact h x
   ·have e:=hl k VL hs
    rw[<- h k.l,<- h k.r]at e;generalize aq st k.l=p at e;generalize aq st k.r=q at e;unfold iP;split
    ·exact h x
    ·have z:=h x
     unfold aq at z ⊢;rw[B6];cases ha:gQ st x with
     |none=>rfl
     |some v=>
      rw[ha]at z;have z:θ v=θ x:=z
      show θ (if v=p\/v=q then Un.iO great Bk.Ba p q else v)=θ x;split
      ·rename_i hv
       have hc:θ (Un.iO great Bk.Ba p q)=θ p:=by
        rcases B7 p q with y|y<;>rw[y]
        exact e.symm
       grind
      omega
  ·exact h x
theorem Gg:∀(ns:List Cs)(st:aS),(∀e∈st,e.2=e.1)->∀e∈uE st ns,e.2=e.1
 | [],_,h=>h
 |n::ns,st,h=>Gg ns (hK st n) λe he=>by
  unfold hK at he;split at he
  ·split at he
   ·exact h e he
   ·rcases VR.mp he with he|he
    ·exact h e he
    ·rw[Wb.mp he]
  ·exact h e he
def Ca{st:aS}(h:∀e∈st,e.2=e.1)(x:Cs):aq st x=x:=by
 unfold aq;cases e:gQ st x with
 |none=>rfl
 |some v=>exact h _ (vU e)
def rY{st:aS}{x:Cs}(h:x∉st.map (·.1)):aq st x=x:=by
 unfold aq;cases e:gQ st x with
 |none=>rfl
 |some v=>exact absurd (V4 (f:=(·.1)) (vU e)) h
def EV{θ:Cs->Cs}(r:Rl)(hl:∀k∈r.ah,k.same=t?->θ k.l=θ k.r)(x:Cs):θ (aq (bD r) x)=θ x :=
 B8 r.ah hl _ (λx=>by rw[Ca (Gg _ [] λe he=>nomatch he)]) x
theorem rZ:∀(ns vs:List Cs),ns.Nodup->vs.length=ns.length->ns.map (aq (ns.zip vs))=vs
 | [],[],_,_=>rfl
 | [],_::_,_,h=>by simp at h
 |_::_,[],_,h=>by simp at h
 |n::ns,v::vs,hn,hl=>by
  rw[WZ]at hn;have ih:=rZ ns vs hn.2 ⇑hl
  rw[VU,Xc];have e1:aq ((n,v)::ns.zip vs) n=v:=by unfold aq gQ;rw[aaX,decide_eq_true rfl];rfl
  have e2:ns.map (aq ((n,v)::ns.zip vs))=ns.map (aq (ns.zip vs)):=Wv λm hm=>by
   unfold aq gQ;rw[aaX,decide_eq_false (λe=>hn.1 (by have e:n=m:=e;rw[e];exact hm))]
  rw[e1,e2,ih]
def CC(r:Rl)(x:Cs):Prop:=(∃f∈r.take++r.keep++r.put,x∈f.as)\/(∃k∈r.ah,x=k.l\/x=k.r)\/∃p∈r.tell,x=p.1\/x=p.2
def Cb{r:Rl}{x:Cs}(h:CC r x):aq (bD r) x∈iS r:=by
 unfold iS;rcases h with⟨f,hf,hx⟩|⟨k,hk,hx⟩|⟨p,hp,hx⟩
 ·refine V2 _ (V6 _ (W2.mpr ⟨wr (bD r) f,?_,V4 hx⟩))
  rw[<- V1];exact V4 hf
 ·refine V6 _ (W2.mpr ⟨nq (bD r) (k.l,k.r),V6 _ (VP.mpr ⟨k,hk,rfl⟩),?_⟩)
  rcases hx with rfl|rfl<;>simp[nq]
 ·refine V6 _ (W2.mpr ⟨nq (bD r) p,V2 _ (V4 hp),?_⟩)
  rcases hx with rfl|rfl<;>simp[nq]
structure Fx(ks:List Kd)(r:Rl)(bp bl:List Fc)(reps:List Cs):Prop where
 rd:B4 r
 gr:∀x,CC r x->great x=t?->x∈eW r
 pb:∀f∈bp,f.k∉aW ks
 pl:∀f∈bl,f.k∈aW ks
 rp:∀f∈bp++bl,∀a∈f.as,a∈reps
section
variable{ks:List Kd}{r:Rl}{bp bl:List Fc}{reps:List Cs}(X:Fx ks r bp bl reps){ls:List Fc}
include X
def Fx.word{x:Cs}(h:great x=f?):aq (bD r) x=x:=rY λz=>by
 have:=(Bk.cv (((rU r X.rd.nn X.rd.lk).ks x).mp z)).2;simp_all
def Fx.wd{x:Cs}(h:CC r x)(g:great x=f?):(x,x)∈(aT r ls).words:=by
 refine VP.mpr ⟨x,((bb _).2.1 x).mpr (Wq.mpr ⟨?_,by rw[g];rfl⟩),rfl⟩;have:=Cb h
 rw[X.word g]at this;omega
theorem Fx.tr{θ η:Cs->Cs}(h:∀x,CC r x->θ x=η (aq (bD r) x)):(∀f∈r.take++r.keep++r.put,eC θ f=eC η (wr (bD r) f))/\(∀k∈r.ah,dq k.same (θ k.l) (θ k.r)=dq k.same (η (aq (bD r) k.l)) (η (aq (bD r) k.r)))/\∀p∈r.tell,θ p.1=η (aq (bD r) p.1)/\θ p.2=η (aq (bD r) p.2):=by
 refine⟨λf hf=>?_,λk hk=>?_,λp hp=>⟨h _ (.inr (.inr ⟨p,hp,.inl rfl⟩)),h _ (.inr (.inr ⟨p,hp,.inr rfl⟩))⟩⟩
 ·unfold eC wr
  congr 1;rw[Wc];exact Wv λa ha=>h a (.inl ⟨f,hf,ha⟩)
 ·rw[h _ (.inr (.inl ⟨k,hk,.inl rfl⟩)),h _ (.inr (.inl ⟨k,hk,.inr rfl⟩))]
def Fx.fit{st:aS}{η:Cs->Cs}(h:∀x,CC r x->aq st x=η (aq (bD r) x)):gj ks st r bp bl f?=t?↔(∀f∈(aT r ls).heads,eC η f∈dF bp++bl)/\EK (aT r ls) bp bl η:=by
 obtain⟨t1,t2,t3⟩:=X.tr h;have th:∀f∈r.take++r.keep,eC (aq st) f=eC η (wr (bD r) f):=λf hf=>t1 f (V2 _ hf)
 have hh:iz st r=(aT r ls).heads.map (eC η):=by
  show(r.take++r.keep).map (wr st)=((r.take++r.keep).map (wr (bD r))).map (eC η);rw[Wc];exact Wv th
 have hb:∀f,f∈dF bp++bl↔f∈bp\/f∈bl:=λf=>by rw[VR,(bb bp).2.1]
 have H:oH ks st r bp bl=t?↔(∀f∈(aT r ls).heads,eC η f∈dF bp++bl)/\∀f∈(aT r ls).heads,eC η f∈bp->bo ((aT r ls).heads.map (eC η)) (eC η f)<=bo bp (eC η f):=by
  unfold oH;rw[hh,VQ];generalize (aT r ls).heads=hs;have pos:∀f∈hs,1<=bo (hs.map (eC η)) (eC η f):=λf hf=>abh.mpr ⟨_,V4 hf,decide_eq_true rfl⟩
  constructor
  ·intro z
   have z:∀f∈hs,gi ks bp bl (hs.map (eC η)) (eC η f)=t?:=λf hf=>z _ (V4 hf)
   refine⟨λf hf=>?_,λf hf hm=>?_⟩
   ·have z:=z f hf
    unfold gi at z;rw[hb];split at z
    ·simp_all
    ·have p:=pos f hf
     have z:=of_decide_eq_true z;have:0<bo bp (eC η f):=by unfold bo at p ⊢;omega
     obtain⟨a,ha,e⟩:=abh.mp this;simp_all
   ·have z:=z f hf
    unfold gi at z;rw[if_neg (X.pb _ hm)]at z;exact of_decide_eq_true z
  ·rintro⟨z1,z2⟩ y hy
   obtain⟨f,hf,rfl⟩:=VP.mp hy;unfold gi;rcases(hb _).mp (z1 f hf) with q|q
   ·rw[if_neg (X.pb _ q)]
    exact decide_eq_true (z2 f hf q)
   ·rw[if_pos (X.pl _ q)]
    simp_all
 have C:jg st r bl=t?↔OH (aT r ls) bl η:=by
  unfold jg OH;rw[W6,Xt,Xt];refine or_congr ⟨λ⟨f,hf,z⟩=>⟨wr (bD r) f,V4 hf,?_⟩,λ⟨f,hf,z⟩=>?_⟩ ⟨λ⟨p,hp,z⟩=>⟨nq (bD r) p,V4 hp,?_⟩,λ⟨p,hp,z⟩=>?_⟩
  ·rw[<- t1 f (V6 _ hf)]
   have z:(!d? (eC (aq st) f∈bl))=t?:=z;simpa using z
  ·obtain⟨g,hg,rfl⟩:=VP.mp hf
   rw[<- t1 g (V6 _ hg)]at z;exact⟨g,hg,by show(!d? (eC (aq st) g∈bl))=t?;simpa using z⟩
  ·have:=t3 p hp
   show η (aq (bD r) p.1)≠η (aq (bD r) p.2);simp_all
  ·obtain⟨q,hq,rfl⟩:=VP.mp hp
   have:=t3 q hq;have z:η (aq (bD r) q.1)≠η (aq (bD r) q.2):=z
   grind
 unfold gj;rw[aaa,ZH,VW,VW,H,VQ];have K:(∀k∈r.ah,iQ st k=t?)↔∀k∈(aT r ls).ah,dq k.1.same (η k.2.1) (η k.2.2)=t?:=by
  constructor
  ·intro z k hk
   obtain⟨j,hj,rfl⟩:=VP.mp hk;show dq j.same (η (aq (bD r) j.l)) (η (aq (bD r) j.r))=t?
   rw[<- t2 j hj];exact z j hj
  ·intro z k hk
   have:=z (k,nq (bD r) (k.l,k.r)) (VP.mpr ⟨k,hk,rfl⟩);unfold iQ;rw[t2 k hk];exact this
 rw[K];have D:(!d? (r.take=[]) || jg st r bl)=t?↔((aT r ls).calls=t?->OH (aT r ls) bl η):=by
  rw[<- C];show _↔(d? (r.take=[])=t?->_)
  cases d? (r.take=[])<;>simp
 rw[D];exact⟨λ⟨a,⟨b,c⟩,d⟩=>⟨b,a,c,d⟩,λ⟨b,a,c,d⟩=>⟨a,⟨b,c⟩,d⟩⟩
def Fx.rows{res:List aS}(hn:(eW r).Nodup)(hr:∀h∈eW r,∃f∈r.take++r.keep,h∈f.as)(W:Wk (dF bp++bl) (aT r ls) bp bl (aT r ls).words (aT r ls).heads res):
  (res.map λβ=>(aT r ls).names.map (aq β)).Nodup/\∀vs,vs∈(res.map λβ=>(aT r ls).names.map (aq β))↔(vs.length=(eW r).length/\∀v∈vs,v∈reps)/\gj ks (cw r vs) r bp bl f?=t?:=by
 have hb:∀f,f∈dF bp++bl->f∈bp++bl:=λf=>by rw[VR,(bb bp).2.1,VR];exact id
 have gw:∀w,(w,w)∈(aT r ls).words->great w=f?:=λw hw=>by
  obtain⟨x,hx,e⟩:=VP.mp hw;cases e;have:=(Wq.mp (((bb _).2.1 w).mp hx)).2
  simpa using this
 have fix:∀β∈res,∀x,CC r x->great x=f?->aq β x=x:=λβ hβ x hx g=>by
  obtain⟨⟨c,rfl⟩,_⟩:=W.ext β hβ;have m:bd (aT r ls).words x=t?/\aq (aT r ls).words x=x:=by
   have:=X.wd (ls:=ls) hx g;refine⟨?_,Ca (λe he=>?_) x⟩
   ·unfold bd gQ
    grind
   ·obtain⟨w,_,rfl⟩:=VP.mp he
    rfl
  rw[(vV m.1).2,m.2]
 have NJ:∀n∈eW r,∃h∈(aT r ls).heads,aq (bD r) n∈h.as:=λn hm=>by
  obtain⟨f,hf,hx⟩:=hr n hm;exact⟨wr (bD r) f,V4 hf,V4 hx⟩
 have key:∀β∈res,∀x,CC r x->aq (cw r ((aT r ls).names.map (aq β))) x=aq β (aq (bD r) x):=λβ hβ x hx=>by
  cases g:great x with
  |true=>
   have hm:=X.gr x hx g;have e:(aT r ls).names.map (aq β)=(eW r).map λn=>aq β (aq (bD r) n):=by
    show((eW r).map (aq (bD r))).map (aq β)=_;simp
   have z:=rZ (eW r) ((aT r ls).names.map (aq β)) hn (by simp_all)
   conv at z=>rhs;rw[e]
   exact List.map_inj_left.mp z x hm
  |false=>
   rw[X.word g,fix β hβ x hx g];refine rY λz=>?_
   obtain⟨p,hp,e⟩:=VP.mp z;have:=(Bk.cv (Xm (show(p.1,p.2)∈_ from hp)).1).2
   simp_all
 constructor
 ·rw[YM,Yf]
  refine W.one.imp_of_mem λ{β γ}hβ hγ⟨h,hh,ne⟩e=>ne ?_
  obtain⟨f,hf,rfl⟩:=VP.mp hh;rw[yI,yI];refine fK λa ha=>?_
  obtain⟨x,hx,rfl⟩:=VP.mp ha;have VF:CC r x:=.inl ⟨f,V2 _ hf,hx⟩
  grind
 ·intro vs
  constructor
  ·intro h
   obtain⟨β,hβ,rfl⟩:=VP.mp h;obtain⟨_,x1,x2,x3,_⟩:=W.ext β hβ;refine⟨⟨by rw[Lm9];exact Lm9 ..,λv hv=>?_⟩,(X.fit (ls:=ls) (key β hβ)).mpr ⟨x1,x3⟩⟩;obtain⟨n',hn',rfl⟩:=VP.mp hv;obtain⟨n,hm,rfl⟩:=VP.mp hn';obtain⟨h,hh,z⟩:=NJ n hm;exact X.rp _ (hb _ (x1 h hh)) _ (V4 z)
  ·rintro⟨⟨hl,hv⟩,hf⟩
   have lk:∀k∈r.ah,k.same=t?->aq (cw r vs) k.l=aq (cw r vs) k.r:=λk hk hs=>by
    unfold gj at hf;simp only[VW]at hf;have z:=VQ.mp hf.2.1 k hk
    unfold iQ dq at z;simp_all
   have ag:=EV r lk;obtain⟨h1,h2⟩:=(X.fit (ls:=ls) (η:=aq (cw r vs)) λx _=>(ag x).symm).mp hf;have hw:BQ (aq (cw r vs)) (aT r ls).words:=λp hp=>by
    obtain⟨w,hw,rfl⟩:=VP.mp hp;refine rY λz=>?_
    obtain⟨q,hq,e⟩:=VP.mp z;have:=(Bk.cv (Xm (show(q.1,q.2)∈_ from hq)).1).2
    simp_all
   obtain⟨β,hβ,hA⟩:=W.all _ hw h1 h2;refine VP.mpr ⟨β,hβ,?_⟩;obtain⟨_,_,x2,_⟩:=W.ext β hβ;show((eW r).map (aq (bD r))).map (aq β)=vs
   rw[Wc];refine(Wv λn hm=>?_).trans (rZ (eW r) vs hn hl);obtain⟨h,hh,z⟩:=NJ n hm;show aq β (aq (bD r) n)=aq (cw r vs) n
   rw[<- iJ hA (x2 _ (.inr (.inl ⟨h,hh,z⟩))),ag]
end
def JU{x y:T}(hx:kd 8 x=t?)(hy:kd 8 y=t?)(h:ltN 8 y x=f?):x=y\/ltN 8 x y=t?:=by
 by_cases e:x=y
 ·exact .inl e
 ·rcases ny 8 _ _ hx hy e with q|q
  ·exact .inr q
  simp_all
def Cc(x:T)(hx:kd 8 x=t?):∀l:List T,(∀y∈l,kd 8 y=t?)->mq l->∃l',l'.Perm (x::l)/\mq l':=by
 intro l9;induction l9 with
 |nil=>intro _ _;exact⟨[x],.refl _,by simp[mq]⟩
 |cons y l ih=>
  intro hk hr;have hy:=hk y VL
  have hr':=Y7.mp hr;cases e:ltN 8 y x with
  |false=>
   refine⟨x::y::l,.refl _,Y7.mpr ⟨λz hz=>?_,hr⟩⟩;rcases Wt.mp hz with rfl|hz
   ·exact e
   ·have h1:=hr'.1 z hz
    rcases JU hx hy e with rfl|q
    ·exact h1
    ·cases e2:ltN 8 z x with
     |false=>rfl
     |true=>rw[g9 8 _ _ _ e2 q]at h1;cases h1
  |true=>
   obtain⟨l',p,r⟩:=ih (λz hz=>hk z (VK _ hz)) hr'.2;refine⟨y::l',(p.cons y).trans (.swap _ _ _),Y7.mpr ⟨λz hz=>?_,r⟩⟩;rcases Wt.mp (p.mem_iff.mp hz) with rfl|hz
   ·cases e2:ltN 8 z y with
    |false=>rfl
    |true=>have:=g9 8 _ _ _ e e2;rw[qS]at this;cases this
   ·exact hr'.1 z hz
def EW:∀l:List T,(∀y∈l,kd 8 y=t?)->∃l',l'.Perm l/\mq l':=by
 intro l9;induction l9 with
 |nil=>intro _;exact⟨[],.refl _,abv⟩
 |cons x l ih=>
  intro h;obtain⟨l1,p1,r1⟩:=ih λy hy=>h y (VK _ hy)
  obtain⟨l2,p2,r2⟩:=Cc x (h x VL) l1 (λy hy=>h y (VK _ (p1.mem_iff.mp hy))) r1;exact⟨l2,p2.trans (p1.cons x),r2⟩
def b7{l:List T}(h:∀y∈l,kd 8 y=t?):(jb l).Perm l/\mq (jb l):=by
 obtain⟨l',p,r⟩:=EW l h;rw[qT (VQ.mpr h) p r];exact⟨p,r⟩
def ur{α:Type}{g:α->T}{l l2:List T}(p:l.Perm l2):∀fs:List α,l2=fs.map g->∃gs:List α,gs.Perm fs/\l=gs.map g:=by
 induction p with
 |nil=>
  simp
 |cons x p ih=>
  intro fs e;cases fs with
  |nil=>cases e
  |cons f fs=>
   cases e;obtain⟨gs,q,e⟩:=ih fs rfl;exact⟨f::gs,q.cons f,by rw[e];rfl⟩
 |swap x y l=>
  intro fs e
  match fs,e with
  |a::b::fs,e=>cases e;exact⟨b::a::fs,.swap _ _ _,rfl⟩
 |trans p q U5 U6=>
  intro fs e;obtain⟨gs,r1,e1⟩:=U6 fs e;obtain⟨hs,r2,e2⟩:=U5 gs e1;exact⟨hs,r2.trans r1,e2⟩
def JV(f:Fc):kd 8 (fT f)=t?:=by
 show(kd 7 (.str f.k) && (kd 7 (.tup (f.as.map .str)) && t?))=t?;rw[show kd 7 (.tup (f.as.map .str))=(f.as.map T.str).all (kd 6) from rfl,JF 5];rfl
theorem JW(n:Nat):∀a b:List Cs,shl (p6 (n+1)) (a.map .str) (b.map .str)=t?
 | [],_=>by rfl
 |_::_,[]=>by rfl
 |x::a,y::b=>by rw[VU,VU];show(_ && _)=t?;rw[JW n a b];rfl
def Q4(f g:Fc):p6 8 (fT f) (fT g)=t?:=by
 show(p6 7 (.str f.k) (.str g.k) && (shl (p6 6) (f.as.map .str) (g.as.map .str) && t?))=t?;rw[JW 5];rfl
def D5{fs:List Fc}(h:fs.length<900):fP (fs.map fT) :=
 ⟨⇑h,by simp[JV],.inl (VQ.mpr λx hx=>by obtain⟨_,_,rfl⟩:=VP.mp hx;rfl),by simp[Q4]⟩
def kd_p(p:Cs × Cs):kd 8 (pT p)=t?:=rfl
def Q5{fs:List (Cs × Cs)}(h:fs.length<900):fP (fs.map pT) :=
 ⟨⇑h,by simp[kd_p],.inl (VQ.mpr λx hx=>by obtain⟨_,_,rfl⟩:=VP.mp hx;rfl),by simp[show ∀a b,p6 8 (pT a) (pT b)=t? from λ_ _=>rfl]⟩
def Gh(fs:List Fc):∃gs:List Fc,gs.Perm fs/\jb (fs.map fT)=gs.map fT :=
 ur (b7 λy hy=>by obtain⟨f,_,rfl⟩:=VP.mp hy;exact JV f).1 fs rfl
def NK(fs:List (Cs × Cs)):∃gs:List (Cs × Cs),gs.Perm fs/\jb (fs.map pT)=gs.map pT :=
 ur (b7 λy hy=>by obtain⟨f,_,rfl⟩:=VP.mp hy;rfl).1 fs rfl
def JX{x:T}{ys:List T}{L:aa}(hx:vw L x=.lst ys)(h:fP ys)(hl:(jb ys).length<=lim):iM t? [x] L=.ok (.lst (jb ys)) L:=by
 unfold iM;simp only[hx];unfold fP at h;rw[ao h,fG,ao hl];rfl
def EX{ys:List T}(h:fP ys):(jb ys).length<=lim:=by
 rw[(b7 (VQ.mp h.2.1)).1.length_eq];have:=h.1;unfold lim;omega
def pj{x:T}{ys:List T}{L:aa}(hx:vw L x=.lst ys)(h:fP ys):iM t? [x] L=.ok (.lst (jb ys)) L:=JX hx h (EX h)
def gJ(bp bl:List Fc)(st:aS):T:=.tup [.tup (bp.map fT),.tup (bl.map fT),.tup (st.map pT),.bl f?]
def EY{a b:List T}(h:∀y∈a,kd 8 y=t?)(p:a.Perm b):jb b=jb a:=qT (VQ.mpr λy hy=>h y (p.mem_iff.mpr hy)) ((b7 h).1.trans p) (b7 h).2
def vT(vs:List Cs):T:=.tup (vs.map .str)
def stepT(i:Nat)(vs:List Cs):T:=.tup [.int (i:Nat),vT vs]
def Cd(i:Nat)(vs:List Cs):kd 8 (stepT i vs)=t?:=by
 show(kd 7 (.int (i:Nat)) && (kd 7 (vT vs) && t?))=t?;rw[show kd 7 (vT vs)=(vs.map T.str).all (kd 6) from rfl,JF 5];rfl
def NL(i j:Nat)(a b:List Cs):p6 8 (stepT i a) (stepT j b)=t?:=by
 show(p6 7 (.int (i:Nat)) (.int (j:Nat)) && (shl (p6 6) (a.map .str) (b.map .str) && t?))=t?;rw[JW 5];rfl
def Gi{l:List (Nat × List Cs)}(h:l.length<900):fP (l.map λp=>stepT p.1 p.2) :=
 ⟨⇑h,by simp[Cd],.inr (VQ.mpr λx hx=>by obtain⟨_,_,rfl⟩:=VP.mp hx;rfl),by simp[NL]⟩
def Gj(n i:Nat)(vs:List Cs):lt n (stepT i vs)=t?:=by
 unfold stepT vT;rw[lt,eR,eR,eR,j5 (g:=T.str) λ_ _=>rfl];rfl
def dM(reps:List Cs):Nat->List (List Cs)
 |0=>[[]]
 |k+1=>(dM reps k).flatMap λrow=>reps.map λx=>row++[x]
theorem ie(reps:List Cs):∀(k:Nat)(vs:List Cs),vs∈dM reps k↔vs.length=k/\∀v∈vs,v∈reps
 |0,vs=>by
  unfold dM;simp_all
 |k+1,vs=>by
  unfold dM;rw[W2];constructor
  ·rintro⟨row,hr,h⟩
   obtain⟨x,hx,rfl⟩:=VP.mp h;obtain⟨h1,h2⟩:=(ie reps k row).mp hr;grind
  ·rintro⟨h1,h2⟩
   have hne:vs≠[]:=λe=>by simp_all
   refine⟨vs.dropLast,(ie reps k _).mpr ⟨by simp_all,λv hv=>h2 v ((List.dropLast_sublist vs).subset hv)⟩,VP.mpr ⟨vs.getLast hne,h2 _ (List.getLast_mem hne),List.dropLast_concat_getLast hne⟩⟩
theorem uu{reps:List Cs}(nd:reps.Nodup):∀k,(dM reps k).Nodup
 |0=>by unfold dM;simp
 |k+1=>by
  unfold dM;rw[YM,aaY];refine⟨λrow _=>?_,?_⟩
  ·rw[Yf]
   exact nd.imp λh e=>h (XK (List.append_cancel_left e)).1
  ·refine(uu nd k).imp λ{a b}h x hx y hy e=>h ?_
   obtain⟨u,_,rfl⟩:=VP.mp hx;obtain⟨w,_,rfl⟩:=VP.mp hy;simp_all
theorem ig(reps:List Cs):∀k,(dM reps k).length<=reps.length ^ k
 |0=>V3 _
 |k+1=>by
  unfold dM;rw[Nat.pow_succ];exact VV (Bk.bZ λrow _=>Zm (Lm9 ..)) (XG _ (ig reps k))
def KA(rs:List Rl)(lf:Rl->List Fc):T:=.obj "Player" [("readings",.lst (rs.map λr=>lN (aT r (lf r))))]
def NM(n:Nat)(R:Rd):lt n (lN R)=t?:=by
 unfold lN;rw[lt,jW,jW,jW,jW,jW,jW,jW,jW,jW,jW,B3,af (g:=T.str) (λ_ _=>rfl),af bu,af bu,af iR,jh,af bu,af BN];rfl
def Ce(ks:List Kd)(rs:List Rl)(h:∀r∈rs,B4 r)(hl:rs.length<=100)(L:aa):∃lf,oM [rB ks rs] L=.ok (KA rs lf) L:=by
 have:∀r,∃ls,r∈rs->hV [aX r] (.obj "Player" []::L)=.ok (lN (aT r ls)) (.obj "Player" []::L):=λr=>by
  by_cases hr:r∈rs
  ·obtain⟨ls,e⟩:=yL r (.obj "Player" []::L) (h r hr)
   exact⟨ls,λ_=>e⟩
  simp_all
 obtain⟨lf,hp⟩:∃lf:Rl->List Fc,∀r∈rs,hV [aX r] (.obj "Player" []::L)=.ok (lN (aT r (lf r))) (.obj "Player" []::L):=⟨λr=>aaB (this r),λr hr=>Zp (this r) hr⟩;refine⟨lf,?_⟩;unfold oM make gR;simp!;generalize hc:comp _ _ _ _ _ _ _ _=r';obtain rfl:=aO hc rs aX (λr=>lN (aT r (lf r))) rfl sv ⇑1 (λr hr=>by simp![hp r hr]);simp![iV,ax (fs:=[]) (f:="readings") (by rfl),WM,Xi];have cM:∀n,lt n (.obj "Player" [("readings",.lst (rs.map λr=>lN (aT r (lf r))))])=t?:=λn=>by rw[lt,jW,jW,af (g:=λr=>lN (aT r (lf r))) λn _=>NM n _];rfl
 rw[j6 (cM _) rfl];simp!;exact du (cM _)
theorem Cf(R:Rd)(β:aS)(h:∀n∈R.names,bd β n=t?)(hl:R.names.length<=100)(L:aa):eB [lN R,aI β] L=.ok (vT (R.names.map (aq β))) L:=by
 unfold eB;simp![r3];generalize hc:comp _ _ _ _ _ _ _ _=r';obtain rfl:=aO hc R.names T.str (λn=>.str (aq β n)) rfl sv ⇑1 (λn hn=>by simp![m5 (h n hn)]);simp!;rw[show(R.names.map λn=>T.str (aq β n))=(R.names.map (aq β)).map .str by rw[Wc];rfl];exact fin_same (j5 (g:=T.str) λ_ _=>rfl)
def dU(ks:List Kd)(bp bl:List Fc)(reps:List Cs)(p:Rl × Nat):List T:=((dM reps (eW p.1).length).filter λvs=>gj ks (cw p.1 vs) p.1 bp bl f?).map (stepT p.2)
def jK{ks:List Kd}{bp bl:List Fc}{reps:List Cs}{p:Rl × Nat}:∀y∈dU ks bp bl reps p,kd 8 y=t?:=λy hy=>by
 obtain⟨vs,_,rfl⟩:=VP.mp hy;exact Cd _ _
structure Pk(ks:List Kd)(bp bl:List Fc)(reps:List Cs):Prop where
 kn:(ks.map (·.n)).Nodup
 nd:bl.Nodup
 pb:∀f∈bp,f.k∉aW ks
 pl:∀f∈bl,f.k∈aW ks
 ff:∀f∈bp++bl,cT ks f
 f4:∀f∈bp++bl,f.as.length<=4
 rp:∀f∈bp++bl,∀a∈f.as,a∈reps
 rn:∀a∈reps,cP a
 r4:reps.length<=4
 rd:reps.Nodup
 ip:bp.length+bl.length<=20
structure Rk(ks:List Kd)(r:Rl):Prop where
 rd:B4 r
 gr:∀x,CC r x->great x=t?->x∈eW r
 ff:∀f∈r.take++r.keep,cT ks f
 n3:(eW r).length<=3
section
variable{ks:List Kd}{bp bl:List Fc}{reps:List Cs}{r:Rl}(P:Pk ks bp bl reps)(Q:Rk ks r)
include P
def Pk.dn:(dF bp++bl).Nodup:=WW.mpr ⟨(bb bp).1,P.nd,λa ha b hb e=>P.pb a (((bb bp).2.1 a).mp ha) (by rw[e];exact P.pl b hb)⟩
theorem Pk.Q6{f:Fc}(h:f∈dF bp++bl):f∈bp++bl:=by
 rw[VR,(bb bp).2.1]at h;simp_all
include Q
def Pk.fx:Fx ks r bp bl reps:=⟨Q.rd,Q.gr,P.pb,P.pl,P.rp⟩
def Pk.sx{Gk:List Ky}(hk:∀k,k∈Gk↔b6 (dF bp++bl) k≠[])(ls:List Fc):Sx bp bl Gk (aT r ls):=by
 obtain⟨q1,q2,_,_⟩:=rW Q.rd;refine⟨hk,P.dn,?_,λf hf=>⟨P.f4 f (P.Q6 hf),λa ha=>P.rn a (P.rp f (P.Q6 hf) a ha)⟩,λh hh=>(q1 h hh).1,?_,λh hh=>(q2 h hh).1,λk hk=>?_⟩
 ·have:=(bb bp).2.2
  have:=P.ip
  (simp;omega)
 ·have:=Q.rd.ip
  show((r.take++r.keep).map _).length<=100
  (simp;omega)
 ·obtain⟨j,hj,rfl⟩:=VP.mp hk
  have G:=rU r Q.rd.nn Q.rd.lk;exact⟨G.sm.aq (Q.rd.lk j hj).1,G.sm.aq (Q.rd.lk j hj).2⟩
def Pk.pre(ls:List Fc):Pre bp bl (aT r ls) (aT r ls).words (aT r ls).heads:=by
 obtain⟨q1,q2,q3,q4⟩:=rW Q.rd;have X:=P.fx Q
 have Q7:∀{f g:Fc},cT ks f->cT ks g->f.k=g.k->g.as.length=f.as.length:=λ{f g}⟨a,ha,e1,e2⟩⟨b,hb,e3,e4⟩e=>by
  rw[e2,e4,Bk.vC P.kn ha hb (e1.trans (e.trans e3.symm))]
 refine⟨λp hp=>?_,?_,λh hh=>⟨(q1 h hh).1,(q1 h hh).2,λf hf e=>?_⟩,λm hm=>?_⟩
 ·obtain⟨w,hw,rfl⟩:=VP.mp hp
  have:=q3 w (Wq.mp (((bb _).2.1 w).mp hw)).1;simp_all
 ·have z1:(aT r ls).words.length<=52:=by
   show((dF (Q2 r)).map _).length<=52;rw[Lm9];exact VV (bb _).2.2 (VV (Ww _ _) q4)
  have z2:(aT r ls).heads.length<=4:=by
   have:=Q.rd.ip;show((r.take++r.keep).map _).length<=4
   (simp;omega)
  omega
 ·obtain⟨g,hg,rfl⟩:=VP.mp hh
  have:=Q7 (P.ff f (P.Q6 hf)) (Q.ff g hg) e;show(g.as.map _).length=_
  simp_all
 ·have key:∀x,CC r x->bd (aT r ls).words (aq (bD r) x)=t?\/∃h∈(aT r ls).heads,aq (bD r) x∈h.as:=λx hx=>by
   cases g:great x with
   |true=>
    obtain⟨⟨f,hf,ha⟩,_⟩:=Bk.cv (X.gr x hx g);exact .inr ⟨wr (bD r) f,V4 hf,V4 ha⟩
   |false=>
    rw[X.word g];refine .inl ?_;unfold bd gQ;cases q:(aT r ls).words.find? λp=>decide (p.1=x) with
    |none=>exact absurd (X0.mp q _ (X.wd hx g)) ⋯
    |some y=>rfl
  rcases hm with⟨k,hk,e⟩|⟨h,hh,e⟩|⟨f,hf,e⟩|⟨p,hp,e⟩
  ·obtain⟨j,hj,rfl⟩:=VP.mp hk
   rcases e with rfl|rfl
   ·exact key _ (.inr (.inl ⟨j,hj,.inl rfl⟩))
   ·exact key _ (.inr (.inl ⟨j,hj,.inr rfl⟩))
  ·exact .inr ⟨h,hh,e⟩
  ·obtain⟨g,hg,rfl⟩:=VP.mp hf
   obtain⟨x,hx,rfl⟩:=VP.mp e;exact key x (.inl ⟨g,V6 _ hg,hx⟩)
  ·obtain⟨q,hq,rfl⟩:=VP.mp hp
   rcases e with rfl|rfl
   ·exact key _ (.inr (.inr ⟨q,hq,.inl rfl⟩))
   ·exact key _ (.inr (.inr ⟨q,hq,.inr rfl⟩))
def NN{Gk:List Ky}(hk:∀k,k∈Gk↔b6 (dF bp++bl) k≠[])(ls:List Fc)(i:Nat)(L:aa):
  ∃res:List aS,fZ [fF bp bl Gk,lN (aT r ls),aI (aT r ls).words,.int (-1)] L=.ok (.lst (res.map aI)) L/\(∀β∈res,∀n∈(aT r ls).names,bd β n=t?)/\res.length<=64/\(dU ks bp bl reps (r,i)).Perm (res.map λβ=>stepT i ((aT r ls).names.map (aq β))):=by
 have ip:=Q.rd.ip;obtain⟨res,W,e⟩:=vY (P.sx Q hk ls) (P.pre Q ls) (by
  show((r.take++r.keep).map _).length<=4
  (simp;omega)) (λk=>by
  refine((bb _).2.1 k).trans ⟨λh=>?_,λ⟨h,hh,e⟩=>?_⟩
  ·obtain⟨f,hf,rfl⟩:=VP.mp h
   exact⟨wr (bD r) f,V4 hf,rfl⟩
  ·obtain⟨f,hf,rfl⟩:=VP.mp hh
   rw[e];exact VP.mpr ⟨f,hf,rfl⟩) (VV (bb _).2.2 (by(simp;omega))) L
 have hr:∀h∈eW r,∃f∈r.take++r.keep,h∈f.as:=λh hh=>(Bk.cv hh).1
 obtain⟨n1,n2⟩:=(P.fx Q).rows (ls:=ls) (Bk.gh _) hr W;have pm:((dM reps (eW r).length).filter λvs=>gj ks (cw r vs) r bp bl f?).Perm (res.map λβ=>(aT r ls).names.map (aq β)):=by
  refine(List.perm_ext_iff_of_nodup ((uu P.rd _).filter _) n1).mpr λvs=>?_
  rw[n2,Wq,ie]
 refine⟨res,e,λβ hβ n hn=>?_,?_,?_⟩
 ·obtain⟨m,hm,rfl⟩:=VP.mp hn
  obtain⟨f,hf,ha⟩:=hr m hm;exact(W.ext β hβ).2.2.1 _ (.inr (.inl ⟨wr (bD r) f,V4 hf,V4 ha⟩))
 ·have:=pm.length_eq
  rw[Lm9]at this;rw[<- this];refine VV (Ww _ _) (VV (ig _ _) ?_);exact VV (YY P.r4 _) (X5 ∅ Q.n3)
 ·have:=pm.map (stepT i)
  rw[Wc]at this;exact this
end
def xD{n:Nat}:∀{l:List T},(∀y∈l,lt n y=t?)->eR n l=t?:=by
 intro l9;induction l9 with
 |nil=>intro _;exact rfl
 |cons a l ih=>intro h;rw[eR,h a VL,ih λy hy=>h y (VK _ hy)];rfl
def allR(ks:List Kd)(bp bl:List Fc)(reps:List Cs)(rs:List Rl):List T:=rs.zipIdx.flatMap λp=>jb (dU ks bp bl reps p)
def EZ{ks:List Kd}{bp bl:List Fc}{reps:List Cs}{p:Rl × Nat}{y:T}(h:y∈jb (dU ks bp bl reps p)):y∈dU ks bp bl reps p:=(b7 jK).1.mem_iff.mp h
def se{ks:List Kd}{bp bl:List Fc}{reps:List Cs}{rs:List Rl}{y:T}(h:y∈allR ks bp bl reps rs):∃i vs,y=stepT i vs:=by
 obtain⟨p,_,h⟩:=W2.mp h;obtain⟨vs,_,rfl⟩:=VP.mp (EZ h);exact⟨_,_,rfl⟩
def xE{ks:List Kd}{bp bl:List Fc}{reps:List Cs}{rs:List Rl}(n:Nat):lt n (.lst (allR ks bp bl reps rs))=t?:=by
 rw[lt];exact xD λy hy=>by
  obtain⟨i,vs,rfl⟩:=se hy;exact Gj _ _ _
def Cg{L:aa}{xs:List T}(h:lt L.length (.lst xs)=t?):yk L (.ref L.length) (.lst xs::L)=.ok (.ref L.length) (.lst xs::L):=by
 unfold yk;simp only[cq];rw[ao (V3 _),mC,ji h];rfl
def NO{L:aa}{xs ys:List T}(h:xs.length+ys.length<=100000):qv (.ref L.length) [.lst ys] (.lst xs::L)=.ok .aY (.lst (xs++ys)::L):=by
 unfold qv;simp only[cq,vw];rw[ao ⇑1,mC]
section
variable{ks:List Kd}{bp bl:List Fc}{reps:List Cs}{rs:List Rl}(P:Pk ks bp bl reps)(Q:∀r∈rs,Rk ks r)(hl:rs.length<=10)
include P Q hl
theorem yM(lf:Rl->List Fc)(st:aS)(L:aa):bR [KA rs lf,gJ bp bl st] L=.ok (.ref L.length) (.lst (allR ks bp bl reps rs)::L):=by
 have ip:=P.ip;obtain⟨Gk,hk,el⟩:=BP bp bl st (.lst []::L) P.dn P.f4 ⇑0;unfold bR pM;unfold gJ;simp![el,show ∀L,fld "readings" (KA rs lf) L=.ok (.lst (rs.map λr=>lN (aT r (lf r)))) L from λ_=>rfl,uj];generalize ho:forL _ _ _ _ _ _=o;have z:=bN ho rs.zipIdx (λp=>.tup [.int (p.2:Nat),lN (aT p.1 (lf p.1))]) (λq φ L'=>∃(done:List (Rl × Nat))(o4 o5 o6:Option T),done++q=rs.zipIdx/\φ=[s? (KA rs lf),s? (.tup [.tup (bp.map fT),.tup (bl.map fT),.tup (st.map pT),.bl f?]),s? (.ref L.length),s? (fF bp bl Gk),o4,o5,o6]/\(done.flatMap λp=>jb (dU ks bp bl reps p)).length<=64 * done.length/\L'=.lst (done.flatMap λp=>jb (dU ks bp bl reps p))::L)
  (λo=>∃o4 o5 o6:Option T,o=.nx [s? (KA rs lf),s? (.tup [.tup (bp.map fT),.tup (bl.map fT),.tup (st.map pT),.bl f?]),s? (.ref L.length),s? (fF bp bl Gk),o4,o5,o6] (.lst (allR ks bp bl reps rs)::L)) rfl ⟨[],n?,n?,n?,rfl,rfl,V3 _,rfl⟩ (λ_ _ eJ eP p q φ L' hh=>by
   obtain⟨done,o4,o5,o6,e1,rfl,e2,rfl⟩:=hh;obtain⟨r,i⟩:=p;have hr:r∈rs:=by
    have:(r,i)∈rs.zipIdx:=by rw[<- e1];simp
    rw[XM]at this;exact Wd this
   have yo:done.length<=10:=by
    have:=congrArg Xg e1;rw[VN,X1]at this;omega
   refine⟨sv,_,rfl,?_⟩;generalize x7:(done.flatMap λp=>jb (dU ks bp bl reps p))=acc at *
   obtain⟨res,s1,s2,s3,s4⟩:=NN P (Q r hr) hk (lf r) i (.lst acc::L);have nl:(aT r (lf r)).names.length<=100:=by
    show((eW r).map _).length<=100;have:=(Q r hr).n3
    rw[Lm9];omega
   have U7:fP (res.map λβ=>stepT i ((aT r (lf r)).names.map (aq β))):=by
    have:=Gi (l:=res.map λβ=>(i,(aT r (lf r)).names.map (aq β))) (by rw[Lm9];omega);rw[Wc]at this;exact this
   have Q8:iM t? [.lst (res.map λβ=>stepT i ((aT r (lf r)).names.map (aq β)))] (.lst acc::L)=.ok (.lst (jb (dU ks bp bl reps (r,i)))) (.lst acc::L):=by
    rw[pj rfl U7,EY jK s4]
   have len:(jb (dU ks bp bl reps (r,i))).length<=64:=by
    rw[(b7 jK).1.length_eq,s4.length_eq,Lm9];exact s3
   simp![r7,s1];generalize hc:comp _ _ _ _ _ _ _ _=r';obtain rfl:=aO hc res aI (λβ=>stepT i ((aT r (lf r)).names.map (aq β))) rfl sv ⇑1 (λβ hβ=>by simp![Cf (aT r (lf r)) β (s2 β hβ) nl];rfl);simp![eJ,eP,Q8,NO (L:=L) (xs:=acc) (ys:=jb (dU ks bp bl reps (r,i))) ⇑0];refine⟨done++[(r,i)],_,_,_,⇑e1,rfl,?_,?_⟩
   ·rw[ZP,x7,VN,XO,Zv,V8,VN]
    simp;omega
   ·rw[ZP,x7,XO,Zv,V8]) λφ L' hh=>by
   obtain⟨done,o4,o5,o6,e1,rfl,e2,rfl⟩:=hh;rw[V8]at e1;subst e1;exact⟨sv,_,_,_,rfl⟩
 obtain⟨o4,o5,o6,rfl⟩:=z;simp!;exact Cg (xE _)
def E0(st:aS)(L:aa):lJ [rB ks rs,gJ bp bl st] L=.ok (.ref L.length) (.lst (allR ks bp bl reps rs)::L):=by
 obtain⟨lf,e⟩:=Ce ks rs (λr hr=>(Q r hr).rd) ⇑0 L;unfold lJ pM;simp!;rw[Nm (c:="Player") (fs:=[("readings",.lst (rs.map λr=>lN (aT r (lf r))))]) (F:=bR) (by simp![e];rfl) rfl rfl];have pf:=yM P Q hl lf st L
 unfold KA at pf;simp![pf];exact Cg (xE _)
end
def Ci{α β:Type}{a:List α}{b:List β}(h:a.length<=b.length):(a.zip b).map (·.1)=a:=by
 induction a generalizing b with
 |nil=>rfl
 |cons x a ih=>
  cases b with
  |nil=>simp at h
  |cons y b=>simp_all
def Q9{α:Type}{h:α->T}{x y:T}{ns:List Cs}{vs:List α}{L:aa}(hx:vw L x=.lst (ns.map .str))(hy:vw L y=.lst (vs.map h)\/vw L y=.tup (vs.map h))(hn:ns.Nodup)(hl:ns.length<=vs.length)(h1:ns.length<=1000):jQ [x,y] L=.ok (.ref L.length) (.ay ((ns.zip vs).map λp=>(.str p.1,h p.2))::L):=by
 have e:jQ [x,y] L=uJ (zp (ns.map .str) (vs.map h)) L:=by
  unfold jQ;rcases hy with hy|hy
  ·simp only[hx,hy]
   exact ao ⇑hl
  ·simp only[hx,hy]
   exact ao ⇑hl
 rw[e,Nr];exact Bu (g:=λp:Cs × α=>p.1) (h:=λp=>h p.2) (ns.zip vs) (by rw[Ci hl];exact hn) (by(simp;omega)) L
def Cj{x y:T}{ns vs:List Cs}{L:aa}(hx:vw L x=.lst (ns.map .str))(hy:vw L y=.lst (vs.map .str)\/vw L y=.tup (vs.map .str))(hn:ns.Nodup)(hl:ns.length<=vs.length)(h1:ns.length<=1000):jQ [x,y] L=.ok (.ref L.length) (aI (ns.zip vs)::L):=Q9 hx hy hn hl h1
def Gm(ys:List Fc)(f:Fc):(ys.map fT).countP (λy=>eqT y (fT f))=ys.countP λa=>decide (a=f):=by
 rw[List.countP_map];exact List.countP_congr λa _=>by simp[tR]
def Ra(ys:List Fc)(f:Fc)(L:aa):v7 (.tup (ys.map fT)) [fT f] L=.ok (.int (ys.countP λa=>decide (a=f):Nat)) L:=by
 show cm _ _=_;rw[ao ⟨jU f,gn jU ys⟩,Gm]
def Rb(ys:List Fc)(f:Fc)(L:aa):v5 (.lst (ys.map fT)) [fT f] L=.ok (.int (ys.countP λa=>decide (a=f):Nat)) L:=by
 show cm _ _=_;rw[ao ⟨jU f,gn jU ys⟩,Gm]
def Ck(r:Rl)(ds:List Nat)(reps:List Cs)(hn:∀f∈r.take++r.keep,∀a∈f.as,cP a)(hf:((r.take++r.keep).flatMap (·.as)).length<=32)(hl:r.take.length+r.keep.length<=100)(ho:(opens (r.take++r.keep)).length<=ds.length)(hd:ds.length<=100)(hr:∀d∈ds,d<reps.length):
  ∃vs:List Cs,vs.length=(opens (r.take++r.keep)).length/\(∀v∈vs,v∈reps)/\∀L,dY [xT r,.lst (ds.map λd=>.int (d:Nat)),.lst (reps.map .str)] L=.ok (aI (cw r vs)) L:=by
 refine⟨(ds.take (opens (r.take++r.keep)).length).map λd=>reps.getD d [],by simp;omega,λv hv=>?_,λL=>?_⟩
 ·obtain⟨d,hm,rfl⟩:=VP.mp hv
  have:=hr d (WQ hm);rw[Gd9,Ge9 this];exact Wn _
 ·have en:=λL=>rL (r.take++r.keep) hn hf L
  unfold dY;simp_all![<- V1,en];generalize hc:comp _ _ _ _ _ _ _ _=r';obtain rfl:=aO hc (ds.take (opens (r.take++r.keep)).length) (λd:Nat=>T.int (d:Nat)) (λd=>.str (reps.getD d [])) (k:=stays (.lst ((ds.take (opens (r.take++r.keep)).length).map λd=>.int (d:Nat))) L) (by
   simp!;rw[mY (by simp;unfold lim;omega),ak,<- XJ]) aG (by simp;unfold lim;omega) (λd hd=>by
    have:=hr d (WQ hd);simp!;exact fS (by rw[Wx,Gd9,Ge9 this];rfl))
  have hx:=Cj (x:=.lst ((opens (r.take++r.keep)).map .str)) (y:=.lst ((ds.take (opens (r.take++r.keep)).length).map λd=>.str (reps.getD d []))) (vs:=(ds.take (opens (r.take++r.keep)).length).map λd=>reps.getD d []) (L:=L) rfl (.inl (by rw[Wc];rfl)) (Bk.gh _) (by simp;omega) ⇑0;simp![hx];exact du (jh _ _)
def JY(r:Rl)(st:aS)(ha:∀f∈r.take++r.keep,f.as.length<=1000)(hl:r.take.length+r.keep.length<=100)(L:aa):cV [xT r,aI st] L=.ok (.ref L.length) (.lst (((r.take++r.keep).map (wr st)).map fT)::L):=by
 unfold cV pM;rw[if_pos (show [xT r,aI st].length=2 from rfl)];simp only[cO,oz,w7,VU,WH,WJ,WM,Nat.sub_self,Wj];rw[aO rfl (r.take++r.keep) fT (λf=>fT (wr st f)) (k:=stays (.lst ((r.take++r.keep).map fT)) L) (by simp_all![<- V1]) (by exact aG) (by simp;unfold lim;omega) (by exact λf hf=>by simp!;exact JB (.inl rfl) f (ha f hf))];rw[show((r.take++r.keep).map λf=>fT (wr st f))=((r.take++r.keep).map (wr st)).map fT by rw[Wc];rfl];simp!;unfold yk;simp only[cq];rw[ao (V3 _),mC,ji (af bu)];rfl
def pn:List Kd × List Fc × aS × Nat × aa->Prop:=λ(ks,fs,st,n,L)=>∀(hk:ks.length<=1000)(hf:fs.length<900)(hs:st.length<900)(hx:at_ L n=s? (.lst (fs.map fT))),∃P Q S,P.Perm (fs.filter λf=>!d? (f.k∈aW ks))/\Q.Nodup/\(∀f,f∈Q↔f∈fs/\f.k∈aW ks)/\S.Perm st/\mq (Q.map fT)/\jb ((fs.filter λf=>!d? (f.k∈aW ks)).map fT)=P.map fT/\jb (st.map pT)=S.map pT /\
  eO [.lst (ks.map kT),.ref n,.lst (st.map pT)] L=.ok (gJ P Q S) L
namespace uw
def c:=uA ⟨by repeat' first|exact default|constructor⟩ pn
def ks:=c.1
def fs:=c.2.1
def st:=c.2.2.1
def n:=c.2.2.2.1
def L:=c.2.2.2.2
theorem t:pn (ks,fs,st,n,L):=by
 intro hk hf hs hx;have Js:((ks.filter (·.l)).map λk=>T.str k.n)=(aW ks).map T.str:=by simp[aW]
 refine gK λG n9=>?_
 obtain⟨P,Rc,Rf⟩:=Gh (fs.filter λf=>!d? (f.k∈aW ks));obtain⟨S,hS1,hS2⟩:=NK st;have main:∃kp:List Fc,kp.Nodup/\(∀f,f∈kp↔f∈fs/\f.k∈aW ks)/\∀Q,jb (kp.map fT)=Q.map fT->eO [.lst (ks.map kT),.ref n,.lst (st.map pT)] L=.ok (gJ P Q S) L:=by
  unfold eO;simp!;rw[dP rfl ks kT (·.l) (λk=>.str k.n) (by exact rfl) (by exact sv) ⇑1 (by exact λb _=>by simp!) (by exact λb _ _=>by simp!)];have hn:=cu hx
  have hv:∀c,at_ (c::L) n=s? (.lst (fs.map fT)):=λc=>by rw[at_,if_neg (Wm hn)];exact hx
  have wc:∀c d,stays (.ref n) (c::L) (d::L):=λc d m e=>by cases e;rw[hv,hv]
  simp![Js,hv];generalize ho:forL _ _ _ _ _ _=o;have h:=bN ho fs fT (λq φ L'=>∃(done kp:List Fc)(o5:Option T),done++q=fs/\kp.Nodup/\kp.length<=done.length/\(∀f,f∈kp↔f∈done/\f.k∈aW ks)/\φ=[s? (.lst (ks.map kT)),s? (.ref n),s? (.lst (st.map pT)),s? (.lst ((aW ks).map .str)),s? (.ref L.length),o5,n?]/\L'=.lst (kp.map fT)::L)
   (λo=>∃(kp:List Fc)(o5:Option T),kp.Nodup/\kp.length<=fs.length/\(∀f,f∈kp↔f∈fs/\f.k∈aW ks)/\o=.nx [s? (.lst (ks.map kT)),s? (.ref n),s? (.lst (st.map pT)),s? (.lst ((aW ks).map .str)),s? (.ref L.length),o5,n?] (.lst (kp.map fT)::L)) rfl
   ⟨[],[],n?,rfl,Xz,V3 _,⋯,rfl,rfl⟩ (λ_ _ eJ eP f q φ L' hh=>by
    obtain⟨done,kp,o5,e1,h1,h2,h3,rfl,rfl⟩:=hh;refine⟨wc _ _,_,rfl,?_⟩;have hd:done.length<=fs.length:=by rw[<- e1];simp
    simp![eJ,eP];have Gn:(f.k∉aW ks\/f∈kp)->(∀g,g∈kp↔g∈done++[f]/\g.k∈aW ks):=λhz g=>by
     rw[h3,VR,Wb];refine⟨λz=>⟨.inl z.1,z.2⟩,λz=>⟨z.1.elim id λe=>?_,z.2⟩⟩;subst e;rcases hz with hz|hz
     ·exact absurd z.2 hz
     ·exact((h3 g).mp hz).1
    by_cases hm:f.k∈aW ks
    ·simp![eJ,eP,hm,decide_true,MT (x:=f) (t:=.ref L.length) (ys:=kp) (L:=.lst (kp.map fT)::L) (by simp![eJ,eP])]
     by_cases hi:f∈kp
     ·simp![eJ,eP,hi,decide_true]
      exact⟨done++[f],kp,_,⇑e1,h1,by simp;omega,Gn (.inr hi),rfl,rfl⟩
     ·simp![eJ,eP,hi,decide_false,ao (show kp.length<lim by unfold lim;omega),bK]
      refine⟨done++[f],kp++[f],_,⇑e1,?_,by simp;omega,λg=>?_,rfl,rfl⟩
      ·rw[WW]
       exact⟨h1,⋯,λa ha b hb e=>hi (by simp at hb;rw[<- hb,<- e];exact ha)⟩
      ·rw[VR,Wb,VR,Wb,h3]
       refine⟨λz=>z.elim (λz=>⟨.inl z.1,z.2⟩) λe=>⟨.inr e,by rw[e];exact hm⟩,λz=>z.1.elim (λy=>.inl ⟨y,z.2⟩) .inr⟩
    ·simp![eJ,eP,hm,decide_false]
     exact⟨done++[f],kp,_,⇑e1,h1,by simp;omega,Gn (.inl hm),rfl,rfl⟩)
   λφ L' hh=>by
    obtain⟨done,kp,o5,e1,h1,h2,h3,rfl,rfl⟩:=hh;rw[V8]at e1;subst e1;exact⟨wc _ _,kp,o5,h1,h2,h3,rfl⟩
  obtain⟨kp,o5,k1,k2,k3,rfl⟩:=h;refine⟨kp,k1,k3,λQ hQ=>?_⟩;simp!;rw[dP rfl fs fT (λf=>!d? (f.k∈aW ks)) fT (k:=stays (.ref n) (.lst (kp.map fT)::L)) (by simp![hv]) (by exact aG) ⇑1 (by exact λb _=>by simp!) (by exact λb _ _=>by simp!)];have s1:=pj (x:=.lst ((fs.filter λf=>!d? (f.k∈aW ks)).map fT)) (L:=.lst (kp.map fT)::L) rfl (D5 (by have:=nG (p:=λf:Fc=>!d? (f.k∈aW ks)) (l:=fs) (n:=899) ⇑0;omega))
  have s2:=pj (x:=.ref L.length) (ys:=kp.map fT) (L:=.lst (kp.map fT)::L) (by simp!) (D5 ⇑0);have s3:=pj (x:=.lst (st.map pT)) (L:=.lst (kp.map fT)::L) rfl (Q5 hs)
  rw[Rf]at s1;rw[hQ]at s2;rw[hS2]at s3;simp![s1,s2,s3];exact ji (by rw[lt,eR,eR,eR,eR,eR,j5 bu,j5 bu,j5 iR];rfl)
 obtain⟨kp,k1,k2,k3⟩:=main;obtain⟨Q,q1,q2⟩:=Gh kp;refine n9 ?_;clear n9;exact⟨P,Q,S,Rc,q1.nodup_iff.mpr k1,λf=>(q1.mem_iff).trans (k2 f),hS1,by rw[<- q2];exact(b7 λy hy=>by obtain⟨f,_,rfl⟩:=VP.mp hy;exact JV f).2,Rf,hS2,k3 Q q2⟩
end uw
def JZ(ks fs st n L):pn (ks,fs,st,n,L):=cW uw.t _
def NP{L:aa}{x:T}{st:aS}(hx:nt L x st)(n:Cs):dQ [.str n,x] L=.ok (.str (aq st n)) L:=by
 unfold dQ;simp only[lz,VS,WL,YJ,if_true,cO,VU,WH,WJ,WM,ZG,Wj,w7];rw[vP (n:=n) hx rfl rfl];simp!
def Cm{L:aa}{x:T}{st:aS}(hx:nt L x st)(sm:tM st)(k:Lk)(h1:cP k.l)(h2:cP k.r):fo [pP k,x] L=.ok (.bl (iQ st k)) L:=by
 unfold fo iQ dq;have a1:=sm.aq h1
 have a2:=sm.aq h2;simp![NP hx];cases hs:k.same with
 |true=>
  simp![show(Bk.eK t?==S "same")=t? by rfl];grind
 |false=>
  simp![show(Bk.eK f?==S "same")=f? by rfl,qj (gV a1).1,qj (gV a2).1,show S "N"=[78] from rfl];rw[a1.2,a2.2,show(aq st k.l==aq st k.r)=d? (aq st k.l=aq st k.r) by by_cases h:aq st k.l=aq st k.r<;>simp[h]];have e:∀x:Nat,(x==78)=d? (x=78):=λx=>by rfl
  rw[e,e];cases d? ((aq st k.l).headD 0=78)<;>cases d? ((aq st k.r).headD 0=78)<;>exact fin_same rfl
def E1{α β:Type}(p:α->Bool)(q:β->Bool)(a:List α)(b:List β):d? ((0:Int)<((a.filter p).length:Int)+((b.filter q).length:Int))=(a.any p || b.any q):=by
 have k:∀{γ:Type}(p:γ->Bool)(a:List γ),a.any p=d? (0<(a.filter p).length):=λp a=>by
  induction a with
  |nil=>rfl
  |cons x a ih=>simp_all
 grind
def mM:List Kd × Rl × aS × List Fc × List Fc × aS × aa × T->Prop:=λ(ks,r,st,bp,bl,s0,L,x)=>∀(hk:ks.length<=1000)(sm:tM st)(hn:∀k∈r.ah,cP k.l/\cP k.r)(ha:∀f∈r.take++r.keep++r.put,f.as.length<=4)(ip:r.take.length<=4/\r.keep.length<=4/\r.ah.length<=4/\r.put.length<=4/\r.tell.length<=4)(hx:nt L x st),eM [.lst (ks.map kT),gJ bp bl s0,xT r,x] L=.ok (.bl (gj ks st r bp bl f?)) L
namespace qr
def c:=uA ⟨by repeat' first|exact default|constructor⟩ mM
def ks:=c.1
def r:=c.2.1
def st:=c.2.2.1
def bp:=c.2.2.2.1
def bl:=c.2.2.2.2.1
def s0:=c.2.2.2.2.2.1
def L:=c.2.2.2.2.2.2.1
def x:=c.2.2.2.2.2.2.2
def t:mM (ks,r,st,bp,bl,s0,L,x):=by
 intro hk sm hn ha ip hx;have Js:((ks.filter (·.l)).map λk=>T.str k.n)=(aW ks).map T.str:=by simp[aW]
 unfold eM gJ;simp!;rw[dP rfl ks kT (·.l) (λk=>.str k.n) (by exact rfl) (by exact sv) ⇑1 (by exact λb _=>by simp!) (by exact λb _ _=>by simp!)];simp![Js];rw[aO rfl (r.take++r.keep) fT (λf=>fT (wr st f)) (k:=stays (.lst ((r.take++r.keep).map fT)) L) (by simp_all![<- V1]) (by exact aG) (by simp;unfold lim;omega) (by exact λf hf=>by simp!;exact JB hx f (by have:=ha f (V2 _ hf);omega))];rw[show((r.take++r.keep).map λf=>fT (wr st f))=(iz st r).map fT by unfold iz;rw[Wc];rfl];simp!;unfold gj oH;generalize Si:iz st r=hs;generalize ho:forL _ _ _ _ _ _=o;have h:=bN ho hs fT (λq φ L'=>∃o5,q.all (gi ks bp bl hs)=hs.all (gi ks bp bl hs)/\φ=[s? (.lst (ks.map kT)),s? (.tup [.tup (bp.map fT),.tup (bl.map fT),.tup (s0.map pT),.bl f?]),s? (xT r),s? (x),s? (.lst ((aW ks).map .str)),o5,s? (.lst (hs.map fT)),n?,n?]/\L'=L)
  (λo=>(hs.all (gi ks bp bl hs)=f?/\o=.rt (.bl f?) L)\/(hs.all (gi ks bp bl hs)=t?/\∃o5,o=.nx [s? (.lst (ks.map kT)),s? (.tup [.tup (bp.map fT),.tup (bl.map fT),.tup (s0.map pT),.bl f?]),s? (xT r),s? (x),s? (.lst ((aW ks).map .str)),o5,s? (.lst (hs.map fT)),n?,n?] L)) rfl ⟨n?,rfl,rfl,rfl⟩ (λ_ _ eJ eP f q φ L' hh=>by
   obtain⟨o5,e1,rfl,rfl⟩:=hh;refine⟨sv,_,rfl,?_⟩;rw[WD]at e1;simp![eJ,eP];by_cases hm:f.k∈aW ks
   ·have hb:gi ks bp bl hs f=d? (f∈bl):=by unfold gi;rw[if_pos hm]
    rw[hb]at e1;by_cases hi:f∈bl
    ·simp![eJ,eP,hm,hi,decide_true]
     rw[decide_eq_true hi,ZH]at e1;exact⟨_,e1,rfl,by trivial⟩
    ·simp![eJ,eP,hm,hi,decide_false,decide_true]
     rw[decide_eq_false hi,Zj]at e1;exact .inl ⟨e1.symm,by trivial⟩
   ·have hb:gi ks bp bl hs f=d? (hs.countP (λa=>decide (a=f))<=bp.countP λa=>decide (a=f)):=by unfold gi;rw[if_neg hm]
    rw[hb]at e1;simp![eJ,eP,hm,decide_false,Ra,Rb];by_cases hi:hs.countP (λa=>decide (a=f))<=bp.countP λa=>decide (a=f)
    ·rw[decide_eq_true hi,ZH]at e1
     rw[decide_eq_false (show ¬ (((bp.countP λa=>decide (a=f):Nat)):Int)<((hs.countP λa=>decide (a=f):Nat):Int) by omega)];simp![eJ,eP];exact⟨_,e1,rfl,by trivial⟩
    ·rw[decide_eq_false hi,Zj]at e1
     rw[decide_eq_true (show(((bp.countP λa=>decide (a=f):Nat)):Int)<((hs.countP λa=>decide (a=f):Nat):Int) by omega)];simp![eJ,eP];exact .inl ⟨e1.symm,by trivial⟩)
  λφ L' hh=>by
   obtain⟨o5,e1,rfl,rfl⟩:=hh;exact⟨sv,.inr ⟨e1.symm,_,rfl⟩⟩
 rcases h with⟨e,rfl⟩|⟨e,o5,rfl⟩
 ·rw[e]
  simp!
 ·rw[e]
  simp!;generalize ho:forL _ _ _ _ _ _=o;have h:=bN ho r.ah pP (λq φ L'=>(∀k∈q,k∈r.ah)/\q.all (iQ st)=r.ah.all (iQ st)/\(∃o7,φ=[s? (.lst (ks.map kT)),s? (.tup [.tup (bp.map fT),.tup (bl.map fT),.tup (s0.map pT),.bl f?]),s? (xT r),s? (x),s? (.lst ((aW ks).map .str)),o5,s? (.lst (hs.map fT)),o7,n?])/\L'=L)
   (λo=>(r.ah.all (iQ st)=f?/\o=.rt (.bl f?) L)\/(r.ah.all (iQ st)=t?/\∃o7,o=.nx [s? (.lst (ks.map kT)),s? (.tup [.tup (bp.map fT),.tup (bl.map fT),.tup (s0.map pT),.bl f?]),s? (xT r),s? (x),s? (.lst ((aW ks).map .str)),o5,s? (.lst (hs.map fT)),o7,n?] L)) rfl ⟨λ_ h=>h,rfl,⟨n?,rfl⟩,rfl⟩ (λ_ _ eJ eP k q φ L' hh=>by
    obtain⟨hq,e1,⟨o7,rfl⟩,rfl⟩:=hh;refine⟨sv,_,rfl,?_⟩;rw[WD]at e1;obtain⟨q1,q2⟩:=hn k (hq k ⋯);simp![eJ,eP,Cm hx sm k q1 q2];cases hb:iQ st k with
    |true=>
     rw[hb,ZH]at e1;simp![eJ,eP];exact⟨λj hj=>hq j (by simp[hj]),e1,⟨_,rfl⟩,by trivial⟩
    |false=>
     rw[hb,Zj]at e1;simp![eJ,eP];exact .inl ⟨e1.symm,by trivial⟩)
   λφ L' hh=>by
    obtain⟨_,e1,⟨o7,rfl⟩,rfl⟩:=hh;exact⟨sv,.inr ⟨e1.symm,_,rfl⟩⟩
  rcases h with⟨e2,rfl⟩|⟨e2,o7,rfl⟩
  ·rw[e2]
   simp!
  ·rw[e2]
   simp!;by_cases ht:r.take=[]
   ·simp![show d? ((0:Int)<(r.take.length:Int))=f? by rw[ht];rfl,decide_eq_true ht]
    generalize hc:comp _ _ _ _ _ _ _ _=r';obtain rfl:=dP hc r.put fT (λf=>!d? (wr st f∈bl)) fT rfl sv ⇑1 (λf hf=>by
     simp![JB hx f (by have:=ha f (V6 _ hf);omega)]) λf _ _=>by simp!
    simp!;generalize hc:comp _ _ _ _ _ _ _ _=r';obtain rfl:=dP hc r.tell pT (λp=>!d? (aq st p.1=aq st p.2)) pT rfl sv ⇑1 (λp hp=>by
     simp![NP hx,show ∀a b:Cs,Tw (.str a) (.str b) L=cmp .NotEq (.str a) (.str b) L from λ_ _=>rfl];rw[show(aq st p.1==aq st p.2)=d? (aq st p.1=aq st p.2) by by_cases h:aq st p.1=aq st p.2<;>simp[h]]) λp _ _=>by simp!
    have q:∀(p:Fc->Bool)(q:Cs × Cs->Bool),((r.put.filter p).map fT++(r.tell.filter q).map pT).length<=lim:=λp q=>by
     simp only[VN,Lm9];exact VV (aa6 (Ww _ _) (Ww _ _)) ⇑1
    simp![ao (q _ _)];simp only[VN,Lm9,Int.natCast_add,E1,Bool.false_or];rfl
   ·simp![show d? ((0:Int)<(r.take.length:Int))=t? by rw[decide_eq_true_eq];have:=YX.mpr ht;omega,decide_eq_false ht]
    rw[Bool.true_or]
end qr
def E2(ks r st bp bl s0 L x):mM (ks,r,st,bp,bl,s0,L,x):=cW qr.t _
def Ka(n0 n1 n2 n3 w0 w1:Cs)(L:aa):gy [.lst [.str n0,.str n1,.str n2,.str n3],.lst [.str w0,.str w1]] L=.ok (.lst ([(n1,n1),(n2,n2),(n3,w0)].map pT)) L:=by
 unfold gy;simp!;exact fin_same (by rfl)
def Gp(L:aa)(x:T)(ys:List T):Prop:=x=.lst ys\/∃n,x=.ref n/\at_ L n=s? (.lst ys)
section
variable{L:aa}{x:T}{ys:List T}(h:Gp L x ys)
include h
def Gp.up(c:T):Gp (c::L) x ys:=h.imp id λ⟨n,e,ha⟩=>⟨n,e,by rw[at_,if_neg (Wm (cu ha))];exact ha⟩
def Gp.v:vw L x=.lst ys:=by
 rcases h with rfl|⟨n,rfl,ha⟩
 ·rfl
 ·show(at_ L n).getD .aY=_
  rw[ha];rfl
def Gp.st(c d:T):stays x (c::L) (d::L):=λn e=>by
 rcases h with rfl|⟨m,rfl,ha⟩
 ·cases e
 ·cases e
  rw[at_,if_neg (Wm (cu ha)),at_,if_neg (Wm (cu ha))]
end
def yN{reps:List Cs}{rows:List (List Cs)}{L:aa}{x:T}(hx:Gp L x (rows.map vT))(hr:reps.length<=4)(hl:rows.length<=1000)(hw:∀row∈rows,row.length<=10)(k:T)(o3 o5 o6:Option T):
  ∃z w,aL (src (v 2)) (.one 5) (ab [aL (src (v 0)) (.one 6) (ab [di (aF (ar) (v 4) [b2 (v 5) (tup [v 6]) (aK t? .Add)])])]) [s? (.lst (reps.map .str)),s? k,s? x,o3,s? (.ref L.length),o5,o6] (.lst []::L)=.nx [s? (.lst (reps.map .str)),s? k,s? x,o3,s? (.ref L.length),z,w] (.lst ((rows.flatMap λrow=>reps.map λy=>row++[y]).map vT)::L):=by
 simp only[rz,mS,vo,Xb,Xo,WK,a8,ak,xj (hx.up (.lst [])).v,of_ok];generalize ho:forL _ _ _ _ _ _=o;obtain⟨z,w,rfl⟩:=lD rows vT (λs:List (List Cs)=>.lst (s.map vT)) (λs row=>s++reps.map λy=>row++[y]) (λr s=>(∀row∈r,row.length<=10)/\s.length+4 * r.length<=5000) (λz w=>[s? (.lst (reps.map .str)),s? k,s? x,o3,s? (.ref L.length),z,w]) (s:=[]) ho (λ_=>hx.st _ _) (λ_ _ _=>rfl) ⟨hw,by simp;omega⟩ (λrow r s w h=>by
  obtain⟨h1,h⟩:=h;have h0:=h1 row VL
  rw[VS]at h;refine⟨⟨λy hy=>h1 y (VK _ hy),by rw[VN,Lm9];omega⟩,?_⟩;simp!;generalize ho:forL _ _ _ _ _ _=o;obtain⟨w',_,rfl⟩:=lD reps T.str (λs:List (List Cs)=>.lst (s.map vT)) (λs y=>s++[row++[y]]) (λr s=>s.length+r.length<=6000) (λw(_:Unit)=>[s? (.lst (reps.map .str)),s? k,s? x,o3,s? (.ref L.length),s? (vT row),w]) (w:=()) (s:=s) ho (λ_=>sv) (λ_ _ _=>rfl) ⇑0 (λy r s _ h=>by
   rw[VS]at h;refine⟨by rw[VN];simp;omega,(),?_⟩;have e:∀L,aK t? .Add (vT row) (.tup [.str y]) L=.ok (vT (row++[y])) L:=λL=>by
    show cm ((row.map T.str).length+[T.str y].length<=lim) _=_;rw[ao (by rw[Lm9];simp;unfold lim;omega)];unfold vT;rw[V1];rfl
   simp![e,ao (show s.length<lim by unfold lim;omega)];rw[V1];rfl)
  have ef:reps.foldl (λs y=>s++[row++[y]]) s=s++reps.map λy=>row++[y]:=by
   have:=vS (reps.map λy=>row++[y]) s;rw[List.foldl_map]at this;exact this
  simp![ef];exact⟨w',rfl⟩)
 rw[mL];exact⟨z,w,rfl⟩
def mN:List Cs × Nat × aa->Prop:=λ(reps,k,L)=>∀(hr:reps.length<=4)(hk:k<=3),gx [.lst (reps.map .str),.int (k:Nat)] L=.ok (.lst ((dM reps k).map vT)) L
namespace qt
def c:=uA ⟨by repeat' first|exact default|constructor⟩ mN
def reps:=c.1
def k:=c.2.1
def L:=c.2.2
def t:mN (reps,k,L):=by
 intro hr hk;have hlen:∀j,j<=3->(dM reps j).length<=64:=λj hj=>VV (ig _ _) (VV (YY hr _) (X5 ∅ hj))
 unfold gx;simp!;rw[Be _ _ _ _ rfl rfl ⟨qi (n:=0) ∅,qi (n:=k) ⇑0⟩];simp only[of_ok];generalize ho:forL _ _ _ _ _ _=o;have z:=bN ho (W9 k) (λj:Nat=>T.int (0+(j:Int))) (λq φ L'=>∃(done:List Nat)(X:aa)(x:T)(o3 o4 o5 o6:Option T),done++q=W9 k/\L'=X++L/\Gp L' x ((dM reps done.length).map vT)/\(∀n,x=.ref n->L.length<=n)/\φ=[s? (.lst (reps.map .str)),s? (.int (k:Nat)),s? x,o3,o4,o5,o6])
  (λo=>∃(X:aa)(x:T)(o3 o4 o5 o6:Option T),Gp (X++L) x ((dM reps k).map vT)/\(∀n,x=.ref n->L.length<=n)/\o=.nx [s? (.lst (reps.map .str)),s? (.int (k:Nat)),s? x,o3,o4,o5,o6] (X++L)) (by rfl) ⟨[],[],.lst [.tup []],n?,n?,n?,n?,rfl,rfl,.inl rfl,(λn e=>nomatch e),rfl⟩ (λ_ _ eJ eP j q φ L' hh=>by
   obtain⟨done,X,x,o3,o4,o5,o6,e1,rfl,hx,hn,rfl⟩:=hh;have hd:done.length+1<=k:=by
    have:=congrArg Xg e1;grind
   refine⟨trivial,_,rfl,?_⟩;obtain⟨z,w,e⟩:=yN (reps:=reps) hx hr (by have:=hlen done.length ⇑0;omega) (λrow h=>by have:=((ie reps _ row).mp h).1;omega) (.int (k:Nat)) (s? (.int (0+(j:Int)))) o5 o6;simp only[cO,oy,FD,gP,ak,fG,FI,mk,Ws,if_false,of_ok,Tg.set,jD,Xq,Xp];rw[ba (show([]:List T).length<=lim from Wg _),of_ok,jD,cO,e,jD];simp![eJ,eP];refine⟨done++[j],.lst ((dM reps (done.length+1)).map vT)::X,.ref (X++L).length,_,_,_,_,⇑e1,rfl,.inr ⟨_,rfl,?_⟩,λn e=>?_,rfl⟩
   ·rw[VN (as:=done)]
    exact cq
   ·cases e
    rw[VN];omega) λφ L' hh=>by
   grind
 obtain⟨X,x,o3,o4,o5,o6,hx,hn,rfl⟩:=z;simp!;rcases hx with rfl|⟨n,rfl,ha⟩
 ·exact jd (af λ_ _=>j5 (g:=T.str) λ_ _=>rfl)
 ·exact xg ha (hn n rfl) (af λ_ _=>j5 (g:=T.str) λ_ _=>rfl)
end qt
def E3(reps k L):mN (reps,k,L):=cW qt.t _
structure Lr(r:Rl):Prop where
 na:∀f∈r.take++r.keep,∀a∈f.as,cP a
 fl:((r.take++r.keep).flatMap (·.as)).length<=32
 n3:(eW r).length<=3
 lk:∀k∈r.ah,cP k.l/\cP k.r
 f4:∀f∈r.take++r.keep++r.put,f.as.length<=4
 ip:r.take.length<=4/\r.keep.length<=4/\r.ah.length<=4/\r.put.length<=4/\r.tell.length<=4
def E4{a b:List T}(ha:∀y∈a,kd 8 y=t?)(hb:∀y∈b,kd 8 y=t?)(h:∀x∈a,∀y∈b,ltN 8 y x=f?):jb (a++b)=jb a++jb b:=by
 obtain⟨p1,r1⟩:=b7 ha;obtain⟨p2,r2⟩:=b7 hb;refine qT (VQ.mpr λy hy=>(VR.mp hy).elim (ha y) (hb y)) (p1.append p2) ?_;unfold mq;rw[Xr];exact⟨r1,r2,λx hx y hy=>h x (p1.mem_iff.mp hx) y (p2.mem_iff.mp hy)⟩
def NQ{i j:Nat}(h:i<j)(a b:List Cs):ltN 8 (stepT j b) (stepT i a)=f?:=by
 show pA (ltN 7) [.int (j:Nat),vT b] [.int (i:Nat),vT a]=f?;unfold pA;rw[if_neg λe=>by injection e with e;omega];exact decide_eq_false ⇑0
def xF:∀{A:List T},(∀y∈A,∃p:Nat × List Cs,y=stepT p.1 p.2)->∃B:List (Nat × List Cs),A=B.map λp=>stepT p.1 p.2:=by
 intro l9;induction l9 with
 |nil=>intro _;exact⟨[],rfl⟩
 |cons a A ih=>
  intro h;obtain⟨B,e⟩:=ih λy hy=>h y (VK _ hy)
  obtain⟨p,rfl⟩:=h a VL;exact⟨p::B,by rw[e];rfl⟩
def ux{ks:List Kd}{bp bl:List Fc}{reps:List Cs}(hr:reps.length<=4){r:Rl}(n3:(eW r).length<=3)(i:Nat):(dU ks bp bl reps (r,i)).length<=64:=by
 unfold dU;rw[Lm9];exact VV (Ww _ _) (VV (ig _ _) (VV (YY hr _) (X5 ∅ n3)))
def sf:List Kd × List Fc × List Fc × List Cs × List Rl × aS × aa->Prop:=λ(ks,bp,bl,reps,rs,st,L)=>∀(hk:ks.length<=1000)(Q:∀r∈rs,Lr r)(hr:reps.length<=4)(hn:∀a∈reps,cP a)(hl:rs.length<=10),iC [.lst (ks.map kT),gJ bp bl st,.lst (rs.map xT),.lst (reps.map .str)] L=.ok (.lst (jb (rs.zipIdx.flatMap (dU ks bp bl reps)))) L
namespace xG
def c:=uA ⟨by repeat' first|exact default|constructor⟩ sf
def ks:=c.1
def bp:=c.2.1
def bl:=c.2.2.1
def reps:=c.2.2.2.1
def rs:=c.2.2.2.2.1
def st:=c.2.2.2.2.2.1
def L:=c.2.2.2.2.2.2
def t:sf (ks,bp,bl,reps,rs,st,L):=by
 intro hk Q hr hn hl;unfold iC;simp![uj];generalize ho:forL _ _ _ _ _ _=o;have z:=bN ho rs.zipIdx (λp=>.tup [.int (p.2:Nat),xT p.1]) (λq φ L'=>∃(done:List (Rl × Nat))(X:aa)(o5 o6 o7 o8:Option T),done++q=rs.zipIdx/\(done.flatMap (dU ks bp bl reps)).length<=64 * done.length/\φ=[s? (.lst (ks.map kT)),s? (gJ bp bl st),s? (.lst (rs.map xT)),s? (.lst (reps.map .str)),s? (.ref L.length),o5,o6,o7,o8]/\L'=X ++ .lst (done.flatMap (dU ks bp bl reps))::L)
  (λo=>∃(X:aa)(o5 o6 o7 o8:Option T),(rs.zipIdx.flatMap (dU ks bp bl reps)).length<=640/\o=.nx [s? (.lst (ks.map kT)),s? (gJ bp bl st),s? (.lst (rs.map xT)),s? (.lst (reps.map .str)),s? (.ref L.length),o5,o6,o7,o8] (X ++ .lst (rs.zipIdx.flatMap (dU ks bp bl reps))::L)) rfl ⟨[],[],n?,n?,n?,n?,rfl,V3 _,rfl,rfl⟩ (λ_ _ eJ eP p q φ L' hh=>by
   obtain⟨done,X,o5,o6,o7,o8,e1,e2,rfl,rfl⟩:=hh;obtain⟨r,i⟩:=p;have hr':r∈rs:=by
    have:(r,i)∈rs.zipIdx:=by rw[<- e1];simp
    grind
   have yo:done.length+1<=10:=by
    have:=congrArg Xg e1;rw[VN,X1,VS]at this;omega
   have q:=Q r hr';have ip:=q.ip
   generalize x7:done.flatMap (dU ks bp bl reps)=acc at *
   refine⟨sv,_,rfl,?_⟩;have en:=λL=>rL (r.take++r.keep) q.na q.fl L
   have el:=λL=>E3 reps (eW r).length L hr q.n3
   simp_all![<- V1,en];unfold eW at el;simp![el];generalize ho:forL _ _ _ _ _ _=o;have z:=bN ho (dM reps (opens (r.take++r.keep)).length) vT (λq φ L'=>∃(dn:List (List Cs))(X:aa)(o8:Option T),dn++q=dM reps (opens (r.take++r.keep)).length/\φ=[s? (.lst (ks.map kT)),s? (gJ bp bl st),s? (.lst (rs.map xT)),s? (.lst (reps.map .str)),s? (.ref L.length),s? (.int (i:Nat)),s? (xT r),s? (.lst ((opens (r.take++r.keep)).map .str)),o8]/\L'=X ++ .lst (acc++(dn.filter λvs=>gj ks (cw r vs) r bp bl f?).map (stepT i))::L)
    (λo=>∃(X:aa)(o8:Option T),o=.nx [s? (.lst (ks.map kT)),s? (gJ bp bl st),s? (.lst (rs.map xT)),s? (.lst (reps.map .str)),s? (.ref L.length),s? (.int (i:Nat)),s? (xT r),s? (.lst ((opens (r.take++r.keep)).map .str)),o8] (X ++ .lst (acc++dU ks bp bl reps (r,i))::L)) rfl ⟨[],X,_,rfl,rfl,⋯⟩ (λ_ _ eJ eP vs q' φ L' hh=>by
     obtain⟨dn,X,o8,e3,rfl,rfl⟩:=hh;have U8:vs.length=(opens (r.take++r.keep)).length/\∀v∈vs,v∈reps:=(ie reps _ vs).mp (by rw[<- e3];simp)
     have n3:=q.n3;unfold eW at n3;have hdn:(dn.filter λvs=>gj ks (cw r vs) r bp bl f?).length<=64:=by
      have h1:=congrArg Xg e3;rw[VN]at h1;have h2:=VV (ig reps (opens (r.take++r.keep)).length) (VV (YY hr _) (X5 ∅ n3))
      grind
     generalize U9:acc++(dn.filter λvs=>gj ks (cw r vs) r bp bl f?).map (stepT i)=ac at *
     have Rg:ac.length<lim:=by
      rw[<- U9,VN,Lm9];unfold lim;omega
     have sm:tM (cw r vs):=λe he=>by
      have z:=Xm (show(e.1,e.2)∈_ from he);obtain⟨⟨f,hf,ha⟩,_⟩:=Bk.cv z.1;exact⟨q.na f hf _ ha,hn _ (U8.2 _ z.2)⟩
     have eb:∀L,bG t? [vT vs] L=.ok (.lst (vs.map .str)) L:=λL=>by
      unfold bG vT;simp only[vw];rw[fG,ao (by rw[Lm9];unfold lim;omega)];rfl
     have ez:∀L,jQ [.lst ((opens (r.take++r.keep)).map .str),.lst (vs.map .str)] L=.ok (.ref L.length) (aI (cw r vs)::L):=λL=>Cj rfl (.inl rfl) (Bk.gh _) ⇑0 ⇑0
     have ef:∀L,eM [.lst (ks.map kT),gJ bp bl st,xT r,.ref L.length] (aI (cw r vs)::L)=.ok (.bl (gj ks (cw r vs) r bp bl f?)) (aI (cw r vs)::L):=λL=>E2 ks r (cw r vs) bp bl st _ _ hk sm q.lk q.f4 q.ip (.inr ⟨_,rfl,cq⟩)
     have xf:at_ (aI (cw r vs)::(X ++ .lst ac::L)) L.length=s? (.lst ac):=by
      rw[<- WJ,gU _ ⋯];exact cq
     have Va:put (aI (cw r vs)::(X ++ .lst ac::L)) L.length (.lst (ac++[stepT i vs]))=aI (cw r vs)::X ++ .lst (ac++[stepT i vs])::L:=by
      rw[<- WJ,rE _ ⋯,mC]
     refine⟨sv,_,rfl,?_⟩;simp![eb,ez,ef];cases hf:gj ks (cw r vs) r bp bl f? with
     |true=>
      simp![eJ,eP,xf,ao Rg,show T.tup [.int (i:Nat),vT vs]=stepT i vs from rfl,Va];refine⟨dn++[vs],aI (cw r vs)::X,_,⇑e3,rfl,?_⟩;grind
     |false=>
      simp![eJ,eP];refine⟨dn++[vs],aI (cw r vs)::X,_,⇑e3,rfl,?_⟩;simp_all) λφ L' hh=>by
     obtain⟨dn,X,o8,e3,rfl,rfl⟩:=hh;rw[V8]at e3;rw[e3];exact⟨sv,X,o8,rfl⟩
   obtain⟨X',VG,rfl⟩:=z;simp![eJ,eP];have len:=ux (ks:=ks) (bp:=bp) (bl:=bl) hr q.n3 i
   refine⟨done++[(r,i)],X',_,_,_,_,⇑e1,?_,rfl,?_⟩
   ·grind
   simp_all) λφ L' hh=>by
   obtain⟨done,X,o5,o6,o7,o8,e1,e2,rfl,rfl⟩:=hh;rw[V8]at e1;subst e1;refine⟨sv,X,_,_,_,_,?_,rfl⟩;rw[X1]at e2;omega
 obtain⟨X,o5,o6,o7,o8,hlen,rfl⟩:=z;generalize hA:rs.zipIdx.flatMap (dU ks bp bl reps)=A at *
 have xf:at_ (X ++ .lst A::L) L.length=s? (.lst A):=by
  rw[gU _ ⋯];exact cq
 have hall:∀y∈A,∃p:Nat × List Cs,y=stepT p.1 p.2:=λy hy=>by
  rw[<- hA]at hy;obtain⟨p,_,hy⟩:=W2.mp hy;obtain⟨vs,_,rfl⟩:=VP.mp hy;exact⟨(_,_),rfl⟩
 obtain⟨B,rfl⟩:=xF hall;rw[Lm9]at hlen;have hv:vw (X ++ .lst (B.map λp=>stepT p.1 p.2)::L) (.ref L.length)=.lst (B.map λp=>stepT p.1 p.2):=by rw[eU,xf];rfl
 simp![pj hv (Gi ⇑0)];rw[show ∀a:T,X++a::L=(X++[a])++L by simp];refine jd ?_;rw[lt];refine xD λy hy=>?_
 obtain⟨p,_,rfl⟩:=VP.mp ((b7 λy hy=>by obtain⟨p,_,rfl⟩:=VP.mp hy;exact Cd _ _).1.mem_iff.mp hy);exact Gj _ _ _
end xG
def NS(ks bp bl reps rs st L):sf (ks,bp,bl,reps,rs,st,L):=cW xG.t _
theorem Rk.t{ks:List Kd}{r:Rl}(q:Rk ks r)(t:Cs):Rk ks (lA r t):=⟨⟨q.rd.nn,q.rd.n3,q.rd.lk,q.rd.f4,q.rd.tl,q.rd.ip⟩,q.gr,q.ff,q.n3⟩
def xH{ks:List Kd}{ns ws:List Cs}{rs:List Rl}(B:rA ks ns ws rs){r:Rl}(hr:r∈rs):Rk ks r/\Lr r:=by
 have d:=B.rd r hr;have hG:=B.kg
 have n3:=B.Je hr;have ip:=d.ip
 have nk:∀{n},n∈ns.take 3++ws->cP n:=λh=>B.OC _ ((VR.mp h).elim (λz=>V2 _ (WQ z)) (V6 _))
 have hd:∀f∈r.take++r.keep,oG ks (ns.take 3++ws) f:=λf hf=>(VR.mp hf).elim (λh=>(d.take f h).sub (λk hk=>(Wq.mp hk).1) λ_ h=>h) (d.keep f)
 have on:∀{n},n∈eW r++ws->cP n:=λ{n}h=>(VR.mp h).elim (λz=>by
  obtain⟨⟨f,hf,ha⟩,_⟩:=Bk.cv z;exact nk ((hd f hf).2 n ha)) λz=>nk (V6 _ z)
 have og:∀{n},n∈eW r++ws->great n=t?->n∈eW r:=λ{n}h g=>(VR.mp h).elim id λz=>by rw[B.wg n z]at g;cases g
 have hp:∀f∈r.put,oG ks (eW r++ws) f:=λf hf=>(d.put f hf).sub (λk hk=>by
  grind) λ_ h=>h
 have f4:∀{ns f},oG ks ns f->f.as.length<=4/\cT ks f:=λ⟨⟨k,hk,e1,e2⟩,_⟩=>⟨by rw[e2];exact(hG.ok k hk).2,k,hk,e1.symm,e2⟩
 have F4:∀f∈r.take++r.keep++r.put,f.as.length<=4/\∀a∈f.as,cP a:=λf hf=>(VR.mp hf).elim (λh=>⟨(f4 (hd f h)).1,λa ha=>nk ((hd f h).2 a ha)⟩) λh=>⟨(f4 (hp f h)).1,λa ha=>on ((hp f h).2 a ha)⟩
 refine⟨⟨⟨λn h=>on (V2 _ h),by show(opens _).length<=20;omega,λk hk=>⟨on (d.ah k hk).1,on (d.ah k hk).2⟩,F4,λp hp=>⟨on (d.tell p hp).1,on (d.tell p hp).2⟩,ip⟩,λx hx g=>?_,λf hf=>(f4 (hd f hf)).2,n3⟩,λf hf a ha=>nk ((hd f hf).2 a ha),?_,n3,λk hk=>⟨on (d.ah k hk).1,on (d.ah k hk).2⟩,λf hf=>(F4 f hf).1,?_⟩
 ·rcases hx with⟨f,hf,ha⟩|⟨k,hk,e⟩|⟨p,hp,e⟩
  ·rcases VR.mp hf with hf|hf
   ·exact Bk.qd hf ha g
   ·exact og ((hp f hf).2 x ha) g
  ·rcases e with rfl|rfl
   ·exact og (d.ah k hk).1 g
   ·exact og (d.ah k hk).2 g
  ·rcases e with rfl|rfl
   ·exact og (d.tell p hp).1 g
   ·exact og (d.tell p hp).2 g
 ·have:=Bk.bZ (l:=r.take++r.keep) (g:=(·.as)) (B:=4) λf h=>(f4 (hd f h)).1
  obtain⟨a,b,_⟩:=ip;rw[VN]at this;omega
 ·obtain⟨a,b,c,e,f⟩:=ip
  omega
theorem xI{α:Type}(p:α->Bool):∀l:List α,(l.filter p).length+(l.filter λa=>!p a).length=l.length
 | []=>rfl
 |a::l=>by
  have:=xI p l;grind
def Pf(ks:List Kd)(reps:List Cs)(f:Fc):Prop:=cT ks f/\f.as.length<=4/\∀a∈f.as,a∈reps
def NT{ks:List Kd}(hG:KG ks){reps:List Cs}(rn:∀a∈reps,cP a)(r4:reps.length<=4)(rd:reps.Nodup){fs P Q:List Fc}(hf:∀f∈fs,Pf ks reps f)(hl:fs.length<=20)(hP:P.Perm (fs.filter λf=>!d? (f.k∈aW ks)))(OI:Q.Nodup)(KC:∀f,f∈Q↔f∈fs/\f.k∈aW ks):Pk ks P Q reps:=by
 have kP:∀f∈P,f∈fs/\f.k∉aW ks:=λf h=>by
  obtain⟨h1,h2⟩:=Wq.mp (hP.mem_iff.mp h);exact⟨h1,⇑h2⟩
 have kA:∀f∈P++Q,Pf ks reps f:=λf h=>hf f ((VR.mp h).elim (λh=>(kP f h).1) λh=>((KC f).mp h).1)
 refine⟨hG.nd,OI,λf h=>(kP f h).2,λf h=>((KC f).mp h).2,λf h=>(kA f h).1,λf h=>(kA f h).2.1,λf h=>(kA f h).2.2,rn,r4,rd,?_⟩;have q:=BY OI (m:=fs.filter λf=>decide (f.k∈aW ks)) λf h=>Wq.mpr ⟨((KC f).mp h).1,decide_eq_true ((KC f).mp h).2⟩
 have s:=xI (λf:Fc=>decide (f.k∈aW ks)) fs;rw[hP.length_eq];omega
def E5{ks:List Kd}{ns ws:List Cs}{rs:List Rl}(B:rA ks ns ws rs){r:Rl}(hr:r∈rs){vs reps:List Cs}(hv:∀v∈vs,v∈reps)(hl:vs.length=(opens (r.take++r.keep)).length)(hw:∀w∈ws,w∈reps):∀f∈(r.take++r.keep).map (wr (cw r vs)),Pf ks reps f:=λf hf=>by
 obtain⟨g,hg,rfl⟩:=VP.mp hf;obtain⟨q,_⟩:=xH B hr;have d:=B.rd r hr
 have hd:oG ks (ns.take 3++ws) g:=(VR.mp hg).elim (λh=>(d.take g h).sub (λk hk=>(Wq.mp hk).1) λ_ h=>h) (d.keep g);obtain⟨k,hk,e1,e2⟩:=q.ff g hg;refine⟨⟨k,hk,e1,by show(g.as.map _).length=_;simp_all⟩,by show(g.as.map _).length<=4;rw[Lm9];exact(q.rd.f4 g (V2 _ hg)).1,λa ha=>?_⟩;obtain⟨x,hx,rfl⟩:=VP.mp ha;cases g':great x with
 |true=>
  have hm:x∈(cw r vs).map (·.1):=by rw[Bk.qg hl];exact Bk.qd hg hx g'
  obtain⟨e,he,rfl⟩:=VP.mp hm;unfold aq;cases h:gQ (cw r vs) e.1 with
  |none=>
   unfold gQ at h;exact absurd (X0.mp (Zd.mp h) e he) ⋯
  |some v=>exact hv v (Bk.Ek (Bk.Ej h))
 |false=>
  have hm:x∉(cw r vs).map (·.1):=λz=>by
   rw[Bk.qg hl]at z;have:=(Bk.cv z).2
   simp_all
  rw[rY hm];rcases VR.mp (hd.2 x hx) with z|z
  ·rw[B.ng x (WQ z)]at g';cases g'
  ·exact hw x z
def E6{ks:List Kd}{P Q:List Fc}{reps:List Cs}{rs:List Rl}(h:rs.length=2):jb (rs.zipIdx.flatMap (dU ks P Q reps))=allR ks P Q reps (aA rs):=by
 match rs,h with
 | [a,b],_=>
  show jb (dU ks P Q reps (a,0)++(dU ks P Q reps (b,1)++[]))=jb (dU ks P Q reps (a,0))++(jb (dU ks P Q reps (b,1))++[]);rw[V8,V8];refine E4 jK jK λx hx y hy=>?_
  obtain⟨u,_,rfl⟩:=VP.mp hx;obtain⟨w,_,rfl⟩:=VP.mp hy;exact NQ (show(0:Nat)<1 by decide) _ _
def Kb(i:Nat)(vs:List Cs):dat 7 (stepT i vs)=t?:=by
 show(dat 6 (.int (i:Nat)) && (dat 6 (vT vs) && t?))=t?;rw[show dat 6 (vT vs)=(vs.map T.str).all (dat 5) from rfl,show(vs.map T.str).all (dat 5)=t? from VQ.mpr λx hx=>by obtain⟨y,_,rfl⟩:=VP.mp hx;rfl];rfl
def Vb{a b n:Nat}:min b n - min a n<=b - a:=by omega
def NU(cs:List Int)(a b:Nat)(L:aa)(h:cs.length<=63):∃Sk:List Int,Sk.length<=b - a/\lV t? (.lst (cs.map .int)) (s? (a:Int)) (s? (b:Int)) L=.ok (.lst (Sk.map .int)) L:=by
 refine⟨(cs.drop (min a cs.length)).take (min b cs.length - min a cs.length),by rw[W8];exact VV (Nat.min_le_left _ _) Vb,?_⟩;show fG t? (cut (cs.map .int) (s? (a:Int)) (s? (b:Int))) L=_
 unfold cut;rw[xp,xp,Lm9,<- aau,<- XJ,fG,ao (by rw[Lm9,W8,WG];exact VV (VV (aaC _ _) (Nat.sub_le _ _)) (VV h ∅))];rfl
def E7{k:aa->Prop}{b:SS}{o:O}{L:aa}(xs:List Int)(A:List Fc)(good:Fc->Prop)(i:Nat)(F:Option T->Fr)(z:Option T)(ho:forL k (.one i) b (xs.map .int) (F z) (.lst (A.map fT)::L)=o)(hk:∀L',k L')(hF:∀z x,(F z).set i (s? x)=F (s? x))
  (hb:∀(x:Int)(A':List Fc),A'.length<=A.length+xs.length->∃f,good f/\b (F (s? (.int x))) (.lst (A'.map fT)::L)=.nx (F (s? (.int x))) (.lst ((A'++[f]).map fT)::L)):
  ∃D z,D.length=xs.length/\(∀f∈D,good f)/\o=.nx (F z) (.lst ((A++D).map fT)::L):=by
 refine bN ho xs T.int (λq φ L'=>∃D z,D.length+q.length=xs.length/\(∀f∈D,good f)/\φ=F z/\L'=.lst ((A++D).map fT)::L) (λo=>∃D z,D.length=xs.length/\(∀f∈D,good f)/\o=.nx (F z) (.lst ((A++D).map fT)::L)) rfl ⟨[],z,⋯,⋯,rfl,⋯⟩ (λ_ _ eJ eP x q φ L' hh=>?_) λφ L' hh=>?_
 ·obtain⟨D,z,h1,h2,rfl,rfl⟩:=hh
  obtain⟨f,hf,e⟩:=hb x (A++D) (by(simp;omega));refine⟨hk _,_,rfl,?_⟩;rw[hF,e,oJ,eJ];grind
 simp_all
def NV(cs:List Int)(hc:cs.length<=63)(L:aa):tU [.lst (cs.map .int)] L=.ok (.bl t?) L:=by
 obtain⟨ks,ns,ws,rs,B,hP,eb⟩:=QR cs;have hG:=B.kg
 have h4:=hG.len;have NW:=ug hG B.Qf.1 B.Qf.2.1 B.Qf.2.2
 have NY:=λL=>Jy ks rs L hG B.r2 B.rl
 obtain⟨n0,n1,n2,n3,rfl⟩:∃a b c d,ns=[a,b,c,d]:=by
  have:=B.n4
  match ns,this with
  | [a,b,c,d],_=>simp
 obtain⟨w0,w1,rfl⟩:∃a b,ws=[a,b]:=by
  have:=B.w2
  match ws,this with
  | [a,b],_=>simp
 obtain⟨_,p,ed⟩:=mX (cs.getD 6 0) [2,4,4,4] ∅ ∅;obtain⟨d0,_,rfl,h0,p⟩:=P1 p;obtain⟨d1,_,rfl,h1,p⟩:=P1 p;obtain⟨d2,_,rfl,h2,p⟩:=P1 p;obtain⟨d3,_,rfl,h3,p⟩:=P1 p;obtain rfl:=P0 p;simp only[VU,WH]at ed eb;obtain⟨r,hr⟩:∃r,rs[d0]?=s? r:=⟨_,Ge9 (by rw[B.r2];omega)⟩;have Sl:r∈rs:=Wd hr
 obtain⟨q,lr⟩:=xH B Sl;have ip:=q.rd.ip
 have x1:∀L,ix (.lst (rs.map xT)) (.int (d0:Nat)) L=.ok (xT r) L:=λL=>fS (by simp_all)
 have ec:∀L,bH [.lst (cs.map .int),.int 6] L=.ok (.int (cs.getD 6 0)) L:=λL=>rK cs 6 ∅ L
 have Vc:∀L,lV t? (.lst [.str n0,.str n1,.str n2,.str n3]) (s? 1) (s? 3) L=.ok (.lst [.str n1,.str n2]) L:=λL=>rfl
 have Vd:∀L,lV t? (.lst [.int (d0:Nat),.int (d1:Nat),.int (d2:Nat),.int (d3:Nat)]) (s? 1) n? L=.ok (.lst ([d1,d2,d3].map λd=>.int (d:Nat))) L:=λL=>rfl
 obtain⟨reps,uy⟩:∃reps,reps=[w0,w1,n1,n2]:=⟨_,rfl⟩;have r4:reps.length=4:=by rw[uy];rfl
 have Ve:∀v∈reps,v∈[n0,n1,n2,n3]++[w0,w1]:=λv hv=>by rw[uy]at hv;simp at hv ⊢;grind
 have rn:∀a∈reps,cP a:=λa ha=>B.OC a (Ve a ha)
 have rd:reps.Nodup:=by
  have:=B.nd;rw[uy];simp at this ⊢;grind
 obtain⟨vs,hv1,Vf,H3⟩:=Ck r [d1,d2,d3] reps lr.na lr.fl ⇑0 (by have:=lr.n3;exact this) ⋯ (λd hd=>by
  grind)
 have ei:=JY r (cw r vs) (λf hf=>by have:=(q.rd.f4 f (V2 _ hf)).1;omega) ⇑0 L;have uC:=E5 B Sl Vf hv1 (reps:=reps) (λw hw=>by rw[uy];simp at hw ⊢;grind)
 generalize hA:(r.take++r.keep).map (wr (cw r vs))=A at *
 have al:A.length<=4:=by rw[<- hA,Lm9,VN];omega
 have er:reps.map T.str=[.str w0,.str w1,.str n1,.str n2]:=by rw[uy];rfl
 rw[er]at H3;simp only[VU,WH]at H3;obtain⟨c1,VH,Rh⟩:=NU cs 7 19 (.lst (A.map fT)::L) hc;have Rh:lV t? (.lst (cs.map .int)) (s? 7) (s? 19) (.lst (A.map fT)::L)=_:=Rh
 unfold tU;simp![eb,ec,ed,NY,NW,x1,Vc,Vd,ao (show 4<=lim by decide),H3,ei,Rh];generalize ho:forL _ _ _ _ _ _=o;obtain⟨D,z,hD,gD,rfl⟩:=E7 c1 A (Pf ks reps) 9 (λz=>[s? (.lst (cs.map .int)),s? (.lst (ks.map kT)),s? (.lst [.str n0,.str n1,.str n2,.str n3]),s? (.lst [.str w0,.str w1]),s? (.lst (rs.map xT)),s? (.lst [.int (d0:Nat),.int (d1:Nat),.int (d2:Nat),.int (d3:Nat)]),s? (rB ks (aA rs)),s? (.lst [.str w0,.str w1,.str n1,.str n2]),s? (.ref L.length),z,n?,n?,n?,n?]) n? ho (λ_=>sv) (λ_ _=>rfl) (λx A' hA'=>by
  obtain⟨_,p,e⟩:=mX x [1024] ∅ ∅;obtain⟨d,_,rfl,_,p⟩:=P1 p;obtain rfl:=P0 p;simp only[VU,WH]at e;obtain⟨f,hf,ef⟩:=iF ks reps d (VV (KG.pass hG) (Ww _ _)) ⇑0 (λk hk=>(hG.ok k hk).2) ⇑0 ⇑0;rw[er]at ef;obtain⟨⟨k,hk,e1,e2⟩,e3⟩:=hf;refine⟨f,⟨⟨k,hk,e1.symm,e2⟩,by rw[e2];exact(hG.ok k hk).2,e3⟩,?_⟩;simp![e,ef,ao (show A'.length<lim by unfold lim;omega),bK])
 have Vg:∀f∈A++D,Pf ks reps f:=λf hf=>(VR.mp hf).elim (uC f) (gD f)
 have Fb:(A++D).length<=20:=by(simp;omega)
 generalize A++D=fs at *
 obtain⟨P,Q,S,Rc,OI,KC,hS1,rq,Rf,hS2,Gq⟩:=JZ ks fs [(n1,n1),(n2,n2),(n3,w0)] L.length (.lst (fs.map fT)::L) ⇑0 ⇑0 ⋯ cq;have K:=NT hG rn ⇑0 rd Vg Fb Rc OI KC
 have Qs:∀r∈aA rs,Rk ks r:=λr' hr'=>by
  obtain⟨x,hx,rfl⟩:=VP.mp hr';exact(xH B (Wd (XM.mp hx))).1.t _
 have es:=λL=>E0 K Qs (by simp[aA,B.r2]) S L
 have NZ:=λL=>NS ks P Q reps rs S L ⇑0 (λr hr=>(xH B hr).2) ⇑0 rn (by rw[B.r2];decide)
 rw[E6 B.r2,er]at NZ;have dt:(allR ks P Q reps (aA rs)).all (dat 7)=t?:=VQ.mpr λy hy=>by
  obtain⟨i,vs,rfl⟩:=se hy;exact Kb _ _
 have ln:(allR ks P Q reps (aA rs)).length<1000:=by
  have:=Bk.bZ (l:=(aA rs).zipIdx) (g:=λp=>jb (dU ks P Q reps p)) (B:=64) λp hp=>by
   rw[(b7 jK).1.length_eq];exact ux ⇑0 (Qs p.1 (Wd (XM.mp hp))).n3 p.2
  rw[X1,show(aA rs).length=2 by simp[aA,B.r2]]at this;exact ZV this ∅
 obtain⟨bs,Ob⟩:=xF (A:=allR ks P Q reps (aA rs)) λy hy=>by
  obtain⟨i,vs,e⟩:=se hy;exact⟨(i,vs),e⟩
 generalize allR ks P Q reps (aA rs)=al at *
 have ne:∀{x y:T}{L:aa},vw L x=.lst al->vw L y=.lst al->wU x y L=.ok (.bl f?) L:=λ{x y L}hx hy=>by
  unfold wU;rw[hx,hy];simp only[];rw[ao ⟨dt,dt⟩,show eqT (.lst al) (.lst al)=t? from kJ 8 dt];rfl
 simp only[VU,WH]at Gq;have a1:∀(x y:T),at_ (x::y::L) (L.length+1)=s? x:=λx y=>tN
 have v1:∀(y:T),vw (.lst al::y::L) (.ref (L.length+1))=.lst al:=λy=>by rw[eU,a1];rfl
 have a2:∀(z x y:T),at_ (z::x::y::L) (L.length+1+1)=s? z:=λz x y=>Jg
 have v2:∀(x y:T),vw (.lst al::x::y::L) (.ref (L.length+1+1))=.lst al:=λx y=>by rw[eU,a2];rfl
 have b1:∀y:T,E8 [.ref (L.length+1),.cl (.type "list")] (.lst al::y::L)=.ok (.bl t?) (.lst al::y::L):=λy=>by
  show N9 _ "list" (vw (.lst al::y::L) (.ref (L.length+1)))=_;rw[v1];rfl
 have bl:∀y:T,bG t? [.ref (L.length+1)] (.lst al::y::L)=.ok (.lst al) (.lst al::y::L):=λy=>by
  unfold bG;simp only[v1];rw[fG,ao ⇑1];rfl
 have ne1:∀y:T,wU (.ref (L.length+1)) (.lst al) (.lst al::y::L)=.ok (.bl f?) (.lst al::y::L):=λy=>ne (v1 y) rfl
 have ne2:∀x y:T,wU (.ref (L.length+1+1)) (.lst al) (.lst al::x::y::L)=.ok (.bl f?) (.lst al::x::y::L):=λx y=>ne (v2 x y) rfl
 have u1:∀x y t:T,put (x::y::L) (L.length+1) t=t::y::L:=λx y t=>El
 simp![Ka,Gq,es,b1,NZ,ne1,ne2,bl,a1,a2,ao (show al.length<lim by unfold lim;omega),mw,DF,u1];rw[Ob];generalize ho:forL _ _ _ _ _ _=o;obtain⟨z',rfl⟩:=mD bs (λp=>stepT p.1 p.2) (λz'=>[s? (.lst (cs.map .int)),s? (.lst (ks.map kT)),s? (.lst [.str n0,.str n1,.str n2,.str n3]),s? (.lst [.str w0,.str w1]),s? (.lst (rs.map xT)),s? (.lst [.int (d0:Nat),.int (d1:Nat),.int (d2:Nat),.int (d3:Nat)]),s? (rB ks (aA rs)),s? (.lst [.str w0,.str w1,.str n1,.str n2]),s? (.ref L.length),z,s? (gJ P Q S),s? (.ref (L.length+1)),s? (.lst (bs.map λp=>stepT p.1 p.2)),z']) ho sv (λ_ _=>rfl) (λp _=>by
  rfl)
 simp!;exact jd (Ln:=[_,_,_]) rfl
def Cn:∀ns:List Int,ns.length<=63->∃L,tU [.lst (ns.map .int)] []=.ok (.bl t?) L:=λns h=>⟨[],NV ns h []⟩
end Eo
namespace Eo
open PySem M
set_option maxHeartbeats 4000000
def G0:Ct:=⟨[],[("SMALL",lE),("GREAT",lF),("FIGURES",mE),("LONGEST",mF),("LINE_MARKS",iA),("KIND_WORDS",iB),("RULE_WORD",c7),("PART_WORDS",bU),("COUNTS",oK)],[],["calls_in","counts","found","given","heads","kept","kinds","lasting","layout","left","looks","loose","most","names","reading","readings","right","rules","shelf","taken","title","told","wanted","words"],["len","list","tuple","all","min","str","int","isinstance","range","enumerate","zip","sorted","dict","bool"],[(35,12),(47,12),(80,12),(138,21),(139,22),(140,23),(150,45),(166,16),(181,16),(200,21),(233,17),(286,16),(350,12),(387,11),(387,12),(390,24),(414,12),(421,12),(422,12),(457,11),(472,17),(490,17),(510,17),(518,22),(520,26),(533,16),(542,17),(561,17),(595,16),(608,11),(614,21),(621,20)]⟩
def ds:List Df:=.f .r "_law_cell" 2 80 bH :: .f .r "_law_digits" 2 81 aJ :: .f .r "_law_name" 2 82 bw :: .f .r "_law_kinds" 1 86 fj :: .f .r "_law_drawn" 3 85 aP :: .f .r "_law_heads" 3 87 dy :: .f .r "_law_looks" 2 89 fm :: .f .r "_law_names" 1 88 cE :: .f .r "_law_rule" 5 90 gq :: .f .r "_law_book" 1 93 gu :: .f .r "_law_as" 2 95 fJ :: .f .r "_law_at" 2 94 dQ :: .f .r "_law_holds" 2 96 fo :: .f .r "_law_fits" 4 97 eM :: .f .r "_law_rows" 2 103 gx :: .f .r "_law_due" 4 104 iC :: .f .l "_law_instance" 2 101 cV :: .f .r "_law_pool" 3 98 eO :: .f .r "_law_same" 2 102 gy :: .f .r "_law_fact" 1 83 cx :: .f .r "_law_part" 2 91 aM :: .f .r "_law_text" 2 92 gz :: .f .r "_law_values" 3 99 dY :: .f .r "is_great" 1 17 aQ :: .f .r "open_names" 1 72 fq :: .mk .r "Rule" "Rule.__init__" 3 70 0 jj :: .f .r "is_name_sign" 1 18 cy :: .f .r "name_end" 2 21 iD :: .f .r "pieces" 2 20 lG :: .f .r "line_pieces" 1 59 dZ :: .f .r "is_name" 1 16 dR :: .f .r "is_small_word" 1 15 bF :: .f .r "read_kind" 1 60 gA :: .f .r "parted" 2 68 fX :: .f .r "piece_at" 2 22 aH :: .mk .r "Same" "Look.__init__" 3 48 0 da :: .mk .r "Unlike" "Look.__init__" 3 48 0 da :: .f .r "check_two_names" 1 67 bJ :: .f .r "read_look" 1 64 gC :: .f .r "read_looks" 1 63 dz :: .f .r "read_pair" 1 66 gE :: .f .r "read_pairs" 1 65 dA :: .f .r "arguments_at" 2 24 dB :: .f .r "fact_at" 2 23 jF :: .f .r "row_of_facts" 1 19 dC :: .f .r "read_part" 2 62 cz :: .f .r "read_rule" 1 61 gF :: .f .r "hear_line" 3 74 de :: .f .r "is_told" 1 58 jG :: .f .r "told_lines" 1 57 fu :: .mk .r "Book" "Book.__init__" 3 71 0 jk :: .mt .r "Rule" "calls" "Rule.calls" 1 70 1 bV :: .f .r "check_call" 2 76 dD :: .f .r "check_facts" 2 26 d6 :: .f .r "said_names" 1 78 fv :: .f .r "check_names" 1 77 d7 :: .f .r "check_taken" 2 27 cU :: .f .r "whole_book" 2 75 fy :: .f .r "read_book" 1 73 gG :: .f .r "kind_key" 1 37 dS :: .f .r "know" 2 29 oL :: .f .r "asked_once" 2 40 bW :: .f .r "loose_heads" 1 39 d8 :: .f .r "pair_written" 2 34 cA :: .f .r "chosen" 2 31 lH :: .f .r "tell_same" 3 30 gH :: .f .r "written" 2 28 cF :: .mt .r "Reading" "said" "Reading.said" 1 38 1 bO :: .mt .r "Same" "word" "Same.word" 1 49 1 gI :: .mt .r "Unlike" "word" "Unlike.word" 1 50 1 d9 :: .mk .k "Reading" "Reading.__init__" 2 38 0 fY :: .mk .r "Player" "Player.__init__" 2 45 0 gR :: .f .r "keys_of" 1 36 jH :: .mt .k "Layout" "lay" "Layout.lay" 2 35 1 fA :: .mk .k "Layout" "Layout.__init__" 2 35 0 gS :: .f .r "names_bound" 2 46 eB :: .Cz "Search" "Search.__init__" 4 41 0 gT :: .f .r "matched" 3 43 b8 :: .f .r "is_bound" 2 42 dT :: .mt .r "Layout" "has" "Layout.has" 2 35 3 dE :: .mt .r "Layout" "row" "Layout.row" 2 35 2 bY :: .mt .r "Search" "candidates" "Search.candidates" 3 41 6 ai :: .mt .r "Search" "enough" "Search.enough" 2 41 4 az :: .mt .r "Same" "holds" "Same.holds" 3 49 0 cG :: .mt .r "Unlike" "holds" "Unlike.holds" 3 50 0 bP :: .mt .r "Search" "may_change" "Search.may_change" 2 41 3 bt :: .mt .r "Search" "hopeful" "Search.hopeful" 2 41 2 aw :: .mt .r "Search" "narrowest" "Search.narrowest" 3 41 5 au :: .mt .r "Search" "walk" "Search.walk" 3 41 1 bj :: .mt .r "Search" "walk" "Search.walk" 3 41 1 bz :: .mt .r "Search" "walk" "Search.walk" 3 41 1 bQ :: .mt .r "Search" "walk" "Search.walk" 3 41 1 cB :: .mt .r "Search" "walk" "Search.walk" 3 41 1 dG :: .mt .r "Search" "walk" "Search.walk" 3 41 1 dH :: .f .r "searched" 4 44 fZ :: .mt .l "Player" "fitting" "Player.fitting" 2 45 1 bR :: .f .l "steps" 2 33 lJ :: .f .r "law" 1 105 tU::[]
def Vh:yz PySem.Challenge.pw_poolrules_k16_all_steps.main.body G0 ds:=by
 unfold ds
 repeat' first|refine M.D5 ?_ ⇑2 ⇑3 ?_|refine M.Mr ?_ ⟨⇑2,⇑3,?_⟩|refine M.Ms ?_ ⟨⇑2,⇑3,?_⟩ ∅|refine M.IC ?_ ⟨⇑2,⇑3,?_⟩ ∅|exact M.P6|(intro _ _ _ _ _ _;(repeat refine M.bC λ_=>?_);exact M.b0 ⇑3)
end Eo
end
open PySem PySem.W PyProof.Rows M
set_option maxHeartbeats 0 in
theorem PySem.Challenge.cw_poolrules_k16_all_steps_holds : PySem.Challenge.rw_poolrules_k16_all_steps.Holds := by
 w_on;o_law;k_head;(case hw=>w_witness2)
 k_fill
 refine D0 (l:=PySem.Challenge.rw_poolrules_k16_all_steps) (n:=63) (k:=106) (m:=Eo.tU) rfl (by decide) rfl ⟨rfl,by decide,by decide⟩ (fun w h Y=>kIn_of Y) (fun w mg fa h X G e=>?_) Eo.Cn;refine IA PySem.Challenge.pw_poolrules_k16_all_steps.main.body Eo.G0 ["Book","Layout","Player","Reading","Rule","Same","Search","Unlike"] Eo.ds X G e Eo.Vh (by decide) (by kernel_rfl) ⟨rfl,rfl⟩ (by decide +kernel) (AU (by k_is) (by decide) (AU (by k_is) (by decide) (AU (by k_is) (by decide) (Qb (by k_is) (AU (by k_is) (by decide) (ID (us:=#[.str ⟨(S "passing").toArray⟩ _,.str ⟨(S "lasting").toArray⟩ _]) (by k_is) (by k_is) (by decide) (ni (by decide) (ni (by decide) IE)) (AU (by k_is) (by decide) (ID (us:=#[.str ⟨(S "take").toArray⟩ _,.str ⟨(S "keep").toArray⟩ _,.str ⟨(S "look").toArray⟩ _,.str ⟨(S "put").toArray⟩ _,.str ⟨(S "tell").toArray⟩ _]) (by k_is) (by k_is) (by decide) (ni (by decide) (ni (by decide) (ni (by decide) (ni (by decide) (ni (by decide) IE))))) (ID (us:=#[.str ⟨(S "0").toArray⟩ _,.str ⟨(S "1").toArray⟩ _,.str ⟨(S "2").toArray⟩ _,.str ⟨(S "3").toArray⟩ _,.str ⟨(S "4").toArray⟩ _]) (by k_is) (by k_is) (by decide) (ni (by decide) (ni (by decide) (ni (by decide) (ni (by decide) (ni (by decide) IE))))) Mo))))))))) ?_ ?_ ?_;all_goals repeat' first|exact Mo|refine P7 (by k_is) ?_|refine P8 (by k_is) ?_|refine P9 (by k_is) (by k_is) (by k_is) (by k_is) (by k_is) (by k_is) (by k_is) ?_ ?_|refine Qa (by k_is) (by k_is) (by k_is) (by k_is) ?_|refine Mp (by k_is) (by k_is) (by k_is) (by k_is) (by k_is) (by k_is) (by decide) ?_|refine Mq (by k_is) (by k_is) (by k_is) (by k_is) (by k_is) (by k_is) (by decide) ?_|refine IB (by k_is) (by k_is) (by k_is) (by k_is) (by k_is) (by k_is) (by decide) ?_
