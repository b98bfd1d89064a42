import PyProof.Rows.All
import Wide.All
import OpenK.AllK
import Wide.FinOn
import Lean
import PyProof.EqAt
import PyProof.EqKinds
import PyProof.TupleCall
import KE.KLam
import KE.KSortKey
import KE.KSorted
import KE.KItemsList
import KE.KDictSum
import KE.KSortTup
import KE.KTabLook
import KE.KDictList
import KE.KDictOf
import KE.KMinKey
import PySem.Challenge.RW_throng_k60_deeds_of_a_keeper
namespace PySem.W.Fast
def tw7313715639279270912:=0
def tw16569240847389878272:=0
def tw13865971345658844192:=0
def tw1238636748592065568:=0
def tw10477648358567121984:=0
def tw7387368372431552640:=0
def tw8314058736794088576:=0
def tw14437663895803257984:=0
def tw3038762341556518080:=0
def tw1129121701457509600:=0
def tw1614281492085505248:=0
def tw12689156373987942656:=0
def tw3884524535230861632:=0
def tw14047388183635304800:=0
def tw5573686052531231104:=0
def tw15585017597324332448:=0
def tw10742339479463176608:=0
def tw9087269785401319968:=0
def tw10071893817771891264:=0
def tw1732351995963391584:=0
def tw9169996559915541088:=0
def tw332297440959592064:=0
def tw2836786519306202752:=0
def tw14365822853132211872:=0
def tw779623030066662080:=0
def tw11814693289979648832:=0
def tw4035302138079950720:=0
def tw625156636747023232:=0
def tw11464679287480810368:=0
def tw5536570881725865920:=0
def tw594900366691904480:=0
def tw4225289262263946208:=0
def tw14158066505277382689:=0
def tw6542931093658247233:=0
def tw9484281219178280033:=0
def tw4263738461078126721:=0
def tw15934406086605637857:=0
def tw4021126055653976321:=0
def tw17581820788024843617:=0
def tw4020932848445707617:=0
def tw15336202558582724993:=0
def tw18366302529965852225:=0
def tw11747322996281258561:=0
def tw2198747678887452289:=0
def tw6789341058072390305:=0
def tw2672822247851916993:=0
def tw18417375766573866721:=0
def tw1789292998284095233:=0
def tw4339963876052825857:=0
def tw1821220295559324449:=0
def tw6539330946879830945:=0
def tw48892669554762721:=0
def tw14293083097333868578:=0
def tw14058236870688567394:=0
def tw8473388883500526754:=0
def tw11797134486630163650:=0
def tw13244103124297210050:=0
def tw11849329116414741794:=0
def tw5500491121439335714:=0
def tw6246432168528480610:=0
def tw17733121588237446594:=0
def tw16968433902524679618:=0
def tw9173671216622213602:=0
def tw8390948288176010754:=0
def tw12787781518788113922:=0
def tw17180664810737345058:=0
def tw15714831886993802786:=0
def tw2537331660990666274:=0
def tw9886005708576184866:=0
def tw10805066327636523586:=0
def tw10215213075728630434:=0
def tw267603996587024034:=0
def tw7987499724469981954:=0
def tw17297487653008650018:=0
def tw3759744216958858018:=0
def tw4405246096013950786:=0
def tw12158551513654397794:=0
def tw3726742214929549186:=0
def tw7262248277419085762:=0
def tw1724376725463589826:=0
def tw3733012041881793539:=0
def tw16766238321324902467:=0
def tw1121637987874269315:=0
def tw3681787510527370403:=0
def tw15094313230456653027:=0
def tw17685723777420873987:=0
def tw15036108061602313475:=0
def tw8592881711095942467:=0
def tw11385859029634045251:=0
def tw18262152853150498115:=0
def tw5109701463227663747:=0
def tw7139173042007971203:=0
def tw888864282296594883:=0
def tw6321982748690333123:=0
def tw15203868384303222243:=0
def tw927266100738527715:=0
def tw18093142597780044259:=0
def tw89180477603469827:=0
def tw1555601227358590499:=0
def tw17167635804470076963:=0
def tw18225173632352817731:=0
def tw4919528346293171875:=0
def tw9371652424381383331:=0
def tw2454600567241647811:=0
def tw15249378021543753411:=0
def tw1812202054306283203:=0
def tw13408375703041675011:=0
def tw11951402177564880643:=0
def tw8283139987054299011:=0
def tw14639201875858637795:=0
def tw312495422676948963:=0
def tw16749618551647326276:=0
def tw12969784645528763492:=0
def tw17194584861766001796:=0
def tw15046716613940693156:=0
def tw5424473160232139972:=0
def tw5379891392748958948:=0
def tw4932099280837017860:=0
def tw1733306954756459780:=0
def tw18270798330053354756:=0
def tw12173059543581963556:=0
def tw17694352372261472612:=0
def tw3143148360520236420:=0
def tw10621897596084922852:=0
def tw15823223067636946404:=0
def tw434816094234214980:=0
def tw7308935704126852676:=0
def tw10398517760410589796:=0
def tw10525886628443495044:=0
def tw5941261215461335844:=0
def tw4983735876673343300:=0
def tw13536712640142906180:=0
def tw18439514146684969828:=0
def tw16724235844959463300:=0
def tw6956687049795310532:=0
def tw10393398069213296580:=0
def tw3051309597652750308:=0
def tw5624350210579797988:=0
def tw16529289040537730020:=0
def tw16820585761920471012:=0
def tw8880840145358950469:=0
def tw13945112172414172229:=0
def tw9180184413638263909:=0
def tw858284129372251237:=0
def tw3380650567283045541:=0
def tw946069199531929765:=0
def tw9235724621904688325:=0
def tw8216081715889349829:=0
def tw1402742678847625445:=0
def tw543155586935010533:=0
def tw8245440743801629925:=0
def tw8498750349901057413:=0
def tw6531669441452505477:=0
def tw11777237542052237765:=0
def tw6927867633985170885:=0
def tw4418108338909585893:=0
def tw14759998796508299781:=0
def tw1835812008481691173:=0
def tw15726308133090272069:=0
def tw13839646084372612997:=0
def tw8317500927019673509:=0
def tw15628235852006649797:=0
def tw7274571136663170118:=0
def tw8305159872305676358:=0
def tw7655072406115866694:=0
def tw17853547406176445542:=0
def tw3401931894011063462:=0
def tw1431580101600100550:=0
def tw6344094235718668518:=0
def tw15115670784749510918:=0
def tw8005120438005161222:=0
def tw13715071745327499558:=0
def tw7160152566445085030:=0
def tw3308935866580055398:=0
def tw17129691088809847142:=0
def tw10776445009916280262:=0
def tw1850984699012094406:=0
def tw18425209391412885990:=0
def tw11841505786251439654:=0
def tw12423050945039071782:=0
def tw11392128458632248934:=0
def tw11163178899554453094:=0
def tw7887351601842946758:=0
def tw5614709095339090662:=0
def tw4411768161032420102:=0
def tw11440943383782853414:=0
def tw10241282090162600742:=0
def tw10892450632332657446:=0
def tw11458530778087092038:=0
def tw5946288874706583430:=0
def tw8735990875351605126:=0
def tw2016289195900646310:=0
def tw14339148962065459142:=0
def tw16574109954969694150:=0
def tw17710579580580420582:=0
def tw3979370599494892551:=0
def tw13672527434665480199:=0
def tw11087793662615150663:=0
def tw12007703468754934951:=0
def tw18277084502109672647:=0
def tw588246153071197383:=0
def tw3153157904605027623:=0
def tw1319808622953675079:=0
def tw392501160738988391:=0
def tw17318774683644184935:=0
def tw2429287155553668487:=0
def tw15078773668037777799:=0
def tw5140478689047850407:=0
def tw17856058704162967975:=0
def tw3726359767652247047:=0
def tw20217898484870823:=0
def tw16815823681104852647:=0
def tw5485612481324409511:=0
def tw10518977570010239687:=0
def tw15548832089258784455:=0
def tw11692019733265505063:=0
def tw4938798694217110343:=0
def tw3181408458581610343:=0
def tw16927850362530893671:=0
def tw11466844771893846919:=0
def tw280087496944984039:=0
def tw14443681715368656936:=0
def tw17596324747490435144:=0
def tw8095485912409023560:=0
def tw6584079735954387016:=0
def tw5650809720926480520:=0
def tw17137280676847037576:=0
def tw5266254451325990088:=0
def tw575044029284573384:=0
def tw10196338280091373800:=0
def tw2853555022131684584:=0
def tw4492576462591299912:=0
def tw1822606741364198792:=0
def tw11697194348765094344:=0
def tw12774307228922044872:=0
def tw4902478249604872648:=0
def tw18256908913937410632:=0
def tw2814873335120902824:=0
def tw826575373341506248:=0
def tw13938596550284608232:=0
def tw9967481911647461128:=0
def tw312246661580367688:=0
def tw13665629966288890696:=0
def tw13979519353371492200:=0
def tw9617990071587064712:=0
def tw11979435354228957096:=0
def tw9299361526362248136:=0
def tw6474016839494552552:=0
def tw15052483193651539977:=0
def tw14930166445975863337:=0
def tw11365200907964934281:=0
def tw9157669484807210185:=0
def tw14073095893982803209:=0
def tw18427605791897984329:=0
def tw17644721643552910889:=0
def tw2701404246163295817:=0
def tw16490215299985026793:=0
def tw10370760405825039113:=0
def tw15394382816269141801:=0
def tw11307934730389860233:=0
def tw649569957667526569:=0
def tw8828882583239501769:=0
def tw18346376030709001161:=0
def tw14742095409261652969:=0
def tw2528895132284739594:=0
def tw4675122268759360554:=0
def tw18192157468880877610:=0
def tw14416280783004685354:=0
def tw14894234336148427914:=0
def tw17717693433477492874:=0
def tw5694352329510048970:=0
def tw17072471954072328490:=0
def tw15345826831264013642:=0
def tw12454667979628580202:=0
def tw1521112948056437130:=0
def tw9599807161629518218:=0
def tw3587630912005416362:=0
def tw17872351125261240810:=0
def tw8077434955405682154:=0
def tw12312364226661201418:=0
def tw15189782577050829386:=0
def tw12435682343736607338:=0
def tw9119084149350549130:=0
def tw11045878603145383594:=0
def tw6818157478631847626:=0
def tw18215821509928084170:=0
def tw3814079253386127082:=0
def tw5033110677471673098:=0
def tw12366098087410749194:=0
def tw11353461469861608266:=0
def tw620879100603210666:=0
def tw1848252476293072810:=0
def tw15464565013932412906:=0
def tw5003718227465308138:=0
def tw9123037003081517099:=0
def tw7469424729119234091:=0
def tw5652570896677109835:=0
def tw15795862112583945291:=0
def tw7402698066055503947:=0
def tw4847113935308838987:=0
def tw17877599732224330859:=0
def tw10539918705228369003:=0
def tw192557740913557643:=0
def tw9562279726331706507:=0
def tw18351152782888892555:=0
def tw1259611074953008299:=0
def tw18419075549703782603:=0
def tw18363683729975896299:=0
def tw13635652746166292779:=0
def tw13797104096653188427:=0
def tw8260644356597954891:=0
def tw17825341338759561643:=0
def tw2941036437454301611:=0
def tw10538176860866562571:=0
def tw3618707170365651595:=0
def tw385602100853313227:=0
def tw15060609507233082091:=0
def tw13506593297936827211:=0
def tw15319538820379445099:=0
def tw16824851502660570987:=0
def tw4450694611377902443:=0
def tw15180367513295216555:=0
def tw14573013401173642187:=0
def tw6043396633956254732:=0
def tw5191219918906656812:=0
def tw11402801859350878252:=0
def tw17334366317597349932:=0
def tw3857627486600034380:=0
def tw5927721079869770860:=0
def tw13666794600939589772:=0
def tw4073336200668156044:=0
def tw183458696420388012:=0
def tw15324204387926078636:=0
def tw12988530291621498060:=0
def tw3516283192823431372:=0
def tw195899845930798316:=0
def tw8521938736291418380:=0
def tw15289685798174782732:=0
def tw2278963483879658796:=0
def tw13195096085603363116:=0
def tw14787488901735779660:=0
def tw12495017616169899372:=0
def tw16318595692084132204:=0
def tw5104044589575708044:=0
def tw5199047522861558156:=0
def tw14180133221798775340:=0
def tw7158006479488625196:=0
def tw8770670796002130540:=0
def tw5288729166335538860:=0
def tw2252641633413406412:=0
def tw5043850749788072652:=0
def tw7981228958874194668:=0
def tw3956538598909933388:=0
def tw9612798904753943404:=0
def tw1611894257210402700:=0
def tw16897360906065565612:=0
def tw10757243972550677452:=0
def tw4251590115002862572:=0
def tw15953389409839046636:=0
def tw7946747651969797133:=0
def tw6117828729871391757:=0
def tw10578813286454031373:=0
def tw17160143963217449037:=0
def tw1515085986996686989:=0
def tw6837047272686235885:=0
def tw12605511103956725037:=0
def tw993676113386155405:=0
def tw71917630160320909:=0
def tw15604128450107413933:=0
def tw15331551305356210733:=0
def tw14506976630496279117:=0
def tw17088836004705689229:=0
def tw5896266590927300301:=0
def tw5185150661566334701:=0
def tw17241634820336277229:=0
def tw6761730527126517485:=0
def tw17323586969937205037:=0
def tw1158423398159724365:=0
def tw13654989469138794317:=0
def tw18434540886212670285:=0
def tw4342045286739283853:=0
def tw14323915553002243981:=0
def tw8666863684446954413:=0
def tw7593527833332345902:=0
def tw2315180355931876398:=0
def tw1926009267872315566:=0
def tw15106278740592507054:=0
def tw14106979984165285070:=0
def tw7385209743638113486:=0
def tw1121891149954708750:=0
def tw2724242161963735374:=0
def tw16044081483006650830:=0
def tw17983501888323424750:=0
def tw6764784411545761294:=0
def tw4887849724684931630:=0
def tw7972145505137070670:=0
def tw12114160945890934382:=0
def tw2154813096399069838:=0
def tw5610867824999373550:=0
def tw4699828896273777550:=0
def tw8171776014965182382:=0
def tw14730867634295488462:=0
def tw509491319784732622:=0
def tw17351183794682728430:=0
def tw471311487842853870:=0
def tw5360273072718035983:=0
def tw14464850138586451055:=0
def tw16361021171372147823:=0
def tw18031872589417281711:=0
def tw8798447102461025519:=0
def tw3191199396010647791:=0
def tw5368763366930598191:=0
def tw15001782252763015503:=0
def tw5779757648092026255:=0
def tw12314908157639449071:=0
def tw8043384223303169551:=0
def tw12031030348352771663:=0
def tw9470976596658742895:=0
def tw5893704115709472367:=0
def tw10510347978880532111:=0
def tw16874503914111683215:=0
def tw1350834319517778703:=0
def tw12561203711814978319:=0
def tw4201035414901380879:=0
def tw316065616937875215:=0
def tw17199869569903015727:=0
def tw7230078350919302991:=0
def tw8146551946105831247:=0
def tw2063728654811712431:=0
def tw2510256357386565615:=0
def tw4890704281583816752:=0
def tw5348818226472900656:=0
def tw9088498406000544848:=0
def tw13789177371743894704:=0
def tw4902773641137086672:=0
def tw6797482275111958768:=0
def tw14335970525685708048:=0
def tw15752710781660562736:=0
def tw17211590991945039184:=0
def tw7436313747907068272:=0
def tw10162242281681499504:=0
def tw18418395758882071984:=0
def tw7893972269706940880:=0
def tw6166420071201188336:=0
def tw6996519231236120080:=0
def tw14615127824894534160:=0
def tw4272645282933439024:=0
def tw11592012609722688080:=0
def tw16765041087155140304:=0
def tw9969860294483868368:=0
def tw10969732035496575824:=0
def tw9177010624604331856:=0
def tw12816172959865856848:=0
def tw4628795526834305904:=0
def tw9999428635895626608:=0
def tw3022560575094292336:=0
def tw3508694849676583824:=0
def tw14131247207220817808:=0
def tw3130598326196507568:=0
def tw11918320199881946193:=0
def tw5933677072405200017:=0
def tw2502652874480172209:=0
def tw10429525787854934225:=0
def tw7707676581009454417:=0
def tw14948674717072796049:=0
def tw2765025233471994257:=0
def tw11899894053467410865:=0
def tw11127048135426977233:=0
def tw1845641730179816913:=0
def tw2738066228513081873:=0
def tw16609258009594946065:=0
def tw5494059544196812337:=0
def tw15904375958280069713:=0
def tw14321415000042612305:=0
def tw4390175117919233681:=0
def tw6900176551732987601:=0
def tw5805791150189461265:=0
def tw4034645049089064753:=0
def tw4984923373856333649:=0
def tw18227140905615101809:=0
def tw189102940993196913:=0
def tw4725630814518548337:=0
def tw13970359804128130929:=0
def tw4852039315031232401:=0
def tw9206694987058455473:=0
def tw11096190676641929169:=0
def tw3294307049414370418:=0
def tw6248135868607639666:=0
def tw13138366951324200114:=0
def tw14572962397633190098:=0
def tw8274601938943268050:=0
def tw7576526859452896466:=0
def tw1290184032849123602:=0
def tw17769084186265656722:=0
def tw10360804765880460690:=0
def tw13678616928777906578:=0
def tw15337879196523751890:=0
def tw5143009775403500082:=0
def tw8611764658582557234:=0
def tw3823194937479571026:=0
def tw4314637031964265042:=0
def tw12698486418024953458:=0
def tw17219967878850813618:=0
def tw1894457932327183090:=0
def tw10835781607428279058:=0
def tw13633719178296390418:=0
def tw1822646591988347698:=0
def tw14335244153491806034:=0
def tw7076690754362999698:=0
def tw1182603937784971154:=0
def tw7360077675340924850:=0
def tw15548335610270815186:=0
def tw625386690204407762:=0
def tw6782938505350927314:=0
def tw5329992822084522994:=0
def tw273414461225837587:=0
def tw858694260221187123:=0
def tw10140538907991722035:=0
def tw13466806687587215507:=0
def tw1146705842481155219:=0
def tw709749664255840467:=0
def tw3561704216433787187:=0
def tw18167763059469192563:=0
def tw2438554653867601267:=0
def tw10421070169804725811:=0
def tw3048625270382477203:=0
def tw7384882211547566995:=0
def tw6386189105707527091:=0
def tw16493862734197156787:=0
def tw17630178955666353107:=0
def tw10089004977299162132:=0
def tw8873084317903467572:=0
def tw9160569325264129140:=0
def tw13207324496297533588:=0
def tw7075581173751947412:=0
def tw15732846316602128532:=0
def tw361598401254410420:=0
def tw18641820101984468:=0
def tw1133214632054808788:=0
def tw3309922323933461716:=0
def tw11448251662892119284:=0
def tw5397397985676881140:=0
def tw12720124545790949684:=0
def tw756934602936264244:=0
def tw16806513506215835188:=0
def tw10861814960579197492:=0
def tw4203866632000695860:=0
def tw9646861184151400372:=0
def tw1166243512363927476:=0
def tw8868857865280845748:=0
def tw16848356747064507316:=0
def tw14444916404760035316:=0
def tw15038156901156506612:=0
def tw11631670992964800500:=0
def tw5585767649211608052:=0
def tw13883908757465592885:=0
def tw16480161169833467061:=0
def tw12443343285119339765:=0
def tw2321337105566419221:=0
def tw9069698180800722229:=0
def tw3622767244111997237:=0
def tw17022203422677134645:=0
def tw3331520997248105781:=0
def tw2503437396778833269:=0
def tw14965163695320199541:=0
def tw1090040086416609685:=0
def tw16401404297685527093:=0
def tw9094906603744264789:=0
def tw13236287178613005941:=0
def tw18079248678669991605:=0
def tw8567536522510175989:=0
def tw1609415067492718325:=0
def tw821916387903739669:=0
def tw1184443446200091445:=0
def tw8861800939538974645:=0
def tw8628648757431136245:=0
def tw1502420464427369461:=0
def tw13286235033263600694:=0
def tw11134281895936037014:=0
def tw5665849220936646806:=0
def tw1950986870422631574:=0
def tw2911725875297035446:=0
def tw16745672365065104566:=0
def tw1133693936131593430:=0
def tw15860508198769838326:=0
def tw2192825111576513814:=0
def tw8424838917782136086:=0
def tw9498529222470167830:=0
def tw9187008176338937142:=0
def tw17094530215974249878:=0
def tw594356197774811606:=0
def tw2429681393113570838:=0
def tw15283250476810393110:=0
def tw2388338070667645558:=0
def tw12775913996244668054:=0
def tw12370370648528828086:=0
def tw8869152960029634262:=0
def tw7513400911798485718:=0
def tw10934998360111827670:=0
def tw2804074033748073462:=0
def tw5756744499772419062:=0
def tw14473795463762252855:=0
def tw18314021105369132119:=0
def tw4526528961855326359:=0
def tw10306248995106701463:=0
def tw3907717049499756727:=0
def tw13693748106938723511:=0
def tw9526716947966352567:=0
def tw6610928474056800599:=0
def tw15856042693514076631:=0
def tw6121852331953044951:=0
def tw10073933573867228663:=0
def tw14441939984915149335:=0
def tw8325177315802008087:=0
def tw8080631296272579223:=0
def tw13484284105624348311:=0
def tw13396420957105354391:=0
def tw4292812926778347223:=0
def tw16032599123253397239:=0
def tw7164312696727676695:=0
def tw8572285167987213079:=0
def tw9301322746281271159:=0
def tw11540650400262584215:=0
def tw271387150484241432:=0
def tw7600637595090049080:=0
def tw17759865785892439160:=0
def tw12429245158836981880:=0
def tw3520152953428705432:=0
def tw17587675311137451192:=0
def tw9413734855183073496:=0
def tw8125449756972774648:=0
def tw7870868622780059992:=0
def tw1813231648050657656:=0
def tw5336960017267624344:=0
def tw11569265813627778456:=0
def tw11172451116347345304:=0
def tw17051992348228771320:=0
def tw2608118501968605688:=0
def tw7724116673573964312:=0
def tw10095591603876445752:=0
def tw2055780203471885912:=0
def tw4698650491316194904:=0
def tw14972223513288985176:=0
def tw12265735546874800760:=0
def tw11629649640042508984:=0
def tw9964823430999741144:=0
def tw15119861520492699352:=0
def tw1158123909003133656:=0
def tw16777837032981702456:=0
def tw16875093414691051352:=0
def tw10104569366644187000:=0
def tw15247307669384497048:=0
def tw6176912011512016824:=0
def tw8499294037703848952:=0
def tw8821383719008594969:=0
def tw949139681544012857:=0
def tw9637614982427775065:=0
def tw5616542950316327001:=0
def tw29705115714263161:=0
def tw17502996445746024633:=0
def tw725754904303235353:=0
def tw10172749947312665881:=0
def tw3003425235209007449:=0
def tw3235550927370660217:=0
def tw5023019891213807993:=0
def tw10730284147998703033:=0
def tw7550199924346469817:=0
def tw11767599657383381433:=0
def tw14245104529529728441:=0
def tw15747617142009756089:=0
def tw7309806750520914457:=0
def tw4561680196634245657:=0
def tw17774373153857490521:=0
def tw12438965224440171161:=0
def tw4730683909720494777:=0
def tw14069140544805564281:=0
def tw5252612843863232441:=0
def tw3003530388057941977:=0
def tw8605992289472704505:=0
def tw6327973983999090746:=0
def tw1551397745952377978:=0
def tw14892958066137439386:=0
def tw17697911232390421658:=0
def tw14947095992690431162:=0
def tw863733340625875226:=0
def tw730888595624261978:=0
def tw14692264295482879322:=0
def tw7726343683468267898:=0
def tw18135832426905079194:=0
def tw970346013287988666:=0
def tw4967579946317599226:=0
def tw6045014056351725114:=0
def tw3368614198485830266:=0
def tw14675701223648909946:=0
def tw16901103472508689018:=0
def tw1828687560098640538:=0
def tw9467660149456050874:=0
def tw7123385803935588058:=0
def tw6083831520536428282:=0
def tw12840434949612075802:=0
def tw15455363648376491834:=0
def tw9365224197370042202:=0
def tw53216723931926362:=0
def tw11527041170814144378:=0
def tw9760918630240482170:=0
def tw13261470992976798714:=0
def tw10940799027665204218:=0
def tw16446389158381467707:=0
def tw5456870124581933211:=0
def tw4003130315716669659:=0
def tw8423687009915130075:=0
def tw3923057839167254779:=0
def tw11296915312705299707:=0
def tw1897648556990971163:=0
def tw12056791289543907611:=0
def tw13821977445858549211:=0
def tw5952129317952257531:=0
def tw2572662829746445979:=0
def tw13223793150716763803:=0
def tw8163180924982257339:=0
def tw18185836000936249115:=0
def tw11118824240635640667:=0
def tw9960381505090509755:=0
def tw3641730325255788539:=0
def tw9829255256017598459:=0
def tw17466180234845979708:=0
def tw10068841733286824028:=0
def tw14444600065555549340:=0
def tw15239972988417277084:=0
def tw12424909080762347708:=0
def tw2901310647174548732:=0
def tw4795426801907461372:=0
def tw3480834022826035484:=0
def tw8749473223245272380:=0
def tw13215487480777616732:=0
def tw10470666519799845212:=0
def tw9093485477008892252:=0
def tw17696558466075887036:=0
def tw5094206369021444540:=0
def tw1133044387827612092:=0
def tw14007274194313314780:=0
def tw8431428583733364188:=0
def tw3104099784484362780:=0
def tw14562746074870409756:=0
def tw12239183238259154524:=0
def tw10370535565680525916:=0
def tw17700623874465442428:=0
def tw467173194250277596:=0
def tw17940444592933249788:=0
def tw15577561512630434588:=0
def tw6561846032454435740:=0
def tw13547524195946232796:=0
def tw13260430863907296252:=0
def tw1650556513935107101:=0
def tw2435579809788221501:=0
def tw7657233372757825629:=0
def tw8959657646933224637:=0
def tw17138266213299942589:=0
def tw5729640228625170653:=0
def tw17767816761793705213:=0
def tw6389682382257056029:=0
def tw10922350597225453885:=0
def tw15645798560879726909:=0
def tw15364310569333349693:=0
def tw10240387182402617693:=0
def tw7161966162783321469:=0
def tw2463439267759206877:=0
def tw6153415959419056669:=0
def tw4648822901197418077:=0
def tw219355266444639901:=0
def tw10867834430883405533:=0
def tw4852137123852193533:=0
def tw13381637151298158397:=0
def tw15804062359044238173:=0
def tw6135101893633880061:=0
def tw13089210887520203773:=0
def tw570479771462531069:=0
def tw6338162432229789726:=0
def tw14496230257686940734:=0
def tw12563053206674316350:=0
def tw9723450261340567646:=0
def tw15294817037333900382:=0
def tw8685047093904731294:=0
def tw5856978842462356702:=0
def tw15604623239869918430:=0
def tw8893353173611188638:=0
def tw5275272077457193438:=0
def tw16960441040402660894:=0
def tw11833658869464462878:=0
def tw3972187379182706238:=0
def tw10427682213878562366:=0
def tw617521274810074718:=0
def tw12723145836254631518:=0
def tw14153374529254952606:=0
def tw13151216699139678942:=0
def tw3387693383309219550:=0
def tw2942129380925157086:=0
def tw11232419371527097086:=0
def tw18195351136108674846:=0
def tw10323894895881094942:=0
def tw16689502035867539262:=0
def tw6640987437158515550:=0
def tw11534832265532032862:=0
def tw16778590012348339070:=0
def tw2360251538580924318:=0
def tw3041864611252455390:=0
def tw3186957736353658846:=0
def tw11337631974818958399:=0
def tw18399344141699681407:=0
def tw5338514088473876607:=0
def tw3507082770361908351:=0
def tw5832441829435687071:=0
def tw8988238138473494783:=0
def tw14622623451451234559:=0
def tw15106037524373493023:=0
def tw18229387311468943743:=0
def tw17355397444158854591:=0
def tw9277012988425033183:=0
def tw11611978167270996447:=0
def tw2079188888154290687:=0
def tw8384701454011004543:=0
def tw12582275922488207007:=0
def tw2557362263517161119:=0
def tw17679826253380724415:=0
def tw12843407791174221503:=0
def tw4805642478864749343:=0
def tw7706061032161057599:=0
def tw11859526086164045631:=0
def tw6408515926712336255:=0
def tw13893476818614804351:=0
def tw16884714925601433567:=0
def tw14132296393731544944:=0
end PySem.W.Fast
open PySem.W (Frag nsIn keepIn fnOf codeIn mg_of findIn)
set_option compiler.extract_closed false
set_option Elab.async false
set_option linter.all false
set_option maxRecDepth 100000
inductive Ex2 {α:Sort _} {β:Sort _} (P:α -> β -> Prop):Prop | mk (a:α) (b:β) (h:P a b):Ex2 P
inductive Ex3 {α:Sort _} {β:Sort _} {γ:Sort _} (P:α -> β -> γ -> Prop):Prop | mk (a:α) (b:β) (c:γ) (h:P a b c):Ex3 P
inductive Ex4 {α β γ δ:Sort _} (P:α -> β -> γ -> δ -> Prop):Prop | mk (a:α) (b:β) (c:γ) (d:δ) (h:P a b c d):Ex4 P
inductive Ex5 {α β γ δ ε:Sort _} (P:α -> β -> γ -> δ -> ε -> Prop):Prop | mk (a:α) (b:β) (c:γ) (d:δ) (e:ε) (h:P a b c d e):Ex5 P
inductive Ex6 {α β γ δ ε ζ:Sort _} (P:α -> β -> γ -> δ -> ε -> ζ -> Prop):Prop | mk (a:α) (b:β) (c:γ) (d:δ) (e:ε) (f:ζ) (h:P a b c d e f):Ex6 P
inductive Ex7 {α β γ δ ε ζ η:Sort _} (P:α -> β -> γ -> δ -> ε -> ζ -> η -> Prop):Prop | mk (a:α) (b:β) (c:γ) (d:δ) (e:ε) (f:ζ) (g:η) (h:P a b c d e f g):Ex7 P
namespace L2
open PySem PySem.Spec PyProof.Rows
noncomputable abbrev Key:=Sum Int Str
noncomputable def keyIs:Key->Value->Bool
 | .inl k,v=>Value.isInt k v
 | .inr x,v=>Value.isStrOf x v
noncomputable def keyH (w:World):Key->Int
 | .inl k=>hashInt k
 | .inr x=>hashStr w x
theorem bX:∀ {k:Key} {v:Value},keyIs k v=true->(Ex2 fun i t=>k=Sum.inl i/\v=Value.int i t)\/(Ex2 fun x t=>k=Sum.inr x/\v=Value.str x t)
 | .inl i,v,h=>by
  obtain ⟨t,e⟩:=Value.isInt_shape (k:=i) (v:=v) h;exact .inl ⟨i,t,rfl,e⟩
 | .inr x,v,h=>by
  obtain ⟨t,e⟩:=Value.isStrOf_shape (x:=x) (v:=v) h;exact .inr ⟨x,t,rfl,e⟩
theorem tE (i:Int) (t:Tok):keyIs (.inl i) (.int i t)=true:=by simp [keyIs,Value.isInt]
theorem ug (x:Str) (t:Tok):keyIs (.inr x) (.str x t)=true:=by simp [keyIs,Value.isStrOf]
theorem yZ (a b:Int):decide ((Sum.inl a:Key)=Sum.inl b)=(a == b):=by
 by_cases e:a=b
 ·subst e; simp
 ·have h:¬ (Sum.inl a:Key)=Sum.inl b:=fun q=>e (Sum.inl.inj q)
  rw [decide_eq_false h];exact (beq_eq_false_iff_ne.mpr e).symm
theorem y9 (a b:Str):decide ((Sum.inr a:Key)=Sum.inr b)=decide (a=b):=by
 by_cases e:a=b
 ·subst e; simp
 ·have h:¬ (Sum.inr a:Key)=Sum.inr b:=fun q=>e (Sum.inr.inj q)
  rw [decide_eq_false h,decide_eq_false e]
theorem yc (a:Int) (b:Str):decide ((Sum.inl a:Key)=Sum.inr b)=false:=decide_eq_false (fun q=>nomatch q)
theorem yg (a:Str) (b:Int):decide ((Sum.inr a:Key)=Sum.inl b)=false:=decide_eq_false (fun q=>nomatch q)
noncomputable def mixKind (prog:Program) (w:World):PySem.KeyKind prog w Key where
 is:=keyIs
 hash:=keyH w
 inj:=fun v a b ha hb=>by
  rcases bX ha with ⟨i,t,rfl,rfl⟩ | ⟨x,t,rfl,rfl⟩
  ·rcases bX hb with ⟨j,u,rfl,e⟩ | ⟨y,u,rfl,e⟩
   ·injection e with e1 _; rw [e1]
   ·exact nomatch e
  ·rcases bX hb with ⟨j,u,rfl,e⟩ | ⟨y,u,rfl,e⟩
   ·exact nomatch e
   ·injection e with e1 _; rw [e1]
 byValue:=fun k v h=>by
  rcases bX h with ⟨i,t,rfl,rfl⟩ | ⟨x,t,rfl,rfl⟩ <;> rfl
 pyHash:=fun hv h=>by
  rcases bX hv with ⟨i,t,rfl,rfl⟩ | ⟨x,t,rfl,rfl⟩
  ·exact wpAny_pyHash_int h
  ·exact wpAny_pyHash_str h
 eqBool:=fun hu hv h=>by
  rcases bX hu with ⟨i,t,rfl,rfl⟩ | ⟨x,t,rfl,rfl⟩
  ·rcases bX hv with ⟨j,u,rfl,rfl⟩ | ⟨y,u,rfl,rfl⟩
   ·rw [yZ] at h; exact wpAny_eqBool_int h
   ·rw [yc] at h; exact SeqAt.EqAt.int_str i t y u _ _ _ _ h
  ·rcases bX hv with ⟨j,u,rfl,rfl⟩ | ⟨y,u,rfl,rfl⟩
   ·rw [yg] at h; exact SeqAt.EqAt.str_int x t j u _ _ _ _ h
   ·rw [y9] at h; exact wpAny_eqBool_str h
 «strs»:=fun k x t v h=>by
  rcases bX h with ⟨i,u,rfl,e⟩ | ⟨y,u,rfl,e⟩
  ·exact nomatch e
  ·injection e with e1 _
   subst e1;cases v <;> rfl
theorem qf (prog:Program) (w:World) (i:Int) (t:Tok):(mixKind prog w).is (.inl i) (.int i t)=true:=tE i t
theorem qx (prog:Program) (w:World) (x:Str) (t:Tok):(mixKind prog w).is (.inr x) (.str x t)=true:=ug x t
inductive V where
 | non | bl (b:Bool) | int (i:Int) | str (x:Str) | byt (b:Array UInt8) | flt (b:UInt64) | ref (a:Addr) | ty (n:String)
 deriving DecidableEq
noncomputable def RelV:V->Value->Prop
 | .non,u=>u=Value.none
 | .bl b,u=>u=Value.bool b
 | .int i,u=>∃ t,u=Value.int i t
 | .str x,u=>∃ t,u=Value.str x t
 | .byt b,u=>∃ t,u=Value.bytes b t
 | .flt b,u=>∃ t,u=Value.float b t
 | .ref a,u=>u=Value.ref a
 | .ty n,u=>u=Value.type n
noncomputable abbrev Vals:List V->List Value->Prop:=Paired RelV
theorem Vals.length {xs:List V} {us:List Value} (r:Vals xs us):xs.length=us.length:=Paired.length r
theorem Vals.get:∀ {xs:List V} {us:List Value} {i:Nat} {x:V},Vals xs us->xs[i]? = some x->∃ u,us[i]? = some u/\RelV x u
 | _,_,_,_,.nil,e=>by simp at e
 | _,_,0,_,.cons r _,e=>by simp at e; subst e; exact ⟨_,rfl,r⟩
 | _,_,i+1,x,.cons _ t,e=>by
  obtain ⟨u,h1,h2⟩:=Vals.get (i:=i) (x:=x) t (by simpa using e);exact ⟨u,by simpa using h1,h2⟩
theorem Vals.append:∀ {xs ys:List V} {us ws:List Value},Vals xs us->Vals ys ws->Vals (xs++ys) (us++ws)
 | _,_,_,_,.nil,s=>s
 | _,_,_,_,.cons r t,s=>.cons r (Vals.append t s)
theorem Vals.take:∀ {xs:List V} {us:List Value} (n:Nat),Vals xs us->Vals (xs.take n) (us.take n)
 | _,_,0,_=>.nil
 | _,_,_+1,.nil=>.nil
 | _,_,n+1,.cons r t=>.cons r (Vals.take n t)
theorem Vals.drop:∀ {xs:List V} {us:List Value} (n:Nat),Vals xs us->Vals (xs.drop n) (us.drop n)
 | _,_,0,r=>r
 | _,_,_+1,.nil=>.nil
 | _,_,n+1,.cons _ t=>Vals.drop n t
noncomputable def RelO:Option V->Option Value->Prop
 | some v,some u=>RelV v u
 | none,none=>True
 | _,_=>False
noncomputable def KV {κ:Type}:List (κ × V)->List (κ × Value)->Prop:=Paired fun (p:κ × V) (q:κ × Value)=>p.1=q.1/\RelV p.2 q.2
noncomputable def kV:Key->V
 | .inl i=>.int i
 | .inr x=>.str x
inductive HO where
 | lst (xs:List V)
 | tup (xs:List V)
 | dK (kvs:List (Key × V)) | dT (kvs:List (List Key × V))
 | set (S:Int->Bool) (n:Nat)
 | ins (C dx:Addr) (fs:List (Str × V))
 | own (x:Addr)
 | xd (fs:List (Str × V))
 | met (f x:Addr)
 | rng (lo hi:Int)
 | frz (o:Obj) (u:HO)
 | tbl (ps:Array Value)
 | ext (φ:Heap->Prop)
noncomputable abbrev Hp:=Addr->Option HO
noncomputable def upd (H:Hp) (a:Addr) (o:HO):Hp:=fun b=>if b=a then some o else H b
theorem ab {H:Hp} {a:Addr} {o:HO}:upd H a o a=some o:=by unfold upd; rw [if_pos rfl]
theorem au {H:Hp} {a b:Addr} {o:HO} (h:b≠a):upd H a o b=H b:=by unfold upd; rw [if_neg h]
theorem zi {H:Hp} {a b:Addr} {o u:HO} (h:H a=some o) (h':H b=some u) (d:o≠u):a≠b:=by
 intro e; subst e; rw [h] at h'; exact d (Option.some.inj h')
theorem db {H:Hp} {a b:Addr} {o:HO} (h:H a=some o) (h':H b=none):a≠b:=by
 intro e; subst e; rw [h] at h'; cases h'
noncomputable def lamQ:Str:=Str.ofString "longest_first.<locals>.<lambda>"
def TabOk (H:Hp) (h:Heap) (a:Addr) (ps:Array Value):Prop:=TriplesOk ps.toList/\∀ pos cv,codeAmong pos ps.toList=some cv->∃ c,cv=.ref c/\H c=some (.own a)/\h.CodeRec (.ref c) lamQ
section
variable (P:Program) (w:World)
noncomputable def ObjOk (H:Hp) (h:Heap) (a:Addr):HO->Prop
 | .lst xs=>xs.length<=sizeLine/\Ex2 fun (its:List Value) (n:Nat)=>Vals xs its/\h.get? a=some { cls:=.type "list",data:=.seq its.toArray n }
 | .tup xs=>xs.length<=sizeLine/\∃ its:List Value,Vals xs its/\IsTup h a its.toArray
 | .dK kvs=>kvs.length<=sizeLine/\(a == sysModules)=false/\∃ vs,KV kvs vs/\h.DictOf (mixKind P w) a vs
 | .dT kvs=>kvs.length<=sizeLine/\(a == sysModules)=false/\∃ xs:List (List Key × Addr × Value),
   Paired (fun (p:List Key × V) (q:List Key × Addr × Value)=>p.1=q.1/\H q.2.1=some (.tup (p.1.map kV))/\RelV p.2 q.2.2) kvs xs /\
   Ex3 fun o es ep=>h.get? a=some o/\o.ExactDict/\o.data=.dict es ep/\es.toList=xs.map (entryOfKey (tupleKind (mixKind P w)))/\(xs.map (·.1)).Nodup
 | .set S n=>h.SetOf (intKind P w) a S n
 | .ins C dx fs=>H dx=some (.own a)/\fs.length<=1000/\dx≠a/\h.get? a=some (PySem.W.instObj C dx) /\
   ∃ mA,h.Ns1 dx mA/\(∀ f,RelO (fs.lookup f) (mA f))/\PySem.Within mA (fs.map (·.1))
 | .own _=>∃ o,h.get? a=some o
 | .xd fs=>∃ mA,h.Ns1 a mA/\∀ f,RelO (fs.lookup f) (mA f)
 | .rng lo hi=>Ex3 fun t u v=>h.get? a=some { cls:=.type "range",data:=.fields #[.int lo t,.int hi u,.int 1 v] }
 | .frz o u=>h.get? a=some o/\ObjOk H h a u
 | .tbl ps=>∃ more:Array Value,h.get? a=some { cls:=.none,data:=.fields (ps++more) }/\TabOk H h a (ps++more)
 | .met f x=>h.get? a=some (PySem.W.methodObj (.ref f) (.ref x))
 | .ext φ=>φ h/\(∃ o,h.get? a=some o)/\∀ h1 h2:Heap,φ h1->(∀ o,h1.get? a=some o->h2.get? a=some o)->φ h2
def HOk (H:Hp) (h:Heap):Prop:=∀ a o,H a=some o->ObjOk P w H h a o
end
section
variable {P:Program} {w:World} {H H':Hp} {h h':Heap} {a:Addr} {o:HO}
theorem ObjOk.lt (x:ObjOk P w H h a o):a < h.objs.size:=by
 cases o with
 | lst xs=>obtain ⟨_,_,_,_,e⟩:=x; exact Heap.lt_size e
 | tup xs=>obtain ⟨_,_,_,p⟩:=x; exact p.lt
 | dK kvs=>obtain ⟨_,_,_,_,o,_,_,e,_⟩:=x; exact Heap.lt_size e
 | dT kvs=>obtain ⟨_,_,_,_,o,_,_,e,_⟩:=x; exact Heap.lt_size e
 | set S n=>obtain ⟨o,_,_,_,e,_⟩:=x; exact Heap.lt_size e
 | ins C dx fs=>obtain ⟨_,_,_,e,_⟩:=x; exact Heap.lt_size e
 | own y=>obtain ⟨_,e⟩:=x; exact Heap.lt_size e
 | xd fs=>obtain ⟨_,⟨_,_,_,e,_⟩,_⟩:=x; exact Heap.lt_size e
 | rng lo hi=>obtain ⟨_,_,_,e⟩:=x; exact Heap.lt_size e
 | frz ob u=>obtain ⟨e,_⟩:=x; exact Heap.lt_size e
 | tbl ps=>obtain ⟨_,e,_⟩:=x; exact Heap.lt_size e
 | met f y=>exact Heap.lt_size (show h.get? a=some _ from x)
 | ext φ=>obtain ⟨_,⟨_,e⟩,_⟩:=x; exact Heap.lt_size e
theorem Paired.mapP {α β:Type} {F G:α -> β -> Prop}:∀ {l₁:List α} {l₂:List β},Paired F l₁ l₂ -> (∀ a b,F a b->G a b)->Paired G l₁ l₂
 | _,_,.nil,_=>.nil
 | _,_,.cons r t,f=>.cons (f _ _ r) (Paired.mapP t f)
theorem ObjOk.stay (x:ObjOk P w H h a o) (k:∀ b u,(b=a\/H b=some (.own a))->h.get? b=some u->h'.get? b=some u)
  (ho:∀ b,H b=some (.own a)->H' b=some (.own a)) (ht:∀ b xs,H b=some (.tup xs)->H' b=some (.tup xs)):ObjOk P w H' h' a o:=by
 induction o with
 | lst xs=>obtain ⟨z,its,n,r,e⟩:=x; exact ⟨z,its,n,r,k _ _ (.inl rfl) e⟩
 | tup xs=>obtain ⟨z,its,r,ob,e,c⟩:=x; exact ⟨z,its,r,ob,k _ _ (.inl rfl) e,c⟩
 | dK kvs=>obtain ⟨z,y,vs,r,ob,es,ep,e,c⟩:=x; exact ⟨z,y,vs,r,ob,es,ep,k _ _ (.inl rfl) e,c⟩
 | dT kvs=>
  obtain ⟨z,y,xs,r,ob,es,ep,e,c⟩:=x;exact ⟨z,y,xs,Paired.mapP r fun p q z=>⟨z.1,ht _ _ z.2.1,z.2.2⟩,ob,es,ep,k _ _ (.inl rfl) e,c⟩
 | set S n=>obtain ⟨ob,es,ep,t,e,c⟩:=x; exact ⟨ob,es,ep,t,k _ _ (.inl rfl) e,c⟩
 | ins C dx fs=>
  obtain ⟨d,z,ne,e,mA,⟨od,es,ep,e2,c⟩,r⟩:=x;exact ⟨ho _ d,z,ne,k _ _ (.inl rfl) e,mA,⟨od,es,ep,k _ _ (.inr d) e2,c⟩,r⟩
 | own y=>obtain ⟨ob,e⟩:=x; exact ⟨ob,k _ _ (.inl rfl) e⟩
 | xd fs=>obtain ⟨mA,⟨od,es,ep,e,c⟩,r⟩:=x; exact ⟨mA,⟨od,es,ep,k _ _ (.inl rfl) e,c⟩,r⟩
 | rng lo hi=>obtain ⟨t,u,v,e⟩:=x; exact ⟨t,u,v,k _ _ (.inl rfl) e⟩
 | frz ob u ih=>obtain ⟨e,q⟩:=x; exact ⟨k _ _ (.inl rfl) e,ih q⟩
 | tbl ps=>
  obtain ⟨more,e,t1,t2⟩:=x;refine ⟨more,k a _ (.inl rfl) e,t1,fun pos cv q=>?_⟩;obtain ⟨c,e1,e2,c2,o,vs,t,e3,e4,e5⟩:=t2 pos cv q;cases e3;exact ⟨c,e1,ho _ e2,c,o,vs,t,rfl,k _ _ (.inr e2) e4,e5⟩
 | met f y=>
  have e:h.get? a=some (PySem.W.methodObj (.ref f) (.ref y)):=x;show h'.get? a=some (PySem.W.methodObj (.ref f) (.ref y));exact k a _ (.inl rfl) e
 | ext φ=>obtain ⟨p,⟨o,e⟩,st⟩:=x; exact ⟨st _ _ p fun o q=>k _ _ (.inl rfl) q,⟨o,k _ _ (.inl rfl) e⟩,st⟩
theorem HOk.lt (x:HOk P w H h) (e:H a=some o):a < h.objs.size:=(x a o e).lt
theorem HOk.fresh (x:HOk P w H h) (e:h.objs.size<=a):H a=none:=by
 cases q:H a with
 | none=>rfl
 | some u=>exact absurd (Nat.lt_of_lt_of_le (x.lt q) e) (Nat.lt_irrefl _)
theorem HOk.kept (x:HOk P w H h) (k:∀ b u,h.get? b=some u->h'.get? b=some u):HOk P w H h':=fun a o e=>
 (x a o e).stay (fun b u _ q=>k b u q) (fun _ q=>q) fun _ _ q=>q
theorem HOk.laid (x:HOk P w H h) (k:∀ b u,h.get? b=some u->h'.get? b=some u) (hp:h.objs.size<=a) (new:ObjOk P w (upd H a o) h' a o):HOk P w (upd H a o) h':=fun b u e=>by
 have hn:=x.fresh hp;by_cases hb:b=a
 ·subst hb; rw [ab] at e; cases e; exact new
 ·rw [au hb] at e;exact (x b u e).stay (fun c v _ q=>k c v q) (fun c q=>by rw [au (db q hn)]; exact q) fun c xs q=>by rw [au (db q hn)]; exact q
end
def Rd (H:Hp) (a:Addr) (u:HO):Prop:=H a=some u\/∃ o,H a=some (.frz o u)
theorem Rd.ok {P:Program} {w:World} {H:Hp} {h:Heap} {a:Addr} {u:HO} (r:Rd H a u) (x:HOk P w H h):ObjOk P w H h a u:=by
 rcases r with r | ⟨o,r⟩
 ·exact x a u r
 ·obtain ⟨_,q⟩:=x a _ r;exact q
noncomputable def Mut:Option HO->Prop
 | some (.lst _)=>True
 | some (.dK _)=>True
 | some (.dT _)=>True
 | some (.set _ _)=>True
 | some (.ins _ _ _)=>True
 | some (.ext _)=>True
 | _=>False
section
variable {P:Program} {w:World} {H:Hp} {h h':Heap} {x e:Addr} {o':HO}
theorem HOk.write (ok:HOk P w H h) (mu:Mut (H x)) (he:e=x\/H e=some (.own x)) (k:∀ b u,b≠e->h.get? b=some u->h'.get? b=some u) (heo:∃ u,h'.get? e=some u)
  (new:ObjOk P w (upd H x o') h' x o'):HOk P w (upd H x o') h':=fun b u q=>by
 have nown:∀ c y,H c=some (.own y)->c≠x:=fun c y r z=>by subst z; rw [r] at mu; exact mu
 have ntup:∀ c xs,H c=some (.tup xs)->c≠x:=fun c xs r z=>by subst z; rw [r] at mu; exact mu
 by_cases hb:b=x
 ·subst hb; rw [ab] at q; cases q; exact new
 ·rw [au hb] at q;by_cases hbe:b=e
  ·have q':H b=some (.own x):=by
    rcases he with z | z
    ·exact absurd (hbe.trans z) hb
    ·rw [hbe]; exact z
   rw [q] at q'; cases q';obtain ⟨v,hv⟩:=heo;exact ⟨v,by rw [hbe]; exact hv⟩
  ·refine (ok b u q).stay (fun c v hc r=>k c v ?_ r) (fun c r=>by rw [au (nown c b r)]; exact r) fun c xs r=>by rw [au (ntup c xs r)]; exact r
   rcases hc with rfl | hc
   ·exact hbe
   ·rintro rfl;rcases he with z | z
    ·exact nown c b hc z
    ·rw [hc] at z; cases z; exact hb rfl
end
structure Un (fs ex:List Addr) (H H':Hp) (h h':Heap):Prop where
 keep:∀ b o,h.get? b=some o->H b=none->b ∉ fs->b ∉ ex->h'.get? b=some o
 slot:∀ b o,h.get? b=some o->H b=none->b ∈ fs->b ∉ ex->∃ sl,h'.get? b=some { o with slots:=sl }
 free:∀ b o,h.get? b=some o->H b=none->b ∉ ex->H' b=none
 there:∀ b o,h.get? b=some o->b ∉ ex->∃ o',h'.get? b=some o'
 tups:∀ b xs,H b=some (.tup xs)->H' b=some (.tup xs)
 frzs:∀ b o xs,H b=some (.frz o (.lst xs))->H' b=some (.frz o (.lst xs))
 tbls:∀ b ps,H b=some (.tbl ps)->∃ more,H' b=some (.tbl (ps++more))
section
variable {fs fs' ex ex':List Addr} {H H1 H2:Hp} {h h1 h2 h':Heap} {a x e:Addr} {o:HO}
theorem Un.any (u:Un fs ex H H1 h h1) {b:Addr} {ob:Obj} (q:h.get? b=some ob) (n:H b=none) (hx:b ∉ ex):∃ sl,h1.get? b=some { ob with slots:=sl }:=by
 by_cases hb:b ∈ fs
 ·exact u.slot b ob q n hb hx
 ·exact ⟨ob.slots,u.keep b ob q n hb hx⟩
theorem Un.kept (k:∀ b u,h.get? b=some u->h'.get? b=some u):Un fs ex H H h h':=
 ⟨fun b ob q _ _ _=>k b ob q,fun b ob q _ _ _=>⟨ob.slots,k b ob q⟩,fun _ _ _ n _=>n,fun b ob q _=>⟨ob,k b ob q⟩,fun _ _ q=>q,fun _ _ _ q=>q,fun _ ps q=>⟨#[],by rw [q]; simp⟩⟩
theorem Un.refl:Un fs ex H H h h:=Un.kept fun _ _ q=>q
theorem Un.laid (k:∀ b u,h.get? b=some u->h'.get? b=some u) (hp:h.objs.size<=a) (hn:H a=none):Un fs ex H (upd H a o) h h' where
 keep:=fun b u q _ _ _=>k b u q
 slot:=fun b u q _ _ _=>⟨u.slots,k b u q⟩
 free:=fun b u q n _=>by rw [au (Nat.ne_of_lt (Nat.lt_of_lt_of_le (Heap.lt_size q) hp))]; exact n
 there:=fun b u q _=>⟨u,k b u q⟩
 tups:=fun b xs q=>by rw [au (db q hn)]; exact q
 frzs:=fun b u xs q=>by rw [au (db q hn)]; exact q
 tbls:=fun b ps q=>⟨#[],by rw [au (db q hn),q]; simp⟩
theorem Un.write (mu:Mut (H x)) (he:e=x\/H e=some (.own x)) (k:∀ b u,b≠e->h.get? b=some u->h'.get? b=some u) (heo:∃ u,h'.get? e=some u):Un fs ex H (upd H x o) h h':=by
 have hx:∀ b,H b=none->b≠x:=fun b n z=>by subst z; rw [n] at mu; exact mu
 have hb:∀ b,H b=none->b≠e:=fun b n z=>by
  subst z;rcases he with r | r
  ·exact hx b n r
  ·rw [n] at r; cases r
 have hm:∀ b u,H b=some u->¬ Mut (some u)->b≠x:=fun b u q nm z=>by subst z; rw [q] at mu; exact nm mu
 refine ⟨fun b u q n _ _=>k b u (hb b n) q,fun b u q n _ _=>⟨u.slots,k b u (hb b n) q⟩,fun b u q n _=>by rw [au (hx b n)]; exact n,fun b u q _=>?_,
  fun b xs q=>by rw [au (hm b _ q fun z=>z)]; exact q,fun b u xs q=>by rw [au (hm b _ q fun z=>z)]; exact q,fun b ps q=>⟨#[],by rw [au (hm b _ q fun z=>z),q]; simp⟩⟩
 by_cases hbe:b=e
 ·subst hbe; exact heo
 ·exact ⟨u,k b u hbe q⟩
end
noncomputable def trk (h:Heap) (H:Hp):List Addr:=(List.range h.objs.size).filter fun a=>(H a).isSome
noncomputable def hidT (h:Heap) (H:Hp):Heap:=PySem.W.hideAll h (trk h H)
theorem tt (h:Heap) (H:Hp):(hidT h H).objs.size=h.objs.size:=PySem.W.hideAll_size _ _
theorem vf {h:Heap} {H:Hp} {b:Addr} {o:Obj} (e:h.get? b=some o) (n:H b=none):(hidT h H).get? b=some o:=
 PySem.W.hideAll_get _ e fun hm=>by
  have q:(H b).isSome=true:=(List.mem_filter.mp hm).2;rw [n] at q; simp at q
theorem xH {h:Heap} {H:Hp} {b:Addr} {o:Obj} (e:(hidT h H).get? b=some o):h.get? b=some o/\H b=none:=by
 have e':h.get? b=some o:=PySem.W.of_hideAll (trk h H) e;refine ⟨e',?_⟩;cases q:H b with
 | none=>rfl
 | some x=>
  have hm:b ∈ trk h H:=List.mem_filter.mpr ⟨List.mem_range.mpr (Heap.lt_size e'),by simp [q]⟩;have z:(hidT h H).get? b=none:=PySem.W.hideAll_none (trk h H) hm;rw [z] at e; cases e
noncomputable def allNews (g h:Heap) (L:Addr):List (Addr × Obj):=(List.range h.objs.size).filterMap fun a=>if a=L\/(g.get? a).isSome=true then none else (h.get? a).map fun o=>(a,o)
noncomputable def rest (g h:Heap) (L d:Addr):List (Addr × Obj):=(allNews g h L).filter fun p=>decide (p.1≠d)
structure Mod (K:Frag) (mg:Str->Option Value) (base:Heap):Prop where
 kin:K.In base
 glob:base.Ns mainGlobals mg
 blt:∃ mb,base.Ns builtinsNs mb/\∀ x:Str,x ≠ "__name__" -> mb x=bootBuiltins x
 nolimit:base.NoLimit
structure Cx where
 prog:Program
 w:World
 K:Frag
 mg:Str->Option Value
 base:Heap
 A:Around
 N:List Str
 s₀:Shared
 H₀:Hp
 env:Env
 outer:List Env
 stack:List Env
 ex:List Addr
 fn:Str->Bool
 calm:Bool
 pn:List (Addr × Obj)
 xe:Value->Shared->Prop
noncomputable def frs (l:List Env):List Addr:=l.filterMap (·.frame)
noncomputable abbrev Cx.fs (X:Cx):List Addr:=frs X.outer
def Vis (sc:Scope) (x:Str):Prop:=sc.names.lookup x=some .local\/sc.names.lookup x=some .cell\/sc.names.lookup x=some .free
def Loc (sc:Scope) (x:Str):Prop:=sc.names.lookup x=some .local\/sc.names.lookup x=some .cell
def Look (env:Env) (h:Heap) (m:Str->Option Value) (x:Str) (u:Value):Prop:=
 (env.kindOf x=some .local/\m x=some u)\/((env.kindOf x=some .cell\/env.kindOf x=some .free)/\∃ c,env.cells.lookup x=some c/\h.IsCell c (some u))
structure Cx.Ok (X:Cx):Prop where
 mod:Mod X.K X.mg X.base
 kind:X.env.scope.kind=.function
 glob:X.env.globals=mainGlobals
 blt:X.env.builtins=builtinsNs
 above:X.s₀.heap.objs.size<=X.env.locals
 inj:∀ x y c,X.env.cells.lookup x=some c->X.env.cells.lookup y=some c->x=y
 has:∀ x,(X.env.kindOf x=some .cell\/X.env.kindOf x=some .free)->∃ c,X.env.cells.lookup x=some c
 cab:∀ x c,X.fn x=true->X.env.cells.lookup x=some c->X.s₀.heap.objs.size<=c
 hd:X.calm=true->X.A.handled=none
 frames:X.A.frames=some X.stack
 stk:X.stack=X.outer\/(X.stack=X.env::X.outer/\X.env.frame=some X.env.locals)
 exf:∀ b ∈ X.ex,b≠X.env.locals/\∀ x c,X.env.cells.lookup x=some c->c≠b
 bs:∀ b o,X.base.get? b=some o->X.s₀.heap.get? b=some o/\X.H₀ b=none
 bsz:X.base.objs.size<=X.s₀.heap.objs.size
 noex:∀ b o,X.base.get? b=some o->b ∉ X.ex
 exfs:∀ b ∈ X.ex,b ∉ X.fs
 funs:X.s₀.heap.FunFrames X.base X.outer
 frf:∀ b ∈ X.fs,X.H₀ b=none
structure Inv (X:Cx) (pins:List (Addr × Obj)) (σ:List (Option V)) (H:Hp) (s:Shared):Prop where
 ok:X.Ok
 os:s.os=X.s₀.os
 bare:AllBare s.gens
 base:Un X.fs X.ex X.H₀ H X.s₀.heap s.heap
 loc:∃ m,s.heap.Ns X.env.locals m/\∀ (i:Nat) (x:Str) (v:V),X.N[i]? = some x->σ[i]? = some (some v)->Vis X.env.scope x->∃ u,RelV v u/\Look X.env s.heap m x u
 cell:∀ x c,X.env.cells.lookup x=some c->∃ v,s.heap.IsCell c v
 free:H X.env.locals=none
 freeC:∀ x c,X.env.cells.lookup x=some c->H c=none
 pin:∀ p ∈ X.pn++pins,s.heap.get? p.1=some p.2/\H p.1=none/\p.1≠X.env.locals/\p.1 ∉ X.fs/\∀ v,p.2.data≠.cell v
 hok:HOk X.prog X.w H s.heap
 len:σ.length=X.N.length
 tk:0 < s.toks
section
variable {X:Cx} {pins:List (Addr × Obj)} {σ:List (Option V)} {H H':Hp} {s:Shared} {h':Heap}
theorem Cx.Ok.nofr (ok:X.Ok) {b:Addr} {o:Obj} (e:X.base.get? b=some o):b ∉ X.fs:=fun hb=>by
 have:=(ok.funs.mem hb).1;rw [e] at this; cases this
theorem Inv.bs (I:Inv X pins σ H s):∀ b o,X.base.get? b=some o->s.heap.get? b=some o/\H b=none:=fun b o e=>
 ⟨I.base.keep b o (I.ok.bs b o e).1 (I.ok.bs b o e).2 (I.ok.nofr e) (I.ok.noex b o e),I.base.free b o (I.ok.bs b o e).1 (I.ok.bs b o e).2 (I.ok.noex b o e)⟩
theorem Inv.bk (I:Inv X pins σ H s):∀ b o,X.base.get? b=some o->s.heap.get? b=some o:=fun b o e=>(I.bs b o e).1
theorem Inv.mod (I:Inv X pins σ H s):Mod X.K X.mg X.base:=I.ok.mod
theorem Inv.kIn (I:Inv X pins σ H s):X.K.In s.heap:=I.ok.mod.kin.keeps I.bk
theorem Inv.lt (I:Inv X pins σ H s):X.env.locals < s.heap.objs.size:=let ⟨_,hn,_⟩:=I.loc; hn.lt
theorem Inv.sz (I:Inv X pins σ H s):X.s₀.heap.objs.size<=s.heap.objs.size:=Nat.le_trans I.ok.above (Nat.le_of_lt I.lt)
theorem Inv.nofs (I:Inv X pins σ H s) {a:Addr} (h:s.heap.objs.size<=a):a ∉ X.fs:=fun hb=>by
 obtain ⟨_,o,ho,_⟩:=I.ok.funs.mem hb;exact absurd (Nat.lt_of_lt_of_le (Heap.lt_size ho) (Nat.le_trans I.sz h)) (Nat.lt_irrefl _)
theorem Inv.cne (I:Inv X pins σ H s):∀ x c,X.env.cells.lookup x=some c->c≠X.env.locals:=fun x c e z=>by
 obtain ⟨v,o,ho,hd⟩:=I.cell x c e;obtain ⟨m,⟨o',es,ep,ho',hd',_⟩,_⟩:=I.loc;rw [z,ho'] at ho; cases ho; rw [hd'] at hd; cases hd
theorem Inv.funs (I:Inv X pins σ H s):s.heap.FunFrames X.base X.outer:=by
 have all:∀ (l:List Env),(∀ b ∈ frs l,b ∈ X.fs)->X.s₀.heap.FunFrames X.base l->s.heap.FunFrames X.base l:=by
  intro l
  induction l with
  | nil=>intro _ _; trivial
  | cons env r ih=>
   intro hs hl;obtain ⟨hk,⟨L,o,hf,hn,ho,hd⟩,hr⟩:=hl;have hL:L ∈ X.fs:=hs L (by unfold frs; rw [List.filterMap_cons,hf]; exact List.mem_cons_self);obtain ⟨sl,e⟩:=I.base.slot L o ho (I.ok.frf L hL) hL fun z=>I.ok.exfs L z hL
   exact ⟨hk,⟨L,_,hf,hn,e,hd⟩,ih (fun b hb=>hs b (by unfold frs; rw [List.filterMap_cons,hf]; exact List.mem_cons_of_mem _ hb)) hr⟩
 exact all X.outer (fun _ hb=>hb) I.ok.funs
theorem Inv.stack (I:Inv X pins σ H s):s.heap.FunFrames X.base X.stack:=by
 rcases I.ok.stk with e | ⟨e,hf⟩
 ·rw [e]; exact I.funs
 ·rw [e];obtain ⟨m,hn,_⟩:=I.loc;refine .cons (by rw [I.ok.kind]; decide) hf hn ?_ I.funs;exact Heap.get?_none_of_le (Nat.le_trans I.ok.bsz I.ok.above)
theorem Inv.stkSub (I:Inv X pins σ H s):∀ b ∈ frs X.stack,b ∈ X.env.locals::X.fs:=fun b hb=>by
 rcases I.ok.stk with e | ⟨e,hf⟩
 ·rw [e] at hb; exact List.mem_cons_of_mem _ hb
 ·rw [e] at hb;unfold frs at hb;rw [List.filterMap_cons,hf] at hb;exact hb
theorem Inv.stkFree (I:Inv X pins σ H s):∀ b ∈ frs X.stack,H b=none:=fun b hb=>by
 rcases List.mem_cons.mp (I.stkSub b hb) with e | hb
 ·rw [e]; exact I.free
 ·obtain ⟨_,o,ho,_⟩:=I.ok.funs.mem hb;exact I.base.free b o ho (I.ok.frf b hb) fun z=>I.ok.exfs b z hb
theorem Inv.step {g':Array GenState} {t':Nat} {d':Drawn} {ch:List Addr} (I:Inv X pins σ H s)
  (hch:∀ b ∈ ch,(b ∈ X.ex\/X.s₀.heap.objs.size<=b)/\b≠X.env.locals/\(∀ x c,X.env.cells.lookup x=some c->c≠b)/\∀ p ∈ X.pn++pins,p.1≠b)
  (keep:∀ b o,b≠X.env.locals->b ∉ X.fs->b ∉ ch->s.heap.get? b=some o->H b=none->h'.get? b=some o)
  (slot:∀ b o,b≠X.env.locals->b ∈ X.fs->b ∉ ch->s.heap.get? b=some o->H b=none->∃ sl,h'.get? b=some { o with slots:=sl }) (free:∀ b o,b ∉ ch->s.heap.get? b=some o->H b=none->H' b=none)
  (there:∀ b o,b ∉ ch->s.heap.get? b=some o->∃ o',h'.get? b=some o')
  (tups:∀ b xs,H b=some (.tup xs)->H' b=some (.tup xs)) (frzs:∀ b o xs,H b=some (.frz o (.lst xs))->H' b=some (.frz o (.lst xs))) (tbls:∀ b ps,H b=some (.tbl ps)->∃ more,H' b=some (.tbl (ps++more)))
  (ns:∀ m,s.heap.Ns X.env.locals m->h'.Ns X.env.locals m) (hok:HOk X.prog X.w H' h') (hg:AllBare g') (ht:0 < t':=by first | assumption | exact Nat.succ_pos _ | (apply Inv.tk; assumption) | lia):
  Inv X pins σ H' { s with heap:=h',gens:=g',drawn:=d',toks:=t' }:=by
 have neL:∀ b o,X.s₀.heap.get? b=some o->b≠X.env.locals:=fun b o e=>Nat.ne_of_lt (Nat.lt_of_lt_of_le (Heap.lt_size e) I.ok.above)
 have neC:∀ b o,X.s₀.heap.get? b=some o->b ∉ X.ex->b ∉ ch:=fun b o e hx hb=>by
  rcases (hch b hb).1 with z | z
  ·exact hx z
  ·exact absurd (Nat.lt_of_lt_of_le (Heap.lt_size e) z) (Nat.lt_irrefl _)
 have cellK:∀ x c,X.env.cells.lookup x=some c->∀ v,s.heap.IsCell c v->h'.IsCell c v:=fun x c e v ⟨o,ho,hd⟩=>by
  have nch:c ∉ ch:=fun z=>(hch c z).2.2.1 x c e rfl
  by_cases hc:c ∈ X.fs
  ·obtain ⟨sl,q⟩:=slot c o (I.cne x c e) hc nch ho (I.freeC x c e);exact ⟨_,q,hd⟩
  ·exact ⟨o,keep c o (I.cne x c e) hc nch ho (I.freeC x c e),hd⟩
 refine ⟨I.ok,I.os,hg,⟨fun b o e n hb hx=>?_,fun b o e n hb hx=>?_,fun b o e n hx=>?_,fun b o e hx=>?_,fun b xs e=>tups b xs (I.base.tups b xs e),fun b o xs e=>frzs b o xs (I.base.frzs b o xs e),fun b ps e=>?_⟩,?_,fun x c e=>?_,?_,fun x c e=>?_,fun p hp=>?_,hok,I.len,ht⟩
 ·exact keep b o (neL b o e) hb (neC b o e hx) (I.base.keep b o e n hb hx) (I.base.free b o e n hx)
 ·obtain ⟨sl,e1⟩:=I.base.slot b o e n hb hx;obtain ⟨sl',e2⟩:=slot b _ (neL b o e) hb (neC b o e hx) e1 (I.base.free b o e n hx);exact ⟨sl',e2⟩
 ·obtain ⟨o',e1⟩:=I.base.there b o e hx;exact free b o' (neC b o e hx) e1 (I.base.free b o e n hx)
 ·obtain ⟨o',e1⟩:=I.base.there b o e hx;exact there b o' (neC b o e hx) e1
 ·obtain ⟨m1,e1⟩:=I.base.tbls b ps e;obtain ⟨m2,e2⟩:=tbls b _ e1;exact ⟨m1++m2,by rw [e2,Array.append_assoc]⟩
 ·obtain ⟨m,hn,hl⟩:=I.loc;refine ⟨m,ns m hn,fun i x v e1 e2 e3=>?_⟩;obtain ⟨u,r,l⟩:=hl i x v e1 e2 e3;refine ⟨u,r,?_⟩;rcases l with l | ⟨k,c,e,z⟩
  ·exact .inl l
  ·exact .inr ⟨k,c,e,cellK x c e _ z⟩
 ·obtain ⟨v,z⟩:=I.cell x c e;exact ⟨v,cellK x c e v z⟩
 ·obtain ⟨m,⟨o,_,_,ho,_⟩,_⟩:=I.loc;exact free _ o (fun z=>(hch _ z).2.1 rfl) ho I.free
 ·obtain ⟨v,o,ho,hd⟩:=I.cell x c e;exact free c o (fun z=>(hch c z).2.2.1 x c e rfl) ho (I.freeC x c e)
 ·obtain ⟨e,n,ne,nf,d⟩:=I.pin p hp;have nch:p.1 ∉ ch:=fun z=>(hch p.1 z).2.2.2 p hp rfl
  exact ⟨keep p.1 p.2 ne nf nch e n,free p.1 p.2 nch e n,ne,nf,d⟩
theorem Inv.un {t':Nat} (I:Inv X pins σ H s) (u:Un X.fs [] H H' s.heap h') (hok:HOk X.prog X.w H' h') (ht:0 < t':=by first | assumption | exact Nat.succ_pos _ | (apply Inv.tk; assumption) | lia):Inv X pins σ H' { s with heap:=h',toks:=t' }:=by
 obtain ⟨m,⟨o,es,ep,ho,r⟩,_⟩:=id I.loc;obtain ⟨sl,hL⟩:=u.any ho I.free (by simp);exact I.step (g':=s.gens) (d':=s.drawn) (ch:=[]) (fun _ z=>nomatch z) (fun b o _ hb _ e n=>u.keep b o e n hb (by simp)) (fun b o _ hb _ e n=>u.slot b o e n hb (by simp)) (fun b o _ e n=>u.free b o e n (by simp)) (fun b o _ e=>u.there b o e (by simp)) u.tups u.frzs u.tbls (fun m' hm=>by
  obtain ⟨o',es',ep',ho',r'⟩:=hm;rw [ho] at ho'; cases ho';exact ⟨_,es',ep',hL,r'⟩) hok I.bare ht
theorem Inv.call {g':Array GenState} {t':Nat} {d':Drawn} {ch:List Addr} (I:Inv X pins σ H s) (u:Un (frs X.stack) ch H H' s.heap h') (hok:HOk X.prog X.w H' h') (hg:AllBare g')
  (hch:∀ b ∈ ch,(b ∈ X.ex\/X.s₀.heap.objs.size<=b)/\b≠X.env.locals/\(∀ x c,X.env.cells.lookup x=some c->c≠b)/\∀ p ∈ X.pn++pins,p.1≠b) (ht:0 < t':=by first | assumption | exact Nat.succ_pos _ | (apply Inv.tk; assumption) | lia):
  Inv X pins σ H' { s with heap:=h',gens:=g',drawn:=d',toks:=t' }:=by
 obtain ⟨m,⟨o,es,ep,ho,r⟩,_⟩:=id I.loc;obtain ⟨sl,hL⟩:=u.any ho I.free fun z=>(hch _ z).2.1 rfl
 exact I.step (ch:=ch) hch (fun b o hL hb hc e n=>u.keep b o e n (fun z=>(List.mem_cons.mp (I.stkSub b z)).elim hL hb) hc) (fun b o _ _ hc e n=>u.any e n hc) (fun b o hc e n=>u.free b o e n hc) (fun b o hc e=>u.there b o e hc) u.tups u.frzs u.tbls (fun m' hm=>by
  obtain ⟨o',es',ep',ho',r'⟩:=hm;rw [ho] at ho'; cases ho';exact ⟨_,es',ep',hL,r'⟩) hok hg ht
theorem Inv.turned {t':Nat} {it:Addr} (I:Inv X pins σ H s) (k:∀ b o,b≠it->s.heap.get? b=some o->h'.get? b=some o) (hn:H it=none) (hL:it≠X.env.locals)
  (h1:it ∈ X.ex\/X.s₀.heap.objs.size<=it) (h2:∀ x c,X.env.cells.lookup x=some c->c≠it) (h3:∀ p ∈ X.pn++pins,p.1≠it) (ht:0 < t':=by first | assumption | exact Nat.succ_pos _ | (apply Inv.tk; assumption) | lia):Inv X pins σ H { s with heap:=h',toks:=t' }:=by
 have nit:∀ b u,H b=some u->b≠it:=fun b u e z=>by rw [z,hn] at e; cases e
 refine I.step (g':=s.gens) (d':=s.drawn) (ch:=[it]) (fun b hb=>?_) (fun b o _ _ hc e _=>k b o (fun z=>hc (by simp [z])) e) (fun b o _ _ hc e _=>⟨o.slots,k b o (fun z=>hc (by simp [z])) e⟩) (fun _ _ _ _ n=>n)
  (fun b o hc e=>⟨o,k b o (fun z=>hc (by simp [z])) e⟩) (fun _ _ e=>e) (fun _ _ _ e=>e) (fun b ps e=>⟨#[],by rw [e]; simp⟩) (fun m hm=>?_) (fun b u e=>?_) I.bare
 ·have e:b=it:=by simpa using hb
  subst e;exact ⟨h1,hL,h2,h3⟩
 ·obtain ⟨o,es,ep,ho,r⟩:=hm;exact ⟨o,es,ep,k _ o (Ne.symm hL) ho,r⟩
 ·refine (I.hok b u e).stay (fun c v hc q=>k c v ?_ q) (fun _ q=>q) fun _ _ q=>q
  rcases hc with z | z
  ·rw [z]; exact nit b u e
  ·exact nit c _ z
theorem Inv.tok (I:Inv X pins σ H s) (t:Nat) (ht:0 < t:=by first | assumption | exact Nat.succ_pos _ | (apply Inv.tk; assumption) | lia):Inv X pins σ H { s with toks:=t }:=I.un (h':=s.heap) (t':=t) Un.refl I.hok ht
theorem Inv.kept {t':Nat} (I:Inv X pins σ H s) (k:∀ b u,s.heap.get? b=some u->h'.get? b=some u) (ht:0 < t':=by first | assumption | exact Nat.succ_pos _ | (apply Inv.tk; assumption) | lia):Inv X pins σ H { s with heap:=h',toks:=t' }:=I.un (Un.kept k) (I.hok.kept k) ht
theorem Inv.laid {a:Addr} {o:HO} {t':Nat} (I:Inv X pins σ H s) (k:∀ b u,s.heap.get? b=some u->h'.get? b=some u) (hp:s.heap.objs.size<=a) (new:ObjOk X.prog X.w (upd H a o) h' a o) (ht:0 < t':=by first | assumption | exact Nat.succ_pos _ | (apply Inv.tk; assumption) | lia):
  Inv X pins σ (upd H a o) { s with heap:=h',toks:=t' }:=I.un (Un.laid k hp (I.hok.fresh hp)) (I.hok.laid k hp new) ht
theorem Inv.write {x e:Addr} {o:HO} {t':Nat} (I:Inv X pins σ H s) (mu:Mut (H x)) (he:e=x\/H e=some (.own x)) (k:∀ b u,b≠e->s.heap.get? b=some u->h'.get? b=some u) (heo:∃ u,h'.get? e=some u)
  (new:ObjOk X.prog X.w (upd H x o) h' x o) (ht:0 < t':=by first | assumption | exact Nat.succ_pos _ | (apply Inv.tk; assumption) | lia):Inv X pins σ (upd H x o) { s with heap:=h',toks:=t' }:=I.un (Un.write mu he k heo) (I.hok.write mu he k heo new) ht
theorem Inv.weak {σ':List (Option V)} (I:Inv X pins σ H s) (hl:σ'.length=σ.length) (w:∀ (i:Nat) v,σ'[i]? = some (some v)->σ[i]? = some (some v)):Inv X pins σ' H s:=
 ⟨I.ok,I.os,I.bare,I.base,let ⟨m,hn,hl'⟩:=I.loc; ⟨m,hn,fun i x v e1 e2 e3=>hl' i x v e1 (w i v e2) e3⟩,I.cell,I.free,I.freeC,I.pin,I.hok,hl.trans I.len,I.tk⟩
theorem Inv.pins_of {pins':List (Addr × Obj)} (I:Inv X pins σ H s) (h:∀ p ∈ pins',s.heap.get? p.1=some p.2/\H p.1=none/\p.1≠X.env.locals/\p.1 ∉ X.fs/\∀ v,p.2.data≠.cell v):Inv X pins' σ H s:=
 ⟨I.ok,I.os,I.bare,I.base,I.loc,I.cell,I.free,I.freeC,fun p hp=>(List.mem_append.mp hp).elim (fun z=>I.pin p (List.mem_append_left _ z)) (h p),I.hok,I.len,I.tk⟩
theorem qj {N:List Str} (hN:N.Nodup) {i j:Nat} {x:Str} (a:N[i]? = some x) (b:N[j]? = some x):i=j:=by
 obtain ⟨h1,e1⟩:=List.getElem?_eq_some_iff.mp a;obtain ⟨h2,e2⟩:=List.getElem?_eq_some_iff.mp b;exact (List.getElem_inj hN).mp (e1.trans e2.symm)
theorem oR {M:Model} {A:Around} {E:Value->Shared->Prop} {i:Nat} {x:Str} {v:V} {u:Value} {Q:Unit->Shared->Prop} (I:Inv X pins σ H s) (hN:X.N.Nodup) (hi:X.N[i]? = some x) (hx:Loc X.env.scope x) (r:RelV v u)
  (h:∀ s',Inv X pins (σ.set i (some v)) H s'->(∃ a,Heap.SameBut a s.heap s'.heap/\(a=X.env.locals\/X.env.cells.lookup x=some a))->Q () s') (hf:X.fn x=true\/X.env.scope.names.lookup x=some .local:=by first | exact .inl rfl | exact .inr rfl | assumption):wpAny M A (storeName X.env x u) Q E s:=by
 obtain ⟨m,hn,hl⟩:=id I.loc;have hcls:(X.env.scope.kind == .class || (X.env.scope.kind == .module && X.env.locals != X.env.globals))=false:=by rw [I.ok.kind]; rfl
 have hiσ:i < σ.length:=by rw [I.len]; exact (List.getElem?_eq_some_iff.mp hi).1
 have cne:=I.cne;have tracked:∀ {a:Addr} {h':Heap},(∃ o,s.heap.get? a=some o/\H a=none)->Heap.SameBut a s.heap h'->HOk X.prog X.w H h':=fun {a h'} ha hs b ob e=>by
  obtain ⟨_,_,hfree⟩:=ha;refine (I.hok b ob e).stay (fun c w' hc q=>(hs.2 c ?_).trans q) (fun _ q=>q) fun _ _ q=>q
  rintro rfl;rcases hc with rfl | hc
  ·rw [hfree] at e; cases e
  ·rw [hfree] at hc; cases hc
 rcases hx with hk | hk
 ·refine wpAny_storeName_local hk hn (fun h' hn' hs=>?_) hcls;obtain ⟨oL,_,_,hoL,_⟩:=id hn;refine h _ ⟨I.ok,I.os,I.bare,⟨fun b o e n hb hx=>?_,fun b o e n hb hx=>?_,I.base.free,fun b o e hx=>?_,I.base.tups,I.base.frzs,I.base.tbls⟩,⟨_,hn',fun j y v' e1 e2 e3=>?_⟩,fun y c e=>?_,I.free,I.freeC,fun p hp=>?_,tracked ⟨oL,hoL,I.free⟩ hs,by simpa using I.len,(by first | exact Nat.succ_pos _ | exact I.tk)⟩ ⟨_,hs,.inl rfl⟩
  ·exact (hs.2 b (Nat.ne_of_lt (Nat.lt_of_lt_of_le (Heap.lt_size e) I.ok.above))).trans (I.base.keep b o e n hb hx)
  ·obtain ⟨sl,e1⟩:=I.base.slot b o e n hb hx;exact ⟨sl,(hs.2 b (Nat.ne_of_lt (Nat.lt_of_lt_of_le (Heap.lt_size e) I.ok.above))).trans e1⟩
  ·obtain ⟨o',e1⟩:=I.base.there b o e hx;exact ⟨o',(hs.2 b (Nat.ne_of_lt (Nat.lt_of_lt_of_le (Heap.lt_size e) I.ok.above))).trans e1⟩
  ·by_cases hj:j=i
   ·subst hj;rw [hi] at e1; cases e1;rw [List.getElem?_set_self hiσ] at e2;cases e2;exact ⟨u,r,.inl ⟨hk,by simp⟩⟩
   ·rw [List.getElem?_set_ne (Ne.symm hj)] at e2;obtain ⟨u',r',q⟩:=hl j y v' e1 e2 e3;refine ⟨u',r',?_⟩;rcases q with ⟨k,e⟩ | ⟨k,c,e,z⟩
    ·refine .inl ⟨k,?_⟩;have:y≠x:=fun e=>hj (qj hN e1 (e ▸ hi))
     simp [this,e]
    ·exact .inr ⟨k,c,e,z.sameBut hs (cne y c e)⟩
  ·obtain ⟨w',z⟩:=I.cell y c e;exact ⟨w',z.sameBut hs (cne y c e)⟩
  ·obtain ⟨e,n,ne,nf,d⟩:=I.pin p hp;exact ⟨(hs.2 p.1 ne).trans e,n,ne,nf,d⟩
 ·have hfn:X.fn x=true:=by
   rcases hf with z | z
   ·exact z
   ·rw [z] at hk; cases hk
  obtain ⟨c,hc⟩:=I.ok.has x (.inl hk);obtain ⟨w',z⟩:=I.cell x c hc;refine wpAny_storeName_cell I.ok.kind hk hc z (fun h' hc' hs=>?_);obtain ⟨oc,hoc,hocd⟩:=id z;refine h { s with heap:=h' } ⟨I.ok,I.os,I.bare,⟨fun b o e n hb hx=>?_,fun b o e n hb hx=>?_,I.base.free,fun b o e hx=>?_,I.base.tups,I.base.frzs,I.base.tbls⟩,⟨m,hn.sameBut hs (Ne.symm (cne x c hc)),fun j y v' e1 e2 e3=>?_⟩,fun y c' e=>?_,I.free,I.freeC,fun p hp=>?_,tracked ⟨oc,hoc,I.freeC x c hc⟩ hs,by simpa using I.len,I.tk⟩ ⟨c,hs,.inr hc⟩
  ·exact (hs.2 b (Nat.ne_of_lt (Nat.lt_of_lt_of_le (Heap.lt_size e) (I.ok.cab x c hfn hc)))).trans (I.base.keep b o e n hb hx)
  ·obtain ⟨sl,e1⟩:=I.base.slot b o e n hb hx;exact ⟨sl,(hs.2 b (Nat.ne_of_lt (Nat.lt_of_lt_of_le (Heap.lt_size e) (I.ok.cab x c hfn hc)))).trans e1⟩
  ·obtain ⟨o',e1⟩:=I.base.there b o e hx;exact ⟨o',(hs.2 b (Nat.ne_of_lt (Nat.lt_of_lt_of_le (Heap.lt_size e) (I.ok.cab x c hfn hc)))).trans e1⟩
  ·by_cases hj:j=i
   ·subst hj;rw [hi] at e1; cases e1;rw [List.getElem?_set_self hiσ] at e2;cases e2;exact ⟨u,r,.inr ⟨.inl hk,c,hc,hc'⟩⟩
   ·rw [List.getElem?_set_ne (Ne.symm hj)] at e2;obtain ⟨u',r',q⟩:=hl j y v' e1 e2 e3;refine ⟨u',r',?_⟩;rcases q with q | ⟨k,c',e,z'⟩
    ·exact .inl q
    ·refine .inr ⟨k,c',e,z'.sameBut hs ?_⟩;rintro rfl;exact hj (qj hN e1 (I.ok.inj _ _ _ e hc ▸ hi))
  ·by_cases hcc:c'=c
   ·subst hcc; exact ⟨_,hc'⟩
   ·obtain ⟨w2,z2⟩:=I.cell y c' e;exact ⟨w2,z2.sameBut hs hcc⟩
  ·obtain ⟨e,n,ne,nf,d⟩:=I.pin p hp;refine ⟨(hs.2 p.1 ?_).trans e,n,ne,nf,d⟩;intro q;rw [q,hoc] at e;have q':oc=p.2:=Option.some.inj e;exact d w' (by rw [<- q']; exact hocd)
theorem qR {M:Model} {A:Around} {E:Value->Shared->Prop} {i:Nat} {x:Str} {v:V} {u:Value} {Q:Unit->Shared->Prop} (I:Inv X pins σ H s) (hN:X.N.Nodup) (hi:X.N[i]? = some x) (hx:Loc X.env.scope x) (r:RelV v u)
  (h:∀ s',Inv X pins (σ.set i (some v)) H s'->Q () s') (hf:X.fn x=true\/X.env.scope.names.lookup x=some .local:=by first | exact .inl rfl | exact .inr rfl | assumption):wpAny M A (storeName X.env x u) Q E s:=
 oR I hN hi hx r (fun s' I' _=>h s' I') hf
theorem Inv.call' {s':Shared} {ch:List Addr} (I:Inv X pins σ H s) (ho:s'.os=s.os) (u:Un (frs X.stack) ch H H' s.heap s'.heap) (hok:HOk X.prog X.w H' s'.heap) (hg:AllBare s'.gens)
  (hch:∀ b ∈ ch,(b ∈ X.ex\/X.s₀.heap.objs.size<=b)/\b≠X.env.locals/\(∀ x c,X.env.cells.lookup x=some c->c≠b)/\∀ p ∈ X.pn++pins,p.1≠b) (ht:0 < s'.toks:=by first | assumption | exact Nat.succ_pos _ | (apply Inv.tk; assumption) | lia):Inv X pins σ H' s':=by
 obtain ⟨h',g',d',t',o'⟩:=s';have e:o'=s.os:=ho;subst e;exact I.call (g':=g') (t':=t') (d':=d') u hok hg hch ht
end
noncomputable abbrev XK:=Value->Option Addr->Hp->Prop
noncomputable abbrev St:=List (Option V)
noncomputable abbrev VK:=V->Hp->Prop
noncomputable abbrev TE:=St->Hp->VK->Prop
noncomputable abbrev TT:=St->Hp->(Bool->Hp->Prop)->Prop
noncomputable abbrev TA:=St->Hp->(List V->Hp->Prop)->Prop
structure Ends where
 nx:St->Hp->Prop
 rt:VK
 bk:St->Hp->Prop:=fun _ _=>False
 ct:St->Hp->Prop:=fun _ _=>False
noncomputable abbrev TS:=Ends->St->Hp->Prop
def EP (X:Cx) (pins:List (Addr × Obj)) (σ:St) (Q:VK) (u:Value) (s':Shared):Prop:=Ex2 fun v H'=>Inv X pins σ H' s'/\RelV v u/\Q v H'
def TP (X:Cx) (pins:List (Addr × Obj)) (σ:St) (Q:Bool->Hp->Prop) (b:Bool) (s':Shared):Prop:=∃ H',Inv X pins σ H' s'/\Q b H'
def AP (X:Cx) (pins:List (Addr × Obj)) (σ:St) (Q:List V->Hp->Prop) (us:List Value) (s':Shared):Prop:=Ex2 fun vs H'=>Inv X pins σ H' s'/\Vals vs us/\Q vs H'
def SP (X:Cx) (pins:List (Addr × Obj)) (D:Ends) (f:Flow) (s':Shared):Prop:=
 match f with
 | .next=>Ex2 fun σ' H'=>Inv X pins σ' H' s'/\D.nx σ' H'
 | .brk=>Ex2 fun σ' H'=>Inv X pins σ' H' s'/\D.bk σ' H'
 | .cont=>Ex2 fun σ' H'=>Inv X pins σ' H' s'/\D.ct σ' H'
 | .ret u=>Ex3 fun v σ' H'=>Inv X pins σ' H' s'/\RelV v u/\D.rt v H'
def PE (X:Cx) (e:Expr) (t:TE):Prop:=
 ∀ (pins:List (Addr × Obj)) (s:Shared) (σ:St) (H:Hp) (Q:VK),Inv X pins σ H s->t σ H Q->wpAny (model X.prog X.w) X.A (eval e X.env) (EP X pins σ Q) X.xe s
def PT (X:Cx) (e:Expr) (t:TT):Prop:=
 ∀ (pins:List (Addr × Obj)) (s:Shared) (σ:St) (H:Hp) (Q:Bool->Hp->Prop),Inv X pins σ H s->t σ H Q->wpAny (model X.prog X.w) X.A (isTrue e X.env (eval e X.env)) (TP X pins σ Q) X.xe s
def PW (X:Cx) (e:Expr) (t:TT):Prop:=
 ∀ (whole:Sem Value) (pins:List (Addr × Obj)) (s:Shared) (σ:St) (H:Hp) (Q:Bool->Hp->Prop),Inv X pins σ H s->t σ H Q->wpAny (model X.prog X.w) X.A (isTrue e X.env whole) (TP X pins σ Q) X.xe s
theorem PW.pt {X:Cx} {e:Expr} {t:TT} (h:PW X e t):PT X e t:=h _
def PA (X:Cx) (es:List Expr) (t:TA):Prop:=
 ∀ (pos:Pos) (pins:List (Addr × Obj)) (s:Shared) (σ:St) (H:Hp) (Q:List V->Hp->Prop),Inv X pins σ H s->t σ H Q->wpAny (model X.prog X.w) X.A (spliced (backTo pos (starEach es X.env))) (AP X pins σ Q) X.xe s
def PS (X:Cx) (st:Stmt) (t:TS):Prop:=
 ∀ (pins:List (Addr × Obj)) (s:Shared) (σ:St) (H:Hp) (D:Ends),Inv X pins σ H s->t D σ H->wpAny (model X.prog X.w) X.A (exec st X.env) (SP X pins D) X.xe s
def PSs (X:Cx) (st:List Stmt) (t:TS):Prop:=
 ∀ (pins:List (Addr × Obj)) (s:Shared) (σ:St) (H:Hp) (D:Ends),Inv X pins σ H s->t D σ H->wpAny (model X.prog X.w) X.A (execs st X.env) (SP X pins D) X.xe s
theorem thn {α:Type} {t:Sem α} {Q Q':α -> Shared->Prop} {M:Model} {A:Around} {E:Value->Shared->Prop} {s:Shared} (h:wpAny M A t Q E s) (hQ:∀ a s,Q a s->Q' a s):wpAny M A t Q' E s:=wpAny_mono h hQ fun _ _ x=>x
theorem tokQ {α:Type} {t:Sem α} {Q:α -> Shared->Prop} {M:Model} {A:Around} {E:Value->Shared->Prop} {s:Shared} (h0:0 < s.toks) (h:wpAny M A t (fun a s'=>0 < s'.toks->Q a s') E s):wpAny M A t Q E s:=
 wpAny_mono (wpAny_toks_of (n:=1) h0 h) (fun _ _ z=>z.2 z.1) fun _ _ z=>z.2
section
variable {X:Cx}
noncomputable def tVar (i:Nat):TE:=fun σ H Q=>∃ v,σ[i]? = some (some v)/\Q v H
noncomputable def tC (v:V):TE:=fun _ H Q=>Q v H
theorem uY {i:Nat} {x:Str} {pos:Pos} (hN:X.N[i]? = some x) (hv:Vis X.env.scope x) (hd:(x == ("__debug__" : Str))=false:=by decide) (hcd:(x == ("__classdict__" : Str))=false:=by decide):PE X (.Name x pos) (tVar i):=by
 intro pins s σ H Q I h;obtain ⟨v,e,h⟩:=h;obtain ⟨m,hn,hl⟩:=I.loc;obtain ⟨u,r,l⟩:=hl i x v hN e hv;have fin:EP X pins σ Q u s:=⟨v,H,I,r,h⟩;rcases l with ⟨hk,hm⟩ | ⟨hk,c,hc,hcell⟩
 ·exact wpAny_Name (wpAny_loadName_local I.ok.kind hk hn hm fin) hd
 ·rcases hk with hk | hk
  ·exact wpAny_Name (wpAny_loadName_cell I.ok.kind hk hc hcell fin) hd
  ·exact wpAny_Name (wpAny_loadName_free I.ok.kind hk hc hcell fin hcd) hd
theorem ad {i j pos}:PE X (.Constant (.int i) j pos) (tC (.int i)):=fun _ _ _ H _ I h=>wpAny_Constant_int ⟨.int i,H,I.tok _,⟨_,rfl⟩,h⟩
theorem jU {b j pos}:PE X (.Constant (.bool b) j pos) (tC (.bl b)):=fun _ _ _ H _ I h=>Constant_bool ⟨.bl b,H,I,rfl,h⟩
theorem pM {j pos}:PE X (.Constant .none j pos) (tC .non):=fun _ _ _ H _ I h=>Constant_none ⟨.non,H,I,rfl,h⟩
theorem vg {x j pos}:PE X (.Constant (.str x) j pos) (tC (.str x)):=fun _ _ _ H _ I h=>Calls.Constant_str ⟨.str x,H,I.tok _,⟨_,rfl⟩,h⟩
def Gl (X:Cx) (x:Str):Prop:=X.env.kindOf x=some .globalImplicit
theorem pZ {E:Value->Shared->Prop} {pins:List (Addr × Obj)} {s:Shared} {σ:St} {H:Hp} {x:Str} {u:Value} {pos:Pos} {Q:Value->Shared->Prop} (I:Inv X pins σ H s) (hg:Gl X x) (hm:X.mg x=some u) (h:Q u s)
  (hd:(x == ("__debug__" : Str))=false:=by decide):wpAny (model X.prog X.w) X.A (eval (.Name x pos) X.env) Q E s:=
 Calls.Name_function_global I.ok.kind hg (Calls.loadGlobal_global (by rw [I.ok.glob]; exact I.mod.glob.keeps I.bk) hm h) hd
theorem pR {E:Value->Shared->Prop} {pins:List (Addr × Obj)} {s:Shared} {σ:St} {H:Hp} {x:Str} {u:Value} {pos:Pos} {Q:Value->Shared->Prop} (I:Inv X pins σ H s) (hg:Gl X x) (hm:X.mg x=none) (hv:bootBuiltins x=some u) (h:Q u s)
  (hn:x ≠ "__name__" := by decide) (hd:(x == ("__debug__" : Str))=false:=by decide):wpAny (model X.prog X.w) X.A (eval (.Name x pos) X.env) Q E s:=by
 obtain ⟨mb,h1,h2⟩:=I.mod.blt;exact Calls.Name_function_global I.ok.kind hg (Calls.loadGlobal_builtin (by rw [I.ok.glob]; exact I.mod.glob.keeps I.bk) hm (by rw [I.ok.blt]; exact h1.keeps I.bk) ((h2 x hn).trans hv) h) hd
theorem wJ {x:Str} {v:V} {u:Value} {pos:Pos} (hg:Gl X x) (hm:X.mg x=none) (hv:bootBuiltins x=some u) (r:RelV v u) (hn:x ≠ "__name__" := by decide) (hd:(x == ("__debug__" : Str))=false:=by decide):PE X (.Name x pos) (tC v):=
 fun _ _ _ H _ I h=>pR I hg hm hv ⟨v,H,I,r,h⟩ hn hd
variable {a b:Expr} {ta tb:TE} {pos:Pos}
noncomputable def tB (t:TE):TT:=fun σ H Q=>t σ H fun x H1=>∃ c,x=.bl c/\Q c H1
theorem yN {e:Expr} {t:TE} (h:PE X e t) (he:∀ whole,isTrue e X.env whole=(do let v <- whole; standAt e.pos; holding [v] (truthy v)):=by intro _; rfl):PT X e (tB t):=by
 intro pins s σ H Q I hw;refine isTrue_plain (thn (h pins s σ H _ I hw) fun v s1 ⟨x,H1,I1,r1,q1⟩=>?_) (he _);obtain ⟨d,rfl,q⟩:=q1;cases r1;exact wpAny_truthy_bool ⟨H1,I1,q⟩
variable {tA tB':TT} {rest:List Expr}
noncomputable def tAnd (t u:TT):TT:=fun σ H Q=>t σ H fun c H1=>if c=true then u σ H1 Q else Q false H1
noncomputable def tOr (t u:TT):TT:=fun σ H Q=>t σ H fun c H1=>if c=true then Q true H1 else u σ H1 Q
noncomputable def tNot (t:TT):TT:=fun σ H Q=>t σ H fun c H1=>Q (!c) H1
theorem kK (ha:PT X a tA):PW X (.BoolOp .And [a] pos) tA:=by
 intro wh pins s σ H Q I h;refine isTrue_and (thn (ha pins s σ H Q I h) fun c s1 e=>?_);cases c with
 | true=>exact isTrue_and_nil e
 | false=>exact e
theorem ni (ha:PT X a tA):PW X (.BoolOp .Or [a] pos) tA:=by
 intro wh pins s σ H Q I h;refine isTrue_or (thn (ha pins s σ H Q I h) fun c s1 e=>?_);cases c with
 | false=>exact isTrue_or_nil e
 | true=>exact e
theorem m7 (ha:PT X a tA) (hb:PW X (.BoolOp .And (b::rest) pos) tB'):PW X (.BoolOp .And (a::b::rest) pos) (tAnd tA tB'):=by
 intro wh pins s σ H Q I h;refine isTrue_and (thn (ha pins s σ H _ I h) fun c s1 ⟨H1,I1,q1⟩=>?_);cases c with
 | true=>exact hb wh pins s1 σ H1 Q I1 q1
 | false=>exact ⟨H1,I1,q1⟩
theorem qM (ha:PT X a tA) (hb:PW X (.BoolOp .Or (b::rest) pos) tB'):PW X (.BoolOp .Or (a::b::rest) pos) (tOr tA tB'):=by
 intro wh pins s σ H Q I h;refine isTrue_or (thn (ha pins s σ H _ I h) fun c s1 ⟨H1,I1,q1⟩=>?_);cases c with
 | true=>exact ⟨H1,I1,q1⟩
 | false=>exact hb wh pins s1 σ H1 Q I1 q1
theorem ix (ha:PT X a tA):PT X (.UnaryOp .Not a pos) (tNot tA):=by
 intro pins s σ H Q I h;exact isTrue_not (ha pins s σ H (fun c H1=>Q (!c) H1) I h)
noncomputable def tAndV (ta tb:TE):TE:=fun σ H Q=>ta σ H fun x H1=>∃ c,x=.bl c/\if c=true then tb σ H1 Q else Q (.bl false) H1
theorem yn {op} {t:TE} (h:PE X a t):PE X (.BoolOp op [a] pos) t:=fun pins s σ H Q I hw=>BoolOp_one (h pins s σ H Q I hw)
theorem xS (ha:PE X a ta) (hb:PE X (.BoolOp .And (b::rest) pos) tb):PE X (.BoolOp .And (a::b::rest) pos) (tAndV ta tb):=by
 intro pins s σ H Q I h;refine BoolOp_and (thn (ha pins s σ H _ I h) fun v s1 ⟨x,H1,I1,r1,q1⟩=>?_);obtain ⟨c,rfl,q1⟩:=q1;cases r1;refine wpAny_truthy_bool ?_;cases c with
 | true=>exact hb pins s1 σ H1 Q I1 q1
 | false=>exact ⟨.bl false,H1,I1,rfl,q1⟩
noncomputable def tIf (t:TT) (ta tb:TE):TE:=fun σ H Q=>t σ H fun c H1=>if c=true then ta σ H1 Q else tb σ H1 Q
theorem m9 {c:Expr} (hc:PT X c tA) (ha:PE X a ta) (hb:PE X b tb):PE X (.IfExp c a b pos) (tIf tA ta tb):=by
 intro pins s σ H Q I h;refine wpAny_IfExp (thn (hc pins s σ H _ I h) fun d s1 ⟨H1,I1,q1⟩=>?_);cases d with
 | true=>exact ha pins s1 σ H1 Q I1 q1
 | false=>exact hb pins s1 σ H1 Q I1 q1
end
def SqL (K:Frag) (H:Hp) (a:Addr) (xs:List V):Prop:=
 Rd H a (.lst xs) \/
  Ex3 fun (o:Obj) (its:Array Value) (n:Nat)=>K.lookup a=some o/\o.cls=.type "list" /\ o.dict=none/\o.data=.seq its n/\its.size<=sizeLine/\Vals xs its.toList
def SqT (K:Frag) (H:Hp) (a:Addr) (xs:List V):Prop:=
 Rd H a (.tup xs) \/
  Ex3 fun (o:Obj) (its:Array Value) (n:Nat)=>K.lookup a=some o/\o.cls=.type "tuple" /\ o.data=.seq its n/\its.size<=sizeLine/\Vals xs its.toList
noncomputable def absV:Value->Option V
 | .none=>some .non
 | .bool b=>some (.bl b)
 | .int i _=>some (.int i)
 | .str x _=>some (.str x)
 | .bytes b _=>some (.byt b)
 | .float b _=>some (.flt b)
 | .ref a=>some (.ref a)
 | .type n=>some (.ty n)
 | _=>none
theorem RelV.abs {x:V} {u:Value} (r:RelV x u):absV u=some x:=by
 cases x with
 | non=>cases r; rfl
 | bl _=>cases r; rfl
 | int _=>obtain ⟨t,rfl⟩:=r; rfl
 | str _=>obtain ⟨t,rfl⟩:=r; rfl
 | byt _=>obtain ⟨t,rfl⟩:=r; rfl
 | flt _=>obtain ⟨t,rfl⟩:=r; rfl
 | ref _=>cases r; rfl
 | ty _=>cases r; rfl
theorem RelV.inj {x y:V} {u:Value} (r:RelV x u) (q:RelV y u):x=y:=Option.some.inj (r.abs.symm.trans q.abs)
theorem Vals.inj:∀ {xs ys:List V} {us:List Value},Vals xs us->Vals ys us->xs=ys
 | _,_,_,.nil,.nil=>rfl
 | _,_,_,.cons r t,.cons r' t'=>by rw [r.inj r',Vals.inj t t']
section
variable {X:Cx} {pins:List (Addr × Obj)} {σ:St} {H:Hp} {s:Shared} {a:Addr} {xs ys:List V}
theorem SqL.of {K:Frag} (h:H a=some (.lst xs)):SqL K H a xs:=.inl (.inl h)
theorem SqT.of {K:Frag} (h:H a=some (.tup xs)):SqT K H a xs:=.inl (.inl h)
theorem Inv.list (I:Inv X pins σ H s) (h:SqL X.K H a xs):∃ its:List Value,Vals xs its/\PlainL s.heap a its.toArray/\xs.length<=sizeLine:=by
 rcases h with h | ⟨o,its,n,hk,hc,hd,hs,hz,r⟩
 ·obtain ⟨z,its,n,r,e⟩:=h.ok I.hok;exact ⟨its,r,⟨_,n,e,rfl,rfl,rfl⟩,z⟩
 ·refine ⟨its.toList,r,⟨o,n,I.kIn a o hk,hc,hd,by simpa using hs⟩,?_⟩;have e:=r.length;simp only [Array.length_toList] at e
  lia
theorem Inv.tuple (I:Inv X pins σ H s) (h:SqT X.K H a xs):∃ its:List Value,Vals xs its/\IsTup s.heap a its.toArray/\xs.length<=sizeLine:=by
 rcases h with h | ⟨o,its,n,hk,hc,hs,hz,r⟩
 ·obtain ⟨z,its,r,p⟩:=h.ok I.hok;exact ⟨its,r,p,z⟩
 ·refine ⟨its.toList,r,⟨o,I.kIn a o hk,hc,n,by simpa using hs⟩,?_⟩;have e:=r.length;simp only [Array.length_toList] at e
  lia
theorem Inv.list_inj (I:Inv X pins σ H s) (h:SqL X.K H a xs) (h':SqL X.K H a ys):xs=ys:=by
 obtain ⟨its,r,⟨o,n,e,_,_,d⟩,_⟩:=I.list h;obtain ⟨its',r',⟨o',n',e',_,_,d'⟩,_⟩:=I.list h';rw [e] at e'; cases e';rw [d] at d';injection d' with d1 _
 have:its=its':=by simpa using congrArg Array.toList d1
 subst this;exact r.inj r'
theorem Inv.tuple_inj (I:Inv X pins σ H s) (h:SqT X.K H a xs) (h':SqT X.K H a ys):xs=ys:=by
 obtain ⟨its,r,⟨o,e,_,n,d⟩,_⟩:=I.tuple h;obtain ⟨its',r',⟨o',e',_,n',d'⟩,_⟩:=I.tuple h';rw [e] at e'; cases e';rw [d] at d';injection d' with d1 _
 have:its=its':=by simpa using congrArg Array.toList d1
 subst this;exact r.inj r'
end
noncomputable abbrev Cx.wish (X:Cx) (E:Value->Shared->Prop):Cx:={ X with xe:=E }
noncomputable abbrev Cx.nox (X:Cx):Cx:=X.wish fun _ _=>False
theorem Cx.Ok.wish {X:Cx} (ok:X.Ok) (E:Value->Shared->Prop):(X.wish E).Ok:=
 ⟨ok.mod,ok.kind,ok.glob,ok.blt,ok.above,ok.inj,ok.has,ok.cab,ok.hd,ok.frames,ok.stk,ok.exf,ok.bs,ok.bsz,ok.noex,ok.exfs,ok.funs,ok.frf⟩
theorem Cx.Ok.unwish {X:Cx} {E:Value->Shared->Prop} (ok:(X.wish E).Ok):X.Ok:=
 ⟨ok.mod,ok.kind,ok.glob,ok.blt,ok.above,ok.inj,ok.has,ok.cab,ok.hd,ok.frames,ok.stk,ok.exf,ok.bs,ok.bsz,ok.noex,ok.exfs,ok.funs,ok.frf⟩
section
variable {X:Cx} {pins:List (Addr × Obj)} {σ:St} {H:Hp} {s:Shared} {E:Value->Shared->Prop}
theorem Inv.wish (I:Inv X pins σ H s) (E:Value->Shared->Prop):Inv (X.wish E) pins σ H s:=⟨I.ok.wish E,I.os,I.bare,I.base,I.loc,I.cell,I.free,I.freeC,I.pin,I.hok,I.len,I.tk⟩
theorem Inv.unwish (I:Inv (X.wish E) pins σ H s):Inv X pins σ H s:=⟨I.ok.unwish,I.os,I.bare,I.base,I.loc,I.cell,I.free,I.freeC,I.pin,I.hok,I.len,I.tk⟩
theorem SP.unwish {D:Ends} {f:Flow} {s':Shared} (h:SP (X.wish E) pins D f s'):SP X pins D f s':=by
 cases f with
 | next=>obtain ⟨σ',H',I,q⟩:=h; exact ⟨σ',H',I.unwish,q⟩
 | brk=>obtain ⟨σ',H',I,q⟩:=h; exact ⟨σ',H',I.unwish,q⟩
 | cont=>obtain ⟨σ',H',I,q⟩:=h; exact ⟨σ',H',I.unwish,q⟩
 | ret u=>obtain ⟨v,σ',H',I,r,q⟩:=h; exact ⟨v,σ',H',I.unwish,r,q⟩
theorem PSs.nox {st:List Stmt} {t:TS} (h:PSs X.nox st t):PSs X st t:=fun pins s σ H D I hw=>
 wpAny_mono (h pins s σ H D (I.wish _) hw) (fun _ _ q=>q.unwish) fun _ _ z=>False.elim z
end
section
variable {X:Cx} {st:Stmt} {rest:List Stmt} {t u:TS} {e:Expr} {te:TE} {pos:Pos}
noncomputable def tNext:TS:=fun D σ H=>D.nx σ H
noncomputable def tSeq (t u:TS):TS:=fun D σ H=>t { D with nx:=u D } σ H
theorem aC:PSs X [] tNext:=fun _ _ σ H _ I h=>wpAny_execs_nil ⟨σ,H,I,h⟩
theorem ag (h1:PS X st t) (h2:PSs X rest u):PSs X (st::rest) (tSeq t u):=by
 intro pins s σ H D I h;refine wpAny_execs_cons (thn (h1 pins s σ H { D with nx:=u D } I h) fun f s1 q=>?_);cases f with
 | next=>
  obtain ⟨σ',H',I',q⟩:=q;exact h2 pins s1 σ' H' D I' q
 | ret v=>exact q
 | brk=>exact q
 | cont=>exact q
theorem ah (h1:PS X st t):PSs X [st] t:=by
 intro pins s σ H D I h;refine wpAny_execs_cons (thn (h1 pins s σ H D I h) fun f s1 q=>?_);cases f with
 | next=>exact wpAny_execs_nil q
 | ret v=>exact q
 | brk=>exact q
 | cont=>exact q
theorem Inv.quiet {pins:List (Addr × Obj)} {σ:St} {H:Hp} {s:Shared} (I:Inv X pins σ H s):interactive X.env=false:=by simp [interactive,I.ok.kind]
noncomputable def tDrop (te:TE):TS:=fun D σ H=>te σ H fun _ H1=>D.nx σ H1
theorem aw (he:PE X e te) (hs:swapsWith e none pos.line X.env=pure false:=by rfl):PS X (.Expr e pos) (tDrop te):=by
 intro pins s σ H D I h;exact wpAny_Expr_any (thn (he pins s σ H _ I h) fun v s1 ⟨x,H1,I1,r1,q1⟩=>⟨σ,H1,I1,q1⟩) I.quiet hs
noncomputable def tRet (te:TE):TS:=fun D σ H=>te σ H D.rt
theorem ax (he:PE X e te):PS X (.Return (some e) pos) (tRet te):=by
 intro pins s σ H D I h;exact wpAny_Return_some (thn (he pins s σ H _ I h) fun v s1 ⟨x,H1,I1,r1,q1⟩=>⟨x,σ,H1,I1,r1,q1⟩)
noncomputable def tIfS (c:TT) (t u:TS):TS:=fun D σ H=>c σ H fun b H1=>if b=true then t D σ H1 else u D σ H1
theorem aW {c:Expr} {a b:List Stmt} {tc:TT} (hc:PT X c tc) (ha:PSs X a t) (hb:PSs X b u):PS X (.If c a b pos) (tIfS tc t u):=by
 intro pins s σ H D I h;refine wpAny_If (thn (hc pins s σ H _ I h) fun d s1 ⟨H1,I1,q1⟩=>?_);cases d with
 | true=>exact ha pins s1 σ H1 D I1 q1
 | false=>exact hb pins s1 σ H1 D I1 q1
end
noncomputable abbrev TG:=V->St->Hp->(St->Hp->Prop)->Prop
noncomputable abbrev TGs:=List V->St->Hp->(St->Hp->Prop)->Prop
def PG (X:Cx) (target:Expr) (t:TG):Prop:=
 ∀ (pins:List (Addr × Obj)) (s:Shared) (σ:St) (H:Hp) (v:V) (u:Value) (Q:St->Hp->Prop),Inv X pins σ H s->RelV v u->t v σ H Q ->
  wpAny (model X.prog X.w) X.A (assign target X.env u) (fun _ s'=>Ex2 fun σ' H'=>Inv X pins σ' H' s'/\Q σ' H') X.xe s
def PGs (X:Cx) (ts:List Expr) (t:TGs):Prop:=
 ∀ (pins:List (Addr × Obj)) (s:Shared) (σ:St) (H:Hp) (vs:List V) (us:List Value) (Q:St->Hp->Prop),Inv X pins σ H s->Vals vs us->t vs σ H Q ->
  wpAny (model X.prog X.w) X.A (assignInOrder ((assignEach ts X.env).map (·.2)) us) (fun _ s'=>Ex2 fun σ' H'=>Inv X pins σ' H' s'/\Q σ' H') X.xe s
section
variable {X:Cx} {pos:Pos}
noncomputable def gName (i:Nat):TG:=fun v σ H Q=>Q (σ.set i (some v)) H
theorem aj {i:Nat} {x:Str} (hN:X.N.Nodup) (hi:X.N[i]? = some x) (hx:Loc X.env.scope x) (hf:X.fn x=true\/X.env.scope.names.lookup x=some .local:=by first | exact .inl rfl | exact .inr rfl | assumption):PG X (.Name x pos) (gName i):=by
 intro pins s σ H v u Q I r h;exact wpAny_assign_Name (qR I hN hi hx r (fun s' I'=>⟨_,H,I',h⟩) hf)
noncomputable def gNil:TGs:=fun vs σ H Q=>vs=[]/\Q σ H
noncomputable def gCons (t:TG) (u:TGs):TGs:=fun vs σ H Q=>Ex2 fun v r=>vs=v::r/\t v σ H fun σ' H'=>u r σ' H' Q
theorem aM:PGs X [] gNil:=by
 intro pins s σ H vs us Q I r h;obtain ⟨e,h⟩:=h;subst e;cases r;exact assignInOrder_nil ⟨σ,H,I,h⟩
theorem ao {e:Expr} {es:List Expr} {t:TG} {u:TGs} (h1:PG X e t) (h2:PGs X es u)
  (hs:(assignEach (e::es) X.env).map (·.2)=assign e X.env::(assignEach es X.env).map (·.2):=by rfl):PGs X (e::es) (gCons t u):=by
 intro pins s σ H vs us Q I r h;obtain ⟨v,vr,e1,h⟩:=h;subst e1;cases r with
 | cons r rr=>
  rw [hs];refine assignInOrder_cons (thn (h1 pins s σ H _ _ _ I r h) fun _ s1 ⟨σ1,H1,I1,q1⟩=>?_);exact h2 pins s1 σ1 H1 _ _ Q I1 rr q1
noncomputable def gTup (K:Frag) (n:Nat) (t:TGs):TG:=fun v σ H Q=>Ex2 fun a xs=>v=.ref a/\SqT K H a xs/\xs.length=n/\t xs σ H Q
theorem vz {es:List Expr} {k:Nat} {t:TGs} {n:Nat} (hc:X.calm=true) (h:PGs X es t)
  (hn:(assignEach es X.env).length=n:=by rfl) (hst:(assignEach es X.env).findIdx? (·.1)=none:=by rfl):PG X (.Tuple es k pos) (gTup X.K n t):=by
 intro pins s σ H v u Q I r hw;obtain ⟨a,xs,e1,hq,hl,hw⟩:=hw;subst e1;cases r;obtain ⟨its,rv,ht,hz⟩:=I.tuple hq;refine assign_Tuple_tuple (I.ok.hd hc) ht (by simp [hn,<- hl,rv.length]) hst fun h' hx=>?_
 have I1:Inv X pins σ H { s with heap:=h' }:=I.kept (t':=s.toks) fun b o e=>hx b o (Nat.ne_of_lt (Heap.lt_size e)) e
 exact h pins _ σ H xs _ Q I1 (by simpa using rv) hw
noncomputable def tAsg (te:TE) (g:TG):TS:=fun D σ H=>te σ H fun x H1=>g x σ H1 D.nx
theorem vc {tg e:Expr} {te:TE} {g:TG} (he:PE X e te) (hg:PG X tg g) (hs:swapsWithSole [tg] e pos.line X.env=pure false:=by rfl) (hw:swappedStores [tg] e X.env=pure none:=by rfl)
  (h1:(assignEach [tg] X.env).map (·.2)=[assign tg X.env]:=by rfl):PS X (.Assign [tg] e pos) (tAsg te g):=by
 intro pins s σ H D I h;refine wpAny_Assign_stores (thn (he pins s σ H _ I h) fun v s1 ⟨x,H1,I1,r1,q1⟩=>?_) hs hw;rw [h1];exact thn (hg pins s1 σ H1 x v _ I1 r1 q1) fun _ s2 q=>q
theorem aq {i:Nat} {x:Str} {e:Expr} {te:TE} {pos':Pos} (hN:X.N.Nodup) (hi:X.N[i]? = some x) (hx:Loc X.env.scope x) (he:PE X e te) (hs:swapsWith e (some (.Name x pos')) pos.line X.env=pure false:=by rfl) (hf:X.fn x=true\/X.env.scope.names.lookup x=some .local:=by first | exact .inl rfl | exact .inr rfl | assumption):
  PS X (.Assign [.Name x pos'] e pos) (tAsg te (gName i)):=by
 intro pins s σ H D I h;refine wpAny_Assign_Name (thn (he pins s σ H _ I h) fun v s1 ⟨y,H1,I1,r1,q1⟩=>?_) hs;exact qR I1 hN hi hx r1 (fun s2 I2=>⟨_,H1,I2,q1⟩) hf
end
section
variable {X:Cx} {pos:Pos}
end
structure It where
 go:Nat->Hp->Prop
 yld:Nat->Hp->V->Hp->Prop
 stop:Nat->Hp->Prop
def FpOk (X:Cx) (pins:List (Addr × Obj)) (H:Hp) (b:Addr):Prop:=
 H b=none/\b≠X.env.locals/\b ∉ X.fs/\(b ∈ X.ex\/X.s₀.heap.objs.size<=b)/\(∀ x c,X.env.cells.lookup x=some c->c≠b)/\∀ p ∈ X.pn++pins,p.1≠b
theorem Inv.fpOk {X:Cx} {pins:List (Addr × Obj)} {σ:St} {H H':Hp} {s:Shared} {b:Addr} (I:Inv X pins σ H s) (hb:s.heap.objs.size<=b) (hn:H' b=none):FpOk X pins H' b:=by
 refine ⟨hn,Nat.ne_of_gt (Nat.lt_of_lt_of_le I.lt hb),I.nofs hb,.inr (Nat.le_trans I.sz hb),fun x c e z=>?_,fun p hp z=>?_⟩
 ·obtain ⟨v,q⟩:=I.cell x c e;exact absurd (Nat.lt_of_lt_of_le q.lt (by rw [z]; exact hb)) (Nat.lt_irrefl _)
 ·exact absurd (Nat.lt_of_lt_of_le (Heap.lt_size (I.pin p hp).1) (by rw [z]; exact hb)) (Nat.lt_irrefl _)
structure Turn (P:Program) (w:World) (K:Frag) (tg:Expr) (J:It) (fp:List Addr) (it:Addr) (tn:Nat->Heap->Prop):Prop where
 mem:it ∈ fp
 obj:∀ i h,tn i h->∀ b ∈ fp,∃ o,h.get? b=some o/\∀ v,o.data≠.cell v
 keep:∀ i h h',tn i h->(∀ b ∈ fp,∀ o,h.get? b=some o->h'.get? b=some o)->tn i h'
 item:∀ (X:Cx),X.prog=P->X.w=w->X.K=K->X.calm=true->∀ (i:Nat) (pins:List (Addr × Obj)) (s:Shared) (σ:St) (H:Hp) (E:Value->Shared->Prop),Inv X pins σ H s->(∀ b ∈ fp,FpOk X pins H b)->tn i s.heap->J.go i H ->
  wpAny (model P w) X.A (pyNext (.ref it)) (fun r s1=>∃ u,r=some u /\
   wpAny (model P w) X.A (letOwnedTupleGo tg (.ref it) u) (fun _ s2=>Ex2 fun x H'=>Inv X pins σ H' s2/\RelV x u/\J.yld i H x H'/\tn (i+1) s2.heap/\∀ b ∈ fp,H' b=none) E s1) E s
 done:∀ (X:Cx),X.prog=P->X.w=w->X.K=K->X.calm=true->∀ (i:Nat) (pins:List (Addr × Obj)) (s:Shared) (σ:St) (H:Hp) (E:Value->Shared->Prop),Inv X pins σ H s->(∀ b ∈ fp,FpOk X pins H b)->tn i s.heap->J.stop i H ->
  wpAny (model P w) X.A (pyNext (.ref it)) (fun r s1=>r=none/\Inv X pins σ H s1) E s
 self:∀ (A:Around) (i:Nat) (s:Shared) (Q:Value->Shared->Prop) (E:Value->Shared->Prop),tn i s.heap->Q (.ref it) s->wpAny (model P w) A (pyIter (.ref it)) Q E s
noncomputable abbrev TI:=St->Hp->(It->Hp->Prop)->Prop
def PIE (X:Cx) (pins:List (Addr × Obj)) (σ:St) (tg:Expr) (R:It->Hp->Prop) (itv:Value) (s2:Shared):Prop:=
 Ex5 fun (it:Addr) (fp:List Addr) (tn:Nat->Heap->Prop) (J:It) (H':Hp)=>itv=.ref it/\Inv X pins σ H' s2/\Turn X.prog X.w X.K tg J fp it tn/\tn 0 s2.heap/\(∀ b ∈ fp,FpOk X pins H' b)/\R J H'
def PI (X:Cx) (tg iter:Expr) (wi:TI):Prop:=
 ∀ (pins:List (Addr × Obj)) (s:Shared) (σ:St) (H:Hp) (R:It->Hp->Prop),Inv X pins σ H s->wi σ H R ->
  wpAny (model X.prog X.w) X.A (eval iter X.env) (fun v s1=>wpAny (model X.prog X.w) X.A (pyIter v) (PIE X pins σ tg R) X.xe s1) X.xe s
theorem sH {M:Model} {A:Around} {E:Value->Shared->Prop} {s:Shared} {tg:Expr} {it:Addr} {u:Value} {o:Obj} {n:String} {vs:Array Value} {Q:Unit->Shared->Prop} (ho:s.heap.get? it=some o) (hc:o.cls=.type n) (hd:o.data=.fields vs)
  (hn:["enumerate", "zip", "dict_itemiterator", "dict_reverseitemiterator", "odict_iterator", "itertools.zip_longest", "itertools.pairwise"].contains n=false) (hQ:Q () s):wpAny M A (letOwnedTupleGo tg (.ref it) u) Q E s:=by
 unfold letOwnedTupleGo;cases tg <;> first
  | exact wpAny_pure hQ
  | (cases u <;> first
    | exact wpAny_pure hQ
    | (refine wpAny_bind (wpAny_load ho ?_); rw [hc,hd]; show wpAny M A (if (["enumerate", "zip", "dict_itemiterator", "dict_reverseitemiterator", "odict_iterator", "itertools.zip_longest", "itertools.pairwise"].contains n && vs[0]? == some (rawInt _))=true then _ else _) Q E s; rw [if_neg (by intro h; rw [hn,Bool.false_and] at h; cases h)]; exact wpAny_pure hQ))
noncomputable def Itl (K:Frag) (a:Addr):It:=
 ⟨fun i H=>Ex2 fun xs x=>SqL K H a xs/\xs[i]? = some x,fun i H x H'=>H'=H/\∀ xs,SqL K H a xs->xs[i]? = some x,fun i H=>∃ xs,SqL K H a xs/\xs.length<=i⟩
noncomputable def Itt (K:Frag) (a:Addr):It:=
 ⟨fun i H=>Ex2 fun xs x=>SqT K H a xs/\xs[i]? = some x,fun i H x H'=>H'=H/\∀ xs,SqT K H a xs->xs[i]? = some x,fun i H=>∃ xs,SqT K H a xs/\xs.length<=i⟩
noncomputable def Itr (lo:Int) (n:Nat):It:=⟨fun i _=>i < n,fun i H x H'=>H'=H/\x=.int (lo+i),fun i _=>n<=i⟩
theorem tZ {P:Program} {w:World} {K:Frag} {tg:Expr} (a it:Addr):Turn P w K tg (Itl K a) [it] it (fun i h=>h.IsListIter it a i) where
 mem:=by simp
 obj:=fun i h st b hb=>by
  have e:b=it:=by simpa using hb
  subst e;obtain ⟨o,e,c,d⟩:=st;exact ⟨o,e,fun v z=>by rw [d] at z; cases z⟩
 keep:=fun i h h' st k=>st.at fun o e=>k it (by simp) o e
 item:=by
  intro X hP hw hK hc i pins s σ H E I hf st hg;subst hP hw hK;obtain ⟨xs,x,hq,hx⟩:=hg;obtain ⟨its,rv,p,hz⟩:=I.list hq;obtain ⟨u,hu,ru⟩:=rv.get hx;obtain ⟨f0,f1,f2,f3,f4,f5⟩:=hf it (by simp);refine wpAny_pyNext_list_item st p.isList (x:=u) (by simpa using hu) fun h' st' sb=>?_
  have I1:Inv X pins σ H { s with heap:=h' }:=I.turned (t':=s.toks) (fun b o hb e=>(sb.2 b hb).trans e) f0 f1 f3 f4 f5;obtain ⟨o,e,c,d⟩:=id st';exact ⟨u,rfl,sH (s:={ s with heap:=h' }) e c d (by decide) ⟨x,H,I1,ru,⟨rfl,fun ys hy=>by rw [I.list_inj hy hq]; exact hx⟩,st',fun b hb=>(hf b hb).1⟩⟩
 done:=by
  intro X hP hw hK hc i pins s σ H E I hf st hg;subst hP hw hK;obtain ⟨xs,hq,hx⟩:=hg;obtain ⟨its,rv,p,hz⟩:=I.list hq;obtain ⟨f0,f1,f2,f3,f4,f5⟩:=hf it (by simp);have hl:=rv.length;exact wpAny_pyNext_list_end (I.ok.hd hc) st p.isList (by simp; lia) fun h' eb=>⟨rfl,I.turned (t':=s.toks) (fun b o hb e=>eb b o hb e) f0 f1 f3 f4 f5⟩
 self:=fun _ _ _ _ _ st h=>wpAny_pyIter_listiter st h
theorem r8 {P:Program} {w:World} {K:Frag} {tg:Expr} (a it:Addr):Turn P w K tg (Itt K a) [it] it (fun i h=>h.IsTupleIter it a i) where
 mem:=by simp
 obj:=fun i h st b hb=>by
  have e:b=it:=by simpa using hb
  subst e;obtain ⟨o,e,c,d⟩:=st;exact ⟨o,e,fun v z=>by rw [d] at z; cases z⟩
 keep:=fun i h h' st k=>st.at fun o e=>k it (by simp) o e
 item:=by
  intro X hP hw hK hc i pins s σ H E I hf st hg;subst hP hw hK;obtain ⟨xs,x,hq,hx⟩:=hg;obtain ⟨its,rv,p,hz⟩:=I.tuple hq;obtain ⟨u,hu,ru⟩:=rv.get hx;obtain ⟨f0,f1,f2,f3,f4,f5⟩:=hf it (by simp);refine wpAny_pyNext_tuple_item st (show s.heap.IsTuple a its.toArray from p) (x:=u) (by simpa using hu) fun h' st' sb=>?_
  have I1:Inv X pins σ H { s with heap:=h' }:=I.turned (t':=s.toks) (fun b o hb e=>(sb.2 b hb).trans e) f0 f1 f3 f4 f5;obtain ⟨o,e,c,d⟩:=id st';exact ⟨u,rfl,sH (s:={ s with heap:=h' }) e c d (by decide) ⟨x,H,I1,ru,⟨rfl,fun ys hy=>by rw [I.tuple_inj hy hq]; exact hx⟩,st',fun b hb=>(hf b hb).1⟩⟩
 done:=by
  intro X hP hw hK hc i pins s σ H E I hf st hg;subst hP hw hK;obtain ⟨xs,hq,hx⟩:=hg;obtain ⟨its,rv,p,hz⟩:=I.tuple hq;obtain ⟨f0,f1,f2,f3,f4,f5⟩:=hf it (by simp);have hl:=rv.length;exact wpAny_pyNext_tuple_end (I.ok.hd hc) st (show s.heap.IsTuple a its.toArray from p) (by simp; lia) fun h' eb=>⟨rfl,I.turned (t':=s.toks) (fun b o hb e=>eb b o hb e) f0 f1 f3 f4 f5⟩
 self:=fun _ _ _ _ _ st h=>wpAny_pyIter_tupleiter st h
theorem rL {P:Program} {w:World} {K:Frag} {tg:Expr} (it:Addr) (lo:Int) (n:Nat):Turn P w K tg (Itr lo n) [it] it (fun i h=>IsRangeIter h it (lo+(i:Nat)*1) ((n:Int) - (i:Nat)) 1) where
 mem:=by simp
 obj:=fun i h st b hb=>by
  have e:b=it:=by simpa using hb
  subst e;exact ⟨_,st,fun v z=>by
   have z':Data.fields _=Data.cell v:=z;cases z'⟩
 keep:=fun i h h' st k=>k it (by simp) _ st
 item:=by
  intro X hP hw hK hc i pins s σ H E I hf st hg;subst hP hw hK;obtain ⟨f0,f1,f2,f3,f4,f5⟩:=hf it (by simp);have W:=Walks.range (prog:=X.prog) (w:=X.w) (I.ok.hd hc) it lo 1 n;refine tokQ I.tk (W.item i s _ _ hg st fun v h' tk hv st' kk (htk:0 < tk)=>?_);obtain ⟨t,rfl⟩:=hv;have I1:Inv X pins σ H { s with heap:=h',toks:=tk }:=I.turned (fun b o hb e=>kk b o (by simpa using hb) e) f0 f1 f3 f4 f5;refine ⟨_,rfl,sH (s:={ s with heap:=h',toks:=tk }) (n := "range_iterator") st' rfl rfl (by decide) ⟨.int (lo+i),H,I1,⟨t,?_⟩,⟨rfl,rfl⟩,st',fun b hb=>(hf b hb).1⟩⟩;rw [Int.mul_one]
 done:=by
  intro X hP hw hK hc i pins s σ H E I hf st hg;subst hP hw hK;obtain ⟨f0,f1,f2,f3,f4,f5⟩:=hf it (by simp);exact wpAny_pyNext_range_end (I.ok.hd hc) st (by have:n<=i:=hg; lia) fun h' eb=>⟨rfl,I.turned (t':=s.toks) (fun b o hb e=>eb b o hb e) f0 f1 f3 f4 f5⟩
 self:=fun _ _ _ _ _ st h=>wpAny_pyIter_rangeiter st h
section
variable {X:Cx} {tg:Expr}
theorem uy {pins:List (Addr × Obj)} {σ:St} {H:Hp} {s:Shared} {R:It->Hp->Prop} {E:Value->Shared->Prop} {lo hi:Int} {t u v:Tok} {tk:Nat} (I:Inv X pins σ H s) (h1:-(2 ^ 62)<=lo) (h2:lo < 2 ^ 62) (h3:-(2 ^ 62)<=hi) (h4:hi < 2 ^ 62)
  (q:R (Itr lo (hi - lo).toNat) H) (htk:0 < tk:=by first | assumption | exact Nat.succ_pos _ | (apply Inv.tk; assumption) | lia):wpAny (model X.prog X.w) X.A (pyIter (.ref s.heap.objs.size)) (PIE X pins σ tg R) E { s with heap:=s.heap.push { cls:=.type "range",data:=.fields #[.int lo t,.int hi u,.int 1 v] },toks:=tk }:=by
 refine wpAny_pyIter_range (IsRange.new ..) (small_one h1 h2 h3 h4) ?_;have I1:Inv X pins σ H { s with heap:=s.heap.push { cls:=.type "range",data:=.fields #[.int lo t,.int hi u,.int 1 v] },toks:=tk }:=I.kept fun b o e=>Heap.get?_push_of_some _ e
 refine ⟨(s.heap.push { cls:=.type "range",data:=.fields #[.int lo t,.int hi u,.int 1 v] }).objs.size,[(s.heap.push { cls:=.type "range",data:=.fields #[.int lo t,.int hi u,.int 1 v] }).objs.size],_,_,H,rfl,
  I1.kept (t':=tk) fun b o e=>Heap.get?_push_of_some _ e,rL _ lo (hi - lo).toNat,?_,fun b hb=>?_,q⟩
 ·have e1:lo+((0:Nat):Int)*1=lo:=by simp
  have e2:(((hi - lo).toNat:Nat):Int) - ((0:Nat):Int)=Builtin.Range.rangeSize lo hi 1:=by rw [rangeSize_one]; split <;> lia
  show IsRangeIter _ _ (lo+((0:Nat):Int)*1) ((((hi - lo).toNat:Nat):Int) - ((0:Nat):Int)) 1;rw [e1,e2];exact Heap.get?_push_size _ rfl
 ·have e:b=(s.heap.push { cls:=.type "range",data:=.fields #[.int lo t,.int hi u,.int 1 v] }).objs.size:=by simpa using hb
  subst e;exact I1.fpOk (Nat.le_refl _) (I1.hok.fresh (Nat.le_refl _))
noncomputable def iRng1 (ta:TA):TI:=fun σ H R=>ta σ H fun vs H1=>∃ j:Int,vs=[.int j] /\ -(2 ^ 62)<=j/\j < 2 ^ 62/\R (Itr 0 j.toNat) H1
theorem uq {a:Expr} {ta:TA} {p pos:Pos} (hg:Gl X "range") (hm:X.mg "range" = none) (ha:PA X [a] ta) (hs:starEach [a] X.env=[(false,eval a X.env)]:=by rfl):PI X tg (.Call (.Name "range" p) [a] [] pos) (iRng1 ta):=by
 intro pins s σ H R I h;refine Call_ (pR I hg hm boot_range (PyProof.Rows.callWith_type1 (thn (ha pos pins s σ H _ I h) fun us s1 ⟨vs,H1,I1,r1,q1⟩=>?_) hs rfl));obtain ⟨j,e,q1,q2,q⟩:=q1;subst e;cases r1 with
 | cons r rr=>
  cases rr;obtain ⟨t,rfl⟩:=r;exact call_range_1 (uy I1 (by lia) (by lia) q1 q2 (by simpa using q))
noncomputable def tFor (wi:TI) (g:TG) (tb:TS):TS:=fun D σ H=>wi σ H fun J H1=>∃ W:Nat->Nat->St->Hp->Prop,(∃ m,W 0 m σ H1)/\∀ i m σ H,W i m σ H ->
 (J.stop i H/\D.nx σ H)\/(J.go i H/\∃ N:St->Hp->Prop,(∀ σ' H',N σ' H'->∃ m',m' < m/\W (i+1) m' σ' H')/\∀ x H',J.yld i H x H'->g x σ H' fun σ2 H2=>tb { D with nx:=N,ct:=N,bk:=D.nx } σ2 H2)
noncomputable def pinsAt (fp:List Addr) (h:Heap):List (Addr × Obj):=fp.filterMap fun b=>(h.get? b).map fun o=>(b,o)
theorem dW {fp:List Addr} {h:Heap} {b:Addr} {o:Obj} (hb:b ∈ fp) (e:h.get? b=some o):(b,o) ∈ pinsAt fp h:=List.mem_filterMap.mpr ⟨b,hb,by rw [e]; rfl⟩
theorem tV {fp:List Addr} {h:Heap} {p:Addr × Obj} (hp:p ∈ pinsAt fp h):p.1 ∈ fp/\h.get? p.1=some p.2:=by
 obtain ⟨b,hb,e⟩:=List.mem_filterMap.mp hp;cases q:h.get? b with
 | none=>rw [q] at e; cases e
 | some o=>
  rw [q] at e;have e':(b,o)=p:=Option.some.inj e;subst e';exact ⟨hb,q⟩
theorem Inv.pinned {pins:List (Addr × Obj)} {σ:St} {H:Hp} {s:Shared} {fp:List Addr} (I:Inv X pins σ H s) (hf:∀ b ∈ fp,FpOk X pins H b) (ho:∀ b ∈ fp,∃ o,s.heap.get? b=some o/\∀ v,o.data≠.cell v):Inv X (pins++pinsAt fp s.heap) σ H s:=
 I.pins_of fun p hp=>(List.mem_append.mp hp).elim (fun z=>I.pin p (List.mem_append_right _ z)) fun z=>by
  obtain ⟨hb,e⟩:=tV z;obtain ⟨f0,f1,f2,_⟩:=hf p.1 hb;obtain ⟨o,e',d⟩:=ho p.1 hb;rw [e] at e'; cases e';exact ⟨e,f0,f1,f2,d⟩
theorem Inv.unpinned {pins pl:List (Addr × Obj)} {σ:St} {H:Hp} {s:Shared} (I:Inv X (pins++pl) σ H s):Inv X pins σ H s:=I.pins_of fun p hp=>I.pin p (List.mem_append_right _ (List.mem_append_left _ hp))
theorem yz {iter:Expr} {body:List Stmt} {wi:TI} {g:TG} {tb:TS} {pos:Pos} (hp:PassesOwn (model X.prog X.w) X.A X.env X.xe) (hc:X.calm=true) (hi:PI X tg iter wi) (hg:PG X tg g) (hb:PSs X body tb)
  (hs:∀ x,foldedSetIterable iter X.env x=pure x:=by intro _; rfl):PS X (.For tg iter body [] pos) (tFor wi g tb):=by
 intro pins s σ H D I h;refine wpAny_For (thn (hi pins s σ H _ I h) fun v s1 h1=>thn h1 fun itv s2 h2=>?_) hs;obtain ⟨it,fp,tn,J,H2,e,I2,T,st2,f2,W,⟨m0,w0⟩,turn⟩:=h2;subst e;have stat:∀ {H':Hp},(∀ b ∈ fp,H' b=none)->∀ b ∈ fp,FpOk X pins H' b:=fun hn b hb=>⟨hn b hb,(f2 b hb).2⟩
 refine codeAny_forLoop_any (fun n s'=>Ex3 fun i σ' H'=>Inv X pins σ' H' s'/\tn i s'.heap/\(∀ b ∈ fp,H' b=none)/\W i n σ' H') ?_ m0 ⟨0,σ,H2,I2,st2,fun b hb=>(f2 b hb).1,w0⟩;rintro n s3 ⟨i,σ3,H3,I3,st3,fr3,w3⟩;rcases turn i n σ3 H3 w3 with ⟨stop,qn⟩ | ⟨go,N,hN,step⟩
 ·refine wpAny_passesOwn hp (thn (T.done X rfl rfl rfl hc i pins s3 σ3 H3 X.xe I3 (stat fr3) st3 stop) fun r s4 ⟨hr,I4⟩=>?_);subst hr;exact wpAny_execs_nil ⟨σ3,H3,I4,qn⟩
 ·refine wpAny_passesOwn hp (thn (T.item X rfl rfl rfl hc i pins s3 σ3 H3 X.xe I3 (stat fr3) st3 go) fun r s4 ⟨u,hr,h4⟩=>?_);subst hr;refine wpAny_passesOwn hp (thn h4 fun _ s5 ⟨x,H5,I5,r5,y5,st5,fr5⟩=>?_);have I5':=I5.pinned (stat fr5) (T.obj _ _ st5);refine wpAny_passesOwn hp (thn (hg _ s5 σ3 H5 x u _ I5' r5 (step x H5 y5)) fun _ s6 ⟨σ6,H6,I6,q6⟩=>?_);refine wpAny_passesOwn hp (thn (hb _ s6 σ6 H6 _ I6 q6) fun f s7 q7=>?_);have again:∀ {σ7:St} {H7:Hp},Inv X (pins++pinsAt fp s5.heap) σ7 H7 s7->N σ7 H7->∃ m,m < n/\Ex3 fun i σ' H'=>Inv X pins σ' H' s7/\tn i s7.heap/\(∀ b ∈ fp,H' b=none)/\W i m σ' H':=fun {σ7 H7} I7 n7=>by
   obtain ⟨m',hm,w7⟩:=hN σ7 H7 n7;refine ⟨m',hm,i+1,σ7,H7,I7.unpinned,T.keep _ _ _ st5 fun b hb o e=>(I7.pin (b,o) (List.mem_append_right _ (List.mem_append_right _ (dW hb e)))).1,fun b hb=>?_,w7⟩;obtain ⟨o,e,d⟩:=T.obj _ _ st5 b hb;exact (I7.pin (b,o) (List.mem_append_right _ (List.mem_append_right _ (dW hb e)))).2.1
  cases f with
  | next=>obtain ⟨σ7,H7,I7,n7⟩:=q7; exact again I7 n7
  | cont=>obtain ⟨σ7,H7,I7,n7⟩:=q7; exact again I7 n7
  | brk=>obtain ⟨σ7,H7,I7,q7⟩:=q7; exact ⟨σ7,H7,I7.unpinned,q7⟩
  | ret v=>obtain ⟨x7,σ7,H7,I7,r7,q7⟩:=q7; exact ⟨x7,σ7,H7,I7.unpinned,r7,q7⟩
end
theorem vB {K:Frag} {a:Addr} {xs:List V} {g:TG} {tb:TS} {D:Ends} {σ:St} {H:Hp} (Pv:Nat->St->Hp->Prop) (h0:Pv 0 σ H) (hl:∀ i σ H,i<=xs.length->Pv i σ H->SqL K H a xs)
  (hs:∀ i x σ H,xs[i]? = some x->Pv i σ H->g x σ H fun σ2 H2=>tb { D with nx:=Pv (i+1),ct:=Pv (i+1),bk:=D.nx } σ2 H2) (hd:∀ σ H,Pv xs.length σ H->D.nx σ H):
  ∃ W:Nat->Nat->St->Hp->Prop,(∃ m,W 0 m σ H)/\∀ i m σ H,W i m σ H ->
   ((Itl K a).stop i H/\D.nx σ H)\/((Itl K a).go i H/\∃ N:St->Hp->Prop,(∀ σ' H',N σ' H'->∃ m',m' < m/\W (i+1) m' σ' H')/\∀ x H',(Itl K a).yld i H x H'->g x σ H' fun σ2 H2=>tb { D with nx:=N,ct:=N,bk:=D.nx } σ2 H2):=by
 refine ⟨fun i m σ H=>m=xs.length - i/\i<=xs.length/\Pv i σ H,⟨xs.length,by simp,Nat.zero_le _,h0⟩,?_⟩;rintro i m σ H ⟨rfl,hi,p⟩;have q:=hl i σ H hi p;by_cases hlt:i < xs.length
 ·refine .inr ⟨⟨xs,xs[i],q,by simp [hlt]⟩,Pv (i+1),fun σ' H' p'=>⟨xs.length - (i+1),by lia,rfl,hlt,p'⟩,fun x H' y=>?_⟩;obtain ⟨e,y⟩:=y;subst e;exact hs i x σ _ (y xs q) p
 ·have e:i=xs.length:=by lia
  subst e;exact .inl ⟨⟨xs,q,Nat.le_refl _⟩,hd σ H p⟩
theorem xt {K:Frag} {a:Addr} {xs:List V} {g:TG} {tb:TS} {D:Ends} {σ:St} {H:Hp} (Pv:Nat->St->Hp->Prop) (h0:Pv 0 σ H) (hl:∀ i σ H,i<=xs.length->Pv i σ H->SqT K H a xs)
  (hs:∀ i x σ H,xs[i]? = some x->Pv i σ H->g x σ H fun σ2 H2=>tb { D with nx:=Pv (i+1),ct:=Pv (i+1),bk:=D.nx } σ2 H2) (hd:∀ σ H,Pv xs.length σ H->D.nx σ H):
  ∃ W:Nat->Nat->St->Hp->Prop,(∃ m,W 0 m σ H)/\∀ i m σ H,W i m σ H ->
   ((Itt K a).stop i H/\D.nx σ H)\/((Itt K a).go i H/\∃ N:St->Hp->Prop,(∀ σ' H',N σ' H'->∃ m',m' < m/\W (i+1) m' σ' H')/\∀ x H',(Itt K a).yld i H x H'->g x σ H' fun σ2 H2=>tb { D with nx:=N,ct:=N,bk:=D.nx } σ2 H2):=by
 refine ⟨fun i m σ H=>m=xs.length - i/\i<=xs.length/\Pv i σ H,⟨xs.length,by simp,Nat.zero_le _,h0⟩,?_⟩;rintro i m σ H ⟨rfl,hi,p⟩;have q:=hl i σ H hi p;by_cases hlt:i < xs.length
 ·refine .inr ⟨⟨xs,xs[i],q,by simp [hlt]⟩,Pv (i+1),fun σ' H' p'=>⟨xs.length - (i+1),by lia,rfl,hlt,p'⟩,fun x H' y=>?_⟩;obtain ⟨e,y⟩:=y;subst e;exact hs i x σ _ (y xs q) p
 ·have e:i=xs.length:=by lia
  subst e;exact .inl ⟨⟨xs,q,Nat.le_refl _⟩,hd σ H p⟩
theorem tF {lo:Int} {n:Nat} {g:TG} {tb:TS} {D:Ends} {σ:St} {H:Hp} (Pv:Nat->St->Hp->Prop) (h0:Pv 0 σ H)
  (hs:∀ i σ H,i < n->Pv i σ H->g (.int (lo+i)) σ H fun σ2 H2=>tb { D with nx:=Pv (i+1),ct:=Pv (i+1),bk:=D.nx } σ2 H2) (hd:∀ σ H,Pv n σ H->D.nx σ H):
  ∃ W:Nat->Nat->St->Hp->Prop,(∃ m,W 0 m σ H)/\∀ i m σ H,W i m σ H ->
   ((Itr lo n).stop i H/\D.nx σ H)\/((Itr lo n).go i H/\∃ N:St->Hp->Prop,(∀ σ' H',N σ' H'->∃ m',m' < m/\W (i+1) m' σ' H')/\∀ x H',(Itr lo n).yld i H x H'->g x σ H' fun σ2 H2=>tb { D with nx:=N,ct:=N,bk:=D.nx } σ2 H2):=by
 refine ⟨fun i m σ H=>m=n - i/\i<=n/\Pv i σ H,⟨n,by simp,Nat.zero_le _,h0⟩,?_⟩;rintro i m σ H ⟨rfl,hi,p⟩;by_cases hlt:i < n
 ·refine .inr ⟨hlt,Pv (i+1),fun σ' H' p'=>⟨n - (i+1),by lia,rfl,hlt,p'⟩,fun x H' y=>?_⟩;obtain ⟨e,y⟩:=y;subst e y;exact hs i σ _ hlt p
 ·have e:i=n:=by lia
  subst e;exact .inl ⟨Nat.le_refl _,hd σ H p⟩
noncomputable abbrev R2:=V->V->Hp->VK->Prop
def OpR (X:Cx) (f:Value->Value->Sem Value) (r:R2):Prop:=
 ∀ (pins:List (Addr × Obj)) (s:Shared) (σ:St) (H:Hp) (x y:V) (v u:Value) (Q:VK),Inv X pins σ H s->RelV x v->RelV y u->r x y H Q ->
  wpAny (model X.prog X.w) X.A (f v u) (EP X pins σ Q) X.xe s
def CallR (X:Cx) (f:Value) (r:List V->Hp->VK->Prop):Prop:=
 ∀ (pins:List (Addr × Obj)) (s:Shared) (σ:St) (H:Hp) (xs:List V) (us:List Value) (Q:VK),Inv X pins σ H s->Vals xs us->r xs H Q ->
  wpAny (model X.prog X.w) X.A (call f us) (EP X pins σ Q) X.xe s
noncomputable def tOp (r:R2) (ta tb:TE):TE:=fun σ H Q=>ta σ H fun x H1=>tb σ H1 fun y H2=>r x y H2 Q
noncomputable def rI (C:Int->Int->Prop) (g:Int->Int->V):R2:=fun x y H Q=>Ex2 fun i j=>x=.int i/\y=.int j/\C i j/\Q (g i j) H
noncomputable def rI0 (g:Int->Int->V):R2:=fun x y H Q=>Ex2 fun i j=>x=.int i/\y=.int j/\Q (g i j) H
section
variable {X:Cx} {a b c:Expr} {ta tb tc:TE} {pos:Pos}
theorem binT (ha:PE X a ta) (hb:PE X b tb) {pins:List (Addr × Obj)} {s:Shared} {σ:St} {H:Hp} {R:V->V->Hp->Prop} (I:Inv X pins σ H s)
  (h:ta σ H fun x H1=>tb σ H1 fun y H2=>R x y H2) {Q:Value->Shared->Prop} {f:Value->Value->Sem Value}
  (hf:∀ v u s2 x y H2,Inv X pins σ H2 s2->RelV x v->RelV y u->R x y H2->wpAny (model X.prog X.w) X.A (f v u) Q X.xe s2):
  wpAny (model X.prog X.w) X.A (eval a X.env) (fun v s₁=>wpAny (model X.prog X.w) X.A (eval b X.env) (fun u s₂=>wpAny (model X.prog X.w) X.A (f v u) Q X.xe s₂) X.xe s₁) X.xe s:=by
 refine thn (ha pins s σ H _ I h) fun v s1 ⟨x,H1,I1,r1,q1⟩=>?_
 refine thn (hb pins s1 σ H1 _ I1 q1) fun u s2 ⟨y,H2,I2,r2,q2⟩=>?_
 exact hf v u s2 x y H2 I2 r1 r2 q2
theorem al {op:Operator} {r:R2} (ho:OpR X (binaryOp op) r) (ha:PE X a ta) (hb:PE X b tb):PE X (.BinOp a op b pos) (tOp r ta tb):=by
 intro pins s σ H Q I h;exact wpAny_BinOp (binT ha hb I h fun v u s2 x y H2 I2 rx ry q=>ho pins s2 σ H2 x y v u Q I2 rx ry q)
theorem opI {f:Value->Value->Sem Value} {C:Int->Int->Prop} {g:Int->Int->Int}
  (rule:∀ (i j:Int) (t u:Tok) (s:Shared) (Q:Value->Shared->Prop) (E:Value->Shared->Prop),C i j->Q (.int (g i j) s.toks) { s with toks:=s.toks+1 }->wpAny (model X.prog X.w) X.A (f (.int i t) (.int j u)) Q E s):
  OpR X f (rI C fun i j=>.int (g i j)):=by
 intro pins s σ H x y v u Q I rx ry h;obtain ⟨i,j,rfl,rfl,hc,q⟩:=h;obtain ⟨t,rfl⟩:=rx;obtain ⟨t',rfl⟩:=ry;exact rule i j t t' s _ _ hc ⟨.int (g i j),H,I.tok _,⟨_,rfl⟩,q⟩
theorem opI0 {f:Value->Value->Sem Value} {g:Int->Int->Int}
  (rule:∀ (i j:Int) (t u:Tok) (s:Shared) (Q:Value->Shared->Prop) (E:Value->Shared->Prop),Q (.int (g i j) s.toks) { s with toks:=s.toks+1 }->wpAny (model X.prog X.w) X.A (f (.int i t) (.int j u)) Q E s):
  OpR X f (rI0 fun i j=>.int (g i j)):=by
 intro pins s σ H x y v u Q I rx ry h;obtain ⟨i,j,rfl,rfl,q⟩:=h;obtain ⟨t,rfl⟩:=rx;obtain ⟨t',rfl⟩:=ry;exact rule i j t t' s _ _ ⟨.int (g i j),H,I.tok _,⟨_,rfl⟩,q⟩
theorem opB0 {f:Value->Value->Sem Value} {g:Int->Int->Bool}
  (rule:∀ (i j:Int) (t u:Tok) (s:Shared) (Q:Value->Shared->Prop) (E:Value->Shared->Prop),Q (.bool (g i j)) s->wpAny (model X.prog X.w) X.A (f (.int i t) (.int j u)) Q E s):
  OpR X f (rI0 fun i j=>.bl (g i j)):=by
 intro pins s σ H x y v u Q I rx ry h;obtain ⟨i,j,rfl,rfl,q⟩:=h;obtain ⟨t,rfl⟩:=rx;obtain ⟨t',rfl⟩:=ry;exact rule i j t t' s _ _ ⟨.bl (g i j),H,I,rfl,q⟩
def CDiv (i j:Int):Prop:=0 < j/\j < 1073741824
def CPow (i j:Int):Prop:=0<=j/\j<=1000000/\i.natAbs < 2 ^ 64
def CMul (i j:Int):Prop:=(-(2 ^ 64) < i/\i < 2 ^ 64)\/(-(2 ^ 64) < j/\j < 2 ^ 64)
theorem CMul.ok {i j:Int} (h:CMul i j):IntMulOk i j:=by
 rcases h with ⟨h1,h2⟩ | ⟨h1,h2⟩
 ·exact .of_left (intBits_le_64 h1 h2)
 ·exact .of_right (intBits_le_64 h1 h2)
theorem yx:OpR X (binaryOp .Add) (rI0 fun i j=>.int (i+j)):=opI0 fun _ _ _ _ _ _ _ q=>add_int q
theorem xX:OpR X (binaryOp .Sub) (rI0 fun i j=>.int (i - j)):=opI0 fun _ _ _ _ _ _ _ q=>sub_int q
theorem xV:OpR X (binaryOp .Mult) (rI CMul fun i j=>.int (i*j)):=opI fun _ _ _ _ _ _ _ hc q=>mul_int q hc.ok
theorem xw:OpR X (binaryOp .FloorDiv) (rI CDiv fun i j=>.int (i / j)):=opI fun i j _ _ _ _ _ hc q=>by
 have h1:(0:Int) < j:=hc.1;have h2:j < 1073741824:=hc.2;exact floordiv_int (by lia) (by rw [Int.fdiv_eq_ediv_of_nonneg i (by lia)]; exact q) (.inl (PyProof.noPylong_small (by lia)))
theorem x5:OpR X (binaryOp .Mod) (rI (fun _ j=>0 < j) fun i j=>.int (i % j)):=opI fun i j _ _ _ _ _ hc q=>by
 have h1:(0:Int) < j:=hc;exact mod_int' (by lia) (by rw [Int.fmod_eq_emod_of_nonneg i (by lia)]; exact q)
end
noncomputable def scal:V->V->Bool
 | .non,.non=>true | .non,.int _=>true | .int _,.non=>true | .non,.bl _=>true | .bl _,.non=>true | .non,.str _=>true | .str _,.non=>true
 | .int _,.int _=>true | .bl _,.bl _=>true | .str _,.str _=>true | .byt _,.byt _=>true
 | .int _,.str _=>true | .str _,.int _=>true | .bl _,.str _=>true | .str _,.bl _=>true
 | _,_=>false
noncomputable def rEq:R2:=fun x y H Q=>scal x y=true/\Q (.bl (decide (x=y))) H
noncomputable def rNe:R2:=fun x y H Q=>scal x y=true/\Q (.bl (!decide (x=y))) H
theorem sR {i j:Int}:decide (V.int i=V.int j)=(i == j):=by
 rw [Bool.eq_iff_iff];simp
theorem va {i j:Bool}:decide (V.bl i=V.bl j)=(i == j):=by
 rw [Bool.eq_iff_iff];simp
theorem sL {i j:Str}:decide (V.str i=V.str j)=(i == j):=by
 rw [Bool.eq_iff_iff];simp
theorem sZ {i j:Array UInt8}:decide (V.byt i=V.byt j)=(i.toList == j.toList):=by
 rw [Bool.eq_iff_iff];cases i;cases j;simp
section
variable {X:Cx} {a b c:Expr} {ta tb tc:TE} {pos:Pos}
theorem aU {pins:List (Addr × Obj)} {σ:St} {H:Hp} {s:Shared} {Q:VK} {k k':Bool} (I:Inv X pins σ H s) (q:Q (.bl k) H) (e:k=k'):EP X pins σ Q (.bool k') s:=by
 subst e;exact ⟨.bl k,H,I,rfl,q⟩
theorem zj:OpR X (compareOp .Eq) rEq:=by
 intro pins s σ H x y v u Q I rx ry h;obtain ⟨hs,q⟩:=h;cases x with
 | non=>
  cases rx;cases y with
  | non=>cases ry; exact PySem.EqNone.eq_none_none (aU I q (by simp))
  | bl j=>cases ry; exact PySem.EqNone.eq_none_bool (aU I q (by simp))
  | int j=>obtain ⟨t',rfl⟩:=ry; exact PySem.EqNone.eq_none_int (aU I q (by simp))
  | str j=>obtain ⟨t',rfl⟩:=ry; exact PySem.EqNone.eq_none_str (aU I q (by simp))
  | _=>exact absurd (show false=true from hs) Bool.false_ne_true
 | bl i=>
  cases rx;cases y with
  | non=>cases ry; exact PySem.EqNone.eq_bool_none (aU I q (by simp))
  | bl j=>cases ry; exact eq_bool (aU I q va)
  | str j=>obtain ⟨t',rfl⟩:=ry; exact PySem.EqMixed.eq_bool_str (aU I q (by simp))
  | _=>exact absurd (show false=true from hs) Bool.false_ne_true
 | int i=>
  obtain ⟨t,rfl⟩:=rx;cases y with
  | non=>cases ry; exact PySem.EqNone.eq_int_none (aU I q (by simp))
  | int j=>obtain ⟨t',rfl⟩:=ry; exact eq_int (aU I q sR)
  | str j=>obtain ⟨t',rfl⟩:=ry; exact PySem.EqMixed.eq_int_str (aU I q (by simp))
  | _=>exact absurd (show false=true from hs) Bool.false_ne_true
 | str i=>
  obtain ⟨t,rfl⟩:=rx;cases y with
  | non=>cases ry; exact PySem.EqNone.eq_str_none (aU I q (by simp))
  | bl j=>cases ry; exact PySem.EqMixed.eq_str_bool (aU I q (by simp))
  | int j=>obtain ⟨t',rfl⟩:=ry; exact PySem.EqMixed.eq_str_int (aU I q (by simp))
  | str j=>obtain ⟨t',rfl⟩:=ry; exact eq_str (aU I q sL)
  | _=>exact absurd (show false=true from hs) Bool.false_ne_true
 | byt i=>
  obtain ⟨t,rfl⟩:=rx;cases y with
  | byt j=>obtain ⟨t',rfl⟩:=ry; exact PySem.W.eq_bytes (aU I q sZ)
  | _=>exact absurd (show false=true from hs) Bool.false_ne_true
 | _=>cases y <;> exact absurd (show false=true from hs) Bool.false_ne_true
theorem zx:OpR X (compareOp .NotEq) rNe:=by
 intro pins s σ H x y v u Q I rx ry h;obtain ⟨hs,q⟩:=h;cases x with
 | non=>
  cases rx;cases y with
  | non=>cases ry; exact PySem.EqNone.ne_none_none (aU I q (by simp))
  | bl j=>cases ry; exact PySem.EqNone.ne_none_bool (aU I q (by simp))
  | int j=>obtain ⟨t',rfl⟩:=ry; exact PySem.EqNone.ne_none_int (aU I q (by simp))
  | str j=>obtain ⟨t',rfl⟩:=ry; exact PySem.EqNone.ne_none_str (aU I q (by simp))
  | _=>exact absurd (show false=true from hs) Bool.false_ne_true
 | bl i=>
  cases rx;cases y with
  | non=>cases ry; exact PySem.EqNone.ne_bool_none (aU I q (by simp))
  | bl j=>cases ry; exact ne_bool (aU I q (congrArg not va))
  | str j=>obtain ⟨t',rfl⟩:=ry; exact PySem.EqMixed.ne_bool_str (aU I q (by simp))
  | _=>exact absurd (show false=true from hs) Bool.false_ne_true
 | int i=>
  obtain ⟨t,rfl⟩:=rx;cases y with
  | non=>cases ry; exact PySem.EqNone.ne_int_none (aU I q (by simp))
  | int j=>obtain ⟨t',rfl⟩:=ry; exact ne_int (aU I q (congrArg not sR))
  | str j=>obtain ⟨t',rfl⟩:=ry; exact PySem.EqMixed.ne_int_str (aU I q (by simp))
  | _=>exact absurd (show false=true from hs) Bool.false_ne_true
 | str i=>
  obtain ⟨t,rfl⟩:=rx;cases y with
  | non=>cases ry; exact PySem.EqNone.ne_str_none (aU I q (by simp))
  | bl j=>cases ry; exact PySem.EqMixed.ne_str_bool (aU I q (by simp))
  | int j=>obtain ⟨t',rfl⟩:=ry; exact PySem.EqMixed.ne_str_int (aU I q (by simp))
  | str j=>obtain ⟨t',rfl⟩:=ry; exact ne_str (aU I q (congrArg not sL))
  | _=>exact absurd (show false=true from hs) Bool.false_ne_true
 | byt i=>
  obtain ⟨t,rfl⟩:=rx;cases y with
  | byt j=>obtain ⟨t',rfl⟩:=ry; exact PySem.W.ne_bytes (aU I q (congrArg not sZ))
  | _=>exact absurd (show false=true from hs) Bool.false_ne_true
 | _=>cases y <;> exact absurd (show false=true from hs) Bool.false_ne_true
theorem zt:OpR X (compareOp .Lt) (rI0 fun i j=>.bl (decide (i < j))):=opB0 fun _ _ _ _ _ _ _ q=>lt_int q
theorem zg:OpR X (compareOp .LtE) (rI0 fun i j=>.bl (decide (i<=j))):=opB0 fun _ _ _ _ _ _ _ q=>le_int q
theorem zk:OpR X (compareOp .Gt) (rI0 fun i j=>.bl (decide (j < i))):=opB0 fun _ _ _ _ _ _ _ q=>gt_int q
theorem zm:OpR X (compareOp .GtE) (rI0 fun i j=>.bl (decide (j<=i))):=opB0 fun _ _ _ _ _ _ _ q=>ge_int q
theorem tH:OpR X (compareOp .In) (fun x y H Q=>Ex2 fun i j=>x=.str i/\y=.str j/\Q (.bl (!(Builtin.Str.occurrences j i 0 j.length 1).isEmpty)) H):=by
 intro pins s σ H x y v u Q I rx ry h;obtain ⟨i,j,rfl,rfl,q⟩:=h;obtain ⟨t,rfl⟩:=rx;obtain ⟨t',rfl⟩:=ry;exact in_str (aU I q rfl)
theorem xR:OpR X (compareOp .Is) (fun x y H Q=>y=.non/\Q (.bl (decide (x=.non))) H):=by
 intro pins s σ H x y v u Q I rx ry h;obtain ⟨rfl,q⟩:=h;cases ry;refine is_none_gen (aU I q ?_);cases x <;> first
  | (cases rx; rfl)
  | (obtain ⟨t,rfl⟩:=rx; rfl)
theorem wB:OpR X (compareOp .IsNot) (fun x y H Q=>y=.non/\Q (.bl (!decide (x=.non))) H):=by
 intro pins s σ H x y v u Q I rx ry h;obtain ⟨rfl,q⟩:=h;cases ry;refine isnot_none_gen (aU I q ?_);cases x <;> first
  | (cases rx; rfl)
  | (obtain ⟨t,rfl⟩:=rx; rfl)
theorem pU:OpR X (compareOp .NotIn) (fun x y H Q=>Ex2 fun i j=>x=.str i/\y=.str j/\Q (.bl (!(!(Builtin.Str.occurrences j i 0 j.length 1).isEmpty))) H):=by
 intro pins s σ H x y v u Q I rx ry h;obtain ⟨i,j,rfl,rfl,q⟩:=h;obtain ⟨t,rfl⟩:=rx;obtain ⟨t',rfl⟩:=ry;exact notIn_str (aU I q rfl)
theorem OpR.or {f:Value->Value->Sem Value} {r r':R2} (h:OpR X f r) (h':OpR X f r'):OpR X f (fun x y H Q=>r x y H Q\/r' x y H Q):=by
 intro pins s σ H x y v u Q I rx ry q;rcases q with q | q
 ·exact h pins s σ H x y v u Q I rx ry q
 ·exact h' pins s σ H x y v u Q I rx ry q
theorem nomark (b:Expr) {op:CmpOp} (h:op≠.In:=by decide) (h2:op≠.NotIn:=by decide):behindInMarks op b=false:=by
 have e1:(op == CmpOp.In)=false:=by cases op <;> first | rfl | exact absurd rfl h
 have e2:(op == CmpOp.NotIn)=false:=by cases op <;> first | rfl | exact absurd rfl h2
 cases b <;> simp [behindInMarks,e1,e2]
theorem xf {op:CmpOp} {r:R2} (ho:OpR X (compareOp op) r) (ha:PE X a ta) (hb:PE X b tb) (hm:behindInMarks op b=false):PE X (.Compare a [op] [b] pos) (tOp r ta tb):=by
 intro pins s σ H Q I h;exact wpAny_Compare1 (binT ha hb I h fun v u s2 x y H2 I2 rx ry q=>ho pins s2 σ H2 x y v u Q I2 rx ry q) hm
noncomputable def tTest (t:TE):TT:=fun σ H Q=>t σ H fun x H'=>∃ k,x=.bl k/\Q k H'
theorem wA {op:CmpOp} {r:R2} (ho:OpR X (compareOp op) r) (ha:PE X a ta) (hb:PE X b tb) (hm:behindInMarks op b=false):PT X (.Compare a [op] [b] pos) (tTest (tOp r ta tb)):=by
 intro pins s σ H Q I h;refine wpAny_isTrue_Compare1 (thn (ha pins s σ H _ I h) fun v s1 ⟨x,H1,I1,r1,q1⟩=>thn (hb pins s1 σ H1 _ I1 q1) fun u s2 ⟨y,H2,I2,r2,q2⟩=>
  thn (ho pins s2 σ H2 x y v u _ I2 r1 r2 q2) fun c s3 ⟨z,H3,I3,r3,k,e,q3⟩=>?_) hm
 subst e;cases r3;exact wpAny_truthy_bool ⟨H3,I3,q3⟩
theorem line63:(sizeLine:Nat) < 2 ^ 63:=by rw [sizeLine_eq]; decide
theorem rG:OpR X (binaryOp .Add) (fun x y H Q=>Ex2 fun i j=>x=.str i/\y=.str j/\i.length+j.length<=sizeLine/\Q (.str (i++j)) H):=by
 intro pins s σ H x y v u Q I rx ry h;obtain ⟨i,j,rfl,rfl,hz,q⟩:=h;obtain ⟨t,rfl⟩:=rx;obtain ⟨t',rfl⟩:=ry;exact tokQ I.tk (add_str (fun t' tk (htk:0 < tk)=>⟨.str (i++j),H,I.tok _,⟨_,rfl⟩,q⟩) hz)
theorem vals1 {x:V} {us:List Value} (r:Vals [x] us):∃ u,us=[u]/\RelV x u:=by
 cases r with
 | cons r1 r2=>cases r2; exact ⟨_,rfl,r1⟩
theorem vals2 {x y:V} {us:List Value} (r:Vals [x,y] us):Ex2 fun u w'=>us=[u,w']/\RelV x u/\RelV y w':=by
 cases r with
 | cons r1 r2=>
  cases r2 with
  | cons r3 r4=>cases r4; exact ⟨_,_,rfl,r1,r3⟩
theorem ua (hc:X.calm=true):CallR X (.builtin "max") (fun xs H Q=>Ex2 fun i j=>xs=[.int i,.int j]/\Q (.int (if j > i then j else i)) H):=by
 intro pins s σ H xs us Q I r h;obtain ⟨i,j,rfl,q⟩:=h;obtain ⟨u,w',rfl,⟨t,rfl⟩,⟨t',rfl⟩⟩:=vals2 r;refine tokQ I.tk (max_two_ints (I.ok.hd hc) fun h' tk k (htk:0 < tk)=>⟨_,H,I.kept k,?_,q⟩);by_cases hj:j > i
 ·rw [if_pos hj,if_pos hj]; exact ⟨_,rfl⟩
 ·rw [if_neg hj,if_neg hj]; exact ⟨_,rfl⟩
theorem tD (hc:X.calm=true):CallR X (.builtin "min") (fun xs H Q=>Ex2 fun i j=>xs=[.int i,.int j]/\Q (.int (if j < i then j else i)) H):=by
 intro pins s σ H xs us Q I r h;obtain ⟨i,j,rfl,q⟩:=h;obtain ⟨u,w',rfl,⟨t,rfl⟩,⟨t',rfl⟩⟩:=vals2 r;refine tokQ I.tk (min_two_ints (I.ok.hd hc) fun h' tk k (htk:0 < tk)=>⟨_,H,I.kept k,?_,q⟩);by_cases hj:j < i
 ·rw [if_pos hj,if_pos hj]; exact ⟨_,rfl⟩
 ·rw [if_neg hj,if_neg hj]; exact ⟨_,rfl⟩
end
structure ObjM (h:Heap) (x dx C:Addr) (mA:Str->Option Value):Prop where
 obj:h.get? x=some (PySem.W.instObj C dx)
 ns:h.Ns1 dx mA
 ne:dx≠x
theorem uh {h:Heap} {dx:Addr} {mA:Str->Option Value} (n:h.Ns1 dx mA):∃ od,h.get? dx=some od/\∀ name,PySem.W.lookIn name od=some (mA name):=by
 obtain ⟨o,es,ep,ho,hd,hk,_,hm⟩:=n;refine ⟨o,ho,fun name=>?_⟩;have e:=hm name;unfold nsFind findBy at e;rw [<- Array.find?_toList] at e;unfold PySem.W.lookIn;rw [hd];dsimp only;split
 ·rename_i y q;rw [q] at e;exact congrArg some e
 ·rename_i q;rw [q] at e;have a:es.toList.any (·.refKey)=false:=by
   rw [List.any_eq_false];intro y hy;obtain ⟨z,t,hkey⟩:=hk y (Array.mem_toList_iff.mp hy);simp [DictEntry.refKey,hkey]
  have a':¬ es.toList.any (·.refKey)=true:=by rw [a]; exact Bool.false_ne_true
  rw [if_neg a'];exact congrArg some e
theorem ObjM.look {h:Heap} {x dx C:Addr} {mA:Str->Option Value} (I:ObjM h x dx C mA):∃ od,PySem.W.InstAt h x (PySem.W.instObj C dx) C (some od)/\∀ name,PySem.W.lookIn name od=some (mA name):=
 let ⟨od,ho,hl⟩:=uh I.ns
 ⟨od,⟨I.obj,rfl,rfl,ho⟩,hl⟩
section
variable {prog:Program} {w:World} {A:Around} {E:Value->Shared->Prop} {s:Shared} {K:Frag} {x dx C f:Addr} {mA:Str->Option Value} {name:Str} {v:Value}
theorem wc {expr:Bool} {Q:Value->Shared->Prop} (X:K.In s.heap) (I:ObjM s.heap x dx C mA) (hg:PySem.W.plainGet K C name=true) (hh:PySem.W.hasDictIn K C=true)
  (ha:findIn K (.ref C) name=some none) (hv:mA name=some v) (hv':PySem.W.handedIn v=true) (h:Q v { s with toks:=s.toks+1 }):
  wpAny (model prog w) A (getAttr (.ref x) name expr) Q E s:=by
 obtain ⟨od,J,hl⟩:=I.look;exact PySem.W.get_value X J (PySem.W.plainGet_of hg).1 (PySem.W.findObj_own hh ha rfl (by rw [hl,hv])) hv' h
theorem uU {pl:Sem Bool} {Q:Value × List Value->Shared->Prop} (X:K.In s.heap) (I:ObjM s.heap x dx C mA) (hg:PySem.W.plainGet K C name=true)
  (hf:findIn K (.ref C) name=some (some (.ref f))) (ht:PySem.W.isFn K (.ref f)=true) (hv:mA name=none) (h:Q (.ref f,[.ref x]) s):
  wpAny (model prog w) A (getMethod (.ref x) name pl) Q E s:=by
 obtain ⟨od,J,hl⟩:=I.look;exact PySem.W.method_fn X J (PySem.W.plainGet_of hg).1 (PySem.W.plainGet_of hg).2 hf (beq_iff_eq.mp ht) (by show (PySem.W.lookIn name od).map (·.isSome)=some false; rw [hl,hv]; rfl) h
theorem wX {ns:List Str} {Q:Unit->Shared->Prop} (X:K.In s.heap) (I:ObjM s.heap x dx C mA)
  (hs:findIn K (.ref C) "__setattr__" = some (some (.builtin "object.__setattr__"))) (hp:PySem.W.plainOver K C=true) (ht:PySem.W.takerIn K C name=some none) (hh:PySem.W.hasDictIn K C=true)
  (hw:PySem.Within mA ns) (hsz:ns.length<=sizeLine)
  (h:∀ h',ObjM h' x dx C (fun y=>if y=name then some v else mA y)->Heap.SameBut dx s.heap h'->Q () { s with heap:=h',toks:=s.toks+2 }):
  wpAny (model prog w) A (setAttr (.ref x) name v) Q E s:=by
 obtain ⟨od,J,hl⟩:=I.look;refine PySem.W.set_plain X J hs (PySem.W.osa_open (s:={ s with toks:=s.toks+1 }) (r:=none) X J hp ht fun b=>?_);obtain ⟨cd,hc,hd'⟩:=PySem.W.any_some hh;have hx:s.heap.get? x=some ⟨.ref C,some dx,.plain,#[]⟩:=I.obj;refine wpAny_bind (wpAny_pure (wpAny_bind (wpAny_bind (wpAny_loadPart hx (wpAny_bind (PySem.W.Looks.here (s:={ s with toks:=s.toks+1 }) (PySem.W.looks_clsIn X hc) ?_))))));rw [hd'];refine wpAny_pure (a:=some dx) (wpAny_bind (wpAny_pure (wpAny_bind ?_)));refine wpAny_nsSet1 (s:={ s with toks:=s.toks+1 }) I.ns fun h' hn2 hs2=>?_
 obtain ⟨oD,esD,epD,hoD,hdD,hcD⟩:=hn2.count (PySem.Within.cons name v hw);refine wpAny_bind (wpAny_lookBehind hoD (by rw [hdD]; exact pastItsLine_dict (Nat.le_trans hcD (by rw [List.length_cons]; lia))) ?_);exact wpAny_pure (h _ ⟨(hs2.2 _ (Ne.symm I.ne)).trans I.obj,hn2,I.ne⟩ hs2)
theorem vE {R:Result->Shared->Prop} {vs:List Value} {kw:List (Str × Value)} (X:K.In s.heap) (hm:PySem.W.makesIn K C=true)
  (hi:findIn K (.ref C) "__init__" = some (some (.ref f))) (hf:PySem.W.typeIn K (.ref f)=some (.type "function"))
  (h:codeAny (model prog w) (A.under (.builtin "type.__call__" ⟨.ref C::vs,kw⟩)) (.call (.ref f) ⟨.ref (s.heap.objs.size+1)::vs,kw⟩) (PySem.W.InitBack (s.heap.objs.size+1) R)
   { s with heap:=(s.heap.push PySem.W.emptyDict).push (PySem.W.instObj C s.heap.objs.size) }):
  codeAny (model prog w) A (.call (.ref C) ⟨vs,kw⟩) R s:=by
 obtain ⟨hh,g,d,t,os⟩:=s;exact PySem.W.make_core (PySem.W.makes_of X hm) (PySem.W.looks_findIn X hi) (fun self=>PySem.W.bind_fn X self hf) (.inl rfl) h
end
noncomputable def putF (f:Str) (v:V):List (Str × V)->List (Str × V)
 | []=>[(f,v)]
 | (g,x)::r=>if g=f then (g,v)::r else (g,x)::putF f v r
theorem lV (f g:Str) (v:V):∀ fs:List (Str × V),(putF f v fs).lookup g=if g=f then some v else fs.lookup g
 | []=>by
  show List.lookup g [(f,v)]=_;by_cases h:g=f
  ·have hb:(g == f)=true:=beq_iff_eq.mpr h;simp only [List.lookup,hb,if_pos h]
  ·have hb:(g == f)=false:=beq_eq_false_iff_ne.mpr h;simp only [List.lookup,hb,if_neg h]
 | (k,x)::r=>by
  have ih:=lV f g v r;rw [show putF f v ((k,x)::r)=(if k=f then (k,v)::r else (k,x)::putF f v r) from rfl];by_cases hk:k=f
  ·rw [if_pos hk];by_cases h:g=k
   ·have hb:(g == k)=true:=beq_iff_eq.mpr h;simp only [List.lookup,hb,if_pos (h.trans hk)]
   ·have hb:(g == k)=false:=beq_eq_false_iff_ne.mpr h;simp only [List.lookup,hb,if_neg (fun e:g=f=>h (e.trans hk.symm))]
  ·rw [if_neg hk];by_cases h:g=k
   ·have hb:(g == k)=true:=beq_iff_eq.mpr h;simp only [List.lookup,hb,if_neg (fun e:g=f=>hk (h.symm.trans e))]
   ·have hb:(g == k)=false:=beq_eq_false_iff_ne.mpr h;simp only [List.lookup,hb];exact ih
theorem lA (f:Str) (v:V):∀ fs:List (Str × V),f ∈ (putF f v fs).map (·.1)/\∀ g,g ∈ fs.map (·.1)->g ∈ (putF f v fs).map (·.1)
 | []=>⟨by simp [putF],fun g h=>by simp at h⟩
 | (k,x)::r=>by
  obtain ⟨i1,i2⟩:=lA f v r;rw [show putF f v ((k,x)::r)=(if k=f then (k,v)::r else (k,x)::putF f v r) from rfl];by_cases hk:k=f
  ·rw [if_pos hk];subst hk;exact ⟨by simp,fun g h=>by simpa using h⟩
  ·rw [if_neg hk];refine ⟨?_,fun g h=>?_⟩
   ·rw [List.map_cons];exact List.mem_cons_of_mem _ i1
   ·rw [List.map_cons] at h ⊢;rcases List.mem_cons.mp h with e | e
    ·exact List.mem_cons.mpr (.inl e)
    ·exact List.mem_cons_of_mem _ (i2 g e)
theorem lZ (f:Str) (v:V):∀ fs:List (Str × V),(putF f v fs).length<=fs.length+1
 | []=>by simp [putF]
 | (k,x)::r=>by
  have ih:=lZ f v r;rw [show putF f v ((k,x)::r)=(if k=f then (k,v)::r else (k,x)::putF f v r) from rfl];by_cases hk:k=f
  ·rw [if_pos hk,List.length_cons,List.length_cons]; lia
  ·rw [if_neg hk,List.length_cons,List.length_cons]; lia
theorem RelO.some_of {v:V} {o:Option Value} (r:RelO (some v) o):∃ u,o=some u/\RelV v u:=by
 cases o with
 | none=>exact (show False from r).elim
 | some u=>exact ⟨u,rfl,r⟩
theorem RelO.none_of {o:Option Value} (r:RelO none o):o=none:=by
 cases o with
 | none=>rfl
 | some u=>exact (show False from r).elim
theorem um {v:V} {u:Value} (r:RelV v u):PySem.W.handedIn u=true:=by
 cases v with
 | non=>cases (show u=Value.none from r); rfl
 | bl b=>cases (show u=Value.bool b from r); rfl
 | int i=>obtain ⟨t,e⟩:=(show ∃ t,u=Value.int i t from r); cases e; rfl
 | str x=>obtain ⟨t,e⟩:=(show ∃ t,u=Value.str x t from r); cases e; rfl
 | byt b=>obtain ⟨t,e⟩:=(show ∃ t,u=Value.bytes b t from r); cases e; rfl
 | flt b=>obtain ⟨t,e⟩:=(show ∃ t,u=Value.float b t from r); cases e; rfl
 | ref a=>cases (show u=Value.ref a from r); rfl
 | ty n=>cases (show u=Value.type n from r); rfl
section
variable {P:Program} {w:World} {H H':Hp} {h h':Heap} {a C dx:Addr} {fs fs':List (Str × V)}
theorem mL (hok:HOk P w H h) (e:H a=some (.ins C dx fs)):∃ mA,ObjM h a dx C mA/\(∀ f,RelO (fs.lookup f) (mA f))/\PySem.Within mA (fs.map (·.1))/\fs.length<=1000/\H dx=some (.own a):=by
 obtain ⟨d,z,ne,ob,mA,n,r,q⟩:=(show ObjOk P w H h a (.ins C dx fs) from hok a _ e);exact ⟨mA,⟨ob,n,ne⟩,r,q,z,d⟩
end
structure Cls (K:Frag) (C:Addr):Prop where
 pg:PySem.W.plainGet K C Str.empty=true
 hd:PySem.W.hasDictIn K C=true
 po:PySem.W.plainOver K C=true
 sa:findIn K (.ref C) "__setattr__" = some (some (.builtin "object.__setattr__"))
theorem Cls.get {K:Frag} {C:Addr} (c:Cls K C) (f:Str):PySem.W.plainGet K C f=true:=c.pg
def NoAttr (K:Frag) (C:Addr) (f:Str):Prop:=findIn K (.ref C) f=some none
theorem NoAttr.taker {K:Frag} {C:Addr} {f:Str} (n:NoAttr K C f):PySem.W.takerIn K C f=some none:=by
 unfold PySem.W.takerIn;rw [show findIn K (.ref C) f=some none from n];rfl
structure Meth (K:Frag) (C:Addr) (m:Str) (f:Addr):Prop where
 at_:findIn K (.ref C) m=some (some (.ref f))
 fn:PySem.W.isFn K (.ref f)=true
 kp:keepIn K (.ref f)=true
section
variable {X:Cx} {pins:List (Addr × Obj)} {σ:St} {H:Hp} {s:Shared} {a C dx:Addr} {fs:List (Str × V)} {f:Str} {v:V} {A:Around} {E:Value->Shared->Prop}
theorem r6 {b:Bool} {Q:Value->Shared->Prop} (I:Inv X pins σ H s) (e:H a=some (.ins C dx fs)) (c:Cls X.K C) (n:NoAttr X.K C f) (l:fs.lookup f=some v)
  (h:∀ u s',Inv X pins σ H s'->RelV v u->Q u s'):wpAny (model X.prog X.w) A (getAttr (.ref a) f b) Q E s:=by
 obtain ⟨mA,O,r,_,_,_⟩:=mL I.hok e;obtain ⟨u,hu,ru⟩:=RelO.some_of (v:=v) (o:=mA f) (by rw [<- l]; exact r f);exact wc I.kIn O (c.get f) c.hd n hu (um ru) (h u _ (I.tok _) ru)
theorem mU {m:Str} {g:Addr} {pl:Sem Bool} {Q:Value × List Value->Shared->Prop} (I:Inv X pins σ H s) (e:H a=some (.ins C dx fs)) (c:Cls X.K C) (k:Meth X.K C m g) (l:fs.lookup m=none)
  (h:Q (.ref g,[.ref a]) s):wpAny (model X.prog X.w) A (getMethod (.ref a) m pl) Q E s:=by
 obtain ⟨mA,O,r,_,_,_⟩:=mL I.hok e;have hn:mA m=none:=RelO.none_of (by rw [<- l]; exact r m);exact uU I.kIn O (c.get m) k.at_ k.fn hn h
theorem rX {y:V} {u:Value} {Q:Unit->Shared->Prop} (I:Inv X pins σ H s) (e:H a=some (.ins C dx fs)) (c:Cls X.K C) (n:NoAttr X.K C f) (hl:fs.length < 1000) (ry:RelV y u)
  (h:∀ s',Inv X pins σ (upd H a (.ins C dx (putF f y fs))) s'->Q () s'):wpAny (model X.prog X.w) A (setAttr (.ref a) f u) Q E s:=by
 obtain ⟨mA,O,r,wi,_,ho⟩:=mL I.hok e;have hz:(fs.map (·.1)).length<=sizeLine:=by rw [List.length_map,sizeLine_eq]; lia
 refine wX I.kIn O c.sa c.po n.taker c.hd wi hz fun h' O' sb=>h _ ?_
 have hd:∃ o,h'.get? dx=some o:=let ⟨o,_,_,e',_⟩:=O'.ns; ⟨o,e'⟩
 refine I.write (x:=a) (e:=dx) (by rw [e]; exact True.intro) (.inr ho) (fun b q hb z=>(sb.2 b hb).trans z) hd ?_;refine ⟨by rw [au O.ne]; exact ho,?_,O.ne,O'.obj,_,O'.ns,fun g=>?_,fun g hg=>?_⟩
 ·have:=lZ f y fs; lia
 ·show RelO ((putF f y fs).lookup g) (if g=f then some u else mA g);rw [lV];by_cases q:g=f
  ·rw [if_pos q,if_pos q]; exact ry
  ·rw [if_neg q,if_neg q]; exact r g
 ·by_cases q:g=f
  ·rw [q]; exact (lA f y fs).1
  ·refine (lA f y fs).2 g (wi g fun z=>hg ?_);show (if g=f then some u else mA g)=none;rw [if_neg q]; exact z
theorem Inv.made (I:Inv X pins σ H s):Inv X pins σ (upd (upd H s.heap.objs.size (.own (s.heap.objs.size+1))) (s.heap.objs.size+1) (.ins C s.heap.objs.size []))
  { s with heap:=(s.heap.push PySem.W.emptyDict).push (PySem.W.instObj C s.heap.objs.size) }:=by
 have e1:(s.heap.push PySem.W.emptyDict).get? s.heap.objs.size=some PySem.W.emptyDict:=Heap.get?_push_size s.heap rfl;have e2:((s.heap.push PySem.W.emptyDict).push (PySem.W.instObj C s.heap.objs.size)).get? (s.heap.objs.size+1)=some (PySem.W.instObj C s.heap.objs.size):=by
  have:=Heap.get?_push_size (s.heap.push PySem.W.emptyDict) (o:=PySem.W.instObj C s.heap.objs.size) rfl
  rwa [Heap.size_push] at this
 have e3:(s.heap.push PySem.W.emptyDict).Ns s.heap.objs.size (fun _=>none):=⟨PySem.W.emptyDict,#[],_,e1,rfl,(fun e he=>absurd he (by simp)),fun _=>rfl⟩;have I1:=I.laid (a:=s.heap.objs.size) (o:=.own (s.heap.objs.size+1)) (h':=s.heap.push PySem.W.emptyDict) (t':=s.toks) (fun b u q=>Heap.get?_push_of_some _ q) (Nat.le_refl _) ⟨_,e1⟩;refine I1.laid (a:=s.heap.objs.size+1) (o:=.ins C s.heap.objs.size []) (t':=s.toks) (fun b u q=>Heap.get?_push_of_some _ q) (Nat.le_of_eq (Heap.size_push _ _)) ?_;have ne:s.heap.objs.size≠s.heap.objs.size+1:=Nat.ne_of_lt (Nat.lt_succ_self _);refine ⟨by rw [au ne,ab],Nat.zero_le _,ne,e2,fun _=>none,(Heap.Ns1.of_empty e3).at fun o q=>Heap.get?_push_of_some _ q,fun _=>True.intro,fun y hy=>absurd rfl hy⟩
theorem xl {prog:Program} {w:World} {env:Env} {e:Expr} {f:Str} {pos:Pos} {s:Shared} {Q:Value->Shared->Prop} (hb:attributeBase e f env (eval e env)=eval e env)
  (h:wpAny (model prog w) A (eval e env) (fun o s₁=>wpAny (model prog w) A (getAttr o f true) Q E s₁) E s):wpAny (model prog w) A (eval (.Attribute e f pos) env) Q E s:=
 Attribute_any_ h (by rw [arm_eval_Attribute,hb])
end
noncomputable def tFld (K:Frag) (ta:TE) (f:Str):TE:=fun σ H Q=>ta σ H fun x H1=>Ex5 fun a C dx fs v=>x=.ref a/\H1 a=some (.ins C dx fs)/\Cls K C/\NoAttr K C f/\fs.lookup f=some v/\Q v H1
noncomputable def sFld (K:Frag) (ta tv:TE) (f:Str):TS:=fun D σ H=>tv σ H fun y H1=>ta σ H1 fun x H2=>Ex4 fun a C dx fs=>x=.ref a/\H2 a=some (.ins C dx fs)/\Cls K C/\NoAttr K C f/\fs.length < 1000 /\
 D.nx σ (upd H2 a (.ins C dx (putF f y fs)))
section
variable {X:Cx} {o e value:Expr} {f:Str} {pos pos' tpos:Pos} {ta tv:TE}
theorem bE (he:PE X e ta) (hb:attributeBase e f X.env (eval e X.env)=eval e X.env):PE X (.Attribute e f pos) (tFld X.K ta f):=by
 intro pins s σ H Q I h;refine xl hb (thn (he pins s σ H _ I h) fun u s1 ⟨x,H1,I1,rx,a,C,dx,fs,v,ex,ea,c,n,l,q⟩=>?_);subst ex;obtain rfl:u=Value.ref a:=rx;exact r6 I1 ea c n l fun u' s2 I2 ru=>⟨v,H1,I2,ru,q⟩
theorem dQ (ha:PE X o ta) (hv:PE X value tv) (hs:swapsWith value (some (.Attribute o f pos')) pos.line X.env=pure false):PS X (.Assign [.Attribute o f pos'] value pos) (sFld X.K ta tv f):=by
 intro pins s σ H D I h;refine plainObj_wpAny_Assign_Attribute (thn (hv pins s σ H _ I h) fun u s1 ⟨y,H1,I1,ry,q⟩=>thn (ha pins s1 σ H1 _ I1 q) fun ov s2 ⟨x,H2,I2,rx,a,C,dx,fs,ex,ea,c,n,l,q2⟩=>?_) hs;subst ex;obtain rfl:ov=Value.ref a:=rx;exact rX I2 ea c n l ry fun s3 I3=>⟨σ,_,I3,q2⟩
end
section
variable {X:Cx} {pins:List (Addr × Obj)} {σ:St} {H:Hp} {s:Shared} {A:Around} {E:Value->Shared->Prop} {Q:Value->Shared->Prop} {c:Value} {b:Bool}
inductive TyOf (K:Frag) (H:Hp):V->Value->Prop where
 | non:TyOf K H .non (.type "NoneType")
 | bl (x:Bool):TyOf K H (.bl x) (.type "bool")
 | int (i:Int):TyOf K H (.int i) (.type "int")
 | str (x:Str):TyOf K H (.str x) (.type "str")
 | flt (x:UInt64):TyOf K H (.flt x) (.type "float")
 | lst {a:Addr} {xs:List V} (e:H a=some (.lst xs)):TyOf K H (.ref a) (.type "list")
 | frz {a:Addr} {o:Obj} {xs:List V} (e:H a=some (.frz o (.lst xs))):TyOf K H (.ref a) (.type "list")
 | tup {a:Addr} {xs:List V} (e:H a=some (.tup xs)):TyOf K H (.ref a) (.type "tuple")
 | dK {a:Addr} {kvs:List (Key × V)} (e:H a=some (.dK kvs)):TyOf K H (.ref a) (.type "dict")
 | dT {a:Addr} {kvs:List (List Key × V)} (e:H a=some (.dT kvs)):TyOf K H (.ref a) (.type "dict")
 | ins {a C dx:Addr} {fs:List (Str × V)} (e:H a=some (.ins C dx fs)) (cl:Cls K C) (ha:findIn K (.ref C) "__class__" = some (some (.builtin "object.__class__")))
   (hn:PySem.W.specialIn K (.builtin "object.__class__") "__get__" = some (some (.builtin "getset_descriptor.__get__"))) (htk:PySem.W.takesIn K (.builtin "object.__class__")=some true)
   (hm:PySem.W.mroIn K C (.type "object")=some true):TyOf K H (.ref a) (.ref C)
theorem tQ {x:V} {u t:Value} (I:Inv X pins σ H s) (rx:RelV x u) (ty:TyOf X.K H x t) (e:PySem.W.kitOne X.K t c=some b) (h:∀ tk,Q (.bool b) { s with toks:=tk }):
  wpAny (model X.prog X.w) A (call (.builtin "isinstance") [u,c]) Q E s:=by
 cases ty with
 | non=>cases (show u=Value.none from rx); exact PySem.W.kia_one PySem.W.kitx_none I.kIn True.intro e (fun z=>nomatch z) h
 | bl y=>cases (show u=Value.bool y from rx); exact PySem.W.kia_one PySem.W.kitx_bool I.kIn True.intro e (fun z=>nomatch z) h
 | int i=>obtain ⟨t,q⟩:=(show ∃ t,u=Value.int i t from rx); cases q; exact PySem.W.kia_one PySem.W.kitx_int I.kIn True.intro e (fun z=>nomatch z) h
 | str y=>obtain ⟨t,q⟩:=(show ∃ t,u=Value.str y t from rx); cases q; exact PySem.W.kia_one PySem.W.kitx_str I.kIn True.intro e (fun z=>nomatch z) h
 | flt y=>obtain ⟨t,q⟩:=(show ∃ t,u=Value.float y t from rx); cases q; exact PySem.W.kia_one PySem.W.kitx_float I.kIn True.intro e (fun z=>nomatch z) h
 | @lst a xs ea=>
  cases (show u=Value.ref a from rx);obtain ⟨_,_,n,_,h1⟩:=(show ObjOk X.prog X.w H s.heap a (.lst xs) from I.hok a _ ea);exact PySem.W.kia_one PySem.W.kitx_list I.kIn ⟨_,h1,rfl⟩ e (fun z=>nomatch z) h
 | @frz a ob xs ea=>
  cases (show u=Value.ref a from rx);obtain ⟨_,_,_,n,_,h1⟩:=(show ObjOk X.prog X.w H s.heap a (.frz ob (.lst xs)) from I.hok a _ ea);exact PySem.W.kia_one PySem.W.kitx_list I.kIn ⟨_,h1,rfl⟩ e (fun z=>nomatch z) h
 | @tup a xs ea=>
  cases (show u=Value.ref a from rx);obtain ⟨_,_,_,p⟩:=(show ObjOk X.prog X.w H s.heap a (.tup xs) from I.hok a _ ea);obtain ⟨o,h1,h2,_⟩:=p;exact PySem.W.kia_one PySem.W.kitx_tuple I.kIn ⟨o,h1,h2⟩ e (fun z=>nomatch z) h
 | @dK a kvs ea=>
  cases (show u=Value.ref a from rx);obtain ⟨_,_,vs,_,p⟩:=(show ObjOk X.prog X.w H s.heap a (.dK kvs) from I.hok a _ ea);obtain ⟨o,es,ep,h1,h2,_⟩:=p;exact PySem.W.kia_one PySem.W.kitx_dict I.kIn ⟨o,h1,h2.1⟩ e (fun z=>nomatch z) h
 | @dT a kvs ea=>
  cases (show u=Value.ref a from rx);obtain ⟨_,_,xs,_,o,es,ep,h1,h2,_⟩:=(show ObjOk X.prog X.w H s.heap a (.dT kvs) from I.hok a _ ea);exact PySem.W.kia_one PySem.W.kitx_dict I.kIn ⟨o,h1,h2.1⟩ e (fun z=>nomatch z) h
 | @ins a C dx fs ea cl ha hn htk hm=>
  cases (show u=Value.ref a from rx);obtain ⟨mA,O,_⟩:=mL I.hok ea;obtain ⟨od,J,_⟩:=O.look;exact PySem.W.kia_one (PySem.W.kitx_own (cl.get _) cl.hd ha hn htk hm) I.kIn J e (fun z=>nomatch z) h
end
structure Room (k:Nat) (A:Around):Prop where
 hd:A.handled=none
 dp:A.depth+3*k+5 < recursionLimit
 un:A.units+16*k+200 < cLine
 gd:A.guards=some []
theorem Room.mono {j k:Nat} {A:Around} (r:Room k A) (h:j<=k):Room j A:=⟨r.hd,by have:=r.dp; lia,by have:=r.un; lia,r.gd⟩
theorem Room.deeper {k:Nat} {A:Around} (r:Room (k+1) A) (env:Env):Room k (A.deeper env):=
 ⟨r.hd,by have:=r.dp; show A.depth+1+3*k+5 < _; lia,by have:=r.un; show A.units+3+16*k+200 < _; lia,r.gd⟩
theorem so {A:Around} {C:Addr} {us:List Value} {kw:List (Str × Value)}:(A.under (.builtin "type.__call__" ⟨.ref C::us,kw⟩)).depth=A.depth+1:=by
 first | rfl | simp [Around.under,Code.weight,Code.isCreation,Code.isGuard,Code.isCaller,Code.frames,Code.isFrame,guardIds]
theorem sd {A:Around} {C:Addr} {us:List Value} {kw:List (Str × Value)}:(A.under (.builtin "type.__call__" ⟨.ref C::us,kw⟩)).units=A.units+1:=by
 first | rfl | simp [Around.under,Code.cUnits,Code.frames,Code.isFrame]
theorem Room.make {k:Nat} {A:Around} (r:Room (k+1) A) (C:Addr) (us:List Value) (kw:List (Str × Value)):Room k (A.under (.builtin "type.__call__" ⟨.ref C::us,kw⟩)):=
 ⟨r.hd,by have:=r.dp; rw [so]; lia,by have:=r.un; rw [sd]; lia,by first | exact r.gd | (simpa [Around.under,Code.guards,Code.isGuard,pushGuards,guardIds] using r.gd)⟩
theorem Room.depth {k:Nat} {A:Around} (r:Room k A):A.depth < recursionLimit:=by have:=r.dp; lia
theorem Room.units {k:Nat} {A:Around} (r:Room k A):A.units+64 < cLine:=by have:=r.un; lia
theorem Room.units0 {k:Nat} {A:Around} (r:Room k A):A.units < cLine:=by have:=r.un; lia
noncomputable def tNil:TA:=fun _ H Q=>Q [] H
noncomputable def tCons (ta:TE) (tr:TA):TA:=fun σ H Q=>ta σ H fun x H1=>tr σ H1 fun xs H2=>Q (x::xs) H2
section
variable {X:Cx} {e:Expr} {es:List Expr} {te:TE} {t:TA} {pos:Pos}
theorem ae:PA X [] tNil:=fun _ _ _ _ H Q I h=>Calls.spliced_nil ⟨[],H,I,.nil,h⟩
theorem aa (ha:PE X e te) (hr:PA X es t) (hs:starEach (e::es) X.env=(false,eval e X.env)::starEach es X.env:=by rfl):PA X (e::es) (tCons te t):=by
 intro pos pins s σ H Q I h;rw [hs];show wpAny _ _ (spliced ((false,eval e X.env)::backTo pos (starEach es X.env))) _ _ s;refine Calls.spliced_cons (thn (ha pins s σ H _ I h) fun u s1 ⟨x,H1,I1,r1,q1⟩=>?_);exact thn (hr pos pins s1 σ H1 _ I1 q1) fun us s2 ⟨xs,H2,I2,r2,q2⟩=>⟨x::xs,H2,I2,.cons r1 r2,q2⟩
noncomputable def tTup (t:TA):TE:=fun σ H Q=>t σ H fun xs H1=>xs.length<=sizeLine/\∀ p,H1 p=none->Q (.ref p) (upd H1 p (.tup xs))
noncomputable def tLst (t:TA):TE:=fun σ H Q=>t σ H fun xs H1=>xs.length<=sizeLine/\∀ p,H1 p=none->Q (.ref p) (upd H1 p (.lst xs))
theorem ay {x1} (h:PA X es t):PE X (.Tuple es x1 pos) (tTup t):=by
 intro pins s σ H Q I hq;refine wpAny_Tuple_spliced (thn (h pos pins s σ H _ I hq) fun us s1 ⟨xs,H1,I1,r,z,q⟩=>⟨by rw [<- r.length]; exact z,?_⟩);have hf:H1 s1.heap.objs.size=none:=I1.hok.fresh (Nat.le_refl _);refine ⟨.ref s1.heap.objs.size,upd H1 s1.heap.objs.size (.tup xs),I1.laid (t':=s1.toks) (fun b u e=>Heap.get?_push_of_some _ e) (Nat.le_refl _) ?_,rfl,q _ hf⟩;exact ⟨z,us,r,⟨_,Heap.get?_push_size _ rfl,rfl,_,rfl⟩⟩
theorem aL (h:PA X es t):PE X (.List es pos) (tLst t):=by
 intro pins s σ H Q I hq;refine wpAny_List_spliced (thn (h pos pins s σ H _ I hq) fun us s1 ⟨xs,H1,I1,r,z,q⟩=>⟨by rw [<- r.length]; exact z,?_⟩);have hf:H1 s1.heap.objs.size=none:=I1.hok.fresh (Nat.le_refl _);refine ⟨.ref s1.heap.objs.size,upd H1 s1.heap.objs.size (.lst xs),I1.laid (t':=s1.toks) (fun b u e=>Heap.get?_push_of_some _ e) (Nat.le_refl _) ?_,rfl,q _ hf⟩;exact ⟨z,us,0,r,Heap.get?_push_size _ rfl⟩
end
noncomputable abbrev Sp:=List V->Hp->VK->XK->Prop
noncomputable abbrev CXT:=List Env->Hp->Shared->XK->Value->Shared->Prop
structure Env0 (P:Program) (w:World) (K:Frag) (mg:Str->Option Value) (base:Heap) (A:Around) (outer:List Env) (s:Shared) (H:Hp):Prop where
 frames:A.frames=some outer
 mod:Mod K mg base
 bs:∀ b o,base.get? b=some o->s.heap.get? b=some o/\H b=none
 bsz:base.objs.size<=s.heap.objs.size
 funs:s.heap.FunFrames base outer
 frf:∀ b ∈ frs outer,H b=none
 hok:HOk P w H s.heap
 bare:AllBare s.gens
 tk:0 < s.toks
def CE (outer:List Env) (P:Program) (w:World) (H:Hp) (s:Shared) (Q:VK) (u:Value) (s':Shared):Prop:=
 Ex2 fun v H'=>0 < s'.toks/\s'.os=s.os/\AllBare s'.gens/\Un (frs outer) [] H H' s.heap s'.heap/\HOk P w H' s'.heap/\RelV v u/\Q v H'
def CR (CX:CXT) (outer:List Env) (P:Program) (w:World) (H:Hp) (s:Shared) (Q:VK) (E:XK) (r:Result) (s':Shared):Prop:=
 match r with
 | .ok (.ret u)=>CE outer P w H s Q u s'
 | .ok _=>False
 | .error e=>CX outer H s E e s'
structure FnOk (P:Program) (w:World) (K:Frag) (mg:Str->Option Value) (base:Heap) (CX:CXT) (k:Nat) (f:Addr) (fd:FuncData) (ps:List Str) (sp:Sp):Prop where
 len:∀ vs H Q E,sp vs H Q E->vs.length=ps.length
 run:∀ (A:Around) (outer:List Env) (s:Shared) (H:Hp) (args:Args) (us:List Value) (vs:List V) (Q:VK) (E:XK),Room k A->Env0 P w K mg base A outer s H->BindsTo s fd args (ps.zip us)->Vals vs us->sp vs H Q E ->
  codeAny (model P w) A (.call (.ref f) args) (CR CX outer P w H s Q E) s
theorem Env0.make {P:Program} {w:World} {K:Frag} {mg:Str->Option Value} {base:Heap} {A:Around} {outer:List Env} {s:Shared} {H:Hp} (e:Env0 P w K mg base A outer s H) (C:Addr) (us:List Value) (kw:List (Str × Value)):
  Env0 P w K mg base (A.under (.builtin "type.__call__" ⟨.ref C::us,kw⟩)) outer s H:=⟨by first | exact e.frames | (simpa [Around.under,Code.envs,Code.isFrame,pushEnvs] using e.frames),e.mod,e.bs,e.bsz,e.funs,e.frf,e.hok,e.bare,e.tk⟩
section
variable {X:Cx} {pins:List (Addr × Obj)} {σ:St} {H:Hp} {s s':Shared}
theorem Inv.env0 (I:Inv X pins σ H s):Env0 X.prog X.w X.K X.mg X.base X.A X.stack s H:=
 ⟨I.ok.frames,I.ok.mod,I.bs,Nat.le_trans I.ok.bsz I.sz,I.stack,I.stkFree,I.hok,I.bare,I.tk⟩
theorem Inv.after {Q:VK} {u:Value} (I:Inv X pins σ H s) (h:CE X.stack X.prog X.w H s Q u s'):EP X pins σ Q u s':=by
 obtain ⟨v,H',ht,os,bare,un,hok,r,q⟩:=h;obtain ⟨hh,g,d,t,os'⟩:=s';obtain rfl:os'=s.os:=os;exact ⟨v,H',I.call (h':=hh) (g':=g) (d':=d) (t':=t) (ch:=[]) un hok bare (fun b z=>absurd z (by simp)) ht,r,q⟩
end
noncomputable def tCall (sp:Sp) (dvs:List V) (E:XK) (t:TA):TE:=fun σ H Q=>t σ H fun vs H1=>sp (vs++dvs) H1 Q E
noncomputable def tMeth (C:Addr) (m:Str) (sp:Sp) (dvs:List V) (E:XK) (ta:TE) (t:TA):TE:=fun σ H Q=>ta σ H fun x H1=>Ex3 fun a dx fs=>x=.ref a/\H1 a=some (.ins C dx fs)/\fs.lookup m=none /\
 t σ H1 fun vs H2=>sp (x::(vs++dvs)) H2 Q E
noncomputable def tMake (C:Addr) (sp:Sp) (dvs:List V) (E:XK) (t:TA):TE:=fun σ H Q=>t σ H fun vs H1=>∀ x dx,H1 x=none->H1 dx=none->dx≠x ->
 sp (.ref x::(vs++dvs)) (upd (upd H1 dx (.own x)) x (.ins C dx [])) (fun v H2=>v=.non/\Q (.ref x) H2) E
def Binds (K:Frag) (fd:FuncData) (ps:List Str) (ds:List Value):Prop:=
 ∀ (s:Shared) (us:List Value),K.In s.heap->(us++ds).length=ps.length->BindsTo s fd ⟨us,[]⟩ (ps.zip (us++ds))
theorem Binds.all {K:Frag} {fd:FuncData} {ps:List Str} (h:∀ us:List Value,us.length=ps.length->bindArgs fd ⟨us,[]⟩=pure (ps.zip us)):Binds K fd ps []:=fun s us _ hl=>by
 rw [List.append_nil] at hl ⊢;exact .of_eq (h us hl)
def Passes (CX:CXT) (X:Cx) (E:XK):Prop:=∀ (pins:List (Addr × Obj)) (σ:St) (H:Hp) (s:Shared) (e:Value) (s':Shared),Inv X pins σ H s->CX X.stack H s E e s'->X.xe e s'
section
variable {X:Cx} {CX:CXT} {k:Nat} {f C:Addr} {fd:FuncData} {ps:List Str} {sp:Sp} {dvs:List V} {ds:List Value} {E:XK} {x m:Str} {p pos apos:Pos} {e o:Expr} {es:List Expr} {ta:TE} {t:TA}
theorem sr {pins:List (Addr × Obj)} {σ:St} {H:Hp} {s:Shared} {Q:VK} {us:List Value} {vs:List V} (F:FnOk X.prog X.w X.K X.mg X.base CX k f fd ps sp) (hr:Room k X.A) (hb:Binds X.K fd ps ds) (hd:Vals dvs ds) (hx:Passes CX X E)
  (I:Inv X pins σ H s) (r:Vals vs us) (h:sp (vs++dvs) H Q E):wpAny (model X.prog X.w) X.A (call (.ref f) us) (EP X pins σ Q) X.xe s:=by
 have r2:Vals (vs++dvs) (us++ds):=r.append hd;have hl:(us++ds).length=ps.length:=by rw [<- r2.length]; exact F.len _ _ _ _ h
 refine wpAny_call (codeAny_mono (F.run X.A X.stack s H ⟨us,[]⟩ (us++ds) (vs++dvs) Q E hr I.env0 (hb s us I.kIn hl) r2 h) fun r s' hq=>?_);cases r with
 | error e=>exact hx pins σ H s e s' I hq
 | ok fl=>
  cases fl with
  | ret u=>exact I.after hq
  | next=>exact False.elim hq
  | brk=>exact False.elim hq
  | cont=>exact False.elim hq
theorem wn (F:FnOk X.prog X.w X.K X.mg X.base CX k f fd ps sp) (hr:Room k X.A) (hg:Gl X x) (hm:X.mg x=some (.ref f)) (hk:keepIn X.K (.ref f)=true) (hb:Binds X.K fd ps ds) (hd:Vals dvs ds) (hx:Passes CX X E)
  (ha:PA X (e::es) t) (hdb:(x == ("__debug__" : Str))=false:=by decide) (he:starEach (e::es) X.env=(false,eval e X.env)::starEach es X.env:=by rfl) (hpl:(backTo pos (starEach es X.env)).any (·.1)=false:=by rfl):
  PE X (.Call (.Name x p) (e::es) [] pos) (tCall sp dvs E t):=by
 intro pins s σ H Q I h;refine wpAny_Call_Name_kw (pZ I hg hm ?_ hdb);refine PySem.W.callWith_K (h₀:=X.base) I.ok.mod.kin hk (thn (ha pos pins s σ H _ I h) fun us s1 ⟨vs,H1,I1,r,q⟩=>⟨I1.kIn,?_⟩) he hpl;exact sr F hr hb hd hx I1 r q
theorem wk {pl:Sem Bool} (he:PE X o ta) (c:Cls X.K C) (hm:Meth X.K C m f) (F:FnOk X.prog X.w X.K X.mg X.base CX k f fd ps sp) (hr:Room k X.A) (hb:Binds X.K fd ps ds) (hd:Vals dvs ds) (hx:Passes CX X E) (ha:PA X (e::es) t)
  (hst:starEach (e::es) X.env=(false,eval e X.env)::starEach es X.env:=by rfl) (hpl:(backTo pos (starEach es X.env)).any (·.1)=false:=by rfl)
  (ht:eval (.Call (.Attribute o m apos) (e::es) [] pos) X.env=(do
   let ov <- eval o X.env
   standAt apos.atName
   let (f,first) <- holding [ov] (getMethod ov m pl)
   callWith pos f first (backTo pos (starEach (e::es) X.env)) (backToKw pos (keywordEach [] X.env))):=by rfl):
  PE X (.Call (.Attribute o m apos) (e::es) [] pos) (tMeth C m sp dvs E ta t):=by
 intro pins s σ H Q I h;refine PySem.W.methodCall_KW (pl:=pl) (thn (he pins s σ H _ I h) fun u s1 ⟨x,H1,I1,rx,a,dx,fs,ex,ea,l,q⟩=>?_) ht;subst ex;obtain rfl:u=Value.ref a:=rx;refine mU I1 ea c hm l ?_;refine PySem.W.callWith_K (first:=[.ref a]) (h₀:=X.base) I.ok.mod.kin hm.kp (thn (ha pos pins s1 σ H1 _ I1 q) fun us s2 ⟨vs,H2,I2,r,q2⟩=>⟨I2.kIn,?_⟩) hst hpl;exact sr (us:=.ref a::us) (vs:=.ref a::vs) F hr hb hd hx I2 (.cons rfl r) q2
theorem uK {pl:Sem Bool} (he:PE X o ta) (c:Cls X.K C) (hm:Meth X.K C m f) (F:FnOk X.prog X.w X.K X.mg X.base CX k f fd ps sp) (hr:Room k X.A) (hb:Binds X.K fd ps ds) (hd:Vals dvs ds) (hx:Passes CX X E)
  (ht:eval (.Call (.Attribute o m apos) [] [] pos) X.env=(do
   let ov <- eval o X.env
   standAt apos.atName
   let (f,first) <- holding [ov] (getMethod ov m pl)
   callWith pos f first (backTo pos (starEach [] X.env)) (backToKw pos (keywordEach [] X.env))):=by rfl):
  PE X (.Call (.Attribute o m apos) [] [] pos) (tMeth C m sp dvs E ta tNil):=by
 intro pins s σ H Q I h;refine PySem.W.methodCall_KW (pl:=pl) (thn (he pins s σ H _ I h) fun u s1 ⟨x,H1,I1,rx,a,dx,fs,ex,ea,l,q⟩=>?_) ht;subst ex;obtain rfl:u=Value.ref a:=rx;refine mU I1 ea c hm l ?_;exact PySem.W.callWith_K0 (first:=[.ref a]) I1.kIn hm.kp (sr (us:=[.ref a]) (vs:=[.ref a]) F hr hb hd hx I1 (.cons rfl .nil) q)
structure Mk (K:Frag) (C f:Addr):Prop where
 makes:PySem.W.makesIn K C=true
 init:findIn K (.ref C) "__init__" = some (some (.ref f))
 fn:PySem.W.isFn K (.ref f)=true
 kp:keepIn K (.ref C)=true
theorem uz {pins:List (Addr × Obj)} {σ:St} {H:Hp} {s:Shared} {Q:VK} {us:List Value} {vs:List V} (M:Mk X.K C f) (F:FnOk X.prog X.w X.K X.mg X.base CX k f fd ps sp) (hr:Room (k+1) X.A) (hb:Binds X.K fd ps ds) (hd:Vals dvs ds)
  (hx:Passes CX X E) (I:Inv X pins σ H s) (r:Vals vs us)
  (h:∀ x dx,H x=none->H dx=none->dx≠x->sp (.ref x::(vs++dvs)) (upd (upd H dx (.own x)) x (.ins C dx [])) (fun v H2=>v=.non/\Q (.ref x) H2) E):
  wpAny (model X.prog X.w) X.A (call (.ref C) us) (EP X pins σ Q) X.xe s:=by
 have hq:=h (s.heap.objs.size+1) s.heap.objs.size (I.hok.fresh (Nat.le_succ _)) (I.hok.fresh (Nat.le_refl _)) (Nat.ne_of_lt (Nat.lt_succ_self _));have I2:=Inv.made (C:=C) I;have r2:Vals (V.ref (s.heap.objs.size+1)::(vs++dvs)) (Value.ref (s.heap.objs.size+1)::(us++ds)):=.cons rfl (r.append hd);have hl:(Value.ref (s.heap.objs.size+1)::us++ds).length=ps.length:=by
  have e:=r2.length;rw [F.len _ _ _ _ hq] at e;exact e.symm
 refine wpAny_call (vE (f:=f) I.kIn M.makes M.init (beq_iff_eq.mp M.fn) (codeAny_mono (F.run _ X.stack _ _ ⟨Value.ref (s.heap.objs.size+1)::us,[]⟩ (Value.ref (s.heap.objs.size+1)::(us++ds)) _ _ E (hr.make C us [])
  (I2.env0.make C us []) (hb _ (Value.ref (s.heap.objs.size+1)::us) I2.kIn hl) r2 hq) fun r s' hq'=>?_))
 cases r with
 | error e=>exact hx pins σ _ _ e s' I2 hq'
 | ok fl=>
  cases fl with
  | ret u=>
   obtain ⟨v,H',I3,rv,ev,q3⟩:=I2.after hq';subst ev;exact ⟨rv,⟨V.ref (s.heap.objs.size+1),H',I3,rfl,q3⟩⟩
  | next=>exact False.elim hq'
  | brk=>exact False.elim hq'
  | cont=>exact False.elim hq'
theorem sO (M:Mk X.K C f) (F:FnOk X.prog X.w X.K X.mg X.base CX k f fd ps sp) (hr:Room (k+1) X.A) (hg:Gl X x) (hm:X.mg x=some (.ref C)) (hb:Binds X.K fd ps ds) (hd:Vals dvs ds) (hx:Passes CX X E)
  (ha:PA X (e::es) t) (hdb:(x == ("__debug__" : Str))=false:=by decide) (he:starEach (e::es) X.env=(false,eval e X.env)::starEach es X.env:=by rfl) (hpl:(backTo pos (starEach es X.env)).any (·.1)=false:=by rfl):
  PE X (.Call (.Name x p) (e::es) [] pos) (tMake C sp dvs E t):=by
 intro pins s σ H Q I h;refine wpAny_Call_Name_kw (pZ I hg hm ?_ hdb);refine PySem.W.callWith_K (h₀:=X.base) I.ok.mod.kin M.kp (thn (ha pos pins s σ H _ I h) fun us s1 ⟨vs,H1,I1,r,q⟩=>⟨I1.kIn,?_⟩) he hpl;exact uz M F hr hb hd hx I1 r q
end
section
variable {X:Cx} {CX:CXT} {k:Nat} {f C:Addr} {fd:FuncData} {ps ks:List Str} {sp:Sp} {E:XK} {x m:Str} {p pos apos kpos:Pos} {e o:Expr} {es:List Expr} {kws:List Keyword} {te ta:TE} {t tk:TA} {nm:Option Str}
variable {g:List Value->List Value->List Value} {gV:List V->List V->List V}
end
structure FnScope (N P:List Str) (sc:Scope):Prop where
 kind:sc.kind=.function
 co:sc.isCoroutine=false
 gen:sc.isGenerator=false
 nd:N.Nodup
 pre:N.take P.length=P
 par:∀ x ∈ P,sc.names.lookup x=some .local\/sc.names.lookup x=some .cell
 nofree:∀ y ∈ sc.names,y.2≠.free
theorem oJ {kindOf:Str->Option NameKind} {x:Str}:∀ {binds:List (Str × Value)} {m:Str->Option Value},(∀ v,(x,v) ∉ binds)->bindL kindOf binds m x=m x
 | [],_,_=>rfl
 | (n,v)::r,m,h=>by
  unfold bindL;rw [oJ fun w hw=>h w (List.mem_cons_of_mem _ hw)];split
  ·have:x≠n:=by rintro rfl; exact h v List.mem_cons_self
   simp [this]
  ·rfl
theorem oZ {kindOf:Str->Option NameKind} {x:Str}:∀ {binds:List (Str × Value)} {m:Str->Option Value},(∀ v,(x,v) ∉ binds)->bindC kindOf binds m x=m x
 | [],_,_=>rfl
 | (n,v)::r,m,h=>by
  unfold bindC;rw [oZ fun w hw=>h w (List.mem_cons_of_mem _ hw)];split
  ·rfl
  ·have:x≠n:=by rintro rfl; exact h v List.mem_cons_self
   simp [this]
theorem oF {kindOf:Str->Option NameKind} {x:Str} {v:Value}:∀ {P:List Str} {vs:List Value} {i:Nat} {m:Str->Option Value},P.Nodup->P[i]? = some x->vs[i]? = some v->kindOf x=some .local ->
  bindL kindOf (P.zip vs) m x=some v
 | [],_,_,_,_,h,_,_=>by simp at h
 | _::_,[],_,_,_,_,h,_=>by simp at h
 | p::P,w::vs,0,m,nd,h1,h2,hk=>by
  simp at h1 h2; subst h1; subst h2;show bindL kindOf ((p,w)::P.zip vs) m p=_;unfold bindL;rw [oJ fun v hv=>(List.nodup_cons.mp nd).1 (List.of_mem_zip hv).1,if_pos hk];simp
 | p::P,w::vs,i+1,m,nd,h1,h2,hk=>by
  show bindL kindOf ((p,w)::P.zip vs) m x=_;unfold bindL;exact oF (i:=i) (List.nodup_cons.mp nd).2 (by simpa using h1) (by simpa using h2) hk
theorem oW {kindOf:Str->Option NameKind} {x:Str} {v:Value}:∀ {P:List Str} {vs:List Value} {i:Nat} {m:Str->Option Value},P.Nodup->P[i]? = some x->vs[i]? = some v->kindOf x≠some .local ->
  bindC kindOf (P.zip vs) m x=some v
 | [],_,_,_,_,h,_,_=>by simp at h
 | _::_,[],_,_,_,_,h,_=>by simp at h
 | p::P,w::vs,0,m,nd,h1,h2,hk=>by
  simp at h1 h2; subst h1; subst h2;show bindC kindOf ((p,w)::P.zip vs) m p=_;unfold bindC;rw [oZ fun v hv=>(List.nodup_cons.mp nd).1 (List.of_mem_zip hv).1,if_neg hk];simp
 | p::P,w::vs,i+1,m,nd,h1,h2,hk=>by
  show bindC kindOf ((p,w)::P.zip vs) m x=_;unfold bindC;exact oW (i:=i) (List.nodup_cons.mp nd).2 (by simpa using h1) (by simpa using h2) hk
noncomputable def start (N:List Str) (vs:List V):St:=vs.map some++List.replicate (N.length - vs.length) none
noncomputable def cxOf (CX:CXT) (P:Program) (w:World) (K:Frag) (mg:Str->Option Value) (base:Heap) (N:List Str) (qual:Str) (scope:Scope) (f:Addr) (cd:Value) (A:Around) (outer:List Env) (s:Shared) (H:Hp) (E:XK):Cx where
 prog:=P
 w:=w
 K:=K
 mg:=mg
 base:=base
 A:=A.deeper (envOfC qual scope s.heap.objs.size f cd)
 N:=N
 s₀:=s
 H₀:=H
 env:=envOfC qual scope s.heap.objs.size f cd
 outer:=outer
 stack:=envOfC qual scope s.heap.objs.size f cd::outer
 ex:=[]
 calm:=true
 fn:=fun _=>true
 pn:=[]
 xe:=fun e s'=>wpAny (model P w) (A.deeper (envOfC qual scope s.heap.objs.size f cd)) (leaving (envOfC qual scope s.heap.objs.size f cd) e) (fun _ s''=>CX outer H s E e s'') (fun e' s''=>CX outer H s E e' s'') s'
theorem qm {sc:Scope} {n:Nat} {x:Str} (h:sc.names.lookup x=some .cell):∃ c,(cellsFrom n sc.names []).lookup x=some c:=by
 have q:=PySem.W.cellsFrom_some sc.names n [] (.inl h);exact Option.isSome_iff_exists.mp q
theorem tW {CX:CXT} {P:Program} {w:World} {K:Frag} {mg:Str->Option Value} {base:Heap} {N ps:List Str} {qual:Str} {scope:Scope} {f:Addr} {cd:Value} {A:Around} {outer:List Env} {s s1:Shared} {H:Hp} {E:XK} {us:List Value} {vs:List V}
  (S:FnScope N ps scope) (hd:A.handled=none) (e0:Env0 P w K mg base A outer s H) (hl:vs.length=ps.length) (r:Vals vs us)
  (x:InCallC s s.heap.objs.size (bindL (envOfC qual scope s.heap.objs.size f cd).kindOf (ps.zip us) fun _=>none) (cellsFrom (s.heap.objs.size+1) scope.names []) (bindC (envOfC qual scope s.heap.objs.size f cd).kindOf (ps.zip us) fun _=>none) s1) (htk:0 < s1.toks):
  Inv (cxOf CX P w K mg base N qual scope f cd A outer s H E) [] (start N vs) H s1:=by
 have hpl:ps.length<=N.length:=by have:=congrArg List.length S.pre; rw [List.length_take] at this; lia
 obtain ⟨h1,tk,rfl,hk⟩:=x.done;have noA:∀ b:Addr,b ∉ (cxOf CX P w K mg base N qual scope f cd A outer s H E).ex:=fun b z=>absurd (show b ∈ ([]:List Addr) from z) (by simp)
 refine ⟨⟨e0.mod,S.kind,rfl,rfl,Nat.le_refl _,fun y z c h1 h2=>?_,fun y hy=>?_,fun y c _ h=>?_,fun _=>hd,Around.frames_deeper e0.frames,.inr ⟨rfl,rfl⟩,fun b z=>absurd z (noA b),e0.bs,e0.bsz,fun b _ _=>noA b,fun b z=>absurd z (noA b),e0.funs,e0.frf⟩,
  rfl,e0.bare,Un.kept hk,⟨_,x.toInCall.ns,fun i y v h1 h2 h3=>?_⟩,fun y c h=>⟨_,x.cell y c h⟩,e0.hok.fresh (Nat.le_refl _),fun y c h=>?_,fun p hp=>absurd (show p ∈ ([]:List (Addr × Obj)) from hp) (by simp),e0.hok.kept hk,?_,htk⟩
 ·exact name_of_addr x.apart (PySem.mem_of_lookup h1) (PySem.mem_of_lookup h2)
 ·have hy:scope.names.lookup y=some .cell\/scope.names.lookup y=some .free:=hy;rcases hy with hy | hy
  ·exact qm hy
  ·exact absurd rfl (S.nofree _ (PySem.mem_of_lookup hy))
 ·exact Nat.le_of_lt (x.above y c (PySem.mem_of_lookup h))
 ·have hi:i < vs.length:=by
   unfold start at h2;by_cases hi:i < vs.length
   ·exact hi
   ·rw [List.getElem?_append_right (by simpa using hi)] at h2;rw [List.getElem?_replicate] at h2;split at h2 <;> cases h2
  have ha:vs[i]? = some v:=by
   unfold start at h2;rw [List.getElem?_append_left (by simpa using hi),List.getElem?_map] at h2;cases e:vs[i]? with
   | none=>rw [e] at h2; cases h2
   | some a=>rw [e] at h2; cases h2; rfl
  obtain ⟨u,hu,rv⟩:=r.get ha;have hp:ps[i]? = some y:=by
   rw [<- S.pre,List.getElem?_take_of_lt (by lia)]; exact h1
  have ndP:ps.Nodup:=by rw [<- S.pre]; exact S.nd.sublist (List.take_sublist _ _)
  refine ⟨u,rv,?_⟩;rcases S.par y (List.mem_of_getElem? hp) with k | k
  ·exact .inl ⟨k,oF ndP hp hu k⟩
  ·obtain ⟨c,e⟩:=qm (n:=s.heap.objs.size+1) k;refine .inr ⟨.inl k,c,e,?_⟩;have q:=x.cell y c e;rw [oW ndP hp hu (by show scope.names.lookup y≠_; rw [k]; decide)] at q;exact q
 ·exact e0.hok.fresh (Nat.le_of_lt (x.above y c (PySem.mem_of_lookup h)))
 ·unfold start;show _=N.length;rw [List.length_append,List.length_map,List.length_replicate]
  lia
theorem xJ {CX:CXT} {P:Program} {w:World} {K:Frag} {mg:Str->Option Value} {base:Heap} {k:Nat} {f:Addr} {name qual:Str} {params:Arguments} {body:List Stmt} {scope:Scope} {dV kV doc pm cdv ct oc:Value} {an od:Option Addr}
  {osl:Array (Option Value)} {N ps:List Str} {sp:Sp} (lk:K.lookup f=some ⟨oc,od,.func (fnOf name qual params body scope dV kV doc pm an cdv ct),osl⟩) (hcd:codeIn K cdv qual=true) (S:FnScope N ps scope)
  (len:∀ vs H Q E,sp vs H Q E->vs.length=ps.length)
  (hbody:∀ (A:Around) (outer:List Env) (s:Shared) (H:Hp) (vs:List V) (Q:VK) (E:XK),Room k (A.deeper (envOfC qual scope s.heap.objs.size f cdv))->sp vs H Q E ->
   ∃ t,PSs (cxOf CX P w K mg base N qual scope f cdv A outer s H E) body t/\t { nx:=fun _ H'=>Q .non H',rt:=Q } (start N vs) H):
  FnOk P w K mg base CX (k+1) f (fnOf name qual params body scope dV kV doc pm an cdv ct) ps sp:=by
 refine ⟨len,fun A outer s H args us vs Q E hr e0 hb r hsp=>?_⟩;have hl:=len _ _ _ _ hsp;have KX:K.In s.heap:=e0.mod.kin.keeps fun b o e=>(e0.bs b o e).1
 have lim:s.heap.NoLimit:=e0.mod.nolimit.keeps fun b o e=>(e0.bs b o e).1
 have hkind:∀ y ∈ ps.zip us,scope.names.lookup y.1=some .local\/(scope.names.lookup y.1=some .cell/\((cellsFrom (s.heap.objs.size+1) scope.names []).lookup y.1).isSome=true):=fun ⟨n,v⟩ hy=>by
  rcases S.par n (List.of_mem_zip hy).1 with q | q
  ·exact .inl q
  ·exact .inr ⟨q,PySem.W.cellsFrom_some _ _ _ (.inl q)⟩
 refine codeAny_call_function hr.depth (KX _ _ lk) rfl S.co S.gen rfl (PySem.W.codeRec_of KX hcd) (hb _ _ _ _ ?_);refine tokQ e0.tk (wpAny_newFunctionEnv_cells S.kind hkind fun env he s1 x htk=>?_);subst he;refine ⟨lim.keeps x.toInCall.keep,codeAny_func ?_⟩;obtain ⟨t,ht,hq⟩:=hbody A outer s H vs Q E (hr.deeper _) hsp;have I:Inv (cxOf CX P w K mg base N qual scope f cdv A outer s H E) [] (start N vs) H s1:=tW S hr.hd e0 hl r x htk;refine wpAny_mono (ht [] s1 (start N vs) H _ I hq) (fun fl s' hs=>?_) fun e s' hs=>hs
 have fin:∀ {σ':St} {H':Hp} {v:V} {u:Value},Inv (cxOf CX P w K mg base N qual scope f cdv A outer s H E) [] σ' H' s'->RelV v u->Q v H'->CE outer P w H s Q u s':=
  fun {σ' H' v u} J rv q=>⟨v,H',J.tk,J.os,J.bare,J.base,J.hok,rv,q⟩
 cases fl with
 | ret u=>
  obtain ⟨v,σ',H',J,rv,q⟩:=hs;exact fin J rv q
 | next=>
  obtain ⟨σ',H',J,q⟩:=hs;exact fin (v:=V.non) (u:=Value.none) J rfl q
 | brk=>
  obtain ⟨_,_,_,q⟩:=hs;exact False.elim q
 | cont=>
  obtain ⟨_,_,_,q⟩:=hs;exact False.elim q
section
variable {X:Cx} {x:Str} {p pos:Pos} {e:Expr} {es:List Expr} {t:TA} {id T:String} {r:List V->Hp->VK->Prop}
noncomputable def tCB (r:List V->Hp->VK->Prop) (t:TA):TE:=fun σ H Q=>t σ H fun vs H1=>r vs H1 Q
theorem aH (hc:CallR X (.builtin id) r) (hg:Gl X x) (hm:X.mg x=none) (hv:bootBuiltins x=some (.builtin id)) (ha:PA X (e::es) t) (hn:x ≠ "__name__" := by decide) (hdb:(x == ("__debug__" : Str))=false:=by decide)
  (he:starEach (e::es) X.env=(false,eval e X.env)::starEach es X.env:=by rfl) (hpl:(backTo pos (starEach es X.env)).any (·.1)=false:=by rfl):PE X (.Call (.Name x p) (e::es) [] pos) (tCB r t):=by
 intro pins s σ H Q I h;refine wpAny_Call_Name_kw (pR I hg hm hv ?_ hn hdb);exact PyProof.Rows.callWith_builtin1 (thn (ha pos pins s σ H _ I h) fun us s1 ⟨vs,H1,I1,r1,q1⟩=>hc pins s1 σ H1 vs us Q I1 r1 q1) he hpl
theorem bP (hc:CallR X (.type T) r) (hg:Gl X x) (hm:X.mg x=none) (hv:bootBuiltins x=some (.type T)) (ha:PA X (e::es) t) (hn:x ≠ "__name__" := by decide) (hdb:(x == ("__debug__" : Str))=false:=by decide)
  (he:starEach (e::es) X.env=(false,eval e X.env)::starEach es X.env:=by rfl) (hpl:(backTo pos (starEach es X.env)).any (·.1)=false:=by rfl):PE X (.Call (.Name x p) (e::es) [] pos) (tCB r t):=by
 intro pins s σ H Q I h;refine wpAny_Call_Name_kw (pR I hg hm hv ?_ hn hdb);exact PyProof.Rows.callWith_type1 (thn (ha pos pins s σ H _ I h) fun us s1 ⟨vs,H1,I1,r1,q1⟩=>hc pins s1 σ H1 vs us Q I1 r1 q1) he hpl
end
end L2
namespace HT
open PySem PyProof.Rows
section
open PySem.SeqAt
open PySem.AutoSeq1 (wpAny_loadPart')
open PySem.MeetsSeq PySem.MeetsSeq2 PySem.MeetsSeq3
end
section
variable {prog:Program} {w:World} {A:Around} {E:Value->Shared->Prop} {s:Shared}
noncomputable def sIx (n d:Nat):Option Int->Nat
 | none=>d
 | some v=>if v < 0 then (v+(n:Int)).toNat else min v.toNat n
end
end HT
namespace L2
open PySem PySem.Spec PyProof.Rows
noncomputable abbrev TO:=St->Hp->(Option Int->Hp->Prop)->Prop
def PO (X:Cx) (e:Option Expr) (t:TO):Prop:=
 ∀ (pins:List (Addr × Obj)) (s:Shared) (σ:St) (H:Hp) (Q:Option Int->Hp->Prop),Inv X pins σ H s->t σ H Q ->
  wpAny (model X.prog X.w) X.A (evalPart e X.env) (fun u s'=>Ex2 fun o H'=>Inv X pins σ H' s'/\IsPart u o/\Q o H') X.xe s
noncomputable def tNoPart:TO:=fun _ H Q=>Q none H
noncomputable def tPart (t:TE):TO:=fun σ H Q=>t σ H fun x H1=>∃ i,x=.int i/\Q (some i) H1
theorem se {ns:List Int}:∀ {us:List Value},Vals (ns.map V.int) us->IntsAre us ns:=by
 induction ns with
 | nil=>intro us r; rw [List.map_nil] at r; cases r; exact .nil
 | cons n ns ih=>
  intro us r;rw [List.map_cons] at r;cases r with
  | cons r1 r2=>
   obtain ⟨t,e⟩:=r1;subst e;exact .cons n t (ih r2)
section
variable {X:Cx} {e:Expr} {te:TE} {lo hi:Option Expr} {tl th:TO} {pos p2:Pos}
theorem bT:PO X none tNoPart:=by
 intro pins s σ H Q I h;rw [evalPart_none];exact wpAny_pure ⟨none,H,I,.none,h⟩
theorem wV (h:PE X e te):PO X (some e) (tPart te):=by
 intro pins s σ H Q I hw;rw [evalPart_some];refine thn (h pins s σ H _ I hw) fun u s1 ⟨x,H1,I1,r1,q1⟩=>?_
 obtain ⟨i,rfl,q⟩:=q1;obtain ⟨t,rfl⟩:=r1;exact ⟨some i,H1,I1,.int i t,q⟩
def SlR (X:Cx) (r:V->Option Int->Option Int->Hp->VK->Prop):Prop:=
 ∀ (pins:List (Addr × Obj)) (s:Shared) (σ:St) (H:Hp) (x:V) (v vl vu:Value) (lo hi:Option Int) (sl:Addr) (Q:VK),Inv X pins σ H s->RelV x v->s.heap.IsSliceOf sl vl vu .none->IsPart vl lo->IsPart vu hi->r x lo hi H Q ->
  Ex2 fun T id=>typeLookup (.type T) "__getitem__" = pure (some (.builtin id))/\s.TypeIs v T/\wpAny (model X.prog X.w) X.A (getItem v (.ref sl)) (EP X pins σ Q) X.xe s
theorem SlR.or {r r':V->Option Int->Option Int->Hp->VK->Prop} (h:SlR X r) (h':SlR X r'):SlR X (fun x lo hi H Q=>r x lo hi H Q\/r' x lo hi H Q):=by
 intro pins s σ H x v vl vu lo hi sl Q I rx hs pl pu q;rcases q with q | q
 ·exact h pins s σ H x v vl vu lo hi sl Q I rx hs pl pu q
 ·exact h' pins s σ H x v vl vu lo hi sl Q I rx hs pl pu q
noncomputable def tSl (r:V->Option Int->Option Int->Hp->VK->Prop) (te:TE) (tl th:TO):TE:=fun σ H Q=>te σ H fun x H1=>tl σ H1 fun l H2=>th σ H2 fun u H3=>r x l u H3 Q
theorem bp {r:V->Option Int->Option Int->Hp->VK->Prop} (hr:SlR X r) (he:PE X e te) (hl:PO X lo tl) (hu:PO X hi th):PE X (.Subscript e (.Slice lo hi none p2) pos) (tSl r te tl th):=by
 intro pins s σ H Q I h;refine Subscript_ (thn (he pins s σ H _ I h) fun v s1 ⟨x,H1,I1,r1,q1⟩=>?_);refine wpAny_Slice (thn (hl pins s1 σ H1 _ I1 q1) fun vl s2 ⟨l,H2,I2,pl,q2⟩=>thn (hu pins s2 σ H2 _ I2 q2) fun vu s3 ⟨u,H3,I3,pu,q3⟩=>?_);rw [evalPart_none];refine wpAny_pure ?_;have I4:Inv X pins σ H3 { s3 with heap:=s3.heap.push { cls:=.type "slice",data:=.fields #[vl,vu,.none] } }:=I3.kept (t':=s3.toks) fun b ob q=>Heap.get?_push_of_some _ q
 obtain ⟨T,id,hT,ht,hg⟩:=hr pins { s3 with heap:=s3.heap.push { cls:=.type "slice",data:=.fields #[vl,vu,.none] } } σ H3 x v vl vu l u s3.heap.objs.size Q I4 r1 (Heap.IsSliceOf.new ..) pl pu q3;show wpAny (model X.prog X.w) X.A (subscriptTail e (.Slice lo hi none p2) v (.ref s3.heap.objs.size)) (EP X pins σ Q) X.xe { s3 with heap:=s3.heap.push { cls:=.type "slice",data:=.fields #[vl,vu,.none] } };exact tail_any (ops:=[.ref s3.heap.objs.size,v]) ht hT hg (by with_unfolding_all rfl)
noncomputable def cutV (xs:List V) (lo hi:Option Int):List V:=(xs.drop (HT.sIx xs.length 0 lo)).take (HT.sIx xs.length xs.length hi - HT.sIx xs.length 0 lo)
theorem qk (xs:List V) (lo hi:Option Int):(cutV xs lo hi).length<=xs.length:=by
 unfold cutV;rw [List.length_take,List.length_drop]
 lia
end
noncomputable def ixN (n:Nat) (i:Int):Option Nat:=if 0<=i then (if i < n then some i.toNat else none) else if -(n:Int)<=i then some (i+n).toNat else none
noncomputable def atI {α:Type} (xs:List α) (i:Int):Option α:=(ixN xs.length i).bind fun j=>xs[j]?
theorem wq {n:Nat} {i:Int} {j:Nat} (h:ixN n i=some j):seqIndex? i n=some j/\j < n /\ -(n:Int)<=i/\i < n:=by
 unfold ixN at h;by_cases h0:0<=i
 ·rw [if_pos h0] at h;by_cases h1:i < n
  ·rw [if_pos h1] at h;have e:i.toNat=j:=Option.some.inj h;exact ⟨by rw [seqIndex_of h0 h1,e],by lia,by lia,h1⟩
  ·rw [if_neg h1] at h; cases h
 ·rw [if_neg h0] at h;by_cases h1:-(n:Int)<=i
  ·rw [if_pos h1] at h;have e:(i+n).toNat=j:=Option.some.inj h;exact ⟨by rw [seqIndex_neg (by lia) h1,e],by lia,h1,by lia⟩
  ·rw [if_neg h1] at h; cases h
theorem pD {α:Type} {xs:List α} {i:Int} {v:α} (h:atI xs i=some v):∃ j,seqIndex? i xs.length=some j/\xs[j]? = some v/\j < xs.length /\ -(xs.length:Int)<=i/\i < xs.length:=by
 unfold atI at h;cases e:ixN xs.length i with
 | none=>rw [e] at h; cases h
 | some j=>
  rw [e] at h;obtain ⟨h1,h2,h3,h4⟩:=wq e;exact ⟨j,h1,h,h2,h3,h4⟩
theorem bC {α:Type} {xs:List α} {j:Nat} {v:α} (h:xs[j]? = some v):atI xs (j:Int)=some v:=by
 have hj:j < xs.length:=(List.getElem?_eq_some_iff.mp h).1;have e:ixN xs.length (j:Int)=some j:=by
  unfold ixN;rw [if_pos (by lia),if_pos (by lia)]; simp
 unfold atI; rw [e]; exact h
def PlainIx (b:Expr):Prop:=∀ o i,subscripted b false o i=operate [o,i] (getItem o i)
def IxR (X:Cx) (r:R2):Prop:=
 ∀ (value slice:Expr) (pins:List (Addr × Obj)) (s:Shared) (σ:St) (H:Hp) (x y:V) (v u:Value) (Q:VK),Inv X pins σ H s->RelV x v->RelV y u->r x y H Q ->
  subscripted slice false v u=operate [v,u] (getItem v u)->wpAny (model X.prog X.w) X.A (subscriptTail value slice v u) (EP X pins σ Q) X.xe s
def MtR (X:Cx) (id:String) (r:V->List V->Hp->VK->Prop):Prop:=
 ∀ (pins:List (Addr × Obj)) (s:Shared) (σ:St) (H:Hp) (x:V) (xs:List V) (v:Value) (us:List Value) (Q:VK),Inv X pins σ H s->RelV x v->Vals xs us->r x xs H Q ->
  wpAny (model X.prog X.w) X.A (call (.builtin id) (v::us)) (EP X pins σ Q) X.xe s
section
variable {X:Cx} {a b:Expr} {ta tb:TE} {pos:Pos}
theorem IxR.or {r r':R2} (h:IxR X r) (h':IxR X r'):IxR X (fun x y H Q=>r x y H Q\/r' x y H Q):=by
 intro value slice pins s σ H x y v u Q I rx ry q hs;rcases q with q | q
 ·exact h value slice pins s σ H x y v u Q I rx ry q hs
 ·exact h' value slice pins s σ H x y v u Q I rx ry q hs
theorem ai {r:R2} (hr:IxR X r) (ha:PE X a ta) (hb:PE X b tb) (hs:PlainIx b):PE X (.Subscript a b pos) (tOp r ta tb):=by
 intro pins s σ H Q I h;exact Subscript_ (binT ha hb I h fun v u s2 x y H2 I2 rx ry q=>hr a b pins s2 σ H2 x y v u Q I2 rx ry q (hs _ _))
noncomputable def rIxL (K:Frag):R2:=fun x y H Q=>Ex4 fun p xs i v=>x=.ref p/\y=.int i/\SqL K H p xs/\atI xs i=some v/\Q v H
noncomputable def rIxT (K:Frag):R2:=fun x y H Q=>Ex4 fun p xs i v=>x=.ref p/\y=.int i/\SqT K H p xs/\atI xs i=some v/\Q v H
noncomputable def rIxS:R2:=fun x y H Q=>Ex3 fun z i c=>x=.str z/\y=.int i/\z.length<=sizeLine/\atI z.cps.toList i=some c/\Q (.str ⟨#[c]⟩) H
theorem wH:IxR X (rIxL X.K):=by
 intro value slice pins s σ H x y v u Q I rx ry h hs;obtain ⟨p,xs,i,z,rfl,rfl,hq,he,q⟩:=h;cases rx;obtain ⟨t,rfl⟩:=ry;obtain ⟨its,r,pl,hz⟩:=I.list hq;obtain ⟨j,h1,h2,h3,h4,h5⟩:=pD he;obtain ⟨w,ew,rw'⟩:=r.get h2;have hl:=r.length;have hn:=line63;have fin:EP X pins σ Q w s:=⟨z,H,I,rw',q⟩;by_cases h0:0<=i
 ·have hj:i.toNat=j:=by
   rw [seqIndex_of h0 h5] at h1;exact Option.some.inj h1
  exact item_listR pl.isList h0 (by lia) (by rw [hj]; simpa using ew) fin hs
 ·have hj:(i+(its.toArray.size:Int)).toNat=j:=by
   rw [seqIndex_neg (by lia) h4] at h1;rw [List.size_toArray,<- hl];exact Option.some.inj h1
  exact subscriptTail_builtinR (x:=w) pl.isList.typeIs slot_list_getitem.lookup
   (wpAny_getItem_list_neg (Q:=fun r s'=>r=w/\EP X pins σ Q r s') pl.isList (by lia) (by rw [List.size_toArray] <;> lia) (by lia) (by rw [hj]; simpa using ew) ⟨rfl,fin⟩) hs
theorem yC:IxR X (rIxT X.K):=by
 intro value slice pins s σ H x y v u Q I rx ry h hs;obtain ⟨p,xs,i,z,rfl,rfl,hq,he,q⟩:=h;cases rx;obtain ⟨t,rfl⟩:=ry;obtain ⟨its,r,pl,hz⟩:=I.tuple hq;obtain ⟨j,h1,h2,h3,h4,h5⟩:=pD he;obtain ⟨w,ew,rw'⟩:=r.get h2;have hl:=r.length;have hn:=line63;have fin:EP X pins σ Q w s:=⟨z,H,I,rw',q⟩;exact subscriptTail_builtinR (x:=w) pl.typeIs slot_tuple_getitem.lookup
  (getItem_tuple (j:=j) (Q:=fun r s'=>r=w/\EP X pins σ Q r s') pl (by lia) (by lia) (by rw [List.size_toArray,<- hl]; exact h1) (by simpa using ew) ⟨rfl,fin⟩) hs
theorem yw:IxR X rIxS:=by
 intro value slice pins s σ H x y v u Q I rx ry h hs;obtain ⟨z,i,c,rfl,rfl,hz,he,q⟩:=h;obtain ⟨t,rfl⟩:=rx;obtain ⟨t',rfl⟩:=ry;obtain ⟨j,h1,h2,h3,h4,h5⟩:=pD he;have hl:z.cps.toList.length=z.length:=by simp [Str.length]
 rw [hl] at h1 h4 h5;have hn:=line63;exact tail_any (typeIs_str s z t) slot_str_getitem.lookup (getItem_str (c:=c) (by
  have e1:decide (i < -(2 ^ 63:Int))=false:=decide_eq_false (by lia);have e2:decide (i >= 2 ^ 63)=false:=decide_eq_false (by lia);rw [e1,e2,Bool.or_false]) (by rw [h1]; simpa using h2) ⟨.str ⟨#[c]⟩,H,I.tok _,⟨_,rfl⟩,q⟩) hs
noncomputable def rIx (K:Frag):R2:=fun x y H Q=>rIxL K x y H Q\/rIxT K x y H Q\/rIxS x y H Q
theorem yT:IxR X (rIx X.K):=wH.or (yC.or yw)
theorem pL (lo hi:Option Int) (n:Nat):(sliceBounds lo hi none n).1=((HT.sIx n 0 lo:Nat):Int)/\(sliceBounds lo hi none n).2.1=((HT.sIx n n hi:Nat):Int)/\(sliceBounds lo hi none n).2.2=1:=by
 refine ⟨?_,?_,rfl⟩
 ·cases lo with
  | none=>simp [sliceBounds,HT.sIx]
  | some i=>
   simp only [sliceBounds,HT.sIx,Option.getD_none,show (1:Int) > 0 by decide,if_true];by_cases h:i < 0
   ·simp only [h,if_true] <;> lia
   ·simp only [h,if_false] <;> lia
 ·cases hi with
  | none=>simp [sliceBounds,HT.sIx]
  | some i=>
   simp only [sliceBounds,HT.sIx,Option.getD_none,show (1:Int) > 0 by decide,if_true];by_cases h:i < 0
   ·simp only [h,if_true] <;> lia
   ·simp only [h,if_false] <;> lia
theorem nU (its:List Value) (lo hi:Option Int):slicePick its.toArray lo hi none=((its.drop (HT.sIx its.length 0 lo)).take (HT.sIx its.length its.length hi - HT.sIx its.length 0 lo)).toArray:=by
 obtain ⟨h1,h2,h3⟩:=pL lo hi its.toArray.size;unfold slicePick;rw [h1,h2,h3];simp only [sliceRange_one,pick_run,List.size_toArray] <;> rfl
noncomputable def rSlL (K:Frag):V->Option Int->Option Int->Hp->VK->Prop:=fun x lo hi H Q=>Ex2 fun a xs=>x=.ref a/\SqL K H a xs/\∀ p,H p=none->Q (.ref p) (upd H p (.lst (cutV xs lo hi)))
theorem v8:SlR X (rSlL X.K):=by
 intro pins s σ H x v vl vu lo hi sl Q I rx hs pl pu h;obtain ⟨a,xs,rfl,hx,q⟩:=h;cases rx;obtain ⟨its,r,ht,hz⟩:=I.list hx;have hlen:=r.length;refine ⟨"list",_,slot_list_getitem.lookup,ht.isList.typeIs,?_⟩;refine wpAny_getItem_list_slice ht.isList hs pl pu .none (by simp) ?_ (by rw [List.size_toArray] <;> lia);rw [nU,<- hlen];refine ⟨.ref s.heap.objs.size,_,I.laid (t':=s.toks) (o:=.lst (cutV xs lo hi)) (fun b ob q=>Heap.get?_push_of_some _ q) (Nat.le_refl _) ?_,rfl,q _ (I.hok.fresh (Nat.le_refl _))⟩;exact ⟨Nat.le_trans (qk xs lo hi) hz,_,0,(r.drop (HT.sIx xs.length 0 lo)).take (HT.sIx xs.length xs.length hi - HT.sIx xs.length 0 lo),Heap.get?_push_size _ rfl⟩
noncomputable def flatV:V->Bool
 | .non=>true
 | .bl _=>true
 | .int _=>true
 | .str _=>true
 | _=>false
noncomputable def eqV:V->V->Bool
 | .non,.non=>true
 | .bl a,.bl b=>a == b
 | .bl a,.int b=>(if a then 1 else 0) == b
 | .int a,.bl b=>a == (if b then 1 else 0)
 | .int a,.int b=>a == b
 | .str a,.str b=>a == b
 | _,_=>false
theorem rM {A:Around} {s:Shared} {y x:V} {u v:Value} (ry:RelV y u) (rx:RelV x v) (fy:flatV y=true) (fx:flatV x=true):SeqAt.EqAt A s u v (eqV y x):=by
 cases y with
 | non=>
  cases ry;cases x with
  | non=>cases rx; exact SeqAt.EqAt.same _
  | bl b=>cases rx; exact SeqAt.EqAt.none_bool b
  | int b=>obtain ⟨t,rfl⟩:=rx; exact SeqAt.EqAt.none_int b t
  | str b=>obtain ⟨t,rfl⟩:=rx; exact SeqAt.EqAt.none_str b t
  | _=>exact absurd (show false=true from fx) Bool.false_ne_true
 | bl a=>
  cases ry;cases x with
  | non=>cases rx; exact SeqAt.EqAt.bool_none a
  | bl b=>cases rx; exact SeqAt.EqAt.bool_bool a b
  | int b=>obtain ⟨t,rfl⟩:=rx; exact SeqAt.EqAt.bool_int a b t
  | str b=>obtain ⟨t,rfl⟩:=rx; exact SeqAt.EqAt.bool_str a b t
  | _=>exact absurd (show false=true from fx) Bool.false_ne_true
 | int a=>
  obtain ⟨t',rfl⟩:=ry;cases x with
  | non=>cases rx; exact SeqAt.EqAt.int_none a t'
  | bl b=>cases rx; exact SeqAt.EqAt.int_bool a t' b
  | int b=>obtain ⟨t,rfl⟩:=rx; exact SeqAt.EqAt.int_int a t' b t
  | str b=>obtain ⟨t,rfl⟩:=rx; exact SeqAt.EqAt.int_str a t' b t
  | _=>exact absurd (show false=true from fx) Bool.false_ne_true
 | str a=>
  obtain ⟨t',rfl⟩:=ry;cases x with
  | non=>cases rx; exact SeqAt.EqAt.str_none a t'
  | bl b=>cases rx; exact SeqAt.EqAt.str_bool a t' b
  | int b=>obtain ⟨t,rfl⟩:=rx; exact SeqAt.EqAt.str_int a t' b t
  | str b=>obtain ⟨t,rfl⟩:=rx; exact SeqAt.EqAt.str_str a t' b t
  | _=>exact absurd (show false=true from fx) Bool.false_ne_true
 | _=>exact absurd (show false=true from fy) Bool.false_ne_true
noncomputable def eqU (x:V) (u:Value):Bool:=match u with
 | .none=>eqV .non x
 | .bool b=>eqV (.bl b) x
 | .int i _=>eqV (.int i) x
 | .str z _=>eqV (.str z) x
 | _=>false
theorem uP {x y:V} {u:Value} (r:RelV y u) (f:flatV y=true):eqU x u=eqV y x:=by
 cases y with
 | non=>cases r; rfl
 | bl b=>cases r; rfl
 | int i=>obtain ⟨t,rfl⟩:=r; rfl
 | str z=>obtain ⟨t,rfl⟩:=r; rfl
 | _=>exact absurd (show false=true from f) Bool.false_ne_true
theorem kH {x:V}:∀ {xs:List V} {us:List Value},Vals xs us->xs.all flatV=true->us.any (eqU x)=xs.any fun y=>eqV y x
 | _,_,.nil,_=>rfl
 | y::xs,u::us,.cons r t,f=>by
  rw [List.all_cons,Bool.and_eq_true] at f;rw [List.any_cons,List.any_cons,uP r f.1,kH t f.2]
theorem i8 {A:Around} {s:Shared} {x:V} {v:Value} (rx:RelV x v) (fx:flatV x=true):∀ {xs:List V} {us:List Value},Vals xs us->xs.all flatV=true->∀ u ∈ us,SeqAt.EqAt A s u v (eqU x u)
 | _,_,.nil,_=>fun u hu=>by cases hu
 | y::xs,u::us,.cons r t,f=>fun u' hu=>by
  rw [List.all_cons,Bool.and_eq_true] at f;rcases List.mem_cons.mp hu with rfl | hu
  ·rw [uP r f.1]; exact rM r rx f.1 fx
  ·exact i8 rx fx t f.2 u' hu
noncomputable def inV (x:V) (xs:List V):Bool:=xs.any fun y=>eqV y x
noncomputable def rIn (K:Frag) (neg:Bool):R2:=fun x y H Q=>Ex2 fun p xs=>y=.ref p/\(SqL K H p xs\/SqT K H p xs)/\flatV x=true/\xs.all flatV=true/\Q (.bl (if neg then !inV x xs else inV x xs)) H
theorem uj:OpR X (compareOp .In) (rIn X.K false):=by
 intro pins s σ H x y v u Q I rx ry h;obtain ⟨p,xs,rfl,hq,fx,fs,q⟩:=h;cases ry;rcases hq with hq | hq
 ·obtain ⟨its,r,pl,hz⟩:=I.list hq;refine SeqAt.in_listAt (eqU x) pl.isList (fun w hw=>i8 rx fx r fs w (by simpa using hw)) ⟨.bl _,H,I,rfl,?_⟩;rw [show its.toArray.any (eqU x)=its.any (eqU x) by simp,kH r fs];exact q
 ·obtain ⟨its,r,pl,hz⟩:=I.tuple hq;refine SeqAt.in_tupleAt (eqU x) pl (fun w hw=>i8 rx fx r fs w (by simpa using hw)) ⟨.bl _,H,I,rfl,?_⟩;rw [show its.toArray.any (eqU x)=its.any (eqU x) by simp,kH r fs];exact q
theorem pj:OpR X (compareOp .NotIn) (rIn X.K true):=by
 intro pins s σ H x y v u Q I rx ry h;obtain ⟨p,xs,rfl,hq,fx,fs,q⟩:=h;cases ry;rcases hq with hq | hq
 ·obtain ⟨its,r,pl,hz⟩:=I.list hq;refine SeqAt.notIn_listAt (eqU x) pl.isList (fun w hw=>i8 rx fx r fs w (by simpa using hw)) ⟨.bl _,H,I,rfl,?_⟩;rw [show its.toArray.any (eqU x)=its.any (eqU x) by simp,kH r fs];exact q
 ·obtain ⟨its,r,pl,hz⟩:=I.tuple hq;refine SeqAt.notIn_tupleAt (eqU x) pl (fun w hw=>i8 rx fx r fs w (by simpa using hw)) ⟨.bl _,H,I,rfl,?_⟩;rw [show its.toArray.any (eqU x)=its.any (eqU x) by simp,kH r fs];exact q
theorem pG:CallR X (.builtin "len") (fun xs H Q=>Ex2 fun p ys=>xs=[.ref p]/\(SqL X.K H p ys\/SqT X.K H p ys)/\Q (.int ys.length) H):=by
 intro pins s σ H xs us Q I r h;obtain ⟨p,ys,rfl,hq,q⟩:=h;obtain ⟨u,rfl,rx⟩:=vals1 r;cases rx;have hn:=line63;rcases hq with hq | hq
 ·obtain ⟨its,r',pl,hz⟩:=I.list hq;have hlen:=r'.length;exact Calls.call_len_list pl.isList (by simp only [List.size_toArray] <;> lia) ⟨.int ys.length,H,I.tok _,⟨s.toks+1,by rw [List.size_toArray,hlen]⟩,q⟩
 ·obtain ⟨its,r',pl,hz⟩:=I.tuple hq;have hlen:=r'.length;exact len_tuple pl (by simp only [List.size_toArray] <;> lia) ⟨.int ys.length,H,I.tok _,⟨s.toks+1,by rw [List.size_toArray,hlen]⟩,q⟩
theorem pH:CallR X (.builtin "len") (fun xs H Q=>∃ z,xs=[.str z]/\z.length<=sizeLine/\Q (.int z.length) H):=by
 intro pins s σ H xs us Q I r h;obtain ⟨z,rfl,hz,q⟩:=h;obtain ⟨u,rfl,t,rfl⟩:=vals1 r;have hn:=line63;exact len_str (by lia) ⟨.int z.length,H,I.tok _,⟨_,rfl⟩,q⟩
theorem pY:CallR X (.type "list") (fun xs H Q=>Ex2 fun p ys=>xs=[.ref p]/\(SqL X.K H p ys\/SqT X.K H p ys)/\∀ l,H l=none->Q (.ref l) (upd H l (.lst ys))):=by
 intro pins s σ H xs us Q I r h;obtain ⟨p,ys,rfl,hq,q⟩:=h;obtain ⟨u,rfl,rx⟩:=vals1 r;cases rx;have fin:∀ (its:List Value),Vals ys its->ys.length<=sizeLine->∀ (h':Heap) (c':Nat),(∀ b o',s.heap.get? b=some o'->h'.get? b=some o') ->
   h'.get? s.heap.objs.size=some { cls:=.type "list",dict:=none,data:=.seq its.toArray c',slots:=#[] }->EP X pins σ Q (.ref s.heap.objs.size) { s with heap:=h' }:=fun its r' hz h' c' kp e=>
  ⟨.ref s.heap.objs.size,_,I.laid (t':=s.toks) kp (Nat.le_refl _) (show ObjOk X.prog X.w _ h' _ (.lst ys) from ⟨hz,its,c',r',e⟩),rfl,q _ (I.hok.fresh (Nat.le_refl _))⟩
 rcases hq with hq | hq
 ·obtain ⟨its,r',pl,hz⟩:=I.list hq;have hlen:=r'.length;obtain ⟨o,ho,hc,n,hd⟩:=pl.isList;exact call_list_seq p (.inl rfl) ho hc hd (fun h' c' kp e=>fin its r' hz h' c' kp e) (by simp only [List.size_toArray] <;> lia)
 ·obtain ⟨its,r',pl,hz⟩:=I.tuple hq;have hlen:=r'.length;obtain ⟨o,ho,hc,n,hd⟩:=pl;exact call_list_seq p (.inr rfl) ho hc hd (fun h' c' kp e=>fin its r' hz h' c' kp e) (by simp only [List.size_toArray] <;> lia)
def tyV (K:Frag) (T:String) (x:V) (H:Hp):Prop:=match x with
 | .str _=>T = "str"
 | .int _=>T = "int"
 | .ref p=>(T = "list" /\ ∃ xs,SqL K H p xs)\/(T = "tuple" /\ ∃ o,K.lookup p=some o/\o.cls=.type "tuple" /\ o.dict=none) \/
   (T = "dict" /\ ((∃ kvs,H p=some (.dK kvs))\/∃ kvs,H p=some (.dT kvs)))\/(T = "set" /\ Ex2 fun S n=>H p=some (.set S n))
 | _=>False
theorem uR {pins:List (Addr × Obj)} {σ:St} {H:Hp} {s:Shared} {T:String} {x:V} {v:Value} (I:Inv X pins σ H s) (r:RelV x v) (ty:tyV X.K T x H):
  s.TypeIs v T/\∀ a,v=.ref a->∃ ob,s.heap.get? a=some ob/\ob.dict=none:=by
 cases x with
 | str z=>
  obtain ⟨t,rfl⟩:=r;cases (show T = "str" from ty);exact ⟨typeIs_str s z t,fun _ e=>nomatch e⟩
 | int i=>
  obtain ⟨t,rfl⟩:=r;cases (show T = "int" from ty);exact ⟨typeIs_int s i t,fun _ e=>nomatch e⟩
 | ref p=>
  cases r;rcases ty with ⟨rfl,xs,hq⟩ | ⟨rfl,o,hk,hc,hd⟩ | ⟨rfl,hk⟩ | ⟨rfl,S,n,hk⟩
  ·obtain ⟨its,_,pl,_⟩:=I.list hq;refine ⟨pl.isList.typeIs,fun a e=>?_⟩;cases e;obtain ⟨o,n,e,c,hd,_⟩:=pl;exact ⟨o,e,hd⟩
  ·refine ⟨⟨o,I.kIn p o hk,hc⟩,fun a e=>?_⟩;cases e;exact ⟨o,I.kIn _ o hk,hd⟩
  ·have z:∃ o,s.heap.get? p=some o/\o.ExactDict:=by
    rcases hk with ⟨kvs,hk⟩ | ⟨kvs,hk⟩
    ·obtain ⟨_,_,_,_,o,_,_,e,ex,_⟩:=I.hok p _ hk;exact ⟨o,e,ex⟩
    ·obtain ⟨_,_,_,_,o,_,_,e,ex,_⟩:=I.hok p _ hk;exact ⟨o,e,ex⟩
   obtain ⟨o,e,ex⟩:=z;refine ⟨⟨o,e,ex.1⟩,fun a e2=>?_⟩;cases e2;exact ⟨o,e,ex.2.1⟩
  ·obtain ⟨o,_,_,_,e,ex,_⟩:=I.hok p _ hk;refine ⟨⟨o,e,ex.1⟩,fun a e2=>?_⟩;cases e2;exact ⟨o,e,ex.2.1⟩
 | _=>exact False.elim ty
noncomputable def tBM0 (K:Frag) (T:String) (r:V->List V->Hp->VK->Prop) (to:TE):TE:=fun σ H Q=>to σ H fun x H1=>tyV K T x H1/\r x [] H1 Q
noncomputable def tBM (K:Frag) (T:String) (r:V->List V->Hp->VK->Prop) (to:TE) (t:TA):TE:=fun σ H Q=>to σ H fun x H1=>tyV K T x H1/\t σ H1 fun xs H2=>r x xs H2 Q
variable {o e:Expr} {es:List Expr} {to:TE} {t:TA} {name:Str} {apos cpos:Pos} {T id:String} {r:V->List V->Hp->VK->Prop}
theorem ye (pa:PlainAttrs T) (slot:Slot T name id) (hty:typeOf (.builtin id)=pure (.type "method_descriptor")) (hm:MtR X id r) (ho:PE X o to)
  (hbase:attributeBase o name X.env (eval o X.env)=eval o X.env:=by rfl) (hline:(apos.endLine == cpos.line)=true:=by rfl):PE X (.Call (.Attribute o name apos) [] [] cpos) (tBM0 X.K T r to):=by
 intro pins s σ H Q I h;refine wpAny_Call_method0_late hbase hline (thn (ho pins s σ H _ I h) fun v s1 ⟨x,H1,I1,r1,ty,q1⟩=>?_);obtain ⟨h1,h2⟩:=uR I1 r1 ty;exact ⟨T,id,pa,slot,hty,h1,h2,Calls.callWith_builtin rfl (PySem.evalArgs_none (hm pins s1 σ H1 x [] v [] Q I1 r1 .nil q1))⟩
theorem sT (pa:PlainAttrs T) (slot:Slot T name id) (hty:typeOf (.builtin id)=pure (.type "method_descriptor")) (hm:MtR X id r) (ho:PE X o to) (ha:PA X (e::es) t)
  (hbase:attributeBase o name X.env (eval o X.env)=eval o X.env:=by rfl)
  (hfew:((backTo cpos (starEach (e::es) X.env)).all (fun x=>!x.1) && (backToKw cpos (keywordEach [] X.env)).all (fun x=>x.1.isSome)
   && decide ((e::es).length+([]:List Keyword).length+(if ([]:List Keyword).isEmpty then 0 else 1) < 30))=true:=by rfl)
  (hline:(apos.endLine == cpos.line)=true:=by rfl) (hs:starEach (e::es) X.env=(false,eval e X.env)::starEach es X.env:=by rfl) (hplain:(backTo cpos (starEach es X.env)).any (·.1)=false:=by rfl):
  PE X (.Call (.Attribute o name apos) (e::es) [] cpos) (tBM X.K T r to t):=by
 intro pins s σ H Q I h;refine wpAny_Call_method_late hbase hfew hline rfl (thn (ho pins s σ H _ I h) fun v s1 ⟨x,H1,I1,r1,ty,q1⟩=>?_);obtain ⟨h1,h2⟩:=uR I1 r1 ty;refine ⟨T,id,pa,slot,hty,h1,h2,?_⟩;have hA:=ha cpos pins s1 σ H1 _ I1 q1;rw [hs] at hA ⊢;refine Calls.callWith_builtin (by show (false || (backTo cpos (starEach es X.env)).any (·.1))=false; rw [hplain] <;> rfl) (Calls.evalArgs_plain ?_);exact thn hA fun us s2 ⟨vs,H2,I2,r2,q2⟩=>hm pins s2 σ H2 x vs v us Q I2 r1 r2 q2
end
def MtM (X:Cx) (id:String) (r:V->List V->Hp->VK->Prop):Prop:=
 ∀ (pins:List (Addr × Obj)) (s:Shared) (σ:St) (H:Hp) (x:V) (xs:List V) (v:Value) (us:List Value) (Q:VK),Inv X pins σ H s->RelV x v->Vals xs us->r x xs H Q ->
  wpAny (model X.prog X.w) X.A (call (.builtin id) (v::us)) (EP X pins σ Q) X.xe s
theorem Vals.one:∀ {x:V} {us:List Value},Vals [x] us->∃ u,us=[u]/\RelV x u
 | _,_,.cons r .nil=>⟨_,rfl,r⟩
theorem Vals.zero:∀ {us:List Value},Vals [] us->us=[]
 | _,.nil=>rfl
theorem Vals.eraseIdx:∀ {xs:List V} {us:List Value} (i:Nat),Vals xs us->Vals (xs.eraseIdx i) (us.eraseIdx i)
 | _,_,_,.nil=>.nil
 | _,_,0,.cons _ t=>t
 | _,_,i+1,.cons r t=>.cons r (Vals.eraseIdx i t)
theorem Vals.rep {xs:List V} {us:List Value} (h:Vals xs us):∀ k:Nat,Vals (List.replicate k xs).flatten (List.replicate k us).flatten
 | 0=>.nil
 | k+1=>by
  rw [List.replicate_succ,List.replicate_succ,List.flatten_cons,List.flatten_cons];exact Vals.append h (Vals.rep h k)
theorem oz {α:Type}:∀ (l:List α) (i:Nat),(l.eraseIdx i).length<=l.length
 | [],_=>Nat.le_refl _
 | _::_,0=>Nat.le_succ _
 | _::r,i+1=>Nat.succ_le_succ (oz r i)
theorem oM (its:List Value):∀ (k:Nat) (acc:List Value),
  List.foldl (fun x1 x2=>x1++x2) acc.toArray (List.replicate k its.toArray)=(acc++(List.replicate k its).flatten).toArray
 | 0,acc=>by simp
 | k+1,acc=>by
  have e:acc.toArray++its.toArray=(acc++its).toArray:=by simp
  have e2:(acc++its)++(List.replicate k its).flatten=acc++(List.replicate (k+1) its).flatten:=by
   rw [List.replicate_succ,List.flatten_cons,List.append_assoc]
  rw [<- e2,<- oM its k (acc++its),<- e,List.replicate_succ,List.foldl_cons]
section
variable {X:Cx} {pins:List (Addr × Obj)} {σ:St} {H:Hp} {s:Shared} {l b:Addr} {xs ys zs:List V}
theorem Inv.lset {its its':List Value} {n:Nat} {f:Array Value->Array Value} {t':Nat} (I:Inv X pins σ H s) (hH:H l=some (.lst xs))
  (e:s.heap.get? l=some { cls:=.type "list",data:=.seq its.toArray n }) (hf:f its.toArray=its'.toArray) (hv:Vals ys its') (hz:ys.length<=sizeLine) (ht:0 < t':=by first | assumption | exact Nat.succ_pos _ | (apply Inv.tk; assumption) | lia):
  Inv X pins σ (upd H l (.lst ys)) { s with heap:=s.heap.update l (Obj.mapSeq f),toks:=t' }:=by
 have q:=PySem.IsL.update e f;rw [hf] at q;refine I.write (x:=l) (e:=l) (by rw [hH]; exact trivial) (.inl rfl) (fun b' u hb hu=>(Heap.get?_update_other s.heap (Obj.mapSeq f) (Ne.symm hb)).trans hu) ⟨_,q⟩ ?_;exact ⟨hz,its',_,hv,q⟩
theorem Inv.lnew {its:List Value} {t':Nat} (I:Inv X pins σ H s) (hv:Vals ys its) (hz:ys.length<=sizeLine) (ht:0 < t':=by first | assumption | exact Nat.succ_pos _ | (apply Inv.tk; assumption) | lia):
  Inv X pins σ (upd H s.heap.objs.size (.lst ys)) { s with heap:=s.heap.push { cls:=.type "list",data:=.seq its.toArray },toks:=t' }:=
 I.laid (fun _ _ q=>Heap.get?_push_of_some _ q) (Nat.le_refl _) ⟨hz,its,0,hv,Heap.get?_push_size _ rfl⟩
theorem Inv.fresh (I:Inv X pins σ H s):H s.heap.objs.size=none:=I.hok.fresh (Nat.le_refl _)
theorem Inv.lstM (I:Inv X pins σ H s) (hH:H l=some (.lst xs)):xs.length<=sizeLine/\Ex2 fun (its:List Value) (n:Nat)=>Vals xs its/\xs.length=its.length/\s.heap.get? l=some { cls:=.type "list",data:=.seq its.toArray n }:=by
 obtain ⟨z,its,n,r,e⟩:=I.hok l _ hH;exact ⟨z,its,n,r,r.length,e⟩
theorem notLongL {n:Nat} (h:n<=sizeLine):Builtin.List.listTooLong n=false:=by
 unfold Builtin.List.listTooLong;exact decide_eq_false (by lia)
end
section
variable {X:Cx}
noncomputable def rAppend:V->List V->Hp->VK->Prop:=fun x vs H Q=>Ex3 fun l xs y=>x=.ref l/\vs=[y]/\H l=some (.lst xs)/\xs.length < sizeLine/\Q .non (upd H l (.lst (xs++[y])))
theorem lI:MtM X "list.append" rAppend:=by
 intro pins s σ H x vs v us Q I rx rv h;obtain ⟨l,xs,y,rfl,rfl,hH,hz,q⟩:=h;cases rx;obtain ⟨u,rfl,ru⟩:=rv.one;obtain ⟨z,its,n,r,hl,e⟩:=I.lstM hH;refine call_meets F.slot_list_append ⟨_,e,rfl⟩ F.entry_list_append (F.args_list_append_2 _ _) (PySem.list_append l its.toArray n u (by rw [List.size_toArray]; lia)) ⟨e,?_⟩;refine ⟨.non,_,I.lset (its':=its++[u]) hH e (by simp) (r.append (.cons ru .nil)) ?_,rfl,q⟩;rw [List.length_append,List.length_singleton]
 lia
noncomputable def rExtend:V->List V->Hp->VK->Prop:=fun x vs H Q=>Ex4 fun l b xs zs=>x=.ref l/\vs=[.ref b]/\H l=some (.lst xs)/\H b=some (.lst zs)/\xs.length+zs.length<=sizeLine/\Q .non (upd H l (.lst (xs++zs)))
theorem tM:MtM X "list.extend" rExtend:=by
 intro pins s σ H x vs v us Q I rx rv h;obtain ⟨l,b,xs,zs,rfl,rfl,hH,hB,hz,q⟩:=h;cases rx;obtain ⟨u,rfl,ru⟩:=rv.one;cases ru;obtain ⟨z,its,n,r,hl,e⟩:=I.lstM hH;obtain ⟨z2,its2,n2,r2,hl2,e2⟩:=I.lstM hB;have hsz:its.toArray.size+its2.toArray.size<=sizeLine:=by rw [List.size_toArray,List.size_toArray]; lia
 have hlong:¬ (!its.toArray.isEmpty && Builtin.List.listTooLong (its.toArray.size+its2.toArray.size))=true:=by
  rw [notLongL hsz,Bool.and_false];exact Bool.false_ne_true
 refine call_meets F.slot_list_extend ⟨_,e,rfl⟩ F.entry_list_extend (F.args_list_extend_2 _ _)
  (AutoSeq1.list_extend_list_list_0 l its.toArray n b its2.toArray n2 hlong (by rw [List.size_toArray]; lia) (by lia)) ⟨e,e2,?_⟩
 refine ⟨.non,_,I.lset (its':=its++its2) hH e (by simp) (r.append r2) ?_,rfl,q⟩;rw [List.length_append]
 lia
noncomputable def rPopAt:V->List V->Hp->VK->Prop:=fun x vs H Q=>Ex5 fun l xs i k y=>x=.ref l/\vs=[.int i]/\H l=some (.lst xs) /\ -(2 ^ 63)<=i/\i < 2 ^ 63/\seqIndex? i xs.length=some k/\xs[k]? = some y/\Q y (upd H l (.lst (xs.eraseIdx k)))
theorem uS:MtM X "list.pop" rPopAt:=by
 intro pins s σ H x vs v us Q I rx rv h;obtain ⟨l,xs,i,k,y,rfl,rfl,hH,h1,h2,hk,hy,q⟩:=h;cases rx;obtain ⟨u,rfl,ru⟩:=rv.one;obtain ⟨t,rfl⟩:=ru;obtain ⟨z,its,n,r,hl,e⟩:=I.lstM hH;obtain ⟨w,hw,rw'⟩:=r.get hy;refine call_meets F.slot_list_pop ⟨_,e,rfl⟩ F.entry_list_pop (F.args_list_pop_2 _ _)
  (MeetsSeq.list_pop_at l its.toArray n i t k w (fitsIndex_both h1 h2) (by rw [List.size_toArray,<- hl]; exact hk) (by rw [<- Array.getElem?_toList]; exact hw) (by rw [List.size_toArray]; lia)) ⟨e,?_⟩
 refine ⟨y,_,I.lset (its':=its.eraseIdx k) hH e ?_ (r.eraseIdx k) ?_,rw',q⟩
 ·show its.toArray.eraseIdxIfInBounds k=(its.eraseIdx k).toArray;rw [List.eraseIdxIfInBounds_toArray]
 ·have:=oz xs k
  lia
noncomputable def rClear:V->List V->Hp->VK->Prop:=fun x vs H Q=>Ex2 fun l xs=>x=.ref l/\vs=[]/\H l=some (.lst xs)/\Q .non (upd H l (.lst []))
theorem ux:MtM X "list.clear" rClear:=by
 intro pins s σ H x vs v us Q I rx rv h;obtain ⟨l,xs,rfl,rfl,hH,q⟩:=h;cases rx;have hus:=rv.zero;subst hus;obtain ⟨z,its,n,r,hl,e⟩:=I.lstM hH;refine call_meets F.slot_list_clear ⟨_,e,rfl⟩ F.entry_list_clear (F.args_list_clear_1 _) (AutoSeq1.list_clear_list_0 l its.toArray n (by rw [List.size_toArray]; lia)) ⟨e,?_⟩;exact ⟨.non,_,I.lset (its':=[]) (ys:=[]) hH e rfl .nil (Nat.zero_le _),rfl,q⟩
noncomputable def rCat:R2:=fun x y H Q=>Ex4 fun l b xs zs=>x=.ref l/\y=.ref b/\H l=some (.lst xs)/\H b=some (.lst zs)/\xs.length+zs.length<=sizeLine/\∀ p,H p=none->Q (.ref p) (upd H p (.lst (xs++zs)))
theorem yv:OpR X (binaryOp .Add) rCat:=by
 intro pins s σ H x y v u Q I rx ry h;obtain ⟨l,b,xs,zs,rfl,rfl,hH,hB,hz,q⟩:=h;cases rx;cases ry;obtain ⟨z,its,n,r,hl,e⟩:=I.lstM hH;obtain ⟨z2,its2,n2,r2,hl2,e2⟩:=I.lstM hB;refine PySem.P.add_list e e2 ?_ (by rw [List.size_toArray,List.size_toArray]; lia);have ea:its.toArray++its2.toArray=(its++its2).toArray:=by simp
 rw [ea];exact ⟨.ref _,_,I.lnew (t':=s.toks) (r.append r2) (by rw [List.length_append]; lia),rfl,q _ I.fresh⟩
noncomputable def rRep:R2:=fun x y H Q=>Ex3 fun l k xs=>x=.ref l/\y=.int k/\H l=some (.lst xs) /\ -(2 ^ 63)<=k/\k < 2 ^ 63/\xs.length*k.toNat<=sizeLine /\
 ∀ p,H p=none->Q (.ref p) (upd H p (.lst (List.replicate k.toNat xs).flatten))
theorem wR {α:Type} (xs:List α) (k:Nat):(List.replicate k xs).flatten.length=k*xs.length:=by
 induction k with
 | zero=>simp
 | succ k ih=>rw [List.replicate_succ,List.flatten_cons,List.length_append,ih,Nat.succ_mul,Nat.add_comm]
theorem ya:OpR X (binaryOp .Mult) rRep:=by
 intro pins s σ H x y v u Q I rx ry h;obtain ⟨l,k,xs,rfl,rfl,hH,h1,h2,hz,q⟩:=h;cases rx;obtain ⟨t,rfl⟩:=ry;obtain ⟨z,its,n,r,hl,e⟩:=I.lstM hH;have hlen:its.toArray.size*k.toNat<=sizeLine:=by rw [List.size_toArray,<- hl]; exact hz
 have hcap:¬ its.toArray.size*k.toNat > (2 ^ 63 - 1) / 8:=by
  have:(sizeLine:Nat)<=(2 ^ 63 - 1) / 8:=by decide
  lia
 have hfit:¬ (!Builtin.List.listFitsIndex k)=true:=by
  rw [fitsIndex_both h1 h2];exact Bool.false_ne_true
 have hlong:¬ Builtin.List.listTooLong (its.toArray.size*k.toNat)=true:=by
  rw [notLongL hlen];exact Bool.false_ne_true
 have hnew:List.foldl (fun x1 x2=>x1++x2) #[] (List.replicate (if its.toArray.isEmpty=true then 0 else k.toNat) its.toArray)=(List.replicate k.toNat its).flatten.toArray:=by
  have f0:∀ m:Nat,List.foldl (fun x1 x2=>x1++x2) #[] (List.replicate m its.toArray)=(List.replicate m its).flatten.toArray:=fun m=>by
   have:=oM its m [];rw [List.nil_append] at this;exact this
  rw [f0];cases its with
  | nil=>simp
  | cons a r'=>rw [if_neg (by simp)]
 refine wpAny_binaryOp_repeat_ref (T := "list") (U := "int") (by decide) ⟨_,e,rfl⟩ (fun s'=>typeIs_int s' k t) noFill_list_mul F.fills_int_mul F.slot_int_rmul repeat_list F.slot_int_index.lookup
  (call_meets F.slot_int_rmul (typeIs_int s k t) F.entry_int_rmul (F.args_int_rmul_2 _ _) (int___rmul___int_list k t l its.toArray n)
   ⟨e,rfl,⟨_,e,rfl⟩,call_meets F.slot_list_mul ⟨_,e,rfl⟩ F.entry_list_mul (F.args_list_mul_2 _ _) (AutoListH.list___mul___list_int_3 l its.toArray n k t hfit hcap hlong) ⟨e,?_⟩⟩)
 rw [hnew];exact ⟨.ref _,_,I.lnew (t':=s.toks) (r.rep k.toNat) (by rw [wR,Nat.mul_comm]; exact hz),rfl,q _ I.fresh⟩
end
section
variable {prog:Program} {w:World} {A:Around} {E:Value->Shared->Prop} {s:Shared}
end
section
variable {X:Cx}
end
end L2
namespace Att
open PySem PySem.W PySem.Calls PyProof.Rows
theorem mG {P:Params} {h:Heap}:∀ (ns:List Int) (vs:List Value),WellAll P h vs (ns.map WData.int)->IntsAre vs ns:=by
 intro ns
 induction ns with
 | nil=>
  intro vs w;rw [List.map_nil] at w;cases w;exact .nil
 | cons n ns ih=>
  intro vs w;rw [List.map_cons] at w;cases w with
  | cons a b=>
   cases a;exact .cons _ _ (ih _ b)
theorem script_of {l:OpenLaw} {n:Nat} (hn:l.most=some n) {P:Params} {h:Heap} {args:List WData} {vals:List Value}
  (hpre:l.row.toRowW.claim.pre args=true) (hwl:WellAll P h vals args):
  Ex3 fun a vs ns=>vals=[Value.ref a]/\args=[WData.list (ns.map WData.int)]/\h.get? a=some { cls:=.type "list",data:=.seq vs.toArray }/\IntsAre vs ns/\ns.length<=n:=by
 have hsh:WShape.hasAll [] args [.list .int]=true:=(pre_splitW hpre).1;have hc:l.pre.holds [] { args:=args }=true:=(pre_splitW hpre).2;obtain ⟨d,r,rfl,h1,h2⟩:=hasAllW_cons hsh;obtain rfl:=hasAllW_nil h2;obtain ⟨xs,rfl,h3⟩:=hasW_list h1;obtain ⟨ns,rfl⟩:=items_int h3;have hlen:ns.length<=n:=by
  unfold OpenLaw.pre at hc;have h4:(WTm.not (.lt (.lit (.int (n:Int))) (.len (.arg 0)))).holds [] { args:=[.list (ns.map .int)] }=true:=by
   have h4:=(holds_andW hc).1;rw [hn] at h4;exact h4
  have h5:=condW_of h4 (w_not (w_lt w_lit (w_len_list (w_arg rfl))));rw [List.length_map] at h5;refine Nat.le_of_not_lt fun q=>?_
  have q':(n:Int) < ((ns.length:Nat):Int):=by lia
  first
   | (rw [decide_eq_true q'] at h5; exact absurd h5 (by decide))
   | (simp at h5; lia)
 cases hwl with
 | cons w1 w2=>
  cases w2;cases w1 with
  | list ho hall=>exact ⟨_,_,ns,rfl,rfl,ho,mG ns _ hall,hlen⟩
theorem post_true (l:OpenLaw) (args:List WData):l.row.toRowW.claim.post args (.bool true) args=true:=
 postW_of (r:=l.row.toRowW) (X:=(true == true))
  (show WShape.has [] (.bool true) .bool=true by first | rfl | decide | simp [WShape.has,WShape.arms,WShape.armsAll])
  (show (WTm.eq .res (.lit (.bool true))).value [] { args:=args,res:=some (.bool true),after:=args }=some (.bool (true == true)) from w_eq_bool (w_res rfl) w_lit) rfl
section
variable {prog:Program} {w:World} {A:Around} {E:Value->Shared->Prop} {s:Shared} {K:Frag}
end
end Att
namespace L2
open PySem PySem.Spec PyProof.Rows
theorem oy:∀ {vs:List Value} {ns:List Int},IntsAre vs ns->Vals (ns.map V.int) vs
 | _,_,.nil=>.nil
 | _,_,.cons n t h=>.cons ⟨t,rfl⟩ (oy h)
def Only (H:Hp):Prop:=∀ b,H b=none\/Ex2 fun o xs=>H b=some (.frz o (.lst xs))
theorem vj {P:Program} {w:World} {K:Frag} {mg mb:Str->Option Value} {CX:CXT} {k:Nat} {fa a:Addr} {fd:FuncData} {x:Str} {sp:Sp} {s₁:Shared} {vs:List Value} {ns:List Int}
  (KX:K.In s₁.heap) (hns:s₁.heap.Ns mainGlobals mg) (hb:s₁.heap.Ns builtinsNs mb) (hbb:∀ x:Str,x ≠ "__name__" -> mb x=bootBuiltins x) (hlim:s₁.heap.NoLimit) (hg:s₁.gens=#[]) (htk:0 < s₁.toks)
  (ha:s₁.heap.get? a=some { cls:=.type "list",data:=.seq vs.toArray }) (hi:IntsAre vs ns) (hl:ns.length<=sizeLine) (hr:Room k callerA)
  (F:∀ base:Heap,K.In base->base.Ns mainGlobals mg->FnOk P w K mg base CX k fa fd [x] sp) (hbind:∀ (s:Shared) (u:Value),BindsTo s fd ⟨[u],[]⟩ [(x,u)])
  (hsp:∀ H:Hp,Only H->SqL K H a (ns.map V.int)->sp [.ref a] H (fun v _=>v=.bl true) fun _ _ _=>False)
  (hCX:∀ H e s',CX [] H s₁ (fun _ _ _=>False) e s'->False):
  codeAny (model P w) callerA (.call (.ref fa) ⟨[.ref a],[]⟩) (fun r s'=>r=.ok (.ret (.bool true))/\OldK s₁.heap s'.heap/\s'.os=s₁.os/\AllBare s'.gens) s₁:=by
 have rv:=oy hi;have lenV:=hi.length;have core:∀ H:Hp,Only H->SqL K H a (ns.map V.int)->HOk P w H s₁.heap->(∀ b,H b≠none->b=a)->(H a≠none->K.lookup a=none) ->
   codeAny (model P w) callerA (.call (.ref fa) ⟨[.ref a],[]⟩) (fun r s'=>r=.ok (.ret (.bool true))/\OldK s₁.heap s'.heap/\s'.os=s₁.os/\AllBare s'.gens) s₁:=by
  intro H hO hS hok hA hK;have base_of:∀ {b:Addr} {o:Obj},s₁.heap.get? b=some o->H b=none->(hidT s₁.heap H).get? b=some o:=fun e n=>vf e n
  have noA:∀ {b:Addr} {o:Obj} {es:Array DictEntry} {ep:Nat},s₁.heap.get? b=some o->o.data=.dict es ep->H b=none:=fun {b o es ep} e d=>by
   cases q:H b with
   | none=>rfl
   | some u=>
    have e':b=a:=hA b (by rw [q]; simp);subst e';rw [ha] at e; cases e;have d':Data.seq vs.toArray _=Data.dict es ep:=d;cases d'
  have nsK:∀ {b:Addr} {m:Str->Option Value},s₁.heap.Ns b m->(hidT s₁.heap H).Ns b m:=fun {b m} ⟨o,es,ep,e,d,r⟩=>⟨o,es,ep,base_of e (noA e d),d,r⟩
  have hKb:K.In (hidT s₁.heap H):=fun b o e=>base_of (KX b o e) (by
   cases q:H b with
   | none=>rfl
   | some u=>
    have e':b=a:=hA b (by rw [q]; simp);subst e';rw [hK (by rw [q]; simp)] at e; cases e)
  have hM:Mod K mg (hidT s₁.heap H):=⟨hKb,nsK hns,⟨mb,nsK hb,hbb⟩,let ⟨mc,h1,h2⟩:=hlim; ⟨mc,nsK h1,h2⟩⟩;have e0:Env0 P w K mg (hidT s₁.heap H) callerA [] s₁ H:=⟨rfl,hM,fun b o e=>xH e,Nat.le_of_eq (tt _ _),trivial,fun b hb=>absurd (show b ∈ ([]:List Addr) from hb) (by simp),hok,.of_eq hg,htk⟩;refine codeAny_mono ((F _ hKb (nsK hns)).run callerA [] s₁ H ⟨[.ref a],[]⟩ [.ref a] [.ref a] _ _ hr e0 (hbind s₁ (.ref a)) (.cons rfl .nil) (hsp H hO hS)) fun r s' h=>?_
  cases r with
  | error e=>exact (hCX H e s' h).elim
  | ok fl=>
   cases fl with
   | next=>exact False.elim h
   | brk=>exact False.elim h
   | cont=>exact False.elim h
   | ret u=>
    obtain ⟨v,H',_,os,bare,un,hok',r',q⟩:=h;have q':v=.bl true:=q;subst q';obtain rfl:u=Value.bool true:=r';refine ⟨rfl,OldK.of_keep fun b o e=>?_,os,bare⟩;cases q:H b with
    | none=>exact un.keep b o e q (by intro z; exact absurd (show b ∈ ([]:List Addr) from z) (by simp)) (by simp)
    | some u=>
     rcases hO b with z | ⟨ob,xs,z⟩
     ·rw [q] at z; cases z
     ·have z2:=un.frzs b ob _ z;obtain ⟨e1,_⟩:=hok b _ z;obtain ⟨e2,_⟩:=hok' b _ z2;rw [e] at e1; cases e1;exact e2
 cases hk:K.lookup a with
 | some o=>
  have e:=KX a o hk;rw [ha] at e;cases e;refine core (fun _=>none) (fun _=>.inl rfl) (.inr ⟨_,vs.toArray,_,hk,rfl,rfl,rfl,by rw [List.size_toArray,lenV]; exact hl,by simpa using rv⟩) (fun b u z=>by have z':(none:Option HO)=some u:=z; cases z') (fun b z=>absurd rfl z) fun z=>absurd rfl z
 | none=>
  refine core (fun b=>if b=a then some (.frz { cls:=.type "list",data:=.seq vs.toArray } (.lst (ns.map V.int))) else none) (fun b=>?_) (.inl (.inr ⟨{ cls:=.type "list",data:=.seq vs.toArray },if_pos rfl⟩)) (fun b u z=>?_) (fun b z=>?_) fun _=>hk
  ·by_cases hb:b=a
   ·exact .inr ⟨_,_,if_pos hb⟩
   ·exact .inl (if_neg hb)
  ·by_cases hb:b=a
   ·have z':=(if_pos hb).symm.trans z;cases z';subst hb;exact ⟨ha,by rw [List.length_map]; exact hl,vs,_,rv,ha⟩
   ·have z':=(if_neg hb).symm.trans z;cases z'
  ·by_cases hb:b=a
   ·exact hb
   ·exact absurd (if_neg hb) z
noncomputable abbrev KOf {K:Frag} {h:Heap} (_:K.In h):Frag:=K
theorem pP {l:PySem.W.OpenLaw} {n:Nat} {q:Program} {loose:List Str} {XP:(Str->Option Value)->Heap->Prop} {α:Type} {Yf:Shared->α} {Ya:World->α} {d:DefRec}
  (hn:l.most=some n) (hdf:d.params.defaults=[])
  (call:∀ (w:World) (s₀ s₁:Shared) (mg mb:Str->Option Value) (fa a:Addr) (vs:List Value) (ns:List Int),
   PySem.W.Ground q loose [] XP w s₀ mg mb s₁.heap->Yf s₀ = Ya w->(∀ b o,s₀.heap.get? b=some o->s₁.heap.get? b=some o)->s₀.toks<=s₁.toks->mg d.name=some (.ref fa) ->
   s₁.heap.get? a=some { cls:=.type "list",data:=.seq vs.toArray }->IntsAre vs ns->ns.length<=n->s₁.gens=#[] ->
   codeAny (model l.prog w) callerA (.call (.ref fa) ⟨[.ref a],[]⟩) (fun r s'=>r=.ok (.ret (.bool true))/\OldK s₁.heap s'.heap/\s'.os=s₁.os/\AllBare s'.gens) s₁):
  PySem.W.WalkX q loose XP Yf Ya l.row.toRowW d [] (fun f vs=>PySem.call f vs):=by
 intro w s₀ s₁ mg mb G Y fa o pm cd doc dV kV ho hd hcd hD hmg hg args vals as L hpre hlay hrd hwl hlo;obtain ⟨a,vs,ns,rfl,rfl,hobj,hints,hlen⟩:=Att.script_of hn hpre hwl;have ht:s₀.toks<=s₁.toks:=by
  obtain ⟨ord,_,e⟩:=L.laid;exact (PySem.W.layAllW_grows _ _ _ e).toks
 refine PySem.W.enter_call (codeAny_mono (call w s₀ s₁ mg mb fa a vs ns G Y L.keeps ht hmg hobj hints hlen hg) fun r s' hq=>?_);obtain ⟨rfl,h2,h3,h4⟩:=hq;exact ⟨.inl ⟨.bool true,.bool true,[],rfl,fun _=>rfl,.bool true,Att.post_true l _,fun _=>⟨List.Pairwise.nil,fun _ hm=>(nomatch hm)⟩⟩,h2,h3,h4⟩
theorem walk_ofX {l:PySem.W.OpenLaw} {n k:Nat} {q:Program} {loose:List Str} {XP:(Str->Option Value)->Heap->Prop} {α:Type} {Yf:Shared->α} {Ya:World->α} {d:DefRec} {K:Params->Frag} {CX:World->CXT} {sp:World->Sp} {x:Str}
  (hn:l.most=some n) (hn2:n<=sizeLine) (hdf:d.params.defaults=[]) (hr:Room k callerA)
  (hY:∀ (w:World) (s:Shared),Yf s=Ya w->(K w.params).In s.heap/\0 < s.toks)
  (F:∀ (w:World) (mg:Str->Option Value) (fa:Addr) (h:Heap),(K w.params).In h->h.Ns mainGlobals mg->mg d.name=some (.ref fa) ->
   ∃ fd:FuncData,(∀ (s:Shared) (u:Value),BindsTo s fd ⟨[u],[]⟩ [(x,u)]) /\
    ∀ base:Heap,(K w.params).In base->base.Ns mainGlobals mg->FnOk l.prog w (K w.params) mg base (CX w) k fa fd [x] (sp w))
  (hsp:∀ (w:World) (H:Hp) (a:Addr) (ns:List Int),ns.length<=n->Only H->SqL (K w.params) H a (ns.map V.int)->sp w [.ref a] H (fun v _=>v=.bl true) fun _ _ _=>False)
  (hCX:∀ (w:World) (H:Hp) (s:Shared) (e:Value) (s':Shared),CX w [] H s (fun _ _ _=>False) e s'->False):
  PySem.W.WalkX q loose XP Yf Ya l.row.toRowW d [] (fun f vs=>PySem.call f vs):=by
 refine pP hn hdf fun w s₀ s₁ mg mb fa a vs ns G Y kp ht hmg hobj hints hlen hg=>?_
 obtain ⟨K0,t0⟩:=hY w s₀ Y;have KX:(K w.params).In s₁.heap:=fun b o e=>kp b o (K0 b o e)
 obtain ⟨fd,hb,hF⟩:=F w mg fa _ KX G.T.g hmg;exact vj KX G.T.g G.T.b G.T.builtins G.T.nolimit hg (Nat.lt_of_lt_of_le t0 ht) hobj hints (Nat.le_trans hlen hn2) hr hF hb (fun H hO hS=>hsp w H a ns hlen hO hS) fun H e s'=>hCX w H s₁ e s'
noncomputable def inClass (s:Stmt) (j:Nat):Stmt:=match s with
 | .ClassDef _ _ _ body _ _ _ _ _ _ _=>body.getD j (.Pass ⟨0,0,0,0⟩)
 | _=>.Pass ⟨0,0,0,0⟩
noncomputable def defArgs (s:Stmt):Arguments:=match s with
 | .FunctionDef _ a _ _ _ _ _ _ _ _=>a
 | _=>{ posonlyargs:=[],args:=[],vararg:=none,kwonlyargs:=[],kw_defaults:=[],kwarg:=none,defaults:=[] }
noncomputable def defBody (s:Stmt):List Stmt:=match s with
 | .FunctionDef _ _ b _ _ _ _ _ _ _=>b
 | _=>[]
noncomputable def defScope (s:Stmt):Scope:=match s with
 | .FunctionDef _ _ _ _ _ _ sc _ _ _=>sc
 | _=>{ kind:=.function,names:=[],isGenerator:=false,isCoroutine:=false }
noncomputable abbrev CX0:CXT:=fun _ _ _ _ _ _=>False
noncomputable abbrev E0:XK:=fun _ _ _=>False
theorem pass0 {X:Cx}:Passes CX0 X E0:=fun _ _ _ _ _ _ _ h=>h.elim
structure Fun (K:Frag) (x qual:Str) (st:Stmt) (f:Addr) (fd:FuncData):Prop where
 ex:Ex7 fun (oc:Value) (od:Option Addr) (kV doc pm:Value) (an:Option Addr) (cdv:Value)=>Ex2 fun (ct:Value) (osl:Array (Option Value))=>
  fd=fnOf x qual (defArgs st) (defBody st) (defScope st) .none kV doc pm an cdv ct/\K.lookup f=some ⟨oc,od,.func fd,osl⟩/\codeIn K cdv qual=true
 kp:keepIn K (.ref f)=true
section
variable {P:Program} {w:World} {K:Frag} {mg:Str->Option Value} {base:Heap}
theorem Fun.ok {x qual:Str} {st:Stmt} {f:Addr} {fd:FuncData} {N ps:List Str} {k:Nat} {sp:Sp} (F:Fun K x qual st f fd) (S:FnScope N ps (defScope st)) (len:∀ vs H Q E,sp vs H Q E->vs.length=ps.length)
  (hbody:∀ (cdv:Value) (A:Around) (outer:List Env) (s:Shared) (H:Hp) (vs:List V) (Q:VK) (E:XK),Room k (A.deeper (envOfC qual (defScope st) s.heap.objs.size f cdv))->sp vs H Q E ->
   ∃ t,PSs (cxOf CX0 P w K mg base N qual (defScope st) f cdv A outer s H E).nox (defBody st) t/\t { nx:=fun _ H'=>Q .non H',rt:=Q } (start N vs) H):FnOk P w K mg base CX0 (k+1) f fd ps sp:=by
 obtain ⟨oc,od,kV,doc,pm,an,cdv,ct,osl,rfl,lk,hcd⟩:=F.ex;refine xJ lk hcd S len fun A outer s H vs Q E hr hsp=>?_
 obtain ⟨t,h,q⟩:=hbody cdv A outer s H vs Q E hr hsp;exact ⟨t,h.nox,q⟩
theorem Fun.binds {x qual:Str} {st:Stmt} {f:Addr} {fd:FuncData} {ps:List Str} (F:Fun K x qual st f fd)
  (h:∀ (kV doc pm:Value) (an:Option Addr) (cdv ct:Value) (us:List Value),us.length=ps.length->bindArgs (fnOf x qual (defArgs st) (defBody st) (defScope st) .none kV doc pm an cdv ct) ⟨us,[]⟩=pure (ps.zip us)):Binds K fd ps []:=by
 obtain ⟨oc,od,kV,doc,pm,an,cdv,ct,osl,rfl,lk,hcd⟩:=F.ex;exact .all (h kV doc pm an cdv ct)
theorem dX {x qual:Str} {st:Stmt} {f:Addr} {oc:Value} {od an:Option Addr} {osl:Array (Option Value)} {kV doc pm cdv ct:Value} (l:K.lookup f=some ⟨oc,od,.func (fnOf x qual (defArgs st) (defBody st) (defScope st) .none kV doc pm an cdv ct),osl⟩)
  (c:codeIn K cdv qual=true) (k:keepIn K (.ref f)=true):Fun K x qual st f (fnOf x qual (defArgs st) (defBody st) (defScope st) .none kV doc pm an cdv ct):=⟨⟨oc,od,kV,doc,pm,an,cdv,ct,osl,rfl,l,c⟩,k⟩
end
theorem jS {A:Around} {k:Nat} (hr:Room k A):A.units+1 < cLine:=Nat.lt_of_le_of_lt (Nat.add_le_add_left (by decide:1<=64) _) hr.units
section
variable {X:Cx}
theorem pv (i:Nat) {x:Str} {pos:Pos} (hN:X.N[i]? = some x:=by rfl) (hv:Vis X.env.scope x:=by first | exact Or.inl rfl | exact Or.inr (Or.inl rfl) | exact Or.inr (Or.inr rfl)) (hd:(x == ("__debug__" : Str))=false:=by decide)
  (hcd:(x == ("__classdict__" : Str))=false:=by decide):PE X (.Name x pos) (tVar i):=uY hN hv hd hcd
end
theorem ite2 {c A B:Prop} [Decidable c] (h1:c->A) (h2:¬ c->B):if c then A else B:=by
 by_cases h:c
 ·rw [if_pos h];exact h1 h
 ·rw [if_neg h];exact h2 h
def Same (H H':Hp):Prop:=∀ b o,H b=some o->H' b=some o
theorem Same.refl (H:Hp):Same H H:=fun _ _ h=>h
theorem Same.trans {H H1 H2:Hp} (a:Same H H1) (b:Same H1 H2):Same H H2:=fun c o h=>b c o (a c o h)
theorem Same.free {H H':Hp} (e:Same H H') {l:Addr} (h:H' l=Option.none):H l=Option.none:=by
 cases q:H l with
 | none=>rfl
 | some o=>
  rw [e l o q] at h;cases h
theorem Same.seq {K:Frag} {H H':Hp} {a:Addr} {xs:List V} (e:Same H H') (h:SqL K H a xs):SqL K H' a xs:=by
 rcases h with (h | ⟨o,h⟩) | h
 ·exact .inl (.inl (e _ _ h))
 ·exact .inl (.inr ⟨o,e _ _ h⟩)
 ·exact .inr h
section
variable {X:Cx} {pins:List (Addr × Obj)} {σ:St} {H H':Hp} {s:Shared} {h':Heap}
theorem Inv.turnedL {t':Nat} {its:List Addr} (I:Inv X pins σ H s) (k:∀ b o,b ∉ its->s.heap.get? b=some o->h'.get? b=some o) (hf:∀ b ∈ its,FpOk X pins H b) (ht:0 < t':=by first | assumption | exact Nat.succ_pos _ | (apply Inv.tk; assumption) | omega):Inv X pins σ H { s with heap:=h',toks:=t' }:=by
 have nit:∀ b u,H b=some u->b ∉ its:=fun b u e z=>by
  have q:=(hf b z).1;rw [q] at e;cases e
 refine I.step (g':=s.gens) (d':=s.drawn) (ch:=its) (fun b hb=>?_) (fun b o _ _ hc e _=>k b o hc e) (fun b o _ _ hc e _=>⟨o.slots,k b o hc e⟩) (fun _ _ _ _ n=>n)
  (fun b o hc e=>⟨o,k b o hc e⟩) (fun _ _ e=>e) (fun _ _ _ e=>e) (fun b ps e=>⟨#[],by rw [e]; simp⟩) (fun m hm=>?_) (fun b u e=>?_) I.bare
 ·obtain ⟨f0,f1,f2,f3,f4,f5⟩:=hf b hb;exact ⟨f3,f1,f4,f5⟩
 ·obtain ⟨o,es,ep,ho,r⟩:=hm;exact ⟨o,es,ep,k _ o (fun z=>(hf _ z).2.1 rfl) ho,r⟩
 ·refine (I.hok b u e).stay (fun c v hc q=>k c v ?_ q) (fun _ q=>q) fun _ _ q=>q
  rcases hc with z | z
  ·rw [z]; exact nit b u e
  ·exact nit c _ z
end
theorem rS (x:Str):["enumerate", "zip", "dict_itemiterator", "dict_reverseitemiterator", "odict_iterator", "itertools.zip_longest", "itertools.pairwise"].contains (strIterType x)=false:=by
 unfold strIterType;split <;> decide
section
variable {prog:Program} {w:World} {A:Around} {E:Value->Shared->Prop} {s:Shared}
theorem dD (x:Str):strIterType x = "str_ascii_iterator" \/ strIterType x = "str_iterator" := by
 unfold strIterType;split
 ·exact .inl rfl
 ·exact .inr rfl
theorem oe {it:Addr} {x:Str} {t:Tok} {i c:Nat} {Q:Option Value->Shared->Prop} (hit:s.heap.IsStrIter it (strIterType x) x t i) (hx:x.cps[i]? = some c)
  (hQ:∀ h',h'.IsStrIter it (strIterType x) x t (i+1)->Heap.SameBut it s.heap h'->Q (some (.str ⟨#[c]⟩ s.toks)) { s with heap:=h',toks:=s.toks+1 }):
  wpAny (model prog w) A (pyNext (.ref it)) Q E s:=by
 rcases dD x with e | e
 ·rw [e] at hit;simp only [e] at hQ;exact wpAny_pyNext_ascii_item hit hx hQ
 ·rw [e] at hit;simp only [e] at hQ;exact wpAny_pyNext_wide_item hit hx hQ
theorem pF {it:Addr} {x:Str} {t:Tok} {i:Nat} {Q:Option Value->Shared->Prop} (hh:A.handled=none) (hit:s.heap.IsStrIter it (strIterType x) x t i) (hx:x.cps[i]? = none)
  (hQ:∀ h',Heap.ExtBut it s.heap h'->Q none { s with heap:=h' }):wpAny (model prog w) A (pyNext (.ref it)) Q E s:=by
 rcases dD x with e | e
 ·rw [e] at hit;exact wpAny_pyNext_ascii_end hh hit hx hQ
 ·rw [e] at hit;exact wpAny_pyNext_wide_end hh hit hx hQ
theorem nR {it:Addr} {x:Str} {t:Tok} {i:Nat} {Q:Value->Shared->Prop} (hit:s.heap.IsStrIter it (strIterType x) x t i) (h:Q (.ref it) s):wpAny (model prog w) A (pyIter (.ref it)) Q E s:=by
 rcases dD x with e | e
 ·rw [e] at hit;exact wpAny_pyIter_striter_ascii hit h
 ·rw [e] at hit;exact wpAny_pyIter_striter_wide hit h
end
noncomputable def Its (x:Str):It:=⟨fun i _=>i < x.cps.size,fun i H v H'=>H'=H/\∃ c,x.cps[i]? = some c/\v=.str ⟨#[c]⟩,fun i _=>x.cps.size<=i⟩
theorem qA {h:Heap} {it:Addr} {ty:String} {x:Str} {t:Tok} {i:Nat} (st:h.IsStrIter it ty x t i):∃ o,h.get? it=some o/\∀ v,o.data≠.cell v:=by
 obtain ⟨o,e,c,d⟩:=st;exact ⟨o,e,fun v z=>by rw [d] at z; cases z⟩
theorem uE {P:Program} {w:World} {K:Frag} {tg:Expr} (x:Str) (t:Tok) (it:Addr):Turn P w K tg (Its x) [it] it (fun i h=>h.IsStrIter it (strIterType x) x t i) where
 mem:=by simp
 obj:=fun i h st b hb=>by
  have e:b=it:=by simpa using hb
  subst e;exact qA st
 keep:=fun i h h' st k=>by
  obtain ⟨o,e,r⟩:=st;exact ⟨o,k it (by simp) o e,r⟩
 item:=by
  intro X hP hw hK hc i pins s σ H E I hf st hg;subst hP hw hK;have hi:i < x.cps.size:=hg;refine oe st (c:=x.cps[i]) (by simp [hi]) fun h' st' sb=>?_
  have I1:Inv X pins σ H { s with heap:=h',toks:=s.toks+1 }:=I.turnedL (its:=[it]) (fun b o hb e=>(sb.2 b (by simpa using hb)).trans e) hf;obtain ⟨o,e,c,d⟩:=id st';exact ⟨_,rfl,sH (s:={ s with heap:=h',toks:=s.toks+1 }) e c d (rS x) ⟨.str ⟨#[x.cps[i]]⟩,H,I1,⟨_,rfl⟩,⟨rfl,_,by simp [hi],rfl⟩,st',fun b hb=>(hf b hb).1⟩⟩
 done:=by
  intro X hP hw hK hc i pins s σ H E I hf st hg;subst hP hw hK;have hi:x.cps.size<=i:=hg;exact pF (I.ok.hd hc) st (by simp [hi]) fun h' eb=>⟨rfl,I.turnedL (t':=s.toks) (its:=[it]) (fun b o hb e=>eb b o (by simpa using hb) e) hf⟩
 self:=fun _ _ _ _ _ st h=>nR st h
section
variable {X:Cx} {tg e:Expr} {te:TE}
end
theorem yl {J:It} {n:Nat} {g:TG} {tb:TS} {D:Ends} {σ:St} {H:Hp} (Pv:Nat->St->Hp->Prop) (h0:Pv 0 σ H) (hgo:∀ i σ H,i < n->Pv i σ H->J.go i H) (hst:∀ σ H,Pv n σ H->J.stop n H)
  (hs:∀ i σ H x H',i < n->Pv i σ H->J.yld i H x H'->g x σ H' fun σ2 H2=>tb { D with nx:=Pv (i+1),ct:=Pv (i+1),bk:=D.nx } σ2 H2) (hd:∀ σ H,Pv n σ H->D.nx σ H):
  ∃ W:Nat->Nat->St->Hp->Prop,(∃ m,W 0 m σ H)/\∀ i m σ H,W i m σ H ->
   (J.stop i H/\D.nx σ H)\/(J.go i H/\∃ N:St->Hp->Prop,(∀ σ' H',N σ' H'->∃ m',m' < m/\W (i+1) m' σ' H')/\∀ x H',J.yld i H x H'->g x σ H' fun σ2 H2=>tb { D with nx:=N,ct:=N,bk:=D.nx } σ2 H2):=by
 refine ⟨fun i m σ H=>m=n - i/\i<=n/\Pv i σ H,⟨n,by simp,Nat.zero_le _,h0⟩,?_⟩;rintro i m σ H ⟨rfl,hi,p⟩;by_cases hlt:i < n
 ·exact .inr ⟨hgo i σ H hlt p,Pv (i+1),fun σ' H' p'=>⟨n - (i+1),by omega,rfl,hlt,p'⟩,fun x H' y=>hs i σ H x H' hlt p y⟩
 ·have e:i=n:=by omega
  subst e;exact .inl ⟨hst σ H p,hd σ H p⟩
section
variable {prog:Program} {w:World} {A:Around} {E:Value->Shared->Prop} {s:Shared}
end
section
variable {X:Cx} {pins:List (Addr × Obj)} {σ:St} {H:Hp} {s:Shared} {A:Around}
end
section
variable {prog:Program} {w:World} {A:Around} {E:Value->Shared->Prop} {s:Shared}
end
section
variable {prog:Program} {w:World} {A:Around} {E:Value->Shared->Prop} {s:Shared}
end
section
variable {X:Cx}
end
noncomputable def clOf (cells:List (Str × Addr)):List (Str × NameKind)->List (Str × Addr)->List (Str × Addr)
 | [],cs=>cs
 | (n,k)::r,cs=>clOf cells r (if (k == NameKind.free)=true then (n,(cells.lookup n).getD 0)::cs else cs)
theorem iY {scope:Scope} {env:Env} (h:∀ y ∈ scope.names,y.2=.free->∃ c,env.cells.lookup y.1=some c):closureFor scope env=pure (clOf env.cells scope.names []):=by
 unfold closureFor;have key:∀ (names:List (Str × NameKind)) (cs:List (Str × Addr)),(∀ y ∈ names,y.2=.free->∃ c,env.cells.lookup y.1=some c) ->
   (forIn names cs (fun x r=>match x with
    | (name,kind)=>if (kind == NameKind.free)=true then (do let __do_lift <- cellOf env name; pure (ForInStep.yield ((name,__do_lift)::r))) else pure (ForInStep.yield r)):Sem (List (Str × Addr)))=pure (clOf env.cells names cs):=by
  intro names
  induction names with
  | nil=>intro cs _; rfl
  | cons y r ih=>
   intro cs hy;obtain ⟨n,k⟩:=y;rw [List.forIn_cons];have hr:∀ y ∈ r,y.2=.free->∃ c,env.cells.lookup y.1=some c:=fun y hm=>hy y (List.mem_cons_of_mem _ hm)
   cases hk:(k == NameKind.free) with
   | true=>
    have hk':k=.free:=by simpa using hk
    obtain ⟨c,hc⟩:=hy (n,k) List.mem_cons_self hk';have ec:cellOf env n=pure c:=by unfold cellOf; rw [hc]
    have e1:(clOf env.cells ((n,k)::r) cs)=clOf env.cells r ((n,c)::cs):=by
     show clOf env.cells r (if (k == NameKind.free)=true then (n,(env.cells.lookup n).getD 0)::cs else cs)=_;rw [hk,if_pos rfl,show env.cells.lookup n=some c from hc];rfl
    rw [e1,<- ih _ hr];simp only [ec,hk,if_true,pure_bind]
   | false=>
    have e1:(clOf env.cells ((n,k)::r) cs)=clOf env.cells r cs:=by
     show clOf env.cells r (if (k == NameKind.free)=true then (n,(env.cells.lookup n).getD 0)::cs else cs)=_;rw [hk,if_neg Bool.false_ne_true]
    rw [e1,<- ih _ hr];simp only [hk,Bool.false_eq_true,if_false,pure_bind]
 have q:=key scope.names [] h
 first
  | exact q
  | (simp only [bind_pure]; exact q)
  | (rw [q]; rfl)
theorem nn {cells:List (Str × Addr)} {x:Str} {c:Addr}:∀ (names:List (Str × NameKind)) (cs:List (Str × Addr)),(∀ y ∈ names,y.2=.free->∃ c,cells.lookup y.1=some c)->(∀ x c,cs.lookup x=some c->cells.lookup x=some c) ->
  (clOf cells names cs).lookup x=some c->cells.lookup x=some c
 | [],cs,_,h,e=>h x c e
 | (n,k)::r,cs,hn,h,e=>by
  unfold clOf at e;refine nn r _ (fun y hm=>hn y (List.mem_cons_of_mem _ hm)) (fun x c q=>?_) e;split at q
  ·rename_i hk;have hk':k=.free:=by simpa using hk
   obtain ⟨c',hc⟩:=hn (n,k) List.mem_cons_self hk';rw [List.lookup_cons] at q;cases hx:(x == n) with
   | true=>
    rw [hx] at q;have hx':x=n:=by simpa using hx
    subst hx';rw [hc] at q;simp at q;rw [hc,q]
   | false=>
    rw [hx] at q;exact h x c q
  ·exact h x c q
theorem nH {cells:List (Str × Addr)} {x:Str}:∀ (names:List (Str × NameKind)) (cs:List (Str × Addr)),(cs.lookup x).isSome=true->((clOf cells names cs).lookup x).isSome=true
 | [],cs,h=>h
 | (n,k)::r,cs,h=>by
  unfold clOf;refine nH r _ ?_;split
  ·rw [List.lookup_cons];split
   ·rfl
   ·exact h
  ·exact h
theorem mP {cells:List (Str × Addr)} {x:Str}:∀ (names:List (Str × NameKind)) (cs:List (Str × Addr)),(x,NameKind.free) ∈ names->((clOf cells names cs).lookup x).isSome=true
 | [],_,h=>by cases h
 | (n,k)::r,cs,h=>by
  unfold clOf;rcases List.mem_cons.mp h with e | e
  ·cases e;refine nH r _ ?_;simp
  ·exact mP r _ e
theorem fY (env:Env) (x:Str):∀ names:List (Str × NameKind),
  (names.map fun (n,k)=>if (k == NameKind.free && env.scope.kind == .function && env.kindOf n == some .cell) then (n,NameKind.cell) else (n,k)).lookup x =
   (names.lookup x).map fun k=>if (k == NameKind.free && env.scope.kind == .function && env.kindOf x == some .cell)=true then .cell else k
 | []=>rfl
 | (n,k)::r=>by
  have ih:=fY env x r;simp only [List.map_cons];cases hx:(x == n) with
  | true=>
   have hx':x=n:=by simpa using hx
   subst hx';by_cases hc:(k == NameKind.free && env.scope.kind == .function && env.kindOf x == some .cell)=true
   ·rw [if_pos hc,List.lookup_cons,List.lookup_cons,hx];show some NameKind.cell=some (if (k == NameKind.free && env.scope.kind == .function && env.kindOf x == some .cell)=true then NameKind.cell else k);rw [if_pos hc]
   ·rw [if_neg hc,List.lookup_cons,List.lookup_cons,hx];show some k=some (if (k == NameKind.free && env.scope.kind == .function && env.kindOf x == some .cell)=true then NameKind.cell else k);rw [if_neg hc]
  | false=>
   by_cases hc:(k == NameKind.free && env.scope.kind == .function && env.kindOf n == some .cell)=true
   ·rw [if_pos hc];simp only [List.lookup_cons,hx];exact ih
   ·rw [if_neg hc];simp only [List.lookup_cons,hx];exact ih
structure CScope (scope:Scope):Prop where
 kind:scope.kind=.function
 nocell:∀ y ∈ scope.names,y.2≠.cell
 loc:∀ y ∈ scope.names,y.2=.local->scope.names.lookup y.1=some .local
noncomputable def cxC (X:Cx) (scope:Scope) (cl:List (Str × Addr)) (N':List Str) (C:Addr) (s:Shared) (H:Hp) (ex:List Addr):Cx:=
 { X with N:=N',s₀:=s,H₀:=H,env:=compEnvC scope cl C X.env,outer:=X.stack,ex:=ex,fn:=fun _=>false,pn:=[],xe:=fun _ _=>False }
noncomputable def compσ (nt:Nat) (fi:List Nat) (σ:St):St:=List.replicate nt none++fi.map fun j=>(σ[j]?).getD none
structure CNames (X:Cx) (scope:Scope) (nt:Nat) (fi:List Nat) (N':List Str):Prop where
 len:N'.length=nt+fi.length
 cap:∀ k j:Nat,fi[k]? = some j->∃ x,N'[nt+k]? = some x/\X.N[j]? = some x/\scope.names.lookup x=some .free
 fre:∀ y ∈ scope.names,y.2=.free->X.env.scope.names.lookup y.1=some .cell\/X.env.scope.names.lookup y.1=some .free
def GK (nt:Nat) (g:TG):Prop:=∀ x σ H Q,g x σ H Q->g x σ H fun σ' H'=>Q σ' H'/\σ'.length=σ.length/\σ'.drop nt=σ.drop nt
def PIf (X:Cx) (ifs:List Expr) (t:TT):Prop:=
 ∀ (pins:List (Addr × Obj)) (s:Shared) (σ:St) (H:Hp) (Q:Bool->Hp->Prop),Inv X pins σ H s->t σ H Q ->
  wpAny (model X.prog X.w) X.A (forIn ifs true fun c r=>if r=true then do let ok <- isTrue c X.env (eval c X.env); pure (ForInStep.yield ok) else pure (ForInStep.yield r)) (TP X pins σ Q) X.xe s
noncomputable def tYes:TT:=fun _ H Q=>Q true H
theorem bd {X:Cx}:PIf X [] tYes:=fun pins s σ H Q I h=>wpAny_tests_nil ⟨H,I,h⟩
theorem cN {X:Cx} {c:Expr} {t:TT} (h:PT X c t):PIf X [c] t:=fun pins s σ H Q I q=>wpAny_tests_one (h pins s σ H Q I q)
theorem aQ {nt i:Nat} (hi:i < nt):GK nt (gName i):=fun x σ H Q h=>by
 refine ⟨h,?_,?_⟩
 ·rw [List.length_set]
 ·rw [List.drop_set_of_lt hi]
theorem fq {K:Frag} {nt i j n:Nat} (hi:i < nt) (hj:j < nt):GK nt (gTup K n (gCons (gName i) (gCons (gName j) gNil))):=fun x σ H Q h=>by
 obtain ⟨a,xs,e,hq,hl,v,r,e1,v',r',e2,e3,q⟩:=h;refine ⟨a,xs,e,hq,hl,v,r,e1,v',r',e2,e3,q,?_,?_⟩
 ·rw [List.length_set,List.length_set]
 ·rw [List.drop_set_of_lt hj,List.drop_set_of_lt hi]
theorem vY {K:Frag} {nt i j k n:Nat} (hi:i < nt) (hj:j < nt) (hk:k < nt):GK nt (gTup K n (gCons (gName i) (gCons (gName j) (gCons (gName k) gNil)))):=fun x σ H Q h=>by
 obtain ⟨a,xs,e,hq,hl,v,r,e1,v',r',e2,v'',r'',e3,e4,q⟩:=h;refine ⟨a,xs,e,hq,hl,v,r,e1,v',r',e2,v'',r'',e3,e4,q,?_,?_⟩
 ·rw [List.length_set,List.length_set,List.length_set]
 ·rw [List.drop_set_of_lt hk,List.drop_set_of_lt hj,List.drop_set_of_lt hi]
section
variable {prog:Program} {w:World} {A:Around} {R:Result->Shared->Prop} {s:Shared}
theorem thnF {α:Type} {t:Sem α} {Q Q':α -> Shared->Prop} {M:Model} {E:Value->Shared->Prop} (h:wpAny M A t Q (fun _ _=>False) s) (hQ:∀ a s,Q a s->Q' a s):wpAny M A t Q' E s:=wpAny_mono h hQ fun _ _ f=>f.elim
theorem kA {elt target iter:Expr} {ifs:List Expr} {scope:Scope} {pos:Pos} {it acc:Value} {env:Env} (I:Nat->Shared->Prop)
  (turn:∀ n s,I n s->wpAny (model prog w) A (pyNext it) (fun r s₁=>match r with
   | none=>R (.ok .next) s₁
   | some v=>wpAny (model prog w) A (letOwnedTupleGo target it v) (fun _ s₂=>wpAny (model prog w) A (assign target env v) (fun _ s₃=>
     wpAny (model prog w) A (forIn ifs true fun c r=>if r=true then do let ok <- isTrue c env (eval c env); pure (ForInStep.yield ok) else pure (ForInStep.yield r)) (fun ok s₄=>
      if ok=true then wpAny (model prog w) A (eval elt env) (fun x s₅=>wpAny (model prog w) A (call (.builtin "list.append") [acc,x]) (fun _ s₆=>∃ m,m < n/\I m s₆) (fun _ _=>False) s₅) (fun _ _=>False) s₄
      else ∃ m,m < n/\I m s₄) (fun _ _=>False) s₃) (fun _ _=>False) s₂) (fun _ _=>False) s₁) (fun _ _=>False) s)
  (n:Nat) (h:I n s):codeAny (model prog w) A (.compLoop (.ListComp elt [⟨target,iter,ifs,0⟩] scope pos) 0 it acc env) R s:=by
 refine codeAny_loop rfl I (fun n s hI=>?_) n h;show wpAny _ A ((compTurn (.ListComp elt [⟨target,iter,ifs,0⟩] scope pos) 0 it acc env).onRaise (fun x=>do noteFrame x env; theTreesLotGoes x)) _ _ s;refine wpAny_noted ?_;rw [compTurn_list];refine wpAny_bind (wpAny_standAt (wpAny_bind (thnF (turn n s hI) fun r s₁ h₁=>?_)));cases r with
 | none=>exact wpAny_pure h₁
 | some v=>
  refine wpAny_bind (thnF h₁ fun _ s₂ h₂=>wpAny_bind (thnF h₂ fun _ s₃ h₃=>wpAny_bind (thnF h₃ fun ok s₄ h₄=>?_)));cases ok with
  | false=>exact wpAny_pure ⟨rfl,h₄⟩
  | true=>exact wpAny_bind (wpAny_bind (thnF h₄ fun x s₅ h₅=>wpAny_bind (thnF h₅ fun _ s₆ h₆=>wpAny_pure (wpAny_pure ⟨rfl,h₆⟩))))
end
noncomputable def tComp (nt:Nat) (fi:List Nat) (wi:TI) (g:TG) (tc:TT) (te:TE):TE:=fun σ H Q=>wi σ H fun J H1=>∀ D,H1 D=none ->
 ∃ W:Nat->Nat->List V->Hp->Prop,(∃ m,W 0 m [] (upd H1 D (.lst [])))/\∀ i m acc H2,W i m acc H2 ->
  (J.stop i H2/\Q (.ref D) H2)\/(J.go i H2/\∀ x H3,J.yld i H2 x H3->g x (compσ nt fi σ) H3 fun σ4 H4=>tc σ4 H4 fun b H5=>if b=true then
   te σ4 H5 fun v H6=>H6 D=some (.lst acc)/\acc.length < sizeLine/\∃ m',m' < m/\W (i+1) m' (acc++[v]) (upd H6 D (.lst (acc++[v]))) else ∃ m',m' < m/\W (i+1) m' acc H5)
theorem compσ_weak {nt:Nat} {fi:List Nat} {σ σ':St} (hl:σ'.length=(compσ nt fi σ).length) (hd:σ'.drop nt=(compσ nt fi σ).drop nt):∀ (i:Nat) v,(compσ nt fi σ)[i]? = some (some v)->σ'[i]? = some (some v):=fun i v e=>by
 by_cases hi:i < nt
 ·unfold compσ at e;rw [List.getElem?_append_left (by simpa using hi),List.getElem?_replicate] at e;split at e <;> cases e
 ·have ei:i=nt+(i - nt):=by lia
  have q:=congrArg (fun l=>l[i - nt]?) hd;simp only [List.getElem?_drop] at q;rw [<- ei] at q;rw [q];exact e
section
variable {X:Cx}
theorem qh {pins:List (Addr × Obj)} {σ:St} {H:Hp} {s:Shared} {scope:Scope} {nt:Nat} {fi:List Nat} {N':List Str} {fp:List Addr} {h₁:Heap} {m:Str->Option Value} {tk:Nat}
  (I:Inv X pins σ H s) (S:CScope scope) (cn:CNames X scope nt fi N') (hf:∀ b ∈ fp,FpOk X pins H b) (ho:∀ b ∈ fp,∃ o,s.heap.get? b=some o)
  (hns:h₁.Ns s.heap.objs.size m) (kp:∀ b o,s.heap.get? b=some o->h₁.get? b=some o) (htk:0 < tk):
  Inv (cxC X scope (clOf X.env.cells scope.names []) N' s.heap.objs.size s H fp) (X.pn++pins) (compσ nt fi σ) H { s with heap:=h₁,toks:=tk }:=by
 have hfr:∀ y ∈ scope.names,y.2=.free->∃ c,X.env.cells.lookup y.1=some c:=fun y hy e=>I.ok.has y.1 (cn.fre y hy e)
 have snd:∀ x c,(clOf X.env.cells scope.names []).lookup x=some c->X.env.cells.lookup x=some c:=fun x c e=>nn scope.names [] hfr (fun _ _ q=>by simp at q) e
 have offstk:∀ b,b≠X.env.locals->b ∉ X.fs->b ∉ frs X.stack:=fun b h1 h2 h3=>by
  rcases List.mem_cons.mp (I.stkSub b h3) with e | e
  ·exact h1 e
  ·exact h2 e
 have lt:∀ {b o},s.heap.get? b=some o->b≠s.heap.objs.size:=fun e=>Nat.ne_of_lt (Heap.lt_size e)
 have kinds:∀ x k,(relabel scope X.env).names.lookup x=some k->(k=.cell\/k=.free)->(x,NameKind.free) ∈ scope.names:=fun x k e hk=>by
  have e':(scope.names.map fun (n,k)=>if (k == NameKind.free && X.env.scope.kind == .function && X.env.kindOf n == some .cell) then (n,NameKind.cell) else (n,k)).lookup x=some k:=e;rw [fY] at e';cases q:scope.names.lookup x with
  | none=>rw [q] at e'; cases e'
  | some k'=>
   have mem:(x,k') ∈ scope.names:=PySem.mem_of_lookup q;rw [q] at e';simp only [Option.map_some,Option.some.injEq] at e';split at e'
   ·rename_i hc;simp only [Bool.and_eq_true,beq_iff_eq] at hc;rw [hc.1.1] at mem;exact mem
   ·subst e';rcases hk with z | z
    ·subst z;exact absurd rfl (S.nocell _ mem)
    ·subst z;exact mem
 refine ⟨⟨I.ok.mod,S.kind,I.ok.glob,I.ok.blt,Nat.le_refl _,fun x y c e1 e2=>I.ok.inj x y c (snd x c e1) (snd y c e2),fun x hx=>?_,fun x c e=>(nomatch e),I.ok.hd,I.ok.frames,.inl rfl,fun b hb=>⟨?_,fun x c e=>(hf b hb).2.2.2.2.1 x c (snd x c e)⟩,I.bs,?_,fun b o e hb=>?_,fun b hb=>offstk b (hf b hb).2.1 (hf b hb).2.2.1,I.stack,I.stkFree⟩,
  rfl,I.bare,Un.kept kp,⟨m,hns,fun i x v e1 e2 e3=>?_⟩,fun x c e=>?_,I.hok.fresh (Nat.le_refl _),fun x c e=>I.freeC x c (snd x c e),fun p hp=>?_,I.hok.kept kp,?_,htk⟩
 ·have hx':(relabel scope X.env).names.lookup x=some .cell\/(relabel scope X.env).names.lookup x=some .free:=hx;have mem:(x,NameKind.free) ∈ scope.names:=by
   rcases hx' with q | q
   ·exact kinds x _ q (.inl rfl)
   ·exact kinds x _ q (.inr rfl)
  exact Option.isSome_iff_exists.mp (mP scope.names [] mem)
 ·obtain ⟨o,e⟩:=ho b hb;exact lt e
 ·exact Nat.le_trans I.ok.bsz I.sz
 ·rcases (hf b hb).2.2.2.1 with q | q
  ·exact I.ok.noex b o e q
  ·exact absurd (Nat.lt_of_lt_of_le (Heap.lt_size e) (Nat.le_trans I.ok.bsz q)) (Nat.lt_irrefl _)
 ·have hi:¬ i < nt:=fun hi=>by
   unfold compσ at e2;rw [List.getElem?_append_left (by simpa using hi),List.getElem?_replicate] at e2;split at e2 <;> cases e2
  have ei:i=nt+(i - nt):=by lia
  have e2':(fi.map fun j=>(σ[j]?).getD none)[i - nt]? = some (some v):=by
   unfold compσ at e2;rw [List.getElem?_append_right (by simpa using Nat.le_of_not_lt hi)] at e2;simpa using e2
  rw [List.getElem?_map] at e2';cases ej:fi[i - nt]? with
  | none=>rw [ej] at e2'; cases e2'
  | some j=>
   rw [ej] at e2';obtain ⟨x',n1,n2,n3⟩:=cn.cap (i - nt) j ej;rw [<- ei] at n1;have e1':N'[i]? = some x:=e1;rw [n1] at e1';cases e1';have ev:σ[j]? = some (some v):=by
    have e2':some ((σ[j]?).getD none)=some (some v):=e2';cases q:σ[j]? with
    | none=>rw [q] at e2'; simp at e2'
    | some w=>rw [q] at e2'; simp at e2'; rw [e2']
   have mem:(x,NameKind.free) ∈ scope.names:=PySem.mem_of_lookup n3;have vis:=cn.fre _ mem rfl;obtain ⟨m0,hn0,hl0⟩:=I.loc;obtain ⟨u,ru,lk⟩:=hl0 j x v n2 ev (.inr vis);refine ⟨u,ru,?_⟩;rcases lk with ⟨q,_⟩ | ⟨q,c,ec,o,hoc,hod⟩
   ·have q':X.env.scope.names.lookup x=some .local:=q;rcases vis with z | z
    ·have z':X.env.scope.names.lookup x=some .cell:=z;rw [q'] at z'; cases z'
    ·have z':X.env.scope.names.lookup x=some .free:=z;rw [q'] at z'; cases z'
   ·obtain ⟨c',ec'⟩:=Option.isSome_iff_exists.mp (mP (cells:=X.env.cells) scope.names [] mem);have ecc:=snd x c' ec';rw [ec] at ecc;cases ecc;refine .inr ⟨?_,c,ec',o,kp c o hoc,hod⟩;show (relabel scope X.env).names.lookup x=some .cell\/(relabel scope X.env).names.lookup x=some .free;have e4:(relabel scope X.env).names.lookup x=(scope.names.lookup x).map fun k=>if (k == NameKind.free && X.env.scope.kind == .function && X.env.kindOf x == some .cell)=true then .cell else k:=fY X.env x scope.names
    rw [e4,n3];simp only [Option.map_some];split
    ·exact .inl rfl
    ·exact .inr rfl
 ·obtain ⟨v,o,hoc,hod⟩:=I.cell x c (snd x c e);exact ⟨v,o,kp c o hoc,hod⟩
 ·have hp':p ∈ X.pn++pins:=by
   have hp'':p ∈ ([]:List (Addr × Obj))++(X.pn++pins):=hp;simpa using hp''
  obtain ⟨e,n,ne,nf,d⟩:=I.pin p hp';exact ⟨kp _ _ e,n,lt e,offstk _ ne nf,d⟩
 ·show (compσ nt fi σ).length=N'.length;unfold compσ;rw [cn.len,List.length_append,List.length_replicate,List.length_map]
theorem qW {pins:List (Addr × Obj)} {σ σ':St} {H H':Hp} {s s':Shared} {scope:Scope} {cl:List (Str × Addr)} {N':List Str} {fp:List Addr} {C:Addr} {P:List (Addr × Obj)} {h'':Heap}
  (I:Inv X pins σ H s) (hf:∀ b ∈ fp,FpOk X pins H b) (hC:s.heap.objs.size<=C) (J:Inv (cxC X scope cl N' C s H fp) P σ' H' s') (sb:Heap.SameBut C s'.heap h''):Inv X pins σ H' { s' with heap:=h'' }:=by
 have ne:∀ {b o},s.heap.get? b=some o->b≠C:=fun e=>Nat.ne_of_lt (Nat.lt_of_lt_of_le (Heap.lt_size e) hC)
 have u:Un (frs X.stack) fp H H' s.heap s'.heap:=J.base;refine I.call' (s':={ s' with heap:=h'' }) (ch:=fp) J.os ⟨fun b o e n hb hx=>?_,fun b o e n hb hx=>?_,u.free,fun b o e hx=>?_,u.tups,u.frzs,u.tbls⟩ (fun b o e=>?_) J.bare (fun b hb=>?_) J.tk
 ·exact (sb.2 b (ne e)).trans (u.keep b o e n hb hx)
 ·obtain ⟨sl,q⟩:=u.slot b o e n hb hx;exact ⟨sl,(sb.2 b (ne e)).trans q⟩
 ·obtain ⟨o',q⟩:=u.there b o e hx;exact ⟨o',(sb.2 b (ne e)).trans q⟩
 ·have fr:H' C=none:=J.free;refine (J.hok b o e).stay (fun c v hc q=>(sb.2 c ?_).trans q) (fun _ q=>q) fun _ _ q=>q
  rintro rfl;rcases hc with z | z
  ·subst z;rw [fr] at e;cases e
  ·rw [fr] at z;cases z
 ·obtain ⟨f0,f1,f2,f3,f4,f5⟩:=hf b hb;exact ⟨f3,f1,f4,f5⟩
theorem wN {elt tg iter:Expr} {ifs:List Expr} {scope:Scope} {pos:Pos} {wi:TI} {g:TG} {tc:TT} {te:TE} {nt:Nat} {fi:List Nat} {N':List Str} (hcalm:X.calm=true)
  (S:CScope scope) (cn:CNames X scope nt fi N') (gk:GK nt g) (hi:PI X tg iter wi)
  (hg:∀ cl C s H ex,PG (cxC X scope cl N' C s H ex) tg g) (hc:∀ cl C s H ex,PIf (cxC X scope cl N' C s H ex) ifs tc) (he:∀ cl C s H ex,PE (cxC X scope cl N' C s H ex) elt te)
  (hs:∀ x,foldedSetIterable iter X.env x=pure x:=by intro _; rfl):PE X (.ListComp elt [⟨tg,iter,ifs,0⟩] scope pos) (tComp nt fi wi g tc te):=by
 intro pins s σ H Q I h;have hfr:∀ y ∈ scope.names,y.2=.free->∃ c,X.env.cells.lookup y.1=some c:=fun y hy e=>I.ok.has y.1 (cn.fre y hy e)
 rw [eval_ListComp];refine wpAny_comprehension_free (use:=none) rfl hs (iY hfr) S.kind S.loc (thn (hi pins s σ H _ I h) fun v s1 h1=>thn h1 fun itv s2 h2=>?_);obtain ⟨it,fp,tn,J,H2,e,I2,T,st2,f2,hW⟩:=h2;subst e;have fD:H2 s2.heap.objs.size=none:=I2.hok.fresh (Nat.le_refl _);obtain ⟨W,⟨m0,w0⟩,turn⟩:=hW s2.heap.objs.size fD;refine wpAny_newObj_type (wpAny_newFunctionEnv S.nocell (by intro y hy; simp at hy) (fun h₁ hns₁ hsb₁=>?_) S.kind);have I3:Inv X pins σ (upd H2 s2.heap.objs.size (.lst [])) { s2 with heap:=s2.heap.push { cls:=.type "list",dict:=none,data:=.seq ([]:List Value).toArray } }:=I2.lnew (its:=[]) (t':=s2.toks) .nil (Nat.zero_le _);generalize hs3:({ s2 with heap:=s2.heap.push { cls:=.type "list",dict:=none,data:=.seq ([]:List Value).toArray } }:Shared)=s3 at I3 hns₁ hsb₁ ⊢;have hsz:s3.heap.objs.size=s2.heap.objs.size+1:=by rw [<- hs3]; exact Heap.size_push ..
 have ob2:∀ b ∈ fp,∃ o,s3.heap.get? b=some o:=fun b hb=>by
  obtain ⟨o,e,_⟩:=T.obj _ _ st2 b hb;rw [<- hs3];exact ⟨o,Heap.get?_push_of_some _ e⟩
 have f3:∀ b ∈ fp,FpOk X pins (upd H2 s2.heap.objs.size (.lst [])) b:=fun b hb=>by
  obtain ⟨o,e,_⟩:=T.obj _ _ st2 b hb;refine ⟨?_,(f2 b hb).2⟩;rw [au (Nat.ne_of_lt (Heap.lt_size e))];exact (f2 b hb).1
 have kp:∀ b o,s3.heap.get? b=some o->h₁.get? b=some o:=fun b o e=>hsb₁.extBut b o (Nat.ne_of_lt (Heap.lt_size e)) (Heap.get?_push_of_some _ e)
 have st3:tn 0 h₁:=T.keep _ _ _ st2 fun b _ o e=>kp b o (by rw [<- hs3]; exact Heap.get?_push_of_some _ e)
 have J4:Inv (cxC X scope (clOf X.env.cells scope.names []) N' s3.heap.objs.size s3 (upd H2 s2.heap.objs.size (.lst [])) fp) (X.pn++pins) (compσ nt fi σ) (upd H2 s2.heap.objs.size (.lst [])) { s3 with heap:=h₁,toks:=s3.toks+([]:List (Str × Value)).length }:=
  qh I3 S cn f3 ob2 hns₁ kp I3.tk
 generalize hcl:clOf X.env.cells scope.names []=cl at J4 ⊢;generalize hH3:upd H2 s2.heap.objs.size (.lst [])=H3 at J4 I3 f3 w0;have stat:∀ {H':Hp},(∀ b ∈ fp,H' b=none)->∀ b ∈ fp,FpOk (cxC X scope cl N' s3.heap.objs.size s3 H3 fp) (X.pn++pins) H' b:=fun {H'} hn b hb=>by
  obtain ⟨g0,g1,g2,g3,g4,g5⟩:=f3 b hb;have ok:=J4.ok;refine ⟨hn b hb,(ok.exf b hb).1,ok.exfs b hb,.inl hb,(ok.exf b hb).2,fun p hp=>g5 p ?_⟩;have hp':p ∈ ([]:List (Addr × Obj))++(X.pn++pins):=hp;simpa using hp'
 have loop:∀ s₃:Shared,s₃ = { s3 with heap:=h₁,toks:=s3.toks+([]:List (Str × Value)).length } ->
   codeAny (model X.prog X.w) X.A (.compLoop (.ListComp elt [⟨tg,iter,ifs,0⟩] scope pos) 0 (.ref it) (.ref s2.heap.objs.size) (compEnvC scope cl s3.heap.objs.size X.env))
    (compPost (model X.prog X.w) X.A X.xe none (EP X pins σ Q) (.ref s2.heap.objs.size) s3.heap.objs.size) s₃:=by
  rintro s₃ rfl;refine kA (fun n s'=>Ex3 fun i acc H'=>Inv (cxC X scope cl N' s3.heap.objs.size s3 H3 fp) (X.pn++pins) (compσ nt fi σ) H' s'/\tn i s'.heap/\(∀ b ∈ fp,H' b=none)/\W i n acc H') ?_ m0
   ⟨0,[],H3,J4,st3,fun b hb=>(f3 b hb).1,w0⟩
  rintro n s5 ⟨i,acc,H5,I5,st5,fr5,w5⟩;rcases turn i n acc H5 w5 with ⟨stop,qn⟩ | ⟨go,step⟩
  ·refine thn (T.done (cxC X scope cl N' s3.heap.objs.size s3 H3 fp) rfl rfl rfl hcalm i (X.pn++pins) s5 (compσ nt fi σ) H5 (fun _ _=>False) I5 (stat fr5) st5 stop) fun r s6 ⟨hr,I6⟩=>?_
   subst hr;obtain ⟨m6,hn6,_⟩:=I6.loc;exact ⟨m6,hn6,fun h' sb=>⟨.ref s2.heap.objs.size,H5,qW I3 f3 (Nat.le_refl _) I6 sb,rfl,qn⟩⟩
  ·refine thn (T.item (cxC X scope cl N' s3.heap.objs.size s3 H3 fp) rfl rfl rfl hcalm i (X.pn++pins) s5 (compσ nt fi σ) H5 (fun _ _=>False) I5 (stat fr5) st5 go) fun r s6 ⟨u,hr,h6⟩=>?_
   subst hr;refine thn h6 fun _ s7 ⟨x,H7,I7,r7,y7,st7,fr7⟩=>?_
   have I7':=I7.pinned (stat fr7) (T.obj _ _ st7);refine thn (hg _ _ _ _ _ _ s7 (compσ nt fi σ) H7 x u _ I7' r7 (gk _ _ _ _ (step x H7 y7))) fun _ s8 ⟨σ8,H8,I8,q8,l8,d8⟩=>?_
   refine thn (hc _ _ _ _ _ _ s8 σ8 H8 _ I8 q8) fun b s9 ⟨H9,I9,q9⟩=>?_
   have again:∀ {s':Shared} {H':Hp} {m':Nat} {acc':List V},Inv (cxC X scope cl N' s3.heap.objs.size s3 H3 fp) ((X.pn++pins)++pinsAt fp s7.heap) σ8 H' s'->m' < n->W (i+1) m' acc' H' ->
     ∃ m,m < n/\Ex3 fun i acc H'=>Inv (cxC X scope cl N' s3.heap.objs.size s3 H3 fp) (X.pn++pins) (compσ nt fi σ) H' s'/\tn i s'.heap/\(∀ b ∈ fp,H' b=none)/\W i m acc H':=fun {s' H' m' acc'} I' hm w'=>by
    refine ⟨m',hm,i+1,acc',H',I'.unpinned.weak l8.symm (compσ_weak l8 d8),T.keep _ _ _ st7 fun b hb o e=>(I'.pin (b,o) (List.mem_append_right _ (List.mem_append_right _ (dW hb e)))).1,fun b hb=>?_,w'⟩;obtain ⟨o,e,d⟩:=T.obj _ _ st7 b hb;exact (I'.pin (b,o) (List.mem_append_right _ (List.mem_append_right _ (dW hb e)))).2.1
   cases b with
   | false=>
    rw [if_neg Bool.false_ne_true] at q9 ⊢;obtain ⟨m',hm,w'⟩:=q9;exact again I9 hm w'
   | true=>
    rw [if_pos rfl] at q9 ⊢;refine thn (he _ _ _ _ _ _ s9 σ8 H9 _ I9 q9) fun uv s10 ⟨v10,H10,I10,r10,hD,hlt,m',hm,w'⟩=>?_
    refine thn (lI (X:=cxC X scope cl N' s3.heap.objs.size s3 H3 fp) _ s10 σ8 H10 (.ref s2.heap.objs.size) [v10] (.ref s2.heap.objs.size) [uv] (fun _ H'=>H'=upd H10 s2.heap.objs.size (.lst (acc++[v10]))) I10 rfl (.cons r10 .nil) ⟨_,acc,v10,rfl,rfl,hD,hlt,rfl⟩) fun _ s11 ⟨_,H11,I11,_,e11⟩=>?_
    subst e11;exact again I11 hm w'
 exact codeAny_compStart_list (loop _ rfl) (T.self _ 0 _ _ _ st3 (loop _ rfl))
end
noncomputable abbrev st (l:List Nat):Str:=⟨l.toArray⟩
theorem az (l:List Nat):(st l).cps.toList=l:=rfl
theorem yM (l m:List Nat):st l++st m=st (l++m):=by
 show Str.append (st l) (st m)=_;simp [Str.append]
theorem km {l m:List Nat}:st l=st m ↔ l=m:=by simp
theorem rE {ys:List Str}:∀ {us:List Value},Vals (ys.map V.str) us->StrsAre us ys:=by
 induction ys with
 | nil=>intro us r; cases r; exact .nil
 | cons y r ih=>
  intro us h;cases h with
  | cons r1 r2=>
   obtain ⟨t,rfl⟩:=r1;exact .cons y t (ih r2)
theorem nW (l:List Nat):Txt.join ⟨#[]⟩ (l.map fun k=>(⟨#[k]⟩:Str))=st l:=by
 have h:=join_plain_closes ⟨#[]⟩ (l.map fun k=>(⟨#[k]⟩:Str));rw [eq_of_beq h];exact join_ones l
section
variable {X:Cx}
noncomputable def rJoin (K:Frag):V->List V->Hp->VK->Prop:=fun x vs H Q=>Ex3 fun sep l ys=>x=.str sep/\vs=[.ref l]/\SqL K H l (ys.map V.str)/\(ys.map (·.length)).sum+ys.length*sep.length<=16777216/\Q (.str (Txt.join sep ys)) H
theorem wg:MtR X "str.join" (rJoin X.K):=by
 intro pins s σ H x vs v us Q I rx rv h;obtain ⟨sep,l,ys,rfl,rfl,hq,hz,q⟩:=h;obtain ⟨t,rfl⟩:=rx;obtain ⟨u,rfl,ru⟩:=rv.one;cases ru;obtain ⟨its,r,pl,_⟩:=I.list hq;exact tokQ I.tk (join_list pl.isList (rE r) hz fun t' k (htk:0 < k)=>⟨.str _,H,I.tok _,⟨_,rfl⟩,q⟩)
theorem vK (l:List Nat):((l.map fun k=>(⟨#[k]⟩:Str)).map (·.length)).sum=l.length:=by
 induction l with
 | nil=>rfl
 | cons a r ih=>
  rw [List.map_cons,List.map_cons,List.sum_cons,ih,List.length_cons];show 1+r.length=r.length+1
  lia
noncomputable def rJoin1 (K:Frag):V->List V->Hp->VK->Prop:=fun x vs H Q=>Ex2 fun l cs=>x=.str (Str.ofString "")/\vs=[.ref l]/\SqL K H l (cs.map fun k=>V.str ⟨#[k]⟩)/\cs.length<=10000/\Q (.str (st cs)) H
theorem kF:Str.ofString "" = ⟨#[]⟩:=by decide +kernel
theorem vq:MtR X "str.join" (rJoin1 X.K):=by
 intro pins s σ H x vs v us Q I rx rv h;obtain ⟨l,cs,rfl,rfl,hq,hz,q⟩:=h;refine wg pins s σ H _ _ v us Q I rx rv ⟨_,l,cs.map fun k=>⟨#[k]⟩,rfl,rfl,?_,?_,?_⟩
 ·rw [List.map_map];exact hq
 ·rw [vK,List.length_map,kF];show cs.length+cs.length*0<=16777216
  lia
 ·rw [kF,nW];exact q
noncomputable def rSlS:V->Option Int->Option Int->Hp->VK->Prop:=fun x lo hi H Q=>∃ z,x=.str z/\z.length<=sizeLine/\Q (.str (Txt.slice z lo hi)) H
theorem uu:SlR X rSlS:=by
 intro pins s σ H x v vl vu lo hi sl Q I rx hs pl pu h;obtain ⟨z,rfl,hz,q⟩:=h;obtain ⟨t,rfl⟩:=rx;have fin:∀ t' k,0 < k->EP X pins σ Q (.str (Txt.slice z lo hi) t') { s with toks:=k }:=fun t' k htk=>⟨.str _,H,I.tok _,⟨_,rfl⟩,q⟩
 refine ⟨"str",_,F.slot_str_getitem.lookup,typeIs_str _ _ _,tokQ I.tk ?_⟩;obtain ⟨o,e1,e2,e3⟩:=id hs;cases pl with
 | none=>
  cases pu with
  | none=>exact wpAny_getItem_str_slice (l:=none) (u:=none) (st:=none) ⟨o,e1,e2,e3⟩ rfl (post_val_or_str ⟨Nat.le_trans (Txt.slice_le z _ _) hz,fin⟩)
  | int j tj=>exact wpAny_getItem_str_slice (l:=none) (u:=some (j,tj)) (st:=none) ⟨o,e1,e2,e3⟩ rfl (post_val_or_str ⟨Nat.le_trans (Txt.slice_le z _ _) hz,fin⟩)
 | int i ti=>
  cases pu with
  | none=>exact wpAny_getItem_str_slice (l:=some (i,ti)) (u:=none) (st:=none) ⟨o,e1,e2,e3⟩ rfl (post_val_or_str ⟨Nat.le_trans (Txt.slice_le z _ _) hz,fin⟩)
  | int j tj=>exact wpAny_getItem_str_slice (l:=some (i,ti)) (u:=some (j,tj)) (st:=none) ⟨o,e1,e2,e3⟩ rfl (post_val_or_str ⟨Nat.le_trans (Txt.slice_le z _ _) hz,fin⟩)
theorem uI (l:List Nat) (k:Nat) (h:k<=l.length):Txt.slice (st l) none (some (k:Int))=st (l.take k):=by
 have q:=slice_closes_to (x:=st l) (j:=(k:Int)) ⟨by lia,by simpa using h⟩;rw [eq_of_beq q];simp
theorem rk (l:List Nat) (k:Nat) (h:k<=l.length):Txt.slice (st l) (some (k:Int)) none=st (l.drop k):=by
 have q:=slice_from_eq (x:=st l) (i:=(k:Int)) (b:=(l.length:Int)) (by lia) (by simpa [Str.length] using h) (by simp [Str.length]);rw [q];simp only [az,Int.toNat_natCast];rw [List.take_of_length_le (by rw [List.length_drop]; lia)]
theorem r0:OpR X (binaryOp .Mult) (fun x y H Q=>Ex2 fun z n=>x=.str z/\y=.int n/\MulOk z n/\Q (.str (Txt.mul z n)) H):=by
 intro pins s σ H x y v u Q I rx ry h;obtain ⟨z,n,rfl,rfl,hok,q⟩:=h;obtain ⟨t,rfl⟩:=rx;obtain ⟨t',rfl⟩:=ry;exact tokQ I.tk (SB.mul hok fun t' k (htk:0 < k)=>⟨.str _,H,I.tok _,⟨_,rfl⟩,q⟩)
theorem mul1 (k n:Nat):Txt.mul ⟨#[k]⟩ (n:Int)=st (List.replicate n k):=by
 have q:=mul_one_list k (n:Int);rw [Int.toNat_natCast] at q;have e:∀ x:Str,x=⟨x.cps.toList.toArray⟩:=fun x=>by simp
 rw [e (Txt.mul ⟨#[k]⟩ (n:Int)),q]
theorem qS:CallR X (.builtin "isinstance") (fun xs H Q=>Ex4 fun x n t b=>xs=[x,.ty n]/\TyOf X.K H x t/\PySem.W.kitOne X.K t (.type n)=some b/\Q (.bl b) H):=by
 intro pins s σ H xs us Q I r h;obtain ⟨x,n,t,b,rfl,ty,e,q⟩:=h;obtain ⟨u,w',rfl,r1,r2⟩:=vals2 r;cases r2;exact tokQ I.tk (tQ I r1 ty e fun tk (htk:0 < tk)=>⟨.bl b,H,I.tok _,rfl,q⟩)
theorem tI (hu:X.A.units < cLine):OpR X (compareOp .Eq) (fun x y H Q=>Ex3 fun a b xs=>x=.ref a/\y=.ref b/\SqL X.K H a xs/\SqL X.K H b []/\Q (.bl (decide (xs=[]))) H):=by
 intro pins s σ H x y v u Q I rx ry h;obtain ⟨a,b,xs,rfl,rfl,ha,hb,q⟩:=h;cases rx;cases ry;obtain ⟨its,r1,p1,_⟩:=I.list ha;obtain ⟨its2,r2,p2,_⟩:=I.list hb;cases r2;cases r1 with
 | nil=>exact SeqAt.eq_listAt (e:=fun _=>true) p1.isList p2.isList rfl hu (fun j h1 _=>absurd h1 (by simp)) ⟨.bl true,H,I,rfl,q⟩
 | cons rx rr=>exact SeqAt.eq_list_lengthsAt p1.isList p2.isList (by simp) hu ⟨.bl false,H,I,rfl,by simpa using q⟩
end
def Fn (K:Frag) (mg:Str->Option Value) (x:Str) (st:Stmt):Prop:=Ex2 fun f fd=>Fun K x x st f fd/\mg x=some (.ref f)
def Callee (P:Program) (w:World) (K:Frag) (mg:Str->Option Value) (base:Heap) (k:Nat) (x:Str) (ps:List Str) (sp:Sp):Prop:=
 Ex2 fun f fd=>FnOk P w K mg base CX0 k f fd ps sp/\Binds K fd ps []/\keepIn K (.ref f)=true/\mg x=some (.ref f)
theorem Fn.cal {P:Program} {w:World} {K:Frag} {mg:Str->Option Value} {base:Heap} {x:Str} {st:Stmt} {N ps:List Str} {k:Nat} {sp:Sp} (F:Fn K mg x st) (S:FnScope N ps (defScope st)) (len:∀ vs H Q E,sp vs H Q E->vs.length=ps.length)
  (hb:∀ (kV doc pm:Value) (an:Option Addr) (cdv ct:Value) (us:List Value),us.length=ps.length->bindArgs (fnOf x x (defArgs st) (defBody st) (defScope st) .none kV doc pm an cdv ct) ⟨us,[]⟩=pure (ps.zip us))
  (hbody:∀ (f:Addr) (cdv:Value) (A:Around) (outer:List Env) (s:Shared) (H:Hp) (vs:List V) (Q:VK) (E:XK),Room k (A.deeper (envOfC x (defScope st) s.heap.objs.size f cdv))->sp vs H Q E ->
   ∃ t,PSs (cxOf CX0 P w K mg base N x (defScope st) f cdv A outer s H E).nox (defBody st) t/\t { nx:=fun _ H'=>Q .non H',rt:=Q } (start N vs) H):Callee P w K mg base (k+1) x ps sp:=by
 obtain ⟨f,fd,F,m⟩:=F;exact ⟨f,fd,F.ok S len (hbody f),F.binds hb,F.kp,m⟩
section
variable {X:Cx} {k:Nat} {x:Str} {ps:List Str} {sp:Sp} {p pos:Pos} {e:Expr} {es:List Expr} {t:TA}
theorem am (C:Callee X.prog X.w X.K X.mg X.base k x ps sp) (hr:Room k X.A) (hg:Gl X x) (ha:PA X (e::es) t)
  (he:starEach (e::es) X.env=(false,eval e X.env)::starEach es X.env:=by rfl) (hpl:(backTo pos (starEach es X.env)).any (·.1)=false:=by rfl) (hd:(x == ("__debug__" : Str))=false:=by decide):PE X (.Call (.Name x p) (e::es) [] pos) (tCall sp [] E0 t):=by
 obtain ⟨f,fd,F,b,kp,m⟩:=C;exact wn F hr hg m kp b .nil pass0 ha (hdb:=hd) (he:=he) (hpl:=hpl)
end
noncomputable def tJoin (t u:TS):TS:=fun D σ H=>∃ J:St->Hp->Prop,t { D with nx:=J } σ H/\∀ σ' H',J σ' H'->u D σ' H'
theorem cg {X:Cx} {st:Stmt} {rest:List Stmt} {t u:TS} (h1:PS X st t) (h2:PSs X rest u):PSs X (st::rest) (tJoin t u):=by
 intro pins s σ H D I h;obtain ⟨J,hj,hr⟩:=h;refine wpAny_execs_cons (thn (h1 pins s σ H { D with nx:=J } I hj) fun f s1 q=>?_);cases f with
 | next=>
  obtain ⟨σ',H',I',q⟩:=q;exact h2 pins s1 σ' H' D I' (hr σ' H' q)
 | ret v=>exact q
 | brk=>exact q
 | cont=>exact q
theorem af {H:Hp} {p:Addr} (h:H p=none) (o:HO):Same H (upd H p o):=fun b u q=>by rw [au (db q h)]; exact q
theorem aG {H H':Hp} {p:Addr} {o:HO} (s:Same H H') (h:H p=none):Same H (upd H' p o):=fun b u q=>by rw [au (db q h)]; exact s b u q
theorem sizeBig {n:Nat} (h:n<=100000):n < sizeLine:=Nat.lt_of_le_of_lt h (by decide)
def RowL (l:List Nat):Prop:=∀ c ∈ l,c=48\/c=49\/c=45
section
variable {X:Cx}
theorem PE.imp {e:Expr} {t t':TE} (h:PE X e t) (k:∀ σ H Q,t' σ H Q->t σ H Q):PE X e t':=fun pins s σ H Q I q=>h pins s σ H Q I (k σ H Q q)
theorem PT.imp {e:Expr} {t t':TT} (h:PT X e t) (k:∀ σ H Q,t' σ H Q->t σ H Q):PT X e t':=fun pins s σ H Q I q=>h pins s σ H Q I (k σ H Q q)
theorem PI.imp {tg e:Expr} {t t':TI} (h:PI X tg e t) (k:∀ σ H Q,t' σ H Q->t σ H Q):PI X tg e t':=fun pins s σ H Q I q=>h pins s σ H Q I (k σ H Q q)
theorem OpR.imp {f:Value->Value->Sem Value} {r r':R2} (h:OpR X f r) (k:∀ x y H Q,r' x y H Q->r x y H Q):OpR X f r':=fun pins s σ H x y v u Q I rx ry q=>h pins s σ H x y v u Q I rx ry (k x y H Q q)
theorem IxR.imp {r r':R2} (h:IxR X r) (k:∀ x y H Q,r' x y H Q->r x y H Q):IxR X r':=fun a b pins s σ H x y v u Q I rx ry q=>h a b pins s σ H x y v u Q I rx ry (k x y H Q q)
theorem SlR.imp {r r':V->Option Int->Option Int->Hp->VK->Prop} (h:SlR X r) (k:∀ x a b H Q,r' x a b H Q->r x a b H Q):SlR X r':=fun pins s σ H x v vl vu lo hi sl Q I rx hs pl pu q=>h pins s σ H x v vl vu lo hi sl Q I rx hs pl pu (k x lo hi H Q q)
noncomputable def cVar (i:Nat):TE:=fun σ H Q=>match σ[i]? with | some (some v)=>Q v H | _=>False
theorem qv (i:Nat) {x:Str} {pos:Pos} (hN:X.N[i]? = some x:=by rfl) (hv:Vis X.env.scope x:=by first | exact Or.inl rfl | exact Or.inr (Or.inl rfl) | exact Or.inr (Or.inr rfl)) (hd:(x == ("__debug__" : Str))=false:=by decide)
  (hcd:(x == ("__classdict__" : Str))=false:=by decide):PE X (.Name x pos) (cVar i):=(uY hN hv hd hcd).imp fun σ H Q q=>by
 unfold cVar at q;split at q
 ·exact ⟨_,by assumption,q⟩
 ·exact q.elim
theorem qs (l:List Nat) {x:Str} {j pos} (h:x=st l:=by decide +kernel):PE X (.Constant (.str x) j pos) (tC (.str (st l))):=by
 rw [<- h];exact vg
theorem bf (a:Str):st a.cps.toList=a:=by simp
noncomputable def kAdd:R2:=fun x y H Q=>match x,y with
 | .int i,.int j=>Q (.int (i+j)) H
 | .str a,.str b=>a.cps.toList.length+b.cps.toList.length<=100000/\Q (.str (st (a.cps.toList++b.cps.toList))) H
 | .ref l,.ref b=>Ex2 fun xs zs=>H l=some (.lst xs)/\H b=some (.lst zs)/\xs.length+zs.length<=sizeLine/\∀ p,H p=none->Q (.ref p) (upd H p (.lst (xs++zs)))
 | _,_=>False
theorem ak:OpR X (binaryOp .Add) kAdd:=by
 intro pins s σ H x y v u Q I rx ry q;unfold kAdd at q;split at q
 ·exact yx pins s σ H _ _ v u Q I rx ry ⟨_,_,rfl,rfl,q⟩
 ·obtain ⟨h,q⟩:=q;refine rG pins s σ H _ _ v u Q I rx ry ⟨_,_,rfl,rfl,?_,?_⟩
  ·have:(100000:Nat)<=sizeLine:=by decide
   simp only [Array.length_toList] at h;simp only [Str.length]
   lia
  ·rename_i a b;have e:a++b=st (a.cps.toList++b.cps.toList):=by
    rw [<- yM,bf,bf]
   rw [e];exact q
 ·obtain ⟨xs,zs,h1,h2,h3,q⟩:=q;exact yv pins s σ H _ _ v u Q I rx ry ⟨_,_,_,_,rfl,rfl,h1,h2,h3,q⟩
 ·exact q.elim
noncomputable def kI (C:Int->Int->Prop) (g:Int->Int->V):R2:=fun x y H Q=>match x,y with
 | .int i,.int j=>C i j/\Q (g i j) H
 | _,_=>False
noncomputable def kI0 (g:Int->Int->V):R2:=fun x y H Q=>match x,y with
 | .int i,.int j=>Q (g i j) H
 | _,_=>False
theorem vx {C:Int->Int->Prop} {g:Int->Int->V}:∀ x y H Q,kI C g x y H Q->rI C g x y H Q:=fun x y H Q q=>by
 unfold kI at q;split at q
 ·exact ⟨_,_,rfl,rfl,q.1,q.2⟩
 ·exact q.elim
theorem kN {g:Int->Int->V}:∀ x y H Q,kI0 g x y H Q->rI0 g x y H Q:=fun x y H Q q=>by
 unfold kI0 at q;split at q
 ·exact ⟨_,_,rfl,rfl,q⟩
 ·exact q.elim
noncomputable abbrev kSub:R2:=kI0 fun i j=>.int (i - j)
noncomputable abbrev kMod:R2:=kI (fun _ j=>0 < j) fun i j=>.int (i % j)
noncomputable abbrev kFdiv:R2:=kI CDiv fun i j=>.int (i / j)
theorem pS:OpR X (binaryOp .Sub) kSub:=xX.imp kN
theorem iR:OpR X (binaryOp .Mod) kMod:=x5.imp vx
theorem vI:OpR X (binaryOp .FloorDiv) kFdiv:=xw.imp vx
noncomputable def kMul:R2:=fun x y H Q=>match x,y with
 | .int i,.int j=>CMul i j/\Q (.int (i*j)) H
 | .str a,.int n=>∃ c,a.cps.toList=[c]/\0<=n/\n<=10000/\Q (.str (st (List.replicate n.toNat c))) H
 | .ref l,.int k=>∃ xs,H l=some (.lst xs)/\0<=k/\k<=10000/\xs.length=1/\∀ p,H p=none->Q (.ref p) (upd H p (.lst (List.replicate k.toNat xs).flatten))
 | _,_=>False
theorem ue (k n:Nat) (hn:n<=10000):MulOk ⟨#[k]⟩ (n:Int):=by
 have hl:(⟨#[k]⟩:Str).length=1:=rfl;refine ⟨?_,fun _ _=>?_,fun _ _=>?_⟩
 ·rw [decide_eq_false (by lia),decide_eq_false (by lia)];rfl
 ·rw [hl];intro z;have:(2 ^ 63 - 1) / (n:Int) < 1:=by lia
  have h2:(n:Int)<=10000:=by lia
  have h1:¬ (n:Int) < 1:=by assumption
  have h3:1<=(2 ^ 63 - 1) / (n:Int):=by
   rw [Int.le_ediv_iff_mul_le (by lia)]
   lia
  lia
 ·rw [hl];unfold PySem.Builtin.Str.tooLong sizeLine;exact decide_eq_false (by rw [Int.toNat_natCast]; have:(2:Nat) ^ 24=16777216:=(by decide); lia)
theorem bM:OpR X (binaryOp .Mult) kMul:=by
 intro pins s σ H x y v u Q I rx ry q;unfold kMul at q;split at q
 ·exact xV pins s σ H _ _ v u Q I rx ry ⟨_,_,rfl,rfl,q.1,q.2⟩
 ·obtain ⟨c,e,h0,h1,q⟩:=q;rename_i a n;obtain ⟨k,rfl⟩:∃ k:Nat,n=k:=⟨n.toNat,by lia⟩;have ea:a=⟨#[c]⟩:=by rw [<- bf a,e]
  subst ea;refine r0 pins s σ H _ _ v u Q I rx ry ⟨_,_,rfl,rfl,ue c k (by lia),?_⟩;rw [mul1];exact q
 ·obtain ⟨xs,h1,h2,h3,h4,q⟩:=q;refine ya pins s σ H _ _ v u Q I rx ry ⟨_,_,_,rfl,rfl,h1,by lia,by lia,?_,q⟩;have:(10000:Nat)<=sizeLine:=by decide
  rw [h4]
  lia
 ·exact q.elim
noncomputable def kEq (neg:Bool):R2:=fun x y H Q=>match x,y with
 | .int i,.int j=>Q (.bl (neg ^^ decide (i=j))) H
 | .str a,.str b=>Q (.bl (neg ^^ decide (a.cps.toList=b.cps.toList))) H
 | .bl a,.bl b=>Q (.bl (neg ^^ decide (a=b))) H
 | .non,.non=>Q (.bl (neg ^^ true)) H
 | .non,.int _=>Q (.bl (neg ^^ false)) H
 | .int _,.non=>Q (.bl (neg ^^ false)) H
 | .non,.str _=>Q (.bl (neg ^^ false)) H
 | .str _,.non=>Q (.bl (neg ^^ false)) H
 | _,_=>False
theorem qP (a b:Str):decide (V.str a=V.str b)=decide (a.cps.toList=b.cps.toList):=by
 by_cases h:a.cps.toList=b.cps.toList
 ·have:a=b:=by rw [<- bf a,h,bf]
  subst this;simp
 ·rw [decide_eq_false h,decide_eq_false (fun z=>h (by cases z; rfl))]
theorem zf:∀ x y H Q,kEq false x y H Q->rEq x y H Q:=fun x y H Q q=>by
 unfold kEq at q;split at q <;> first
  | exact q.elim
  | (refine ⟨rfl,?_⟩; first | (rw [qP]; simpa using q) | simpa using q)
theorem yE:∀ x y H Q,kEq true x y H Q->rNe x y H Q:=fun x y H Q q=>by
 unfold kEq at q;split at q <;> first
  | exact q.elim
  | (refine ⟨rfl,?_⟩; first | (rw [qP]; simpa using q) | simpa using q)
theorem bn:OpR X (compareOp .Eq) (kEq false):=zj.imp zf
theorem rD:OpR X (compareOp .NotEq) (kEq true):=zx.imp yE
noncomputable abbrev kLt:R2:=kI0 fun i j=>.bl (decide (i < j))
noncomputable abbrev kLe:R2:=kI0 fun i j=>.bl (decide (i<=j))
noncomputable abbrev kGt:R2:=kI0 fun i j=>.bl (decide (j < i))
noncomputable abbrev kGe:R2:=kI0 fun i j=>.bl (decide (j<=i))
theorem si:OpR X (compareOp .Lt) kLt:=zt.imp kN
theorem zd:OpR X (compareOp .LtE) kLe:=zg.imp kN
theorem nK:OpR X (compareOp .Gt) kGt:=zk.imp kN
theorem yF:OpR X (compareOp .GtE) kGe:=zm.imp kN
noncomputable def kIs (neg:Bool):R2:=fun x y H Q=>match y with
 | .non=>Q (.bl (neg ^^ decide (x=.non))) H
 | _=>False
theorem vA:OpR X (compareOp .Is) (kIs false):=xR.imp fun x y H Q q=>by
 unfold kIs at q;split at q
 ·exact ⟨rfl,by simpa using q⟩
 ·exact q.elim
theorem tU:OpR X (compareOp .IsNot) (kIs true):=wB.imp fun x y H Q q=>by
 unfold kIs at q;split at q
 ·exact ⟨rfl,by simpa using q⟩
 ·exact q.elim
noncomputable def kIn (K:Frag) (neg:Bool):R2:=fun x y H Q=>match x,y with
 | .str a,.str b=>∃ c,a.cps.toList=[c]/\Q (.bl (neg ^^ decide (c ∈ b.cps.toList))) H
 | x,.ref p=>∃ xs,(SqL K H p xs\/SqT K H p xs)/\flatV x=true/\xs.all flatV=true/\Q (.bl (neg ^^ inV x xs)) H
 | _,_=>False
theorem za:OpR X (compareOp .In) (kIn X.K false):=by
 intro pins s σ H x y v u Q I rx ry q;unfold kIn at q;split at q
 ·obtain ⟨c,e,q⟩:=q;rename_i a b;have ea:a=⟨#[c]⟩:=by rw [<- bf a,e]
  subst ea;refine tH pins s σ H _ _ v u Q I rx ry ⟨_,_,rfl,rfl,?_⟩;rw [StrLaws.found_one];simpa using q
 ·obtain ⟨xs,h1,h2,h3,q⟩:=q;exact uj pins s σ H _ _ v u Q I rx ry ⟨_,_,rfl,h1,h2,h3,by simpa using q⟩
 ·exact q.elim
theorem tY:OpR X (compareOp .NotIn) (kIn X.K true):=by
 intro pins s σ H x y v u Q I rx ry q;unfold kIn at q;split at q
 ·obtain ⟨c,e,q⟩:=q;rename_i a b;have ea:a=⟨#[c]⟩:=by rw [<- bf a,e]
  subst ea;refine pU pins s σ H _ _ v u Q I rx ry ⟨_,_,rfl,rfl,?_⟩;rw [StrLaws.found_one];simpa using q
 ·obtain ⟨xs,h1,h2,h3,q⟩:=q;exact pj pins s σ H _ _ v u Q I rx ry ⟨_,_,rfl,h1,h2,h3,by simpa using q⟩
 ·exact q.elim
noncomputable def kIx (K:Frag):R2:=fun x y H Q=>match x,y with
 | .str z,.int i=>z.cps.toList.length<=100000/\∃ c,atI z.cps.toList i=some c/\Q (.str (st [c])) H
 | .ref p,.int i=>Ex2 fun xs v=>(SqL K H p xs\/SqT K H p xs)/\atI xs i=some v/\Q v H
 | _,_=>False
theorem big5:(100000:Nat)<=sizeLine:=by decide
theorem strlen (z:Str):z.length=z.cps.toList.length:=by simp [Str.length]
theorem zC:IxR X (kIx X.K):=yT.imp fun x y H Q q=>by
 unfold kIx at q;split at q
 ·obtain ⟨h,c,e,q⟩:=q;exact .inr (.inr ⟨_,_,c,rfl,rfl,by rw [strlen]; exact Nat.le_trans h big5,e,q⟩)
 ·obtain ⟨xs,v,h | h,e,q⟩:=q
  ·exact .inl ⟨_,_,_,_,rfl,rfl,h,e,q⟩
  ·exact .inr (.inl ⟨_,_,_,_,rfl,rfl,h,e,q⟩)
 ·exact q.elim
noncomputable def kLen (K:Frag):List V->Hp->VK->Prop:=fun xs H Q=>match xs with
 | [.str z]=>z.cps.toList.length<=100000/\Q (.int z.cps.toList.length) H
 | [.ref p]=>∃ ys,(SqL K H p ys\/SqT K H p ys)/\Q (.int ys.length) H
 | _=>False
theorem tG:CallR X (.builtin "len") (kLen X.K):=by
 intro pins s σ H xs us Q I r q;unfold kLen at q;split at q
 ·obtain ⟨h,q⟩:=q;refine pH pins s σ H _ us Q I r ⟨_,rfl,by rw [strlen]; exact Nat.le_trans h big5,?_⟩;rw [strlen];exact q
 ·obtain ⟨ys,h,q⟩:=q;exact pG pins s σ H _ us Q I r ⟨_,_,rfl,h,q⟩
 ·exact q.elim
noncomputable def up (t:TE):TE:=fun σ H Q=>∃ Q0:VK,t σ H Q0/\∀ v H',Q0 v H'->Q v H'
noncomputable def up2 (r:R2):R2:=fun x y H Q=>∃ Q0:VK,r x y H Q0/\∀ v H',Q0 v H'->Q v H'
theorem EP.imp {pins:List (Addr × Obj)} {σ:St} {Q Q':VK} {u:Value} {s:Shared} (h:EP X pins σ Q u s) (k:∀ v H',Q v H'->Q' v H'):EP X pins σ Q' u s:=by
 obtain ⟨v,H',I,r,q⟩:=h;exact ⟨v,H',I,r,k v H' q⟩
theorem PE.mono {e:Expr} {t:TE} (h:PE X e t):PE X e (up t):=fun pins s σ H Q I ⟨Q0,q,k⟩=>thn (h pins s σ H Q0 I q) fun u s' z=>z.imp k
theorem OpR.mono {f:Value->Value->Sem Value} {r:R2} (h:OpR X f r):OpR X f (up2 r):=fun pins s σ H x y v u Q I rx ry ⟨Q0,q,k⟩=>thn (h pins s σ H x y v u Q0 I rx ry q) fun u s' z=>z.imp k
noncomputable def blK (Q:Bool->Hp->Prop):VK:=fun x H'=>match x with | .bl k=>Q k H' | _=>False
theorem rh {Q:Bool->Hp->Prop} {x:V} {H':Hp} (h:blK Q x H'):∃ k,x=.bl k/\Q k H':=by
 unfold blK at h;split at h
 ·exact ⟨_,rfl,h⟩
 ·exact h.elim
noncomputable def cTest (t:TE):TT:=fun σ H Q=>t σ H (blK Q)
theorem eE {e:Expr} {t:TE} (h:PE X e t) (he:∀ whole,isTrue e X.env whole=(do let v <- whole; standAt e.pos; holding [v] (truthy v)):=by intro _; rfl):PT X e (cTest t):=
 (yN h.mono he).imp fun σ H Q q=>⟨_,q,fun v H' z=>rh z⟩
variable {a b c:Expr} {ta tb tc:TE} {pos:Pos} {rest:List Expr}
theorem aB {op:CmpOp} {r:R2} (ho:OpR X (compareOp op) r) (ha:PE X a ta) (hb:PE X b tb) (hm:behindInMarks op b=false:=by first | exact nomark _ | rfl):PT X (.Compare a [op] [b] pos) (cTest (tOp r ta tb)):=
 (wA ho.mono ha.mono hb.mono hm).imp fun σ H Q q=>⟨_,q,fun x H1 z=>⟨_,z,fun y H2 z2=>⟨_,z2,fun v H' z3=>rh z3⟩⟩⟩
theorem pC {op:CmpOp} {r:R2} (ho:OpR X (compareOp op) r) (ha:PE X a ta) (hb:PE X b tb) (hm:behindInMarks op b=false:=by first | exact nomark _ | rfl):PE X (.Compare a [op] [b] pos) (tOp r ta tb):=xf ho ha hb hm
noncomputable def cAndV (ta tb:TE):TE:=fun σ H Q=>ta σ H (blK fun c H1=>if c=true then tb σ H1 Q else Q (.bl false) H1)
theorem uD (ha:PE X a ta) (hb:PE X (.BoolOp .And (b::rest) pos) tb):PE X (.BoolOp .And (a::b::rest) pos) (cAndV ta tb):=(xS ha.mono hb).imp fun σ H Q q=>⟨_,q,fun v H' z=>rh z⟩
variable {o e:Expr} {to te:TE} {apos cpos:Pos}
noncomputable def cApp (to te:TE):TE:=fun σ H Q=>to σ H fun x H1=>match x with
 | .ref l=>(∃ xs,H1 l=some (.lst xs))/\te σ H1 fun y H2=>∃ xs,H2 l=some (.lst xs)/\xs.length < sizeLine/\Q .non (upd H2 l (.lst (xs++[y])))
 | _=>False
theorem aY (ho:PE X o to) (he:PE X e te) (hbase:attributeBase o "append" X.env (eval o X.env)=eval o X.env:=by rfl)
  (hfew:((backTo cpos (starEach [e] X.env)).all (fun x=>!x.1) && (backToKw cpos (keywordEach [] X.env)).all (fun x=>x.1.isSome)
   && decide ([e].length+([]:List Keyword).length+(if ([]:List Keyword).isEmpty then 0 else 1) < 30))=true:=by rfl)
  (hline:(apos.endLine == cpos.line)=true:=by rfl) (hs:starEach [e] X.env=(false,eval e X.env)::starEach [] X.env:=by rfl) (hplain:(backTo cpos (starEach [] X.env)).any (·.1)=false:=by rfl):
  PE X (.Call (.Attribute o "append" apos) [e] [] cpos) (cApp to te):=
 (sT PySem.F.plainAttrs_list PySem.F.slot_list_append PySem.F.type_list_append lI ho.mono (aa he.mono ae hs) hbase hfew hline hs hplain).imp fun σ H Q q=>⟨_,q,fun x H1 z=>by
  split at z
  ·rename_i l;obtain ⟨⟨xs,h⟩,z⟩:=z;refine ⟨.inl ⟨rfl,_,SqL.of h⟩,_,z,fun y H2 z2=>?_⟩;obtain ⟨xs2,h2,h3,z3⟩:=z2;exact ⟨l,xs2,y,rfl,rfl,h2,h3,z3⟩
  ·exact z.elim⟩
noncomputable def cJoin1 (K:Frag) (te:TE):TE:=fun σ H Q=>te σ H fun x H1=>match x with
 | .ref l=>∃ cs:List Nat,SqL K H1 l (cs.map fun k=>V.str (st [k]))/\cs.length<=10000/\Q (.str (st cs)) H1
 | _=>False
theorem uQ {j:Nat} {p1:Pos} (he:PE X e te) (hfew:((backTo cpos (starEach [e] X.env)).all (fun x=>!x.1) && (backToKw cpos (keywordEach [] X.env)).all (fun x=>x.1.isSome)
   && decide ([e].length+([]:List Keyword).length+(if ([]:List Keyword).isEmpty then 0 else 1) < 30))=true:=by rfl)
  (hline:(apos.endLine == cpos.line)=true:=by rfl) (hs:starEach [e] X.env=(false,eval e X.env)::starEach [] X.env:=by rfl) (hplain:(backTo cpos (starEach [] X.env)).any (·.1)=false:=by rfl)
  (hbase:attributeBase (.Constant (.str (Str.ofString "")) j p1) "join" X.env (eval (.Constant (.str (Str.ofString "")) j p1) X.env)=eval (.Constant (.str (Str.ofString "")) j p1) X.env:=by rfl):
  PE X (.Call (.Attribute (.Constant (.str (Str.ofString "")) j p1) "join" apos) [e] [] cpos) (cJoin1 X.K te):=
 (sT PySem.F.plainAttrs_str PySem.F.slot_str_join PySem.F.type_str_join vq vg (aa he.mono ae hs) hbase hfew hline hs hplain).imp fun σ H Q q=>⟨rfl,_,q,fun x H1 z=>by
  split at z
  ·obtain ⟨cs,h,h2,z⟩:=z;exact ⟨_,cs,rfl,rfl,h,h2,z⟩
  ·exact z.elim⟩
end
section
variable {X:Cx} {tg a b e:Expr} {te ta tb:TE} {pos p:Pos}
noncomputable def cIter (K:Frag) (te:TE):TI:=fun σ H R=>te σ H fun x H1=>match x with
 | .str z=>R (Its z) H1
 | .ref a=>((∃ xs,SqL K H1 a xs)/\R (Itl K a) H1)\/((∃ xs,SqT K H1 a xs)/\R (Itt K a) H1)
 | _=>False
theorem wy (he:PE X e te):PI X tg e (cIter X.K te):=by
 intro pins s σ H R I h;refine thn (he pins s σ H _ I h) fun v s1 ⟨y,H1,I1,r1,q1⟩=>?_
 dsimp only at q1;split at q1
 ·rename_i x;obtain ⟨t,rfl⟩:=r1;refine wpAny_pyIter_strU ?_;refine ⟨s1.heap.objs.size,[s1.heap.objs.size],_,Its x,H1,rfl,I1.kept (t':=s1.toks) fun b o e=>Heap.get?_push_of_some _ e,uE x t _,⟨_,Heap.get?_push_size _ rfl,rfl,rfl⟩,fun b hb=>?_,q1⟩;have e:b=s1.heap.objs.size:=by simpa using hb
  subst e;exact I1.fpOk (Nat.le_refl _) (I1.hok.fresh (Nat.le_refl _))
 ·rename_i l;cases r1;rcases q1 with ⟨⟨xs,hq⟩,q⟩ | ⟨⟨xs,hq⟩,q⟩
  ·obtain ⟨its,rv,p,hz⟩:=I1.list hq;refine wpAny_pyIter_list p.isList ?_;refine ⟨s1.heap.objs.size,[s1.heap.objs.size],_,_,H1,rfl,I1.kept (t':=s1.toks) fun b o e=>Heap.get?_push_of_some _ e,tZ l _,⟨_,Heap.get?_push_size _ rfl,rfl,rfl⟩,fun b hb=>?_,q⟩;have e:b=s1.heap.objs.size:=by simpa using hb
   subst e;exact I1.fpOk (Nat.le_refl _) (I1.hok.fresh (Nat.le_refl _))
  ·obtain ⟨its,rv,p,hz⟩:=I1.tuple hq;refine wpAny_pyIter_tuple (show s1.heap.IsTuple l its.toArray from p) ?_;refine ⟨s1.heap.objs.size,[s1.heap.objs.size],_,_,H1,rfl,I1.kept (t':=s1.toks) fun b o e=>Heap.get?_push_of_some _ e,r8 l _,⟨_,Heap.get?_push_size _ rfl,rfl,rfl⟩,fun b hb=>?_,q⟩;have e:b=s1.heap.objs.size:=by simpa using hb
   subst e;exact I1.fpOk (Nat.le_refl _) (I1.hok.fresh (Nat.le_refl _))
 ·exact q1.elim
noncomputable def cRng1 (te:TE):TI:=fun σ H R=>te σ H fun x H1=>match x with
 | .int j=>-1000000<=j/\j<=1000000/\R (Itr 0 j.toNat) H1
 | _=>False
theorem bV (hg:Gl X "range") (hm:X.mg "range" = none) (ha:PE X a ta) (hs:starEach [a] X.env=[(false,eval a X.env)]:=by rfl):PI X tg (.Call (.Name "range" p) [a] [] pos) (cRng1 ta):=
 (uq hg hm (aa ha.mono ae hs) hs).imp fun σ H R q=>⟨_,q,fun x H1 z=>by
  split at z
  ·exact ⟨_,rfl,by omega,by omega,z.2.2⟩
  ·exact z.elim⟩
end
def loopW (J:It) (g:TG) (tb:TS) (D:Ends) (σ:St) (H:Hp):Prop:=∃ W:Nat->Nat->St->Hp->Prop,(∃ m,W 0 m σ H)/\∀ i m σ H,W i m σ H ->
 (J.stop i H/\D.nx σ H)\/(J.go i H/\∃ N:St->Hp->Prop,(∀ σ' H',N σ' H'->∃ m',m' < m/\W (i+1) m' σ' H')/\∀ x H',J.yld i H x H'->g x σ H' fun σ2 H2=>tb { D with nx:=N,ct:=N,bk:=D.nx } σ2 H2)
noncomputable def cFor (wi:TI) (g:TG) (tb:TS):TS:=fun D σ H=>wi σ H fun J H1=>loopW J g tb D σ H1
theorem bw {X:Cx} {tg iter:Expr} {body:List Stmt} {wi:TI} {g:TG} {tb:TS} {pos:Pos} (hp:PassesOwn (model X.prog X.w) X.A X.env X.xe) (hc:X.calm=true) (hi:PI X tg iter wi) (hg:PG X tg g) (hb:PSs X body tb)
  (hs:∀ x,foldedSetIterable iter X.env x=pure x:=by intro _; rfl):PS X (.For tg iter body [] pos) (cFor wi g tb):=yz hp hc hi hg hb hs
section
variable {K:Frag} {g:TG} {tb:TS} {D:Ends} {σ:St} {H:Hp}
noncomputable abbrev Ends.turn (D:Ends) (N:St->Hp->Prop):Ends:={ D with nx:=N,ct:=N,bk:=D.nx }
theorem uH {l:List Nat} (Pv:Nat->St->Hp->Prop) (h0:Pv 0 σ H) (hs:∀ i c σ H,l[i]? = some c->Pv i σ H->g (.str (st [c])) σ H fun σ2 H2=>tb (D.turn (Pv (i+1))) σ2 H2) (hd:∀ σ H,Pv l.length σ H->D.nx σ H):
  loopW (Its (st l)) g tb D σ H:=
 yl (n:=l.length) Pv h0 (fun i σ H hi _=>by show i < (st l).cps.size; simpa using hi) (fun σ H _=>by show (st l).cps.size<=l.length; simp)
  (fun i σ H x H' hi p y=>by
   obtain ⟨rfl,c,hc,rfl⟩:=y;exact hs i c σ _ (by simpa using hc) p) hd
theorem aN {p:Addr} {xs:List V} (Pv:Nat->St->Hp->Prop) (h0:Pv 0 σ H) (hl:∀ i σ H,i<=xs.length->Pv i σ H->SqL K H p xs)
  (hs:∀ i x σ H,xs[i]? = some x->Pv i σ H->g x σ H fun σ2 H2=>tb (D.turn (Pv (i+1))) σ2 H2) (hd:∀ σ H,Pv xs.length σ H->D.nx σ H):loopW (Itl K p) g tb D σ H:=vB Pv h0 hl hs hd
theorem vG {p:Addr} {xs:List V} (Pv:Nat->St->Hp->Prop) (h0:Pv 0 σ H) (hl:∀ i σ H,i<=xs.length->Pv i σ H->SqT K H p xs)
  (hs:∀ i x σ H,xs[i]? = some x->Pv i σ H->g x σ H fun σ2 H2=>tb (D.turn (Pv (i+1))) σ2 H2) (hd:∀ σ H,Pv xs.length σ H->D.nx σ H):loopW (Itt K p) g tb D σ H:=xt Pv h0 hl hs hd
theorem fP {lo:Int} {n:Nat} (Pv:Nat->St->Hp->Prop) (h0:Pv 0 σ H) (hs:∀ i σ H,i < n->Pv i σ H->g (.int (lo+i)) σ H fun σ2 H2=>tb (D.turn (Pv (i+1))) σ2 H2) (hd:∀ σ H,Pv n σ H->D.nx σ H):
  loopW (Itr lo n) g tb D σ H:=tF Pv h0 hs hd
end
def compW (J:It) (g:TG) (tc:TT) (te:TE) (σc:St) (D:Addr) (Q:VK) (H:Hp):Prop:=
 ∃ W:Nat->Nat->List V->Hp->Prop,(∃ m,W 0 m [] (upd H D (.lst [])))/\∀ i m acc H2,W i m acc H2 ->
  (J.stop i H2/\Q (.ref D) H2)\/(J.go i H2/\∀ x H3,J.yld i H2 x H3->g x σc H3 fun σ4 H4=>tc σ4 H4 fun b H5=>if b=true then
   te σ4 H5 fun v H6=>H6 D=some (.lst acc)/\acc.length < sizeLine/\∃ m',m' < m/\W (i+1) m' (acc++[v]) (upd H6 D (.lst (acc++[v]))) else ∃ m',m' < m/\W (i+1) m' acc H5)
noncomputable def cComp (nt:Nat) (fi:List Nat) (wi:TI) (g:TG) (tc:TT) (te:TE):TE:=fun σ H Q=>wi σ H fun J H1=>∀ D,H1 D=none->compW J g tc te (compσ nt fi σ) D Q H1
theorem aJ {X:Cx} {elt tg iter:Expr} {ifs:List Expr} {scope:Scope} {pos:Pos} {wi:TI} {g:TG} {tc:TT} {te:TE} {nt:Nat} {fi:List Nat} {N':List Str} (hcalm:X.calm=true)
  (S:CScope scope) (cn:CNames X scope nt fi N') (gk:GK nt g) (hi:PI X tg iter wi)
  (hg:∀ cl C s H ex,PG (cxC X scope cl N' C s H ex) tg g) (hc:∀ cl C s H ex,PIf (cxC X scope cl N' C s H ex) ifs tc) (he:∀ cl C s H ex,PE (cxC X scope cl N' C s H ex) elt te)
  (hs:∀ x,foldedSetIterable iter X.env x=pure x:=by intro _; rfl):PE X (.ListComp elt [⟨tg,iter,ifs,0⟩] scope pos) (cComp nt fi wi g tc te):=wN hcalm S cn gk hi hg hc he hs
section
variable {K:Frag} {J:It} {g:TG} {tc:TT} {te:TE} {σc:St} {D:Addr} {Q:VK} {H:Hp}
theorem eR {α:Type} (f:Nat->List α) (n:Nat):(List.range (n+1)).flatMap f=(List.range n).flatMap f++f n:=by
 rw [List.range_succ,List.flatMap_append];simp
theorem nA {α:Type} (f:Nat->List α) (hf:∀ i,(f i).length<=1) (n:Nat):((List.range n).flatMap f).length<=n:=by
 induction n with
 | zero=>simp
 | succ n ih=>
  rw [eR,List.length_append];have:=hf n;omega
theorem sM {n:Nat} (f:Nat->List V) (hfree:H D=none) (hn:n<=100000) (hf:∀ i,(f i).length<=1) (hy:∀ i H x H',J.yld i H x H'->Same H H')
  (hgo:∀ i H',i < n->Same H H'->J.go i H') (hst:∀ H',Same H H'->J.stop n H')
  (hs:∀ i H1 x H2 (out:VK) (non:Hp->Prop),i < n->Same H H1->J.yld i H1 x H2->(∀ v H6,f i=[v]->Same H2 H6->out v H6)->(∀ H5,f i=[]->Same H2 H5->non H5) ->
   g x σc H2 fun σ4 H4=>tc σ4 H4 fun b H5=>if b=true then te σ4 H5 out else non H5)
  (hq:∀ H',Same H H'->H' D=some (.lst ((List.range n).flatMap f))->Q (.ref D) H'):compW J g tc te σc D Q H:=by
 refine ⟨fun i m acc H2=>m=n - i/\i<=n/\acc=(List.range i).flatMap f/\Same H H2/\H2 D=some (.lst acc),⟨n,by simp,Nat.zero_le _,by simp,af hfree _,ab⟩,?_⟩;rintro i m acc H2 ⟨rfl,hi,rfl,sm,hD⟩;by_cases hlt:i < n
 ·refine .inr ⟨hgo i H2 hlt sm,fun x H3 y=>?_⟩;have s23:=hy i H2 x H3 y;refine hs i H2 x H3 _ _ hlt sm y (fun v H6 e s6=>?_) fun H5 e s5=>?_
  ·refine ⟨s6 _ _ (s23 _ _ hD),Nat.lt_of_le_of_lt (nA f hf i) (sizeBig (by omega)),n - (i+1),by omega,rfl,hlt,?_,?_,ab⟩
   ·rw [eR,e]
   ·exact aG (sm.trans (s23.trans s6)) hfree
  ·refine ⟨n - (i+1),by omega,rfl,hlt,?_,sm.trans (s23.trans s5),s5 _ _ (s23 _ _ hD)⟩;rw [eR,e,List.append_nil]
 ·have e:i=n:=by omega
  subst e;exact .inl ⟨hst H2 sm,hq H2 sm hD⟩
noncomputable def atH {α β:Type} (xs:List α) (h:α -> List β) (i:Nat):List β:=((xs[i]?).map h).getD []
theorem uB {α β:Type} {xs:List α} {h:α -> List β} {i:Nat} {x:α} (e:xs[i]? = some x):atH xs h i=h x:=by simp [atH,e]
theorem v3 {α β:Type} {xs:List α} {h:α -> List β} (hf:∀ x,(h x).length<=1) (i:Nat):(atH xs h i).length<=1:=by
 unfold atH;cases xs[i]? with
 | none=>simp
 | some x=>simpa using hf x
theorem wt {α β:Type} (xs:List α) (h:α -> List β):(List.range xs.length).flatMap (atH xs h)=xs.flatMap h:=by
 induction xs with
 | nil=>rfl
 | cons a xs ih=>
  rw [List.length_cons,List.range_succ_eq_map,List.flatMap_cons,List.flatMap_map,List.flatMap_cons,<- ih];rfl
section
variable {α:Type} (item:α -> V) (xs:List α) (h:α -> List V)
theorem bU {p:Addr} (hfree:H D=none) (hl:SqL K H p (xs.map item)) (hn:xs.length<=100000) (hf:∀ x,(h x).length<=1)
  (hs:∀ x H1 (out:VK) (non:Hp->Prop),x ∈ xs->Same H H1->(∀ v H6,h x=[v]->Same H1 H6->out v H6)->(∀ H5,h x=[]->Same H1 H5->non H5) ->
   g (item x) σc H1 fun σ4 H4=>tc σ4 H4 fun b H5=>if b=true then te σ4 H5 out else non H5)
  (hq:∀ H',Same H H'->H' D=some (.lst (xs.flatMap h))->Q (.ref D) H'):compW (Itl K p) g tc te σc D Q H:=by
 refine sM (n:=xs.length) (atH xs h) hfree hn (v3 hf) (fun i H x H' y=>?_) (fun i H' hi s=>?_) (fun H' s=>?_) (fun i H1 x H2 out non hi s y ho hnn=>?_) fun H' s q=>?_
 ·rw [y.1];exact Same.refl _
 ·exact ⟨_,item xs[i],s.seq hl,by simp [hi]⟩
 ·exact ⟨_,s.seq hl,by simp⟩
 ·obtain ⟨rfl,y⟩:=y;have e:=y _ (s.seq hl);rw [List.getElem?_map,List.getElem?_eq_getElem hi] at e;have e2:item xs[i]=x:=Option.some.inj e;subst e2;simp only [uB (List.getElem?_eq_getElem hi)] at ho hnn;exact hs xs[i] _ out non (List.getElem_mem hi) s ho hnn
 ·rw [wt] at q;exact hq H' s q
theorem nI {lo:Int} {n:Nat} {h:Nat->List V} (hfree:H D=none) (hn:n<=100000) (hf:∀ x,(h x).length<=1)
  (hs:∀ i H1 (out:VK) (non:Hp->Prop),i < n->Same H H1->(∀ v H6,h i=[v]->Same H1 H6->out v H6)->(∀ H5,h i=[]->Same H1 H5->non H5) ->
   g (.int (lo+i)) σc H1 fun σ4 H4=>tc σ4 H4 fun b H5=>if b=true then te σ4 H5 out else non H5)
  (hq:∀ H',Same H H'->H' D=some (.lst ((List.range n).flatMap h))->Q (.ref D) H'):compW (Itr lo n) g tc te σc D Q H:=by
 refine sM (n:=n) h hfree hn hf (fun i H x H' y=>?_) (fun i H' hi s=>hi) (fun H' s=>Nat.le_refl _) (fun i H1 x H2 out non hi s y ho hnn=>?_) hq
 ·rw [y.1];exact Same.refl _
 ·obtain ⟨rfl,rfl⟩:=y;exact hs i _ out non hi s ho hnn
end
end
noncomputable def cnOk (N:List Str) (sc scope:Scope) (nt:Nat) (fi:List Nat) (N':List Str):Bool:=
 N'.length == nt+fi.length && ((List.range fi.length).all fun k=>match fi[k]? with
  | some j=>match N'[nt+k]?,N[j]? with
   | some x,some y=>x == y && scope.names.lookup x == some NameKind.free
   | _,_=>false
  | none=>false) && scope.names.all fun y=>y.2 != NameKind.free || (sc.names.lookup y.1 == some NameKind.cell || sc.names.lookup y.1 == some NameKind.free)
theorem cnames {X:Cx} {N:List Str} {sc scope:Scope} {nt:Nat} {fi:List Nat} {N':List Str} (hN:X.N=N) (hsc:X.env.scope=sc) (h:cnOk N sc scope nt fi N'=true):CNames X scope nt fi N':=by
 unfold cnOk at h;simp only [Bool.and_eq_true,List.all_eq_true,List.mem_range,beq_iff_eq] at h;obtain ⟨⟨h1,h2⟩,h3⟩:=h;refine ⟨h1,fun k j e=>?_,fun y hy e=>?_⟩
 ·have hk:k < fi.length:=(List.getElem?_eq_some_iff.mp e).1;have q:=h2 k hk;rw [e] at q;dsimp only at q;split at q
  ·rename_i x y e1 e2;simp only [Bool.and_eq_true,beq_iff_eq] at q;obtain ⟨rfl,q⟩:=q;exact ⟨_,e1,by rw [hN]; exact e2,q⟩
  ·cases q
 ·have q:=h3 y hy;rw [e] at q;rw [hsc];simpa using q
theorem cscope {scope:Scope} (hk:scope.kind=.function) (h:(scope.names.all fun y=>y.2 != NameKind.cell && (y.2 != NameKind.local || scope.names.lookup y.1 == some NameKind.local))=true):CScope scope:=by
 simp only [List.all_eq_true,Bool.and_eq_true] at h;refine ⟨hk,fun y hy e=>?_,fun y hy e=>?_⟩
 ·have:=(h y hy).1;rw [e] at this;exact absurd this (by decide)
 ·have:=(h y hy).2;rw [e] at this;simpa using this
theorem bK:bootBuiltins "len" = some (.builtin "len"):=by decide +kernel
theorem rH:bootBuiltins "sum" = some (.builtin "sum"):=by decide +kernel
theorem yG:bootBuiltins "min" = some (.builtin "min"):=by decide +kernel
theorem uM:bootBuiltins "max" = some (.builtin "max"):=by decide +kernel
theorem ou:bootBuiltins "sorted" = some (.builtin "sorted"):=by decide +kernel
theorem nS:bootBuiltins "isinstance" = some (.builtin "isinstance"):=by decide +kernel
theorem ve:bootBuiltins "str" = some (.type "str"):=by decide +kernel
theorem wM:bootBuiltins "bool" = some (.type "bool"):=by decide +kernel
theorem dz:bootBuiltins "list" = some (.type "list"):=by decide +kernel
theorem uV:bootBuiltins "tuple" = some (.type "tuple"):=by decide +kernel
inductive Ty where
 | bool | int | str | list | tuple
noncomputable def Ty.nm:Ty->String
 | .bool => "bool" | .int => "int" | .str => "str" | .list => "list" | .tuple => "tuple"
noncomputable def Ty.isBl:Ty->Bool
 | .bool=>true | .int=>true | _=>false
noncomputable def Ty.isInt:Ty->Bool
 | .int=>true | _=>false
noncomputable def Ty.isStr:Ty->Bool
 | .str=>true | _=>false
noncomputable def Ty.isLst:Ty->Bool
 | .list=>true | _=>false
noncomputable def Ty.isTup:Ty->Bool
 | .tuple=>true | _=>false
section
variable {K:Frag}
theorem wP (n:Ty):PySem.W.kitOne K (.type "NoneType") (.type n.nm)=some false:=by cases n <;> with_unfolding_all rfl
theorem ym (n:Ty):PySem.W.kitOne K (.type "bool") (.type n.nm)=some n.isBl:=by cases n <;> with_unfolding_all rfl
theorem xv (n:Ty):PySem.W.kitOne K (.type "int") (.type n.nm)=some n.isInt:=by cases n <;> with_unfolding_all rfl
theorem we (n:Ty):PySem.W.kitOne K (.type "str") (.type n.nm)=some n.isStr:=by cases n <;> with_unfolding_all rfl
theorem xc (n:Ty):PySem.W.kitOne K (.type "list") (.type n.nm)=some n.isLst:=by cases n <;> with_unfolding_all rfl
theorem wQ (n:Ty):PySem.W.kitOne K (.type "tuple") (.type n.nm)=some n.isTup:=by cases n <;> with_unfolding_all rfl
end
section
variable {X:Cx} {a b e:Expr} {ta tb te:TE} {pos p p2:Pos}
theorem zw {x:Str} {n:String} (hg:Gl X x) (hm:X.mg x=none) (hv:bootBuiltins x=some (.type n)) (hn:x ≠ "__name__" := by decide) (hd:(x == ("__debug__" : Str))=false:=by decide):PE X (.Name x pos) (tC (.ty n)):=wJ (v:=.ty n) hg hm hv rfl hn hd
noncomputable def cIsI (n:Ty) (ta:TE):TE:=fun σ H Q=>ta σ H fun x H1=>match x with
 | .non=>Q (.bl false) H1
 | .bl _=>Q (.bl n.isBl) H1
 | .int _=>Q (.bl n.isInt) H1
 | .str _=>Q (.bl n.isStr) H1
 | .ref p=>((∃ xs,H1 p=some (.lst xs))/\Q (.bl n.isLst) H1)\/((∃ xs,H1 p=some (.tup xs))/\Q (.bl n.isTup) H1)
 | _=>False
theorem jB {x:Str} (n:Ty) (hg:Gl X "isinstance") (hm:X.mg "isinstance" = none) (ha:PE X a ta) (hg2:Gl X x) (hm2:X.mg x=none) (hv2:bootBuiltins x=some (.type n.nm)) (hn2:x ≠ "__name__" := by decide) (hd2:(x == ("__debug__" : Str))=false:=by decide)
  (hs:starEach [a,.Name x p2] X.env=(false,eval a X.env)::starEach [.Name x p2] X.env:=by rfl) (hpl:(backTo pos (starEach [.Name x p2] X.env)).any (·.1)=false:=by rfl):PE X (.Call (.Name "isinstance" p) [a,.Name x p2] [] pos) (cIsI n ta):=
 (aH qS hg hm nS (aa ha.mono (aa (zw hg2 hm2 hv2 hn2 hd2) ae) hs) (he:=hs) (hpl:=hpl)).imp fun σ H Q q=>⟨_,q,fun v H1 z=>by
  show Ex4 fun x n t b=>[v,V.ty _]=[x,.ty n]/\TyOf X.K H1 x t/\PySem.W.kitOne X.K t (.type n)=some b/\Q (.bl b) H1
  split at z
  ·exact ⟨_,_,_,_,rfl,.non,wP n,z⟩
  ·exact ⟨_,_,_,_,rfl,.bl _,ym n,z⟩
  ·exact ⟨_,_,_,_,rfl,.int _,xv n,z⟩
  ·exact ⟨_,_,_,_,rfl,.str _,we n,z⟩
  ·rcases z with ⟨⟨xs,h⟩,z⟩ | ⟨⟨xs,h⟩,z⟩
   ·exact ⟨_,_,_,_,rfl,.lst h,xc n,z⟩
   ·exact ⟨_,_,_,_,rfl,.tup h,wQ n,z⟩
  ·exact z.elim⟩
noncomputable def kSl (K:Frag):V->Option Int->Option Int->Hp->VK->Prop:=fun x lo hi H Q=>match x with
 | .str z=>match lo,hi with
  | none,some j=>z.cps.toList.length<=100000/\0<=j/\j<=z.cps.toList.length/\Q (.str (st (z.cps.toList.take j.toNat))) H
  | some i,none=>z.cps.toList.length<=100000/\0<=i/\i<=z.cps.toList.length/\Q (.str (st (z.cps.toList.drop i.toNat))) H
  | _,_=>False
 | .ref a=>∃ xs,SqL K H a xs/\∀ p,H p=none->Q (.ref p) (upd H p (.lst (cutV xs lo hi)))
 | _=>False
theorem zB:SlR X (kSl X.K):=by
 refine (SlR.or uu v8).imp fun x lo hi H Q q=>?_
 unfold kSl at q;split at q
 ·rename_i z;split at q
  ·obtain ⟨h,h0,h1,q⟩:=q;rename_i j;obtain ⟨k,rfl⟩:∃ k:Nat,j=k:=⟨j.toNat,by lia⟩;refine .inl ⟨z,rfl,by rw [strlen]; exact Nat.le_trans h big5,?_⟩;have e:=uI z.cps.toList k (by lia);rw [bf] at e;rw [e];simpa using q
  ·obtain ⟨h,h0,h1,q⟩:=q;rename_i j;obtain ⟨k,rfl⟩:∃ k:Nat,j=k:=⟨j.toNat,by lia⟩;refine .inl ⟨z,rfl,by rw [strlen]; exact Nat.le_trans h big5,?_⟩;have e:=rk z.cps.toList k (by lia);rw [bf] at e;rw [e];simpa using q
  ·exact q.elim
 ·obtain ⟨xs,h,q⟩:=q;exact .inr ⟨_,_,rfl,h,q⟩
 ·exact q.elim
noncomputable def kEqNil (K:Frag):R2:=fun x y H Q=>match x,y with
 | .ref a,.ref b=>∃ xs,SqL K H a xs/\SqL K H b []/\Q (.bl (decide (xs=[]))) H
 | _,_=>False
theorem y0 (hu:X.A.units < cLine):OpR X (compareOp .Eq) (kEqNil X.K):=(tI hu).imp fun x y H Q q=>by
 unfold kEqNil at q;split at q
 ·obtain ⟨xs,h1,h2,q⟩:=q;exact ⟨_,_,_,rfl,rfl,h1,h2,q⟩
 ·exact q.elim
theorem hu1 {k:Nat} {A:Around} (hr:Room k A):A.units < cLine:=hr.units0
end
section
variable {X:Cx} {a b e:Expr} {ta tb te:TE} {pos p apos cpos:Pos}
theorem ixE (K:Frag) (h:X.K=K):IxR X (kIx K):=by subst h; exact zC
theorem slE (K:Frag) (h:X.K=K):SlR X (kSl K):=by subst h; exact zB
theorem lenE (K:Frag) (h:X.K=K):CallR X (.builtin "len") (kLen K):=by subst h; exact tG
theorem inE (K:Frag) (h:X.K=K):OpR X (compareOp .In) (kIn K false):=by subst h; exact za
theorem notinE (K:Frag) (h:X.K=K):OpR X (compareOp .NotIn) (kIn K true):=by subst h; exact tY
theorem eqNilE (K:Frag) (h:X.K=K) (hu:X.A.units < cLine):OpR X (compareOp .Eq) (kEqNil K):=by subst h; exact y0 hu
theorem joinE (K:Frag) (h:X.K=K) {j:Nat} {p1:Pos} (he:PE X e te) (hfew:((backTo cpos (starEach [e] X.env)).all (fun x=>!x.1) && (backToKw cpos (keywordEach [] X.env)).all (fun x=>x.1.isSome)
   && decide ([e].length+([]:List Keyword).length+(if ([]:List Keyword).isEmpty then 0 else 1) < 30))=true:=by rfl)
  (hline:(apos.endLine == cpos.line)=true:=by rfl) (hs:starEach [e] X.env=(false,eval e X.env)::starEach [] X.env:=by rfl) (hplain:(backTo cpos (starEach [] X.env)).any (·.1)=false:=by rfl)
  (hbase:attributeBase (.Constant (.str (Str.ofString "")) j p1) "join" X.env (eval (.Constant (.str (Str.ofString "")) j p1) X.env)=eval (.Constant (.str (Str.ofString "")) j p1) X.env:=by rfl):
  PE X (.Call (.Attribute (.Constant (.str (Str.ofString "")) j p1) "join" apos) [e] [] cpos) (cJoin1 K te):=by subst h; exact uQ he hfew hline hs hplain hbase
theorem iterE (K:Frag) (h:X.K=K) {tg:Expr} (he:PE X e te):PI X tg e (cIter K te):=by subst h; exact wy he
theorem tupE (K:Frag) (h:X.K=K) {es:List Expr} {k:Nat} {t:TGs} {n:Nat} (hc:X.calm=true) (hp:PGs X es t) (hn:(assignEach es X.env).length=n:=by rfl) (hst:(assignEach es X.env).findIdx? (·.1)=none:=by rfl):PG X (.Tuple es k pos) (gTup K n t):=by subst h; exact vz hc hp hn hst
end
section
variable {t u:TS} {te ta tb:TE} {tc:TT} {D:Ends} {σ:St} {H:Hp} {Q:VK} {R:Bool->Hp->Prop} {i:Nat} {v:V}
theorem yp:cVar i σ H Q=(match σ[i]? with | some (some v)=>Q v H | _=>False):=rfl
theorem zA:tC v σ H Q=Q v H:=rfl
theorem zh {r:R2}:tOp r ta tb σ H Q=ta σ H fun x H1=>tb σ H1 fun y H2=>r x y H2 Q:=rfl
theorem wz {a b:Int}:kAdd (.int a) (.int b) H Q=Q (.int (a+b)) H:=rfl
theorem xz {a b:List Nat}:kAdd (.str (st a)) (.str (st b)) H Q=(a.length+b.length<=100000/\Q (.str (st (a++b))) H):=rfl
theorem wK {a b:Addr}:kAdd (.ref a) (.ref b) H Q=Ex2 fun xs zs=>H a=some (.lst xs)/\H b=some (.lst zs)/\xs.length+zs.length<=sizeLine/\∀ p,H p=none->Q (.ref p) (upd H p (.lst (xs++zs))):=rfl
theorem zz {C:Int->Int->Prop} {g:Int->Int->V} {a b:Int}:kI C g (.int a) (.int b) H Q=(C a b/\Q (g a b) H):=rfl
theorem zn {g:Int->Int->V} {a b:Int}:kI0 g (.int a) (.int b) H Q=Q (g a b) H:=rfl
theorem xk {a b:Int}:kMul (.int a) (.int b) H Q=(CMul a b/\Q (.int (a*b)) H):=rfl
theorem wT {c:Nat} {n:Int}:kMul (.str (st [c])) (.int n) H Q=(0<=n/\n<=10000/\Q (.str (st (List.replicate n.toNat c))) H):=by
 show (∃ d,[c]=[d]/\0<=n/\n<=10000/\Q (.str (st (List.replicate n.toNat d))) H)=_;refine propext ⟨?_,fun h=>⟨c,rfl,h⟩⟩;rintro ⟨d,e,h⟩;cases e;exact h
theorem x4 {n:Bool} {a b:Int}:kEq n (.int a) (.int b) H Q=Q (.bl (n ^^ decide (a=b))) H:=rfl
theorem yK {n:Bool} {a b:List Nat}:kEq n (.str (st a)) (.str (st b)) H Q=Q (.bl (n ^^ decide (a=b))) H:=rfl
theorem yr {n:Bool} {a b:Bool}:kEq n (.bl a) (.bl b) H Q=Q (.bl (n ^^ decide (a=b))) H:=rfl
theorem xG {n:Bool} {b:Str}:kEq n .non (.str b) H Q=Q (.bl (n ^^ false)) H:=rfl
theorem wY {n:Bool} {b:Str}:kEq n (.str b) .non H Q=Q (.bl (n ^^ false)) H:=rfl
theorem xo {n:Bool}:kEq n .non .non H Q=Q (.bl (n ^^ true)) H:=rfl
theorem zo {n:Bool} {x:V}:kIs n x .non H Q=Q (.bl (n ^^ decide (x=.non))) H:=rfl
theorem yW {K:Frag} {n:Bool} {c:Nat} {b:List Nat}:kIn K n (.str (st [c])) (.str (st b)) H Q=Q (.bl (n ^^ decide (c ∈ b))) H:=by
 show (∃ d,[c]=[d]/\Q (.bl (n ^^ decide (d ∈ b))) H)=_;refine propext ⟨?_,fun h=>⟨c,rfl,h⟩⟩;rintro ⟨d,e,h⟩;cases e;exact h
theorem yL {K:Frag} {n:Bool} {x:V} {p:Addr}:kIn K n x (.ref p) H Q=∃ xs,(SqL K H p xs\/SqT K H p xs)/\flatV x=true/\xs.all flatV=true/\Q (.bl (n ^^ inV x xs)) H:=by
 cases x <;> rfl
theorem yQ {K:Frag} {l:List Nat} {j:Int}:kIx K (.str (st l)) (.int j) H Q=(l.length<=100000/\∃ c,atI l j=some c/\Q (.str (st [c])) H):=rfl
theorem yS {K:Frag} {p:Addr} {j:Int}:kIx K (.ref p) (.int j) H Q=Ex2 fun xs v=>(SqL K H p xs\/SqT K H p xs)/\atI xs j=some v/\Q v H:=rfl
theorem xr {K:Frag} {l:List Nat}:kLen K [.str (st l)] H Q=(l.length<=100000/\Q (.int l.length) H):=rfl
theorem wE {K:Frag} {p:Addr}:kLen K [.ref p] H Q=∃ ys,(SqL K H p ys\/SqT K H p ys)/\Q (.int ys.length) H:=rfl
theorem xq {K:Frag} {l:List Nat} {j:Int}:kSl K (.str (st l)) none (some j) H Q=(l.length<=100000/\0<=j/\j<=l.length/\Q (.str (st (l.take j.toNat))) H):=rfl
theorem uf {K:Frag} {l:List Nat} {j:Int}:kSl K (.str (st l)) (some j) none H Q=(l.length<=100000/\0<=j/\j<=l.length/\Q (.str (st (l.drop j.toNat))) H):=rfl
theorem yo {K:Frag} {p:Addr} {lo hi:Option Int}:kSl K (.ref p) lo hi H Q=∃ xs,SqL K H p xs/\∀ q,H q=none->Q (.ref q) (upd H q (.lst (cutV xs lo hi))):=rfl
theorem zq {r:V->Option Int->Option Int->Hp->VK->Prop} {tl th:TO}:tSl r te tl th σ H Q=te σ H fun x H1=>tl σ H1 fun l H2=>th σ H2 fun u H3=>r x l u H3 Q:=rfl
theorem tO {Q:Option Int->Hp->Prop}:tNoPart σ H Q=Q none H:=rfl
noncomputable def cPart (t:TE):TO:=fun σ H Q=>t σ H fun x H1=>match x with | .int i=>Q (some i) H1 | _=>False
theorem wL {Q:Option Int->Hp->Prop}:cPart te σ H Q=te σ H fun x H1=>match x with | .int i=>Q (some i) H1 | _=>False:=rfl
theorem vy {K:Frag} {a b:Addr}:kEqNil K (.ref a) (.ref b) H Q=∃ xs,SqL K H a xs/\SqL K H b []/\Q (.bl (decide (xs=[]))) H:=rfl
theorem zc {n:Ty}:cIsI n ta σ H Q=ta σ H fun x H1=>match x with
 | .non=>Q (.bl false) H1
 | .bl _=>Q (.bl n.isBl) H1
 | .int _=>Q (.bl n.isInt) H1
 | .str _=>Q (.bl n.isStr) H1
 | .ref p=>((∃ xs,H1 p=some (.lst xs))/\Q (.bl n.isLst) H1)\/((∃ xs,H1 p=some (.tup xs))/\Q (.bl n.isTup) H1)
 | _=>False:=rfl
theorem xp:cTest te σ H R=te σ H (blK R):=rfl
theorem zy {b:Bool}:blK R (.bl b) H=R b H:=rfl
theorem wZ:cAndV ta tb σ H Q=ta σ H (blK fun c H1=>if c=true then tb σ H1 Q else Q (.bl false) H1):=rfl
theorem yY {t u:TT}:tAnd t u σ H R=t σ H fun c H1=>if c=true then u σ H1 R else R false H1:=rfl
theorem zr {t u:TT}:tOr t u σ H R=t σ H fun c H1=>if c=true then R true H1 else u σ H1 R:=rfl
theorem yO {t:TT}:tNot t σ H R=t σ H fun c H1=>R (!c) H1:=rfl
theorem y8:tYes σ H R=R true H:=rfl
theorem zp:tIf tc ta tb σ H Q=tc σ H fun c H1=>if c=true then ta σ H1 Q else tb σ H1 Q:=rfl
theorem yq:cApp ta te σ H Q=ta σ H fun x H1=>match x with
 | .ref l=>(∃ xs,H1 l=some (.lst xs))/\te σ H1 fun y H2=>∃ xs,H2 l=some (.lst xs)/\xs.length < sizeLine/\Q .non (upd H2 l (.lst (xs++[y])))
 | _=>False:=rfl
theorem vD {K:Frag}:cJoin1 K te σ H Q=te σ H fun x H1=>match x with
 | .ref l=>∃ cs:List Nat,SqL K H1 l (cs.map fun k=>V.str (st [k]))/\cs.length<=10000/\Q (.str (st cs)) H1
 | _=>False:=rfl
theorem ze {R:List V->Hp->Prop}:tNil σ H R=R [] H:=rfl
theorem xB {t:TA} {R:List V->Hp->Prop}:tCons ta t σ H R=ta σ H fun x H1=>t σ H1 fun xs H2=>R (x::xs) H2:=rfl
theorem wm {sp:Sp} {E:XK} {t:TA}:tCall sp [] E t σ H Q=t σ H fun vs H1=>sp vs H1 Q E:=by
 unfold tCall;simp only [List.append_nil]
theorem zl {r:List V->Hp->VK->Prop} {t:TA}:tCB r t σ H Q=t σ H fun vs H1=>r vs H1 Q:=rfl
theorem xW {t:TA}:tLst t σ H Q=t σ H fun xs H1=>xs.length<=sizeLine/\∀ p,H1 p=none->Q (.ref p) (upd H1 p (.lst xs)):=rfl
theorem yt {t:TA}:tTup t σ H Q=t σ H fun xs H1=>xs.length<=sizeLine/\∀ p,H1 p=none->Q (.ref p) (upd H1 p (.tup xs)):=rfl
theorem w4:tNext D σ H=D.nx σ H:=rfl
theorem xU:tSeq t u D σ H=t { D with nx:=u D } σ H:=rfl
theorem wI:tDrop te D σ H=te σ H fun _ H1=>D.nx σ H1:=rfl
theorem yJ:tRet te D σ H=te σ H D.rt:=rfl
theorem yU:tIfS tc t u D σ H=tc σ H fun b H1=>if b=true then t D σ H1 else u D σ H1:=rfl
theorem xZ {g:TG}:tAsg te g D σ H=te σ H fun x H1=>g x σ H1 D.nx:=rfl
theorem wO {R:St->Hp->Prop}:gName i v σ H R=R (σ.set i (some v)) H:=rfl
theorem wW:tJoin t u D σ H=∃ J:St->Hp->Prop,t { D with nx:=J } σ H/\∀ σ' H',J σ' H'->u D σ' H':=rfl
theorem yf {wi:TI} {g:TG}:cFor wi g t D σ H=wi σ H fun J H1=>loopW J g t D σ H1:=rfl
theorem wo {K:Frag} {R:It->Hp->Prop}:cIter K te σ H R=te σ H fun x H1=>match x with
 | .str z=>R (Its z) H1
 | .ref a=>((∃ xs,SqL K H1 a xs)/\R (Itl K a) H1)\/((∃ xs,SqT K H1 a xs)/\R (Itt K a) H1)
 | _=>False:=rfl
theorem xC {R:It->Hp->Prop}:cRng1 te σ H R=te σ H fun x H1=>match x with
 | .int j=>-1000000<=j/\j<=1000000/\R (Itr 0 j.toNat) H1
 | _=>False:=rfl
theorem vU {nt:Nat} {fi:List Nat} {wi:TI} {g:TG}:cComp nt fi wi g tc te σ H Q=wi σ H fun J H1=>∀ D,H1 D=none->compW J g tc te (compσ nt fi σ) D Q H1:=rfl
end
theorem zu {CX:CXT} {P:Program} {w:World} {K:Frag} {mg:Str->Option Value} {base:Heap} {N:List Str} {qual:Str} {scope:Scope} {f:Addr} {cd:Value} {A:Around} {outer:List Env} {s:Shared} {H:Hp} {E:XK}:(cxOf CX P w K mg base N qual scope f cd A outer s H E).K=K:=rfl
theorem yb {X:Cx} {scope:Scope} {cl:List (Str × Addr)} {N':List Str} {C:Addr} {s:Shared} {H:Hp} {ex:List Addr}:(cxC X scope cl N' C s H ex).K=X.K:=rfl
theorem zv {a b:Nat}:(([a]:List Nat)=[b])=(a=b):=by simp
theorem bG {X:Cx} {e:Expr} {te:TE} (h:PE X e te):PO X (some e) (cPart te):=fun pins s σ H Q I q=>wV h.mono pins s σ H Q I ⟨_,q,fun v H1 z=>by
 split at z
 ·exact ⟨_,rfl,z⟩
 ·exact z.elim⟩
end L2
namespace Mir
open PySem L2
noncomputable def cell (ns:List Int) (k:Nat):Int:=(ns[k]?).getD 0
noncomputable def num (c:Int):Nat->Int
 | 0=>c % 2147483647+1
 | i+1=>(num c i*48271+7*(i:Int)*(i:Int)+3) % 2147483647
noncomputable def stream (c:Int) (n:Nat):List Int:=(List.range n).map fun i=>num c (i+1) / 16
noncomputable def bit (m:Int):Nat:=if m % 2=0 then 48 else 49
noncomputable def rowSign (l e:Int):Nat:=if e % l > 0 then 45 else bit (e / 64)
noncomputable def row (c:Int) (w:Nat) (l:Int):List Nat:=(stream c w).map (rowSign l)
noncomputable def within (one other:List Nat):Bool:=(one.zip other).all fun p=>p.2 == 45 || p.2 == p.1
end Mir
namespace L2
open PySem PySem.Spec PyProof.Rows
theorem z_pos {K:Params->Frag} {as:List Addr} {n t:Nat} {w:World} {s:Shared} (y:PySem.W.X.obsZ as s=PySem.W.X.valZ K n t w) (e:∀ P,as=(K P).map (·.1)) (ht:0 < t):(K w.params).In s.heap/\0 < s.toks:=by
 obtain ⟨_,h,_,q⟩:=PySem.W.X.z_facts e y;exact ⟨h,by rw [q]; exact ht⟩
section
variable {prog:Program} {w:World} {A:Around} {E:Value->Shared->Prop} {s:Shared}
theorem IsList.extBut' {h h':Heap} {a l:Addr} {items:Array Value} (hl:h.IsList l items) (he:Heap.ExtBut a h h') (hne:l≠a):h'.IsList l items:=by
 obtain ⟨o,ho,r⟩:=hl;exact ⟨o,he l o hne ho,r⟩
theorem qL {it t:Addr} {items:Array Value} (apart:t≠it):∀ (mid front back:List Value) (s:Shared) (Q:List Value->Shared->Prop),items.toList=front++(mid++back)->s.heap.IsListIter it t front.length->s.heap.IsList t items ->
  (∀ g:Heap,g.IsListIter it t (front.length+mid.length)->Heap.SameBut it s.heap g->Q mid { s with heap:=g })->wpAny (model prog w) A (draw (.ref it) mid.length) Q E s
 | [],front,_,s,Q,_,at0,_,k=>wpAny_pure (k s.heap at0 (Heap.SameBut.refl ..))
 | x::mid,front,back,s,Q,e,at0,il,k=>by
  have here:items[front.length]? = some x:=by
   rw [<- Array.getElem?_toList,e,List.getElem?_append_right (Nat.le_refl _),Nat.sub_self];rfl
  refine wpAny_bind (m:=pyNext (.ref it)) (wpAny_pyNext_list_item at0 il here fun g1 at1 t1=>?_);refine wpAny_bind (wpAny_holding (qL apart mid (front++[x]) back _ _ (by rw [e]; simp) (by rw [List.length_append]; exact at1) (IsList.extBut' il t1.extBut apart) fun g2 at2 t2=>wpAny_pure (k g2 ?_ (t1.trans t2))));have sum:(front++[x]).length+mid.length=front.length+(x::mid).length:=by
   simp only [List.length_append,List.length_cons,List.length_nil]
   lia
  rw [sum] at at2;exact at2
theorem lG {t:Addr} {items:Array Value} {Q:List Value->Shared->Prop} (hh:A.handled=none) (ht:s.heap.IsList t items)
  (k:∀ g,Heap.ExtBut s.heap.objs.size s.heap g->Q items.toList { s with heap:=g }):wpAny (model prog w) A (unpackItems (.ref t) items.size none) Q E s:=by
 have below:t≠s.heap.objs.size:=Nat.ne_of_lt (let ⟨_,q,_⟩:=ht; Heap.lt_size q);have still:(s.heap.push { cls:=.type "list_iterator",data:=.fields #[.ref t,.int 0 0] }).IsList t items:=let ⟨o,q,r⟩:=ht; ⟨o,Heap.get?_push_of_some _ q,r⟩
 unfold unpackItems notIterableAtAll;refine wpAny_bind (wpAny_bind (wpAny_specialOf ht.typeIs slot_list_iter.lookup (wpAny_pure ?_)));rw [if_neg (by decide)];refine wpAny_bind (wpAny_holding (wpAny_pyIter_list ht ?_));have whole:=qL (prog:=prog) (w:=w) (A:=A) (E:=E) (items:=items) below items.toList [] [] { s with heap:=s.heap.push { cls:=.type "list_iterator",data:=.fields #[.ref t,.int 0 0] } };rw [Array.length_toList] at whole;refine wpAny_bind (wpAny_holding (whole _ (by simp) ⟨_,Heap.get?_push_size _ rfl,rfl,rfl⟩ still fun g1 at1 t1=>?_));rw [if_neg (by simp)];refine wpAny_bind (wpAny_holding (wpAny_pyNext_list_end hh at1 (IsList.extBut' still t1.extBut below) (by simp) fun g2 t2=>?_));rw [if_neg (by simp)];exact wpAny_pure (k g2 fun b o nb q=>t2 b o nb (t1.extBut b o nb (Heap.get?_push_of_some _ q)))
theorem kC {env:Env} {elts:List Expr} {x1} {pos:Pos} {t:Addr} {items:Array Value} {Q:Unit->Shared->Prop} (hh:A.handled=none) (ht:s.heap.IsList t items)
  (hn:(assignEach elts env).length=items.size) (hstar:(assignEach elts env).findIdx? (·.1)=none)
  (h:∀ h',Heap.ExtBut s.heap.objs.size s.heap h'->wpAny (model prog w) A (assignInOrder ((assignEach elts env).map (·.2)) items.toList) Q E { s with heap:=h' }):
  wpAny (model prog w) A (assign (.Tuple elts x1 pos) env (.ref t)) Q E s:=by
 rw [assign_Tuple];refine wpAny_bind (wpAny_standAt ?_);unfold unpack;rw [hn,hstar];exact wpAny_bind (wpAny_holding (lG hh ht h))
end
section
variable {X:Cx} {pos:Pos}
noncomputable def gSeq (K:Frag) (n:Nat) (t:TGs):TG:=fun v σ H Q=>match v with
 | .ref a=>∃ xs,(SqL K H a xs\/SqT K H a xs)/\xs.length=n/\t xs σ H Q
 | _=>False
theorem seqE (K:Frag) (hK:X.K=K) {es:List Expr} {k:Nat} {t:TGs} {n:Nat} (hc:X.calm=true) (h:PGs X es t)
  (hn:(assignEach es X.env).length=n:=by rfl) (hst:(assignEach es X.env).findIdx? (·.1)=none:=by rfl):PG X (.Tuple es k pos) (gSeq K n t):=by
 subst hK;intro pins s σ H v u Q I r hw;unfold gSeq at hw;split at hw
 ·rename_i a;obtain ⟨xs,hq,hl,hw⟩:=hw;rcases hq with hq | hq
  ·cases r;obtain ⟨its,rv,ht,hz⟩:=I.list hq;refine kC (I.ok.hd hc) ht.isList (by simp [hn,<- hl,rv.length]) hst fun h' hx=>?_
   have I1:Inv X pins σ H { s with heap:=h' }:=I.kept (t':=s.toks) fun b o e=>hx b o (Nat.ne_of_lt (Heap.lt_size e)) e
   exact h pins _ σ H xs _ Q I1 (by simpa using rv) hw
  ·exact vz hc h hn hst pins s σ H _ u Q I r ⟨_,xs,rfl,hq,hl,hw⟩
 ·exact hw.elim
end
section
variable {t:TG} {u:TGs} {σ:St} {H:Hp} {Q:St->Hp->Prop} {v:V} {r:List V} {K:Frag} {n:Nat} {p:Addr}
theorem v9:gCons t u (v::r) σ H Q=t v σ H fun σ' H'=>u r σ' H' Q:=by
 refine propext ⟨?_,fun h=>⟨v,r,rfl,h⟩⟩;rintro ⟨v',r',e,h⟩;cases e;exact h
theorem yP:gNil [] σ H Q=Q σ H:=propext ⟨fun h=>h.2,fun h=>⟨rfl,h⟩⟩
theorem x9:gSeq K n u (.ref p) σ H Q=∃ xs,(SqL K H p xs\/SqT K H p xs)/\xs.length=n/\u xs σ H Q:=rfl
end
noncomputable def rep (c d:Nat) (l:List Nat):List Nat:=l.map fun k=>if k=c then d else k
section
variable {X:Cx} {o e:Expr} {to te:TE} {apos cpos p1 p2:Pos} {j1 j2:Nat}
noncomputable def kList (K:Frag):List V->Hp->VK->Prop:=fun xs H Q=>match xs with
 | [.str z]=>z.cps.toList.length<=100000/\∀ p,H p=none->Q (.ref p) (upd H p (.lst (z.cps.toList.map fun c=>V.str (st [c]))))
 | [.ref a]=>∃ ys,(SqL K H a ys\/SqT K H a ys)/\∀ p,H p=none->Q (.ref p) (upd H p (.lst ys))
 | _=>False
theorem rO {x:Str} {acc:Array Value} (h:ItemsOf (SignAt x) acc x.cps.size):Vals (x.cps.toList.map fun c=>V.str (st [c])) acc.toList:=by
 obtain ⟨hs,hi⟩:=h;have key:∀ (l:List Nat) (us:List Value),l.length=us.length->(∀ (j:Nat) (v:Value),us[j]? = some v->Ex2 fun (c:Nat) (u:Tok)=>l[j]? = some c/\v=Value.str ⟨#[c]⟩ u)->Vals (l.map fun c=>V.str (st [c])) us:=by
  intro l
  induction l with
  | nil=>
   intro us hl _;cases us with
   | nil=>exact .nil
   | cons=>cases hl
  | cons a l ih=>
   intro us hl hq;cases us with
   | nil=>cases hl
   | cons v us=>
    obtain ⟨c,u,e,rfl⟩:=hq 0 v rfl;cases e;exact .cons ⟨u,rfl⟩ (ih us (by simpa using hl) fun j w hj=>hq (j+1) w hj)
 refine key _ _ (by simp [hs]) fun j v hj=>?_
 obtain ⟨c,u,e,rfl⟩:=hi j v (by simpa using hj);exact ⟨c,u,by simpa using e,rfl⟩
theorem b8 (K:Frag) (hK:X.K=K) (hc:X.calm=true):CallR X (.type "list") (kList K):=by
 subst hK;intro pins s σ H xs us Q I r q;unfold kList at q;split at q
 ·obtain ⟨hl,q⟩:=q;rename_i z;obtain ⟨u,rfl,t,rfl⟩:=vals1 r;have hz:z.cps.size<=sizeLine:=by
   have:=big5;simp only [Array.length_toList] at hl
   lia
  refine tokQ I.tk (call_list_str (I.ok.hd hc) z t (fun h' tk acc c' kp ho hi (htk:0 < tk)=>?_) hz);refine ⟨.ref s.heap.objs.size,_,I.laid (a:=s.heap.objs.size) (o:=.lst (z.cps.toList.map fun c=>V.str (st [c]))) kp (Nat.le_refl _) ⟨?_,acc.toList,c',rO hi,by simpa using ho⟩,rfl,q _ I.fresh⟩;rw [List.length_map];simpa using hz
 ·obtain ⟨ys,h,q⟩:=q;exact pY pins s σ H _ us Q I r ⟨_,ys,rfl,h,q⟩
 ·exact q.elim
theorem vH {K:Frag} {l:List Nat} {H:Hp} {Q:VK}:kList K [.str (st l)] H Q=(l.length<=100000/\∀ p,H p=none->Q (.ref p) (upd H p (.lst (l.map fun c=>V.str (st [c]))))):=rfl
theorem u0 {K:Frag} {a:Addr} {H:Hp} {Q:VK}:kList K [.ref a] H Q=∃ ys,(SqL K H a ys\/SqT K H a ys)/\∀ p,H p=none->Q (.ref p) (upd H p (.lst ys)):=rfl
end
section
variable {X:Cx} {a:Expr} {ta:TE} {p pos:Pos}
end
section
variable {X:Cx}
noncomputable def kSum (K:Frag):List V->Hp->VK->Prop:=fun xs H Q=>match xs with
 | [.ref p]=>∃ ns:List Int,SqL K H p (ns.map V.int)/\Q (.int ns.sum) H
 | _=>False
theorem lD (K:Frag) (hK:X.K=K) (hc:X.calm=true):CallR X (.builtin "sum") (kSum K):=by
 subst hK;intro pins s σ H xs us Q I r q;unfold kSum at q;split at q
 ·obtain ⟨ns,hq,q⟩:=q;obtain ⟨u,rfl,ru⟩:=vals1 r;cases ru;obtain ⟨its,rv,pl,_⟩:=I.list hq;have hi:=se rv;obtain ⟨xs,e⟩:=hi.allInts.items;have hn:=hi.numsOf;refine tokQ I.tk (sum_intListG (I.ok.hd hc) (xs:=xs) (by rw [<- e]; exact pl.isList) fun h' tk t' kp (htk:0 < tk)=>?_);have e2:preSum (numAt xs) xs.size=ns.sum:=by
   rw [preSum_eq,List.take_of_length_le (by simp),<- nums_intItems,<- e];show (numsOf its).sum=ns.sum;rw [hn]
  rw [e2];exact ⟨.int ns.sum,H,I.kept kp,⟨_,rfl⟩,q⟩
 ·exact q.elim
theorem xY {K:Frag} {p:Addr} {H:Hp} {Q:VK}:kSum K [.ref p] H Q=∃ ns:List Int,SqL K H p (ns.map V.int)/\Q (.int ns.sum) H:=rfl
end
theorem rN (t:SetTable) (es:Array (Int × Value)) (h:Int) (x:Value):(layNew t es h x).2.1.led=t.led/\(t.plain=false->(layNew t es h x).2.1.plain=false):=by
 unfold layNew;split
 ·rename_i slot wd e;show ((t.put slot).1.orStandIn _).led=_/\(_->((t.put slot).1.orStandIn _).plain=false);unfold SetTable.orStandIn;split
  ·exact ⟨rfl,fun q=>q⟩
  ·exact ⟨rfl,fun _=>rfl⟩
 ·exact ⟨rfl,fun _=>rfl⟩
theorem uN {mask finger moves:Nat} {led plain:Bool} {hs:Array Int} {r:SetTable × Array Nat} (h:SetTable.laid mask finger moves led plain hs=some r):r.1.led=led/\r.1.plain=plain:=by
 unfold SetTable.laid at h;cases q:SetTable.layClean mask hs with
 | none=>rw [q] at h; cases h
 | some ow=>
  rw [q] at h;cases h;exact ⟨rfl,rfl⟩
theorem oU (t:SetTable) (es:Array (Int × Value)) (n:Nat):(relayAll t es n).2.1.led=t.led/\(t.plain=false->(relayAll t es n).2.1.plain=false):=by
 unfold relayAll;split
 ·rename_i t' order e;have q:=uN e;dsimp only;split
  ·exact ⟨q.1,fun z=>q.2.trans z⟩
  ·exact ⟨rfl,fun _=>rfl⟩
 ·exact ⟨rfl,fun _=>rfl⟩
section
variable {prog:Program} {w:World} {A:Around} {E:Value->Shared->Prop} {s:Shared}
noncomputable def addT (ss:List Str) (x:Str):List Str:=if x ∈ ss then ss else ss++[x]
theorem mJ {a:Addr} {es es':Array (Int × Value)} {ep:Nat} {t t':SetTable} (ho:s.heap.get? a=some { cls:=.type "set",dict:=none,data:=.set es ep t,slots:=#[] }):
  (s.heap.update a (Obj.putSet es' t')).get? a=some { cls:=.type "set",dict:=none,data:=.set es' (ep+1) t',slots:=#[] }:=
 Heap.get?_update_self (Obj.putSet es' t') ho rfl
end
noncomputable def dd (l:List Str):List Str:=l.foldl addT []
section
variable {prog:Program} {w:World} {A:Around} {R:Result->Shared->Prop} {I:Addr} {fp wr:List Addr} {G:Array GenState->Array GenState->Prop} {n:Nat} {P:Nat->Value->Prop} {St:Nat->Shared->Prop}
end
section
variable {prog:Program} {w:World} {A:Around} {E:Value->Shared->Prop} {s:Shared}
end
theorem ir {α:Type}:∀ {l:List α} {i:Nat} (hi:i < l.length),(l[i]::l.eraseIdx i).Perm l
 | _::_,0,_=>List.Perm.refl _
 | x::l,i+1,hi=>by
  have:=ir (l:=l) (i:=i) (Nat.lt_of_succ_lt_succ hi);simp only [List.getElem_cons_succ,List.eraseIdx_cons_succ];exact (List.Perm.swap x _ _).trans (List.Perm.cons x this)
section
variable {M:Model} {A:Around} {E:Value->Shared->Prop}
end
section
variable {prog:Program} {w:World} {A:Around} {E:Value->Shared->Prop} {s:Shared}
end
section
variable {prog:Program} {w:World} {A:Around} {E:Value->Shared->Prop} {s:Shared} {it a:Addr} {es:Array (Int × Value)} {n ep i:Nat} {t:SetTable}
end
section
variable {prog:Program} {w:World} {A:Around} {E:Value->Shared->Prop} {s:Shared} {it a:Addr} {es:Array (Int × Value)} {n ep i:Nat} {t:SetTable}
end
section
variable {prog:Program} {w:World} {A:Around} {E:Value->Shared->Prop} {s:Shared} {it a:Addr} {es:Array (Int × Value)} {n ep i:Nat} {t:SetTable}
end
section
variable {prog:Program} {w:World} {A:Around} {E:Value->Shared->Prop} {s:Shared}
end
section
variable {prog:Program} {w:World} {A:Around} {E:Value->Shared->Prop} {s:Shared}
end
noncomputable def ins (x:List Nat):List (List Nat)->List (List Nat)
 | []=>[x]
 | y::r=>if x=y then y::r else if x < y then x::y::r else y::ins x r
noncomputable def srt (l:List (List Nat)):List (List Nat):=l.foldr ins []
theorem rZ (a b:List Nat) (h:¬ a=b) (k:¬ a < b):b < a:=by
 rcases Std.Trichotomous.rel_or_eq_or_rel_swap (r:=fun (a b:List Nat)=>a < b) (a:=a) (b:=b) with q | q | q
 ·exact absurd q k
 ·exact absurd q h
 ·exact q
section
variable {prog:Program} {w:World} {A:Around} {E:Value->Shared->Prop} {s:Shared}
end
section
variable {X:Cx}
end
inductive D where
 | f (v:V) | l (xs:List D) | t (xs:List D)
mutual
noncomputable def eqD:D->D->Bool
 | .f x,.f y=>eqV x y
 | .l xs,.l ys=>eqDs xs ys
 | .t xs,.t ys=>eqDs xs ys
 | .f _,.l _=>false
 | .f _,.t _=>false
 | .l _,.f _=>false
 | .l _,.t _=>false
 | .t _,.f _=>false
 | .t _,.l _=>false
noncomputable def eqDs:List D->List D->Bool
 | [],[]=>true
 | x::xs,y::ys=>eqD x y && eqDs xs ys
 | [],_::_=>false
 | _::_,[]=>false
end
noncomputable def Deep (K:Frag) (H:Hp):Nat->V->D->Prop
 | 0,v,d=>d=.f v/\flatV v=true
 | n+1,v,d=>(d=.f v/\flatV v=true)\/(Ex3 fun a vs ds=>v=.ref a/\d=.l ds/\SqL K H a vs/\Paired (Deep K H n) vs ds)\/(Ex3 fun a vs ds=>v=.ref a/\d=.t ds/\SqT K H a vs/\Paired (Deep K H n) vs ds)
theorem ic:∀ {xs ys:List D},xs.length≠ys.length->eqDs xs ys=false
 | [],[],h=>absurd rfl h
 | [],_::_,_=>by rw [eqDs]
 | _::_,[],_=>by rw [eqDs]
 | x::xs,y::ys,h=>by
  rw [eqDs,ic (xs:=xs) (ys:=ys) (fun e=>h (by simp [e])),Bool.and_false]
theorem ql {v:V} (h:flatV v=true):eqV v v=true:=by
 cases v <;> simp_all [flatV,eqV]
section
variable {X:Cx} {pins:List (Addr × Obj)} {σ:St} {H:Hp} {s:Shared}
theorem ui {A:Around} {l:Addr} {items:Array Value} {y:V} {v:Value} (hl:s.heap.IsList l items) (hu:A.units < cLine) (r:RelV y v) (f:flatV y=true):SeqAt.EqAt A s (.ref l) v false:=by
 cases y with
 | non=>cases r; exact .list_none hl hu
 | bl b=>cases r; exact .list_bool b hl hu
 | int i=>obtain ⟨t,rfl⟩:=r; exact .list_int i t hl hu
 | str x=>obtain ⟨t,rfl⟩:=r; exact .list_str x t hl hu
 | _=>exact absurd (show false=true from f) Bool.false_ne_true
theorem uc {A:Around} {l:Addr} {items:Array Value} {y:V} {v:Value} (hl:s.heap.IsList l items) (hu:A.units < cLine) (r:RelV y v) (f:flatV y=true):SeqAt.EqAt A s v (.ref l) false:=by
 cases y with
 | non=>cases r; exact .none_list hl hu
 | bl b=>cases r; exact .bool_list b hl hu
 | int i=>obtain ⟨t,rfl⟩:=r; exact .int_list i t hl hu
 | str x=>obtain ⟨t,rfl⟩:=r; exact .str_list x t hl hu
 | _=>exact absurd (show false=true from f) Bool.false_ne_true
theorem rF {A:Around} {l:Addr} {items:Array Value} {y:V} {v:Value} (hl:s.heap.IsTuple l items) (hu:A.units < cLine) (r:RelV y v) (f:flatV y=true):SeqAt.EqAt A s (.ref l) v false:=by
 cases y with
 | non=>cases r; exact .tuple_none hl hu
 | bl b=>cases r; exact .tuple_bool b hl hu
 | int i=>obtain ⟨t,rfl⟩:=r; exact .tuple_int i t hl hu
 | str x=>obtain ⟨t,rfl⟩:=r; exact .tuple_str x t hl hu
 | _=>exact absurd (show false=true from f) Bool.false_ne_true
theorem rY {A:Around} {l:Addr} {items:Array Value} {y:V} {v:Value} (hl:s.heap.IsTuple l items) (hu:A.units < cLine) (r:RelV y v) (f:flatV y=true):SeqAt.EqAt A s v (.ref l) false:=by
 cases y with
 | non=>cases r; exact .none_tuple hl hu
 | bl b=>cases r; exact .bool_tuple b hl hu
 | int i=>obtain ⟨t,rfl⟩:=r; exact .int_tuple i t hl hu
 | str x=>obtain ⟨t,rfl⟩:=r; exact .str_tuple x t hl hu
 | _=>exact absurd (show false=true from f) Bool.false_ne_true
theorem qT (I:Inv X pins σ H s) {a:Addr} {vs ws:List V} (h:SqL X.K H a vs) (k:SqT X.K H a ws):False:=by
 obtain ⟨_,_,p1,_⟩:=I.list h;obtain ⟨_,_,p2,_⟩:=I.tuple k;exact SeqAt.ne_of_list_tuple p1.isList p2 rfl
theorem lL (I:Inv X pins σ H s):∀ (n:Nat) (v:V) (d d':D),Deep X.K H n v d->Deep X.K H n v d'->eqD d d'=true
 | 0,v,d,d',⟨e,f⟩,⟨e',_⟩=>by subst e; subst e'; rw [eqD]; exact ql f
 | n+1,v,d,d',h,h'=>by
  have pr:∀ (vs:List V) (ds ds':List D),Paired (Deep X.K H n) vs ds->Paired (Deep X.K H n) vs ds'->eqDs ds ds'=true:=by
   intro vs
   induction vs with
   | nil=>intro ds ds' p q; cases p; cases q; rw [eqDs]
   | cons v vs ih=>
    intro ds ds' p q;cases p with
    | cons p1 p2=>cases q with
     | cons q1 q2=>rw [eqDs,lL I n v _ _ p1 q1,ih _ _ p2 q2]; rfl
  rcases h with ⟨e,f⟩ | ⟨a,vs,ds,rfl,rfl,ha,p⟩ | ⟨a,vs,ds,rfl,rfl,ha,p⟩
  ·rcases h' with ⟨e',_⟩ | ⟨a',vs',ds',rfl,_⟩ | ⟨a',vs',ds',rfl,_⟩
   ·subst e; subst e'; rw [eqD]; exact ql f
   ·exact absurd (show false=true from f) Bool.false_ne_true
   ·exact absurd (show false=true from f) Bool.false_ne_true
  ·rcases h' with ⟨_,f⟩ | ⟨a',vs',ds',e,rfl,ha',p'⟩ | ⟨a',vs',ds',e,rfl,ha',p'⟩
   ·exact absurd (show false=true from f) Bool.false_ne_true
   ·cases e;obtain rfl:=I.list_inj ha ha';rw [eqD]; exact pr vs ds ds' p p'
   ·cases e;exact (qT I ha ha').elim
  ·rcases h' with ⟨_,f⟩ | ⟨a',vs',ds',e,rfl,ha',p'⟩ | ⟨a',vs',ds',e,rfl,ha',p'⟩
   ·exact absurd (show false=true from f) Bool.false_ne_true
   ·cases e;exact (qT I ha' ha).elim
   ·cases e;obtain rfl:=I.tuple_inj ha ha';rw [eqD]; exact pr vs ds ds' p p'
noncomputable def eqNth (ds ds':List D) (j:Nat):Bool:=match ds[j]?,ds'[j]? with
 | some d,some d'=>eqD d d'
 | _,_=>true
theorem fN:∀ {ds ds':List D},ds.length=ds'.length->(List.range ds.length).all (eqNth ds ds')=eqDs ds ds'
 | [],[],_=>by rw [eqDs]; rfl
 | d::ds,d'::ds',h=>by
  have ih:=fN (ds:=ds) (ds':=ds') (by simpa using h);rw [List.length_cons,List.range_succ_eq_map,List.all_cons,List.all_map,eqDs];have e:eqNth (d::ds) (d'::ds') 0=eqD d d':=rfl;have e2:(eqNth (d::ds) (d'::ds') ∘ Nat.succ)=eqNth ds ds':=funext fun j=>by simp [eqNth]
  rw [e,e2,ih]
theorem aA {α β:Type} {F:α -> β -> Prop}:∀ {l:List α} {m:List β},Paired F l m->∀ {j:Nat} {x:α},l[j]? = some x->∃ y,m[j]? = some y/\F x y
 | _,_,.nil,j,x,h=>by simp at h
 | _,_,.cons p r,0,x,h=>by simp at h; subst h; exact ⟨_,rfl,p⟩
 | _,_,.cons p r,j+1,x,h=>by simpa using aA r (j:=j) (by simpa using h)
theorem jF (I:Inv X pins σ H s):∀ (n:Nat) (A:Around) (x y:V) (dx dy:D) (u v:Value),A.units+n < cLine->Deep X.K H n x dx->Deep X.K H n y dy->RelV x u->RelV y v->SeqAt.EqAt A s u v (eqD dx dy)
 | 0,A,x,y,dx,dy,u,v,_,⟨e,f⟩,⟨e',f'⟩,ru,rv=>by subst e; subst e'; rw [eqD]; exact rM ru rv f f'
 | n+1,A,x,y,dx,dy,u,v,hu,hx,hy,ru,rv=>by
  have hu0:A.units < cLine:=by lia
  have items:∀ (vs ws:List V) (ds ds':List D) (us us':List Value),Paired (Deep X.K H n) vs ds->Paired (Deep X.K H n) ws ds'->Vals vs us->Vals ws us' ->
    ∀ j (h1:j < us.toArray.size) (h2:j < us'.toArray.size),SeqAt.EqAt A.in1 s us.toArray[j] us'.toArray[j] (eqNth ds ds' j):=by
   intro vs ws ds ds' us us' p q r r' j h1 h2;have l1:=r.length;have l2:=r'.length;simp only [List.size_toArray] at h1 h2;have g1:vs[j]? = some (vs[j]'(by lia)):=List.getElem?_eq_getElem _;have g2:ws[j]? = some (ws[j]'(by lia)):=List.getElem?_eq_getElem _;obtain ⟨d,hd,fd⟩:=aA p g1;obtain ⟨d',hd',fd'⟩:=aA q g2;obtain ⟨c,hc,rc⟩:=r.get g1;obtain ⟨c',hc',rc'⟩:=r'.get g2;have e1:us.toArray[j]=c:=by rw [List.getElem?_eq_getElem h1] at hc; simpa using hc
   have e2:us'.toArray[j]=c':=by rw [List.getElem?_eq_getElem h2] at hc'; simpa using hc'
   rw [e1,e2];unfold eqNth;rw [hd,hd'];exact jF I n A.in1 _ _ d d' c c' (by rw [Around.in1_units]; lia) fd fd' rc rc'
  rcases hx with ⟨e,f⟩ | ⟨a,vs,ds,rfl,rfl,ha,p⟩ | ⟨a,vs,ds,rfl,rfl,ha,p⟩
  ·subst e;rcases hy with ⟨e',f'⟩ | ⟨b,ws,ds',rfl,rfl,hb,q⟩ | ⟨b,ws,ds',rfl,rfl,hb,q⟩
   ·subst e'; rw [eqD]; exact rM ru rv f f'
   ·cases rv;obtain ⟨_,_,pl,_⟩:=I.list hb;rw [eqD]; exact uc pl.isList hu0 ru f
   ·cases rv;obtain ⟨_,_,pl,_⟩:=I.tuple hb;rw [eqD]; exact rY pl hu0 ru f
  ·cases ru;obtain ⟨us,r1,pl,_⟩:=I.list ha;rcases hy with ⟨e',f'⟩ | ⟨b,ws,ds',rfl,rfl,hb,q⟩ | ⟨b,ws,ds',rfl,rfl,hb,q⟩
   ·subst e'; rw [eqD]; exact ui pl.isList hu0 rv f'
   ·cases rv;by_cases eab:a=b
    ·subst eab;have:=lL I (n+1) (.ref a) (.l ds) (.l ds') (.inr (.inl ⟨a,vs,ds,rfl,rfl,ha,p⟩)) (.inr (.inl ⟨a,ws,ds',rfl,rfl,hb,q⟩));rw [this];exact SeqAt.EqAt.same _
    ·obtain ⟨us',r2,pl2,_⟩:=I.list hb;have l1:=r1.length;have l2:=r2.length;have l3:=p.length;have l4:=q.length;rw [eqD];by_cases el:ds.length=ds'.length
     ·rw [<- fN el,show ds.length=us.toArray.size by simp only [List.size_toArray]; lia];exact .of_refs eab (.lists pl.isList pl2.isList (by simp only [List.size_toArray]; lia) hu0 (items vs ws ds ds' us us' p q r1 r2))
     ·rw [ic el];exact .of_refs eab (.lists_lengths pl.isList pl2.isList (by simp only [List.size_toArray,bne_iff_ne,ne_eq]; lia) hu0)
   ·cases rv;obtain ⟨_,_,pl2,_⟩:=I.tuple hb;rw [eqD]; exact .list_tuple pl.isList pl2 hu0
  ·cases ru;obtain ⟨us,r1,pl,_⟩:=I.tuple ha;rcases hy with ⟨e',f'⟩ | ⟨b,ws,ds',rfl,rfl,hb,q⟩ | ⟨b,ws,ds',rfl,rfl,hb,q⟩
   ·subst e'; rw [eqD]; exact rF pl hu0 rv f'
   ·cases rv;obtain ⟨_,_,pl2,_⟩:=I.list hb;rw [eqD]; exact .tuple_list pl pl2.isList hu0
   ·cases rv;by_cases eab:a=b
    ·subst eab;have:=lL I (n+1) (.ref a) (.t ds) (.t ds') (.inr (.inr ⟨a,vs,ds,rfl,rfl,ha,p⟩)) (.inr (.inr ⟨a,ws,ds',rfl,rfl,hb,q⟩));rw [this];exact SeqAt.EqAt.same _
    ·obtain ⟨us',r2,pl2,_⟩:=I.tuple hb;have l1:=r1.length;have l2:=r2.length;have l3:=p.length;have l4:=q.length;rw [eqD];have key:eqDs ds ds'=((List.range (min us.toArray.size us'.toArray.size)).all (eqNth ds ds') && us.toArray.size == us'.toArray.size):=by
      by_cases el:ds.length=ds'.length
      ·rw [<- fN el,show min us.toArray.size us'.toArray.size=ds.length by simp only [List.size_toArray]; lia,show (us.toArray.size == us'.toArray.size)=true by simp only [List.size_toArray,beq_iff_eq]; lia,Bool.and_true]
      ·rw [ic el,show (us.toArray.size == us'.toArray.size)=false by simp only [List.size_toArray,beq_eq_false_iff_ne,ne_eq]; lia,Bool.and_false]
     rw [key];exact .of_refs eab (.tuples pl pl2 hu0 (items vs ws ds ds' us us' p q r1 r2))
end
section
variable {X:Cx} {pins:List (Addr × Obj)} {σ:St} {H:Hp} {s:Shared}
theorem iQ (I:Inv X pins σ H s) {n:Nat} {A:Around} (hu:A.units+n+1 < cLine) {vs ws:List V} {ds ds':List D} {us us':List Value} (p:Paired (Deep X.K H n) vs ds) (q:Paired (Deep X.K H n) ws ds') (r:Vals vs us) (r':Vals ws us'):
  ∀ j (h1:j < us.toArray.size) (h2:j < us'.toArray.size),SeqAt.EqAt A.in1 s us.toArray[j] us'.toArray[j] (eqNth ds ds' j):=by
 intro j h1 h2;have l1:=r.length;have l2:=r'.length;simp only [List.size_toArray] at h1 h2;have g1:vs[j]? = some (vs[j]'(by lia)):=List.getElem?_eq_getElem _;have g2:ws[j]? = some (ws[j]'(by lia)):=List.getElem?_eq_getElem _;obtain ⟨d,hd,fd⟩:=aA p g1;obtain ⟨d',hd',fd'⟩:=aA q g2;obtain ⟨c,hc,rc⟩:=r.get g1;obtain ⟨c',hc',rc'⟩:=r'.get g2;have e1:us.toArray[j]=c:=by rw [List.getElem?_eq_getElem h1] at hc; simpa using hc
 have e2:us'.toArray[j]=c':=by rw [List.getElem?_eq_getElem h2] at hc'; simpa using hc'
 rw [e1,e2];unfold eqNth;rw [hd,hd'];exact jF I n A.in1 _ _ d d' c c' (by rw [Around.in1_units]; lia) fd fd' rc rc'
noncomputable def kEqD (K:Frag) (neg:Bool):R2:=fun x y H Q=>match x,y with
 | .ref a,.ref b=>Ex3 fun n dx dy=>n<=100/\Deep K H n (.ref a) dx/\Deep K H n (.ref b) dy/\Q (.bl (neg ^^ eqD dx dy)) H
 | _,_=>False
theorem oq {us us':List Value} {ds ds':List D} (l1:ds.length=us.length) (l2:ds'.length=us'.length):((List.range (min us.toArray.size us'.toArray.size)).all (eqNth ds ds') && us.toArray.size == us'.toArray.size)=eqDs ds ds':=by
 by_cases el:ds.length=ds'.length
 ·rw [<- fN el,show min us.toArray.size us'.toArray.size=ds.length by simp only [List.size_toArray]; lia,show (us.toArray.size == us'.toArray.size)=true by simp only [List.size_toArray,beq_iff_eq]; lia,Bool.and_true]
 ·rw [ic el,show (us.toArray.size == us'.toArray.size)=false by simp only [List.size_toArray,beq_eq_false_iff_ne,ne_eq]; lia,Bool.and_false]
theorem eqDE (K:Frag) (hK:X.K=K) {k:Nat} (hr:Room k X.A):OpR X (compareOp .Eq) (kEqD K false):=by
 subst hK;intro pins s σ H x y v u Q I rx ry h;unfold kEqD at h;split at h
 ·rename_i a b;obtain ⟨n,dx,dy,hn,hx,hy,q⟩:=h;cases rx;cases ry;simp only [Bool.false_bne] at q;have hu:=hr.un;cases n with
  | zero=>exact absurd (show false=true from hx.2) Bool.false_ne_true
  | succ n=>
   rcases hx with ⟨_,f⟩ | ⟨a',vs,ds,e,rfl,ha,p⟩ | ⟨a',vs,ds,e,rfl,ha,p⟩
   ·exact absurd (show false=true from f) Bool.false_ne_true
   ·cases e;obtain ⟨us,r1,pl,_⟩:=I.list ha;have l1:=r1.length;have l3:=p.length;rcases hy with ⟨_,f⟩ | ⟨b',ws,ds',e,rfl,hb,p'⟩ | ⟨b',ws,ds',e,rfl,hb,p'⟩
    ·exact absurd (show false=true from f) Bool.false_ne_true
    ·cases e;obtain ⟨us',r2,pl2,_⟩:=I.list hb;have l2:=r2.length;have l4:=p'.length;rw [eqD] at q;by_cases el:ds.length=ds'.length
     ·refine SeqAt.eq_listAt (e:=eqNth ds ds') pl.isList pl2.isList (by simp only [List.size_toArray]; lia) (by lia) (iQ I (by lia) p p' r1 r2) ?_;rw [show us.toArray.size=ds.length by simp only [List.size_toArray]; lia,fN el];exact ⟨.bl _,H,I,rfl,q⟩
     ·refine SeqAt.eq_list_lengthsAt pl.isList pl2.isList (by simp only [List.size_toArray,bne_iff_ne,ne_eq]; lia) (by lia) ?_;rw [ic el] at q;exact ⟨.bl _,H,I,rfl,q⟩
    ·cases e;obtain ⟨us',r2,pl2,_⟩:=I.tuple hb;rw [eqD] at q;exact SeqAt.RcAt.list_tuple pl.isList pl2 (by lia) _ _ _ _ ⟨.bl _,H,I,rfl,q⟩
   ·cases e;obtain ⟨us,r1,pl,_⟩:=I.tuple ha;have l1:=r1.length;have l3:=p.length;rcases hy with ⟨_,f⟩ | ⟨b',ws,ds',e,rfl,hb,p'⟩ | ⟨b',ws,ds',e,rfl,hb,p'⟩
    ·exact absurd (show false=true from f) Bool.false_ne_true
    ·cases e;obtain ⟨us',r2,pl2,_⟩:=I.list hb;rw [eqD] at q;exact SeqAt.RcAt.tuple_list pl pl2.isList (by lia) _ _ _ _ ⟨.bl _,H,I,rfl,q⟩
    ·cases e;obtain ⟨us',r2,pl2,_⟩:=I.tuple hb;have l2:=r2.length;have l4:=p'.length;rw [eqD] at q;refine SeqAt.eq_tupleAt (e:=eqNth ds ds') pl pl2 (by lia) (iQ I (by lia) p p' r1 r2) ?_;rw [oq (by lia) (by lia)];exact ⟨.bl _,H,I,rfl,q⟩
 ·exact h.elim
theorem neDE (K:Frag) (hK:X.K=K) {k:Nat} (hr:Room k X.A):OpR X (compareOp .NotEq) (kEqD K true):=by
 subst hK;intro pins s σ H x y v u Q I rx ry h;unfold kEqD at h;split at h
 ·rename_i a b;obtain ⟨n,dx,dy,hn,hx,hy,q⟩:=h;cases rx;cases ry;simp only [Bool.true_bne] at q;have hu:=hr.un;cases n with
  | zero=>exact absurd (show false=true from hx.2) Bool.false_ne_true
  | succ n=>
   rcases hx with ⟨_,f⟩ | ⟨a',vs,ds,e,rfl,ha,p⟩ | ⟨a',vs,ds,e,rfl,ha,p⟩
   ·exact absurd (show false=true from f) Bool.false_ne_true
   ·cases e;obtain ⟨us,r1,pl,_⟩:=I.list ha;have l1:=r1.length;have l3:=p.length;rcases hy with ⟨_,f⟩ | ⟨b',ws,ds',e,rfl,hb,p'⟩ | ⟨b',ws,ds',e,rfl,hb,p'⟩
    ·exact absurd (show false=true from f) Bool.false_ne_true
    ·cases e;obtain ⟨us',r2,pl2,_⟩:=I.list hb;have l2:=r2.length;have l4:=p'.length;rw [eqD] at q;by_cases el:ds.length=ds'.length
     ·refine SeqAt.RcNeAt.lists (e:=eqNth ds ds') pl.isList pl2.isList (by simp only [List.size_toArray]; lia) (by lia) (iQ I (by lia) p p' r1 r2) _ _ _ _ ?_;rw [show us.toArray.size=ds.length by simp only [List.size_toArray]; lia,fN el];exact ⟨.bl _,H,I,rfl,q⟩
     ·refine SeqAt.RcNeAt.lists_lengths pl.isList pl2.isList (by simp only [List.size_toArray,bne_iff_ne,ne_eq]; lia) (by lia) _ _ _ _ ?_;rw [ic el] at q;exact ⟨.bl _,H,I,rfl,q⟩
    ·cases e;obtain ⟨us',r2,pl2,_⟩:=I.tuple hb;rw [eqD] at q;exact SeqAt.RcNeAt.list_tuple pl.isList pl2 (by lia) _ _ _ _ ⟨.bl _,H,I,rfl,q⟩
   ·cases e;obtain ⟨us,r1,pl,_⟩:=I.tuple ha;have l1:=r1.length;have l3:=p.length;rcases hy with ⟨_,f⟩ | ⟨b',ws,ds',e,rfl,hb,p'⟩ | ⟨b',ws,ds',e,rfl,hb,p'⟩
    ·exact absurd (show false=true from f) Bool.false_ne_true
    ·cases e;obtain ⟨us',r2,pl2,_⟩:=I.list hb;rw [eqD] at q;exact SeqAt.RcNeAt.tuple_list pl pl2.isList (by lia) _ _ _ _ ⟨.bl _,H,I,rfl,q⟩
    ·cases e;obtain ⟨us',r2,pl2,_⟩:=I.tuple hb;have l2:=r2.length;have l4:=p'.length;rw [eqD] at q;refine SeqAt.RcNeAt.tuples (e:=eqNth ds ds') pl pl2 (by lia) (iQ I (by lia) p p' r1 r2) _ _ _ _ ?_;rw [oq (by lia) (by lia)];exact ⟨.bl _,H,I,rfl,q⟩
 ·exact h.elim
end
section
variable {X:Cx}
theorem yu {K:Frag} {n:Bool} {a b:Addr} {H:Hp} {Q:VK}:kEqD K n (.ref a) (.ref b) H Q=Ex3 fun k dx dy=>k<=100/\Deep K H k (.ref a) dx/\Deep K H k (.ref b) dy/\Q (.bl (n ^^ eqD dx dy)) H:=rfl
end
section
variable {X:Cx}
end
theorem ce {K:Frag} {H:Hp} {v:V} (n:Nat) (f:flatV v=true):Deep K H n v (.f v):=by
 cases n with
 | zero=>exact ⟨rfl,f⟩
 | succ n=>exact .inl ⟨rfl,f⟩
noncomputable abbrev tx (l:List Nat):V:=V.str (st l)
section
variable {K:Frag} {g:TG} {tc:TT} {te:TE} {σc:St} {D:Addr} {Q:VK} {H:Hp}
theorem bR {α:Type} (item:α -> V) (xs:List α) (keep:α -> Bool) (R:α -> V->Hp->Prop) {p:Addr} (hfree:H D=none) (hl:SqL K H p (xs.map item)) (hn:xs.length<=100000)
  (mono:∀ x v H1 H2 acc,H1 D=some (.lst acc)->(∀ b o,b≠D->H1 b=some o->H2 b=some o)->R x v H1->R x v H2)
  (hs:∀ x H1 (out:VK) (non:Hp->Prop),x ∈ xs->Same H H1->(∀ v H6,keep x=true->Same H1 H6->R x v H6->out v H6)->(∀ H5,keep x=false->Same H1 H5->non H5) ->
   g (item x) σc H1 fun σ4 H4=>tc σ4 H4 fun b H5=>if b=true then te σ4 H5 out else non H5)
  (hq:∀ H' vs,Same H H'->H' D=some (.lst vs)->Paired (fun x v=>R x v H') (xs.filter keep) vs->Q (.ref D) H'):compW (Itl K p) g tc te σc D Q H:=by
 refine ⟨fun i m acc H2=>m=xs.length - i/\i<=xs.length/\Paired (fun x v=>R x v H2) ((xs.take i).filter keep) acc/\Same H H2/\H2 D=some (.lst acc),⟨xs.length,by simp,Nat.zero_le _,.nil,af hfree _,ab⟩,?_⟩;rintro i m acc H2 ⟨rfl,hi,pr,sm,hD⟩;have len:acc.length<=i:=by
  have a:=pr.length;have b:=List.length_filter_le keep (xs.take i);rw [List.length_take] at b
  lia
 by_cases hlt:i < xs.length
 ·refine .inr ⟨⟨_,item xs[i],sm.seq hl,by simp [hlt]⟩,fun x H3 y=>?_⟩;obtain ⟨rfl,y⟩:=y;have e:=y _ (sm.seq hl);rw [List.getElem?_map,List.getElem?_eq_getElem hlt] at e;have e2:item xs[i]=x:=Option.some.inj e;subst e2;have ht:xs.take (i+1)=xs.take i++[xs[i]]:=by rw [List.take_add_one,List.getElem?_eq_getElem hlt]; rfl
  refine hs xs[i] _ _ _ (List.getElem_mem hlt) sm (fun v H6 k s6 r=>?_) fun H5 k s5=>?_
  ·refine ⟨s6 _ _ hD,Nat.lt_of_le_of_lt len (sizeBig (by lia)),xs.length - (i+1),by lia,rfl,hlt,?_,?_,ab⟩
   ·have m1:∀ x v,R x v H6->R x v (upd H6 D (.lst (acc++[v]))):=fun x v r=>mono x v H6 _ acc (s6 _ _ hD) (fun b o nb q=>by rw [au nb]; exact q) r
    rw [ht,List.filter_append];have f1:[xs[i]].filter keep=[xs[i]]:=by simp [k]
    rw [f1];have lift:∀ {l:List α} {vs:List V},Paired (fun x v=>R x v H3) l vs->Paired (fun x v'=>R x v' (upd H6 D (.lst (acc++[v])))) l vs:=by
     intro l vs pp
     induction pp with
     | nil=>exact .nil
     | cons r _ ih=>exact .cons (mono _ _ H3 _ acc hD (fun b o nb q=>by rw [au nb]; exact s6 _ _ q) r) ih
    have app:∀ {l:List α} {vs:List V} {x:α} {v':V} {F:α -> V->Prop},Paired F l vs->F x v'->Paired F (l++[x]) (vs++[v']):=by
     intro l vs x v' F pp r
     induction pp with
     | nil=>exact .cons r .nil
     | cons r' _ ih=>exact .cons r' ih
    exact app (lift pr) (m1 _ _ r)
   ·exact aG (sm.trans s6) hfree
  ·refine ⟨xs.length - (i+1),by lia,rfl,hlt,?_,sm.trans s5,s5 _ _ hD⟩;rw [ht,List.filter_append];have f1:[xs[i]].filter keep=[]:=by simp [k]
   rw [f1,List.append_nil];have lift:∀ {l:List α} {vs:List V},Paired (fun x v=>R x v H3) l vs->Paired (fun x v'=>R x v' H5) l vs:=by
    intro l vs pp
    induction pp with
    | nil=>exact .nil
    | cons r _ ih=>exact .cons (mono _ _ H3 _ acc hD (fun b o _ q=>s5 _ _ q) r) ih
   exact lift pr
 ·have e:i=xs.length:=by lia
  subst e;rw [List.take_length] at pr;exact .inl ⟨⟨_,sm.seq hl,by simp⟩,hq H2 acc sm hD pr⟩
end
section
variable {X:Cx}
end
section
variable {X:Cx} {o e:Expr} {to te:TE} {apos cpos:Pos}
end
section
variable {X:Cx} {tg a b c:Expr} {ta tb tc:TE} {pos p:Pos}
end
section
variable {g:TG} {tb:TS} {D:Ends} {σ:St} {H:Hp}
end
section
variable {X:Cx} {a:Expr} {ta:TE} {p pos:Pos}
end
section
variable {prog:Program} {w:World} {A:Around} {E:Value->Shared->Prop} {s:Shared}
end
section
variable {X:Cx}
end
end L2
namespace L2
open PySem PySem.Spec PyProof.Rows PySem.Builtin PySem.Builtin.Str
section
variable {X:Cx}
end
end L2
namespace L2
open PySem PySem.Spec PyProof.Rows
section
variable {X:Cx}
theorem jE {i:Nat} {x:Str} {pos' spos:Pos} {elt tg iter:Expr} {ifs:List Expr} {scope:Scope} {pos:Pos} {wi:TI} {g:TG} {tc:TT} {te:TE} {nt:Nat} {fi:List Nat} {N':List Str} (hN:X.N.Nodup) (hi0:X.N[i]? = some x) (hx:Loc X.env.scope x) (hcalm:X.calm=true)
  (S:CScope scope) (cn:CNames X scope nt fi N') (gk:GK nt g) (hi:PI X tg iter wi)
  (hg:∀ cl C s H ex,PG (cxC X scope cl N' C s H ex) tg g) (hc:∀ cl C s H ex,PIf (cxC X scope cl N' C s H ex) ifs tc) (he:∀ cl C s H ex,PE (cxC X scope cl N' C s H ex) elt te)
  (hsw:swapsWith (.ListComp elt [⟨tg,iter,ifs,0⟩] scope pos) (some (.Name x pos')) spos.line X.env=pure true:=by rfl)
  (hs:∀ x,foldedSetIterable iter X.env x=pure x:=by intro _; rfl) (hf:X.fn x=true\/X.env.scope.names.lookup x=some .local:=by first | exact .inl rfl | exact .inr rfl | assumption):
  PS X (.Assign [.Name x pos'] (.ListComp elt [⟨tg,iter,ifs,0⟩] scope pos) spos) (tAsg (cComp nt fi wi g tc te) (gName i)):=by
 intro pins s σ H D I h;have hfr:∀ y ∈ scope.names,y.2=.free->∃ c,X.env.cells.lookup y.1=some c:=fun y hy e=>I.ok.has y.1 (cn.fre y hy e)
 rw [exec_Assign_Name_used _ _ _ _ hsw];refine wpAny_bind (wpAny_standAt (wpAny_bind ?_));change wpAny _ X.A (do let _ <- comprehension (.ListComp elt [⟨tg,iter,ifs,0⟩] scope pos) scope X.env _ (newList []) false (eval iter X.env) (some (assign (.Name x pos') X.env))) _ _ s;refine wpAny_bind (thn (Q:=fun _ s'=>Ex2 fun σ' H'=>Inv X pins σ' H' s'/\D.nx σ' H') ?_ fun _ s' q=>wpAny_pure (wpAny_pure q));refine wpAny_comprehension_free (use:=some (assign (.Name x pos') X.env)) rfl hs (iY hfr) S.kind S.loc (thn (hi pins s σ H _ I h) fun v s1 h1=>thn h1 fun itv s2 h2=>?_);obtain ⟨it,fp,tn,J,H2,e,I2,T,st2,f2,hW⟩:=h2;subst e;have fD:H2 s2.heap.objs.size=none:=I2.hok.fresh (Nat.le_refl _);obtain ⟨W,⟨m0,w0⟩,turn⟩:=hW s2.heap.objs.size fD;refine wpAny_newObj_type (wpAny_newFunctionEnv S.nocell (by intro y hy; simp at hy) (fun h₁ hns₁ hsb₁=>?_) S.kind);have I3:Inv X pins σ (upd H2 s2.heap.objs.size (.lst [])) { s2 with heap:=s2.heap.push { cls:=.type "list",dict:=none,data:=.seq ([]:List Value).toArray } }:=I2.lnew (its:=[]) (t':=s2.toks) .nil (Nat.zero_le _);generalize hs3:({ s2 with heap:=s2.heap.push { cls:=.type "list",dict:=none,data:=.seq ([]:List Value).toArray } }:Shared)=s3 at I3 hns₁ hsb₁ ⊢;have hsz:s3.heap.objs.size=s2.heap.objs.size+1:=by rw [<- hs3]; exact Heap.size_push ..
 have ob2:∀ b ∈ fp,∃ o,s3.heap.get? b=some o:=fun b hb=>by
  obtain ⟨o,e,_⟩:=T.obj _ _ st2 b hb;rw [<- hs3];exact ⟨o,Heap.get?_push_of_some _ e⟩
 have f3:∀ b ∈ fp,FpOk X pins (upd H2 s2.heap.objs.size (.lst [])) b:=fun b hb=>by
  obtain ⟨o,e,_⟩:=T.obj _ _ st2 b hb;refine ⟨?_,(f2 b hb).2⟩;rw [au (Nat.ne_of_lt (Heap.lt_size e))];exact (f2 b hb).1
 have kp:∀ b o,s3.heap.get? b=some o->h₁.get? b=some o:=fun b o e=>hsb₁.extBut b o (Nat.ne_of_lt (Heap.lt_size e)) (Heap.get?_push_of_some _ e)
 have st3:tn 0 h₁:=T.keep _ _ _ st2 fun b _ o e=>kp b o (by rw [<- hs3]; exact Heap.get?_push_of_some _ e)
 have J4:Inv (cxC X scope (clOf X.env.cells scope.names []) N' s3.heap.objs.size s3 (upd H2 s2.heap.objs.size (.lst [])) fp) (X.pn++pins) (compσ nt fi σ) (upd H2 s2.heap.objs.size (.lst [])) { s3 with heap:=h₁,toks:=s3.toks+([]:List (Str × Value)).length }:=
  qh I3 S cn f3 ob2 hns₁ kp I3.tk
 generalize hcl:clOf X.env.cells scope.names []=cl at J4 ⊢;generalize hH3:upd H2 s2.heap.objs.size (.lst [])=H3 at J4 I3 f3 w0;have stat:∀ {H':Hp},(∀ b ∈ fp,H' b=none)->∀ b ∈ fp,FpOk (cxC X scope cl N' s3.heap.objs.size s3 H3 fp) (X.pn++pins) H' b:=fun {H'} hn b hb=>by
  obtain ⟨g0,g1,g2,g3,g4,g5⟩:=f3 b hb;have ok:=J4.ok;refine ⟨hn b hb,(ok.exf b hb).1,ok.exfs b hb,.inl hb,(ok.exf b hb).2,fun p hp=>g5 p ?_⟩;have hp':p ∈ ([]:List (Addr × Obj))++(X.pn++pins):=hp;simpa using hp'
 have loop:∀ s₃:Shared,s₃ = { s3 with heap:=h₁,toks:=s3.toks+([]:List (Str × Value)).length } ->
   codeAny (model X.prog X.w) X.A (.compLoop (.ListComp elt [⟨tg,iter,ifs,0⟩] scope pos) 0 (.ref it) (.ref s2.heap.objs.size) (compEnvC scope cl s3.heap.objs.size X.env))
    (compPost (model X.prog X.w) X.A X.xe (some (assign (.Name x pos') X.env)) (fun _ s'=>Ex2 fun σ' H'=>Inv X pins σ' H' s'/\D.nx σ' H') (.ref s2.heap.objs.size) s3.heap.objs.size) s₃:=by
  rintro s₃ rfl;refine kA (fun n s'=>Ex3 fun i acc H'=>Inv (cxC X scope cl N' s3.heap.objs.size s3 H3 fp) (X.pn++pins) (compσ nt fi σ) H' s'/\tn i s'.heap/\(∀ b ∈ fp,H' b=none)/\W i n acc H') ?_ m0
   ⟨0,[],H3,J4,st3,fun b hb=>(f3 b hb).1,w0⟩
  rintro n s5 ⟨ii,acc,H5,I5,st5,fr5,w5⟩;rcases turn ii n acc H5 w5 with ⟨stop,qn⟩ | ⟨go,step⟩
  ·refine thn (T.done (cxC X scope cl N' s3.heap.objs.size s3 H3 fp) rfl rfl rfl hcalm ii (X.pn++pins) s5 (compσ nt fi σ) H5 (fun _ _=>False) I5 (stat fr5) st5 stop) fun r s6 ⟨hr,I6⟩=>?_
   subst hr;obtain ⟨m6,hn6,_⟩:=I6.loc;have I7:Inv X pins σ H5 s6:=qW I3 f3 (Nat.le_refl _) I6 (Heap.SameBut.refl _ s6.heap);have fC:FpOk X pins H5 s3.heap.objs.size:=I3.fpOk (Nat.le_refl _) I6.free;obtain ⟨c0,c1,c2,c3,c4,c5⟩:=fC;refine wpAny_assign_Name (oR I7 hN hi0 hx (v:=.ref s2.heap.objs.size) rfl (fun s8 I8 ⟨a,sb,ha⟩=>?_) hf);have na:a≠s3.heap.objs.size:=by
    rcases ha with rfl | ha
    ·exact c1.symm
    ·exact c4 x a ha
   refine ⟨m6,hn6.sameBut sb na.symm,fun h' sb'=>⟨_,H5,?_,qn⟩⟩;exact I8.turned (t':=s8.toks) (fun b o nb e=>(sb'.2 b nb).trans e) c0 c1 c3 c4 c5
  ·refine thn (T.item (cxC X scope cl N' s3.heap.objs.size s3 H3 fp) rfl rfl rfl hcalm ii (X.pn++pins) s5 (compσ nt fi σ) H5 (fun _ _=>False) I5 (stat fr5) st5 go) fun r s6 ⟨u,hr,h6⟩=>?_
   subst hr;refine thn h6 fun _ s7 ⟨y,H7,I7,r7,y7,st7,fr7⟩=>?_
   have I7':=I7.pinned (stat fr7) (T.obj _ _ st7);refine thn (hg _ _ _ _ _ _ s7 (compσ nt fi σ) H7 y u _ I7' r7 (gk _ _ _ _ (step y H7 y7))) fun _ s8 ⟨σ8,H8,I8,q8,l8,d8⟩=>?_
   refine thn (hc _ _ _ _ _ _ s8 σ8 H8 _ I8 q8) fun b s9 ⟨H9,I9,q9⟩=>?_
   have again:∀ {s':Shared} {H':Hp} {m':Nat} {acc':List V},Inv (cxC X scope cl N' s3.heap.objs.size s3 H3 fp) ((X.pn++pins)++pinsAt fp s7.heap) σ8 H' s'->m' < n->W (ii+1) m' acc' H' ->
     ∃ m,m < n/\Ex3 fun i acc H'=>Inv (cxC X scope cl N' s3.heap.objs.size s3 H3 fp) (X.pn++pins) (compσ nt fi σ) H' s'/\tn i s'.heap/\(∀ b ∈ fp,H' b=none)/\W i m acc H':=fun {s' H' m' acc'} I' hm w'=>by
    refine ⟨m',hm,ii+1,acc',H',I'.unpinned.weak l8.symm (compσ_weak l8 d8),T.keep _ _ _ st7 fun b hb o e=>(I'.pin (b,o) (List.mem_append_right _ (List.mem_append_right _ (dW hb e)))).1,fun b hb=>?_,w'⟩;obtain ⟨o,e,d⟩:=T.obj _ _ st7 b hb;exact (I'.pin (b,o) (List.mem_append_right _ (List.mem_append_right _ (dW hb e)))).2.1
   cases b with
   | false=>
    rw [if_neg Bool.false_ne_true] at q9 ⊢;obtain ⟨m',hm,w'⟩:=q9;exact again I9 hm w'
   | true=>
    rw [if_pos rfl] at q9 ⊢;refine thn (he _ _ _ _ _ _ s9 σ8 H9 _ I9 q9) fun uv s10 ⟨v10,H10,I10,r10,hD,hlt,m',hm,w'⟩=>?_
    refine thn (lI (X:=cxC X scope cl N' s3.heap.objs.size s3 H3 fp) _ s10 σ8 H10 (.ref s2.heap.objs.size) [v10] (.ref s2.heap.objs.size) [uv] (fun _ H'=>H'=upd H10 s2.heap.objs.size (.lst (acc++[v10]))) I10 rfl (.cons r10 .nil) ⟨_,acc,v10,rfl,rfl,hD,hlt,rfl⟩) fun _ s11 ⟨_,H11,I11,_,e11⟩=>?_
    subst e11;exact again I11 hm w'
 exact codeAny_compStart_list (loop _ rfl) (T.self _ 0 _ _ _ st3 (loop _ rfl))
end
section
variable {X:Cx} {pins:List (Addr × Obj)} {σ:St} {H:Hp} {s:Shared}
end
section
variable {P:Program} {w:World} {K:Frag} {mg:Str->Option Value} {base:Heap} {N:List Str} {qual:Str} {scope:Scope} {f:Addr} {cd:Value} {A:Around} {outer:List Env} {s₀:Shared} {H₀:Hp} {E:XK}
end
section
variable {X:Cx} {x:Str} {C:Addr} {np cpos pos:Pos} {e:Expr} {es:List Expr} {t:TA} {E:XK}
end
section
variable {K:Frag} {M:Model} {h:Heap} {C D e:Addr}
end
section
variable {X:Cx} {W:St->XK} {p pins:List (Addr × Obj)} {σ:St} {H:Hp} {s:Shared}
end
section
variable {X:Cx} {CX:CXT} {k:Nat} {f:Addr} {fd:FuncData} {ps:List Str} {sp:Sp} {dvs:List V} {ds:List Value} {W:St->XK} {x:Str} {p pos:Pos} {e:Expr} {es:List Expr} {t:TA}
end
end L2
namespace L2
open PySem PySem.Spec PySem.Calls PyProof.Rows PySem.W Builtin Builtin.ObjectAttr Builtin.Getset_descriptor
section
variable {prog:Program} {w:World} {A:Around} {E:Value->Shared->Prop} {K:Frag} {x C:Addr} {o:Obj} {h:Heap} {g:Array GenState} {d:Drawn} {t:Nat} {os:OsState}
end
section
variable {X:Cx} {pins:List (Addr × Obj)} {σ:St} {H:Hp} {s:Shared}
noncomputable def V.cv:V->Option Value
 | .ref a=>some (.ref a)
 | .ty n=>some (.type n)
 | _=>none
end
end L2
namespace L2
open PySem PySem.Spec PyProof.Rows
section
variable {X:Cx} {k:Nat} {x:Str} {ps:List Str} {sp:Sp} {p pos:Pos} {e:Expr} {es:List Expr} {t:TA} {E:XK} {W:St->XK}
end
section
variable {X:Cx} {a c:Expr} {es:List Expr} {ta:TE} {pos p tpos:Pos} {x1:Nat}
end
noncomputable abbrev TJ:=Nat->St->Hp->(Hp->Prop)->Prop
section
variable {X:Cx} {e v1 v2:Expr} {es rest:List Expr} {te:TE} {tj:TJ} {pos:Pos}
end
noncomputable def xA (K:Frag) (x:Str):Addr:=match nsIn K mainGlobals x with
 | some (some (.ref a))=>a
 | _=>0
theorem oI {K:Frag} {x:Str} {C:Addr} (e:nsIn K mainGlobals x=some (some (.ref C))):xA K x=C:=by unfold xA; rw [e]
section
variable {K:Frag} {h:Heap} {mg:Str->Option Value} {x y:Str} {C D:Addr}
end
end L2
namespace L2
open PySem PySem.Spec PyProof.Rows PySem.Builtin PySem.Builtin.Str
theorem pq {n a b:Nat} (h1:a<=b) (h2:b<=n):strSliceIndices (some (a:Int)) (some (b:Int)) 1 n=(List.range (b - a)).map fun k=>a+k:=by
 have e1:¬ ((a:Int) < 0):=by lia
 have e2:¬ ((b:Int) < 0):=by lia
 have e3:max 0 (min (a:Int) (n:Int))=a:=by lia
 have e4:max 0 (min (b:Int) (n:Int))=b:=by lia
 simp only [strSliceIndices,e1,e2,if_false,show (1:Int) > 0 by decide,if_true,e3,e4,sliceRange];have c:(if (a:Int) < b then ((b:Int) - a+1 - 1) / 1 else 0).toNat=b - a:=by
  split <;> lia
 rw [c];apply List.map_congr_left;intro k _
 lia
theorem mB (l:List Nat) (a m:Nat) (h:a+m<=l.length):((List.range m).map fun k=>a+k).filterMap (fun i=>l[i]?)=(l.drop a).take m:=by
 induction m with
 | zero=>simp
 | succ m ih=>
  have hl:a+m < l.length:=by lia
  rw [List.range_succ,List.map_append,List.filterMap_append,ih (by lia),List.take_add_one,List.getElem?_drop];simp [List.getElem?_eq_getElem hl]
theorem sj (l:List Nat) (a b:Nat) (h1:a<=b) (h2:b<=l.length):Txt.slice (st l) (some (a:Int)) (some (b:Int))=st ((l.drop a).take (b - a)):=by
 have hl:(st l).length=l.length:=by simp [Str.length]
 unfold Txt.slice;rw [hl,pq h1 h2];have f:((List.range (b - a)).map fun k=>a+k).filterMap ((st l).cps[·]?)=(l.drop a).take (b - a):=by
  rw [<- mB l a (b - a) (by lia)];congr 1;funext i;simp
 split
 ·rename_i g;simp only [List.length_map,List.length_range,beq_self_eq_true,Bool.true_and,beq_iff_eq] at g;have e1:a=0:=by lia
  have e2:b=l.length:=by lia
  subst e1 e2;simp
 ·rw [f]
section
variable {X:Cx}
noncomputable def kSlB:V->Option Int->Option Int->Hp->VK->Prop:=fun x lo hi H Q=>match x,lo,hi with
 | .str z,some i,some j=>z.cps.toList.length<=100000/\0<=i/\i<=j/\j<=z.cps.toList.length/\Q (.str (st ((z.cps.toList.drop i.toNat).take (j.toNat - i.toNat)))) H
 | _,_,_=>False
theorem slB:SlR X kSlB:=uu.imp fun x lo hi H Q q=>by
 unfold kSlB at q;split at q
 ·rename_i z i j;obtain ⟨h,h0,h1,h2,q⟩:=q;obtain ⟨a,rfl⟩:∃ k:Nat,i=k:=⟨i.toNat,by lia⟩;obtain ⟨b,rfl⟩:∃ k:Nat,j=k:=⟨j.toNat,by lia⟩;refine ⟨z,rfl,by rw [strlen]; exact Nat.le_trans h big5,?_⟩;have e:=sj z.cps.toList a b (by lia) (by lia);rw [bf] at e;rw [e];simpa using q
 ·exact q.elim
theorem yA {l:List Nat} {i j:Int} {H:Hp} {Q:VK}:kSlB (.str (st l)) (some i) (some j) H Q=(l.length<=100000/\0<=i/\i<=j/\j<=l.length/\Q (.str (st ((l.drop i.toNat).take (j.toNat - i.toNat)))) H):=rfl
end
end L2
namespace L2
open PySem PySem.Spec PyProof.Rows
section
variable {K:Frag} {g:TG} {tc:TT} {te:TE} {σc:St} {D:Addr} {Q:VK} {H:Hp}
theorem pX {α β:Type} {F:α -> β -> Prop} {l:List α} {m:List β} {x:α} {y:β} (h:Paired F l m) (r:F x y):Paired F (l++[x]) (m++[y]):=by
 induction h with
 | nil=>exact .cons r .nil
 | cons r' _ ih=>exact .cons r' ih
theorem ig {lo:Int} {n:Nat} (R:Nat->V->Hp->Prop) (hfree:H D=none) (hn:n<=100000)
  (mono:∀ x v H1 H2 acc,H1 D=some (.lst acc)->(∀ b o,b≠D->H1 b=some o->H2 b=some o)->R x v H1->R x v H2)
  (hs:∀ i H1 (out:VK) (non:Hp->Prop),i < n->Same H H1->(∀ v H6,Same H1 H6->R i v H6->out v H6) ->
   g (.int (lo+i)) σc H1 fun σ4 H4=>tc σ4 H4 fun b H5=>if b=true then te σ4 H5 out else non H5)
  (hq:∀ H' vs,Same H H'->H' D=some (.lst vs)->Paired (fun x v=>R x v H') (List.range n) vs->Q (.ref D) H'):compW (Itr lo n) g tc te σc D Q H:=by
 refine ⟨fun i m acc H2=>m=n - i/\i<=n/\Paired (fun x v=>R x v H2) (List.range i) acc/\Same H H2/\H2 D=some (.lst acc),⟨n,by simp,Nat.zero_le _,.nil,af hfree _,ab⟩,?_⟩;rintro i m acc H2 ⟨rfl,hi,pr,sm,hD⟩;have len:acc.length=i:=by rw [<- pr.length,List.length_range]
 by_cases hlt:i < n
 ·refine .inr ⟨hlt,fun x H3 y=>?_⟩;obtain ⟨rfl,rfl⟩:=y;refine hs i _ _ _ hlt sm fun v H6 s6 r=>?_
  refine ⟨s6 _ _ hD,Nat.lt_of_le_of_lt (Nat.le_of_eq len) (sizeBig (by lia)),n - (i+1),by lia,rfl,hlt,?_,aG (sm.trans s6) hfree,ab⟩;have lift:∀ {l:List Nat} {vs:List V},Paired (fun x v=>R x v H3) l vs->Paired (fun x v'=>R x v' (upd H6 D (.lst (acc++[v])))) l vs:=fun pp=>
   L2.Paired.mapP pp fun _ _ r=>mono _ _ H3 _ acc hD (fun b o nb q=>by rw [au nb]; exact s6 _ _ q) r
  rw [List.range_succ];exact pX (lift pr) (mono _ _ H6 _ acc (s6 _ _ hD) (fun b o nb q=>by rw [au nb]; exact q) r)
 ·have e:i=n:=by lia
  subst e;exact .inl ⟨Nat.le_refl _,hq H2 acc sm hD pr⟩
end
section
variable {X:Cx} {k:Nat} {x:Str} {ps:List Str} {sp:Sp} {p pos:Pos} {e:Expr} {es:List Expr} {t:TA}
end
section
variable {κ:Type} [DecidableEq κ]
noncomputable def valV (kvs:List (κ × V)) (k:κ):Option V:=(kvs.find? fun kv=>decide (kv.1=k)).map (·.2)
noncomputable def putK (kvs:List (κ × V)) (k:κ) (v:V):List (κ × V):=
 if (kvs.any fun kv=>decide (kv.1=k))=true then kvs.map (fun kv=>if kv.1=k then (kv.1,v) else kv) else kvs++[(k,v)]
theorem cI {p:κ × V} {r:List (κ × V)} {k:κ} (e:p.1=k):valV (p::r) k=some p.2:=by simp [valV,List.find?_cons,e]
theorem cH {p:κ × V} {r:List (κ × V)} {k:κ} (e:¬ p.1=k):valV (p::r) k=valV r k:=by simp [valV,List.find?_cons,e]
theorem ie (k:κ):∀ kvs:List (κ × V),(kvs.any fun kv=>decide (kv.1=k))=(valV kvs k).isSome
 | []=>rfl
 | p::r=>by
  rw [List.any_cons];by_cases e:p.1=k
  ·simp only [cI e,decide_eq_true e,Bool.true_or,Option.isSome_some]
  ·rw [cH e,decide_eq_false e,Bool.false_or]; exact ie k r
theorem qG (k j:κ) (y:V):∀ kvs:List (κ × V),valV (kvs.map fun kv=>if kv.1=k then (kv.1,y) else kv) j=(valV kvs j).map fun x=>if j=k then y else x
 | []=>rfl
 | p::r=>by
  have ih:=qG k j y r;rw [List.map_cons];by_cases h:p.1=k
  ·rw [if_pos h];by_cases e:p.1=j
   ·rw [cI (p:=(p.1,y)) e,cI e,Option.map_some,if_pos (e.symm.trans h)]
   ·rw [cH (p:=(p.1,y)) e,cH e,ih]
  ·rw [if_neg h];by_cases e:p.1=j
   ·rw [cI (p:=p) e,cI e,Option.map_some,if_neg (fun z=>h (e.trans z))]
   ·rw [cH (p:=p) e,cH e,ih]
theorem oO (k j:κ) (y:V):∀ kvs:List (κ × V),valV kvs k=none->valV (kvs++[(k,y)]) j=if j=k then some y else valV kvs j
 | [],_=>by
  by_cases e:k=j
  ·rw [if_pos e.symm]; exact cI (p:=(k,y)) e
  ·rw [if_neg (fun z=>e z.symm)]; exact cH (p:=(k,y)) e
 | p::r,hn=>by
  rw [List.cons_append];have hk:¬ p.1=k:=fun z=>by rw [cI z] at hn; cases hn
  rw [cH hk] at hn;have ih:=oO k j y r hn;by_cases e:p.1=j
  ·rw [cI e,cI e,if_neg (fun z=>hk (e.trans z))]
  ·rw [cH e,cH e,ih]
theorem cW (kvs:List (κ × V)) (k j:κ) (y:V):valV (putK kvs k y) j=if j=k then some y else valV kvs j:=by
 unfold putK;by_cases a:(kvs.any fun kv=>decide (kv.1=k))=true
 ·rw [if_pos a,qG];rw [ie] at a;by_cases e:j=k
  ·obtain ⟨x,hx⟩:=Option.isSome_iff_exists.mp a;rw [if_pos e,e,hx,Option.map_some,if_pos rfl]
  ·rw [if_neg e];cases valV kvs j with
   | none=>rfl
   | some x=>rw [Option.map_some,if_neg e]
 ·rw [if_neg a];refine oO k j y kvs ?_;rw [ie] at a;cases q:valV kvs k with
  | none=>rfl
  | some x=>rw [q] at a; exact (a rfl).elim
theorem cp (kvs:List (κ × V)) (k:κ) (v:V):(putK kvs k v).length<=kvs.length+1:=by
 unfold putK;split
 ·rw [List.length_map]; lia
 ·rw [List.length_append,List.length_cons,List.length_nil]; lia
theorem RelO.isSome_eq {o:Option V} {u:Option Value} (r:RelO o u):o.isSome=u.isSome:=by
 cases o with
 | none=>cases u with
  | none=>rfl
  | some _=>exact (show False from r).elim
 | some _=>cases u with
  | none=>exact (show False from r).elim
  | some _=>rfl
theorem RelO.getD {o:Option V} {u:Option Value} {d:V} {d':Value} (r:RelO o u) (rd:RelV d d'):RelV (o.getD d) (u.getD d'):=by
 cases o with
 | none=>cases u with
  | none=>exact rd
  | some _=>exact (show False from r).elim
 | some _=>cases u with
  | none=>exact (show False from r).elim
  | some _=>exact r
theorem KV.val {kvs:List (κ × V)} {vs:List (κ × Value)} (r:KV kvs vs) (k:κ):RelO (valV kvs k) (valueAt vs k):=by
 unfold KV at r
 induction r with
 | nil=>exact True.intro
 | @cons p q ps qs h t ih=>
  obtain ⟨h1,h2⟩:=h;by_cases e:p.1=k
  ·have e':q.1=k:=h1.symm.trans e;have b:valueAt (q::qs) k=some q.2:=by simp [valueAt,List.find?_cons,e']
   rw [cI e,b]; exact h2
  ·have e':¬ q.1=k:=fun z=>e (h1.trans z)
   have b:valueAt (q::qs) k=valueAt qs k:=by simp [valueAt,List.find?_cons,e']
   rw [cH e,b]; exact ih
theorem KV.any {kvs:List (κ × V)} {vs:List (κ × Value)} (r:KV kvs vs) (k:κ):(kvs.any fun kv=>decide (kv.1=k))=vs.any fun kv=>decide (kv.1=k):=by
 unfold KV at r
 induction r with
 | nil=>rfl
 | cons h t ih=>rw [List.any_cons,List.any_cons,ih,h.1]
theorem KV.repl {kvs:List (κ × V)} {vs:List (κ × Value)} (r:KV kvs vs) (k:κ) {y:V} {u:Value} (ry:RelV y u):
  KV (kvs.map fun kv=>if kv.1=k then (kv.1,y) else kv) (vs.map fun kv=>if kv.1=k then (kv.1,u) else kv):=by
 unfold KV at r ⊢
 induction r with
 | nil=>exact .nil
 | @cons p q ps qs h t ih=>
  rw [List.map_cons,List.map_cons];refine .cons ?_ ih;obtain ⟨h1,h2⟩:=h;by_cases e:p.1=k
  ·rw [if_pos e,if_pos (h1.symm.trans e)]; exact ⟨h1,ry⟩
  ·rw [if_neg e,if_neg (fun z=>e (h1.trans z))]; exact ⟨h1,h2⟩
theorem KV.put {kvs:List (κ × V)} {vs:List (κ × Value)} (r:KV kvs vs) (k:κ) {y:V} {u:Value} (ry:RelV y u):KV (putK kvs k y) (stored vs k u):=by
 unfold putK stored;rw [r.any k];by_cases e:(vs.any fun kv=>decide (kv.1=k))=true
 ·rw [if_pos e,if_pos e]; exact r.repl k ry
 ·rw [if_neg e,if_neg e]; exact Paired.snoc r ⟨rfl,ry⟩
theorem KV.keys {kvs:List (κ × V)} {vs:List (κ × Value)} (r:KV kvs vs):kvs.map (·.1)=vs.map (·.1):=by
 unfold KV at r
 induction r with
 | nil=>rfl
 | cons h t ih=>rw [List.map_cons,List.map_cons,ih,h.1]
theorem KV.length {kvs:List (κ × V)} {vs:List (κ × Value)} (r:KV kvs vs):kvs.length=vs.length:=Paired.length r
end
theorem q5 {P:Program} {w:World} {k:Key} {u:Value} (r:RelV (kV k) u):(mixKind P w).is k u=true:=by
 cases k with
 | inl i=>obtain ⟨t,e⟩:=(show ∃ t,u=Value.int i t from r); subst e; exact qf P w i t
 | inr x=>obtain ⟨t,e⟩:=(show ∃ t,u=Value.str x t from r); subst e; exact qx P w x t
theorem oC {P:Program} {w:World}:∀ {ks:List Key} {us:List Value},Vals (ks.map kV) us->ItemsAre (mixKind P w) ks us
 | [],_,r=>by rw [List.map_nil] at r; cases r; exact .nil
 | k::ks,_,r=>by
  rw [List.map_cons] at r;cases r with
  | cons h t=>exact .cons (q5 h) (oC t)
noncomputable abbrev KT (H:Hp):List (List Key × V)->List (List Key × Addr × Value)->Prop:=Paired fun p q=>p.1=q.1/\H q.2.1=some (.tup (p.1.map kV))/\RelV p.2 q.2.2
theorem KT.val {H:Hp} {kvs:List (List Key × V)} {xs:List (List Key × Addr × Value)} (r:KT H kvs xs) (k:List Key):RelO (valV kvs k) ((atKey xs k).map (·.2)):=by
 induction r with
 | nil=>exact True.intro
 | @cons p q ps qs h t ih=>
  obtain ⟨h1,_,h2⟩:=h;by_cases e:p.1=k
  ·have e':q.1=k:=h1.symm.trans e;have b:atKey (q::qs) k=some q.2:=by simp [atKey,List.find?_cons,e']
   rw [cI e,b]; exact h2
  ·have e':¬ q.1=k:=fun z=>e (h1.trans z)
   have b:atKey (q::qs) k=atKey qs k:=by simp [atKey,List.find?_cons,e']
   rw [cH e,b]; exact ih
theorem KT.repl {H:Hp} {kvs:List (List Key × V)} {xs:List (List Key × Addr × Value)} (r:KT H kvs xs) (k:List Key) {y:V} {u:Value} (ry:RelV y u):
  KT H (kvs.map fun kv=>if kv.1=k then (kv.1,y) else kv) (xs.map (putAt k u)):=by
 induction r with
 | nil=>exact .nil
 | @cons p q ps qs h t ih=>
  rw [List.map_cons,List.map_cons];refine .cons ?_ ih;obtain ⟨h1,h2,h3⟩:=h;unfold putAt;by_cases e:p.1=k
  ·rw [if_pos e,if_pos (h1.symm.trans e)]; exact ⟨h1,h2,ry⟩
  ·rw [if_neg e,if_neg (fun z=>e (h1.trans z))]; exact ⟨h1,h2,h3⟩
theorem KT.put {H:Hp} {kvs:List (List Key × V)} {xs:List (List Key × Addr × Value)} (r:KT H kvs xs) (k:List Key) {b:Addr} {y:V} {u:Value} (hb:H b=some (.tup (k.map kV))) (ry:RelV y u):
  KT H (putK kvs k y) (storedH xs k b u):=by
 have e:(kvs.any fun kv=>decide (kv.1=k))=(atKey xs k).isSome:=by
  rw [ie,(r.val k).isSome_eq,Option.isSome_map]
 unfold putK storedH;rw [e];by_cases q:(atKey xs k).isSome=true
 ·rw [if_pos q,if_pos q]; exact r.repl k ry
 ·rw [if_neg q,if_neg q]; exact Paired.snoc r ⟨rfl,hb,ry⟩
theorem KT.keeps {H H':Hp} {kvs:List (List Key × V)} {xs:List (List Key × Addr × Value)} (r:KT H kvs xs) (ht:∀ b ys,H b=some (.tup ys)->H' b=some (.tup ys)):KT H' kvs xs:=
 Paired.mapP r fun _ _ z=>⟨z.1,ht _ _ z.2.1,z.2.2⟩
section
variable {P:Program} {w:World} {H:Hp} {h:Heap} {a:Addr}
theorem xO {u:HO} (ok:HOk P w H h) (e:Rd H a u):ObjOk P w H h a u:=e.ok ok
theorem ra {kvs:List (Key × V)} (ok:HOk P w H h) (e:Rd H a (.dK kvs)):kvs.length<=sizeLine/\(a == sysModules)=false/\∃ vs,KV kvs vs/\h.DictOf (mixKind P w) a vs:=
 show ObjOk P w H h a (.dK kvs) from xO ok e
theorem xM {kvs:List (Key × V)} (ok:HOk P w H h) (e:H a=some (.dK kvs)):kvs.length<=sizeLine/\(a == sysModules)=false/\∃ vs,KV kvs vs/\h.DictOf (mixKind P w) a vs:=ra ok (.inl e)
theorem pN {ks:List Key} (ok:HOk P w H h) (e:H a=some (.tup (ks.map kV))):(tupleKind (mixKind P w)).is h ks a:=by
 obtain ⟨_,its,r,o,h1,h2,n,h3⟩:=(show ObjOk P w H h a (.tup (ks.map kV)) from ok a _ e);exact ⟨o,its.toArray,n,h1,h2,h3,by simpa using oC r⟩
theorem qV {kvs:List (List Key × V)} (ok:HOk P w H h) (e:Rd H a (.dT kvs)):kvs.length<=sizeLine/\(a == sysModules)=false /\
  ∃ xs,KT H kvs xs/\h.DictOfH (tupleKind (mixKind P w)) a xs:=by
 obtain ⟨z,y,xs,r,o,es,ep,h1,h2,h3,h4,h5⟩:=(show ObjOk P w H h a (.dT kvs) from xO ok e);refine ⟨z,y,xs,r,o,es,ep,h1,h2,h3,h4,fun x hx=>?_,h5⟩;have all:∀ {l:List (List Key × V)} {m:List (List Key × Addr × Value)},KT H l m->∀ x ∈ m,(tupleKind (mixKind P w)).is h x.1 x.2.1:=by
  intro l m q
  induction q with
  | nil=>intro x hx; exact nomatch hx
  | @cons p q ps qs hq t ih=>
   intro x hx;rcases List.mem_cons.mp hx with e | hx
   ·subst e;exact pN ok (by rw [<- hq.1]; exact hq.2.1)
   ·exact ih x hx
 exact all r x hx
theorem xK {kvs:List (List Key × V)} (ok:HOk P w H h) (e:H a=some (.dT kvs)):kvs.length<=sizeLine/\(a == sysModules)=false /\
  ∃ xs,KT H kvs xs/\h.DictOfH (tupleKind (mixKind P w)) a xs:=qV ok (.inl e)
end
def DGet (H:Hp) (a:Addr) (y:V) (r:Option V):Prop:=
 (Ex2 fun kvs k=>Rd H a (.dK kvs)/\y=kV k/\r=valV kvs k)\/Ex3 fun kvs k b=>Rd H a (.dT kvs)/\y=.ref b/\H b=some (.tup (k.map kV))/\r=valV kvs k
def DPut (H:Hp) (a:Addr) (y v:V) (H':Hp):Prop:=
 (Ex2 fun kvs k=>H a=some (.dK kvs)/\y=kV k/\kvs.length < sizeLine/\H'=upd H a (.dK (putK kvs k v))) \/
 Ex3 fun kvs k b=>H a=some (.dT kvs)/\y=.ref b/\H b=some (.tup (k.map kV))/\kvs.length < sizeLine/\H'=upd H a (.dT (putK kvs k v))
theorem DGet.t {H:Hp} {a b:Addr} {kvs:List (List Key × V)} {k:List Key} (e:H a=some (.dT kvs)) (eb:H b=some (.tup (k.map kV))):DGet H a (.ref b) (valV kvs k):=.inr ⟨kvs,k,b,.inl e,rfl,eb,rfl⟩
theorem DPut.t {H:Hp} {a b:Addr} {kvs:List (List Key × V)} {k:List Key} {v:V} (e:H a=some (.dT kvs)) (eb:H b=some (.tup (k.map kV))) (hl:kvs.length < sizeLine):
  DPut H a (.ref b) v (upd H a (.dT (putK kvs k v))):=.inr ⟨kvs,k,b,e,rfl,eb,hl,rfl⟩
section
variable {X:Cx} {pins:List (Addr × Obj)} {σ:St} {H:Hp} {s:Shared} {a:Addr} {y v:V} {u r:Value} {o:Option V} {A:Around} {E:Value->Shared->Prop}
theorem Inv.big (I:Inv X pins σ H s):sysModules < s.heap.objs.size:=by
 have h:mainGlobals < s.heap.objs.size:=(I.mod.glob.keeps I.bk).lt;exact Nat.lt_trans (by decide) h
theorem tX {Q:Value->Shared->Prop} (hu:A.units+1 < cLine) (I:Inv X pins σ H s) (g:DGet H a y (some v)) (ry:RelV y u) (h:∀ w' s',Inv X pins σ H s'->RelV v w'->Q w' s'):
  wpAny (model X.prog X.w) A (getItem (.ref a) u) Q E s:=by
 rcases g with ⟨kvs,k,e,ey,l⟩ | ⟨kvs,k,b,e,ey,eb,l⟩
 ·subst ey;obtain ⟨z,hd,vs,rel,dd⟩:=ra I.hok e;obtain ⟨w',hw,rw'⟩:=RelO.some_of (v:=v) (o:=valueAt vs k) (by rw [l]; exact rel.val k);exact wpAny_getItem_of (q5 ry) dd.mapOf hw (h w' _ (I.tok _) rw')
 ·subst ey;cases (show u=Value.ref b from ry);obtain ⟨z,hd,xs,rel,dd⟩:=qV I.hok e;obtain ⟨w',hw,rw'⟩:=RelO.some_of (v:=v) (o:=(atKey xs k).map (·.2)) (by rw [l]; exact rel.val k);obtain ⟨p,hp,hp2⟩:=Option.map_eq_some_iff.mp hw;refine wpAny_getItem_heap (tupleKind_room_in1 hu) (pN I.hok eb) dd hp ?_;rw [hp2];exact h w' _ (I.tok _) rw'
theorem px {h':Heap} {t':Nat} {ob:HO} (I:Inv X pins σ H s) (mu:Mut (H a)) (hs:Heap.SameBut a s.heap h') (he:∃ q,h'.get? a=some q) (new:ObjOk X.prog X.w (upd H a ob) h' a ob) (ht:0 < t':=by first | assumption | exact Nat.succ_pos _ | (apply Inv.tk; assumption) | lia):
  Inv X pins σ (upd H a ob) { s with heap:=h',toks:=t' }:=
 I.write (x:=a) (e:=a) mu (.inl rfl) (fun b q hb z=>(hs.2 b hb).trans z) he new
theorem rq {P:Program} {w:World} {H':Hp} {h':Heap} {kvs:List (Key × V)} {vs:List (Key × Value)} (z:kvs.length<=sizeLine) (hd:(a == sysModules)=false) (rel:KV kvs vs) (dd:h'.DictOf (mixKind P w) a vs):
  ObjOk P w H' h' a (.dK kvs):=⟨z,hd,vs,rel,dd⟩
theorem tP {H':Hp} {Q:Unit->Shared->Prop} (hu:A.units+1 < cLine) (I:Inv X pins σ H s) (g:DPut H a y v H') (ry:RelV y u) (rv:RelV v r) (h:∀ s',Inv X pins σ H' s'->Q () s'):
  wpAny (model X.prog X.w) A (setItem (.ref a) u r) Q E s:=by
 rcases g with ⟨kvs,k,e,ey,l,eH⟩ | ⟨kvs,k,b,e,ey,eb,l,eH⟩
 ·subst ey eH;obtain ⟨z,hd,vs,rel,dd⟩:=xM I.hok e;have hz:vs.length<=sizeLine:=by rw [<- rel.length]; exact z
  have hl:(putK kvs k v).length<=sizeLine:=by have:=cp kvs k v; lia
  refine wpAny_setItem_pairs (hsz:=hz) (q5 ry) dd fun h' dd' hs=>h _ ?_
  have he:∃ q,h'.get? a=some q:=let ⟨q,_,_,hq,_⟩:=dd'; ⟨q,hq⟩
  exact px I (by rw [e]; exact True.intro) hs he (rq hl hd (rel.put k rv) dd')
 ·subst ey eH;cases (show u=Value.ref b from ry);obtain ⟨z,hd,xs,rel,dd⟩:=xK I.hok e;have hz:xs.length<=sizeLine:=by rw [<- Paired.length rel]; exact z
  have hl:(putK kvs k v).length<=sizeLine:=by have:=cp kvs k v; lia
  refine wpAny_setItem_heap (hsz:=hz) (tupleKind_room_in1 hu) (pN I.hok eb) dd fun h' dd' hs=>h _ ?_
  obtain ⟨q,es,ep,hq,h2,h3,h4,_,h5⟩:=dd';refine px I (by rw [e]; exact True.intro) hs ⟨q,hq⟩ ⟨hl,hd,_,(rel.put k eb rv).keeps fun c ys ec=>?_,q,es,ep,hq,h2,h3,h4,h5⟩;rw [au (zi ec e (fun z=>nomatch z))];exact ec
end
section
variable {X:Cx} {pins:List (Addr × Obj)} {σ:St} {H:Hp} {s:Shared} {a:Addr} {kvs:List (Key × V)} {k:Key} {u:Value} {A:Around} {E:Value->Shared->Prop}
end
def NoSl (i:Expr):Prop:=∀ ov iv,subscripted i false ov iv=operate [ov,iv] (getItem ov iv)
theorem xu {prog:Program} {w:World} {A:Around} {E:Value->Shared->Prop} {s:Shared} {env:Env} {value slice:Expr} {pos:Pos} {T id:String} {Q:Value->Shared->Prop}
  (hl:typeLookup (.type T) "__getitem__" = pure (some (.builtin id))) (hs:NoSl slice)
  (h:wpAny (model prog w) A (eval value env) (fun o s₁=>wpAny (model prog w) A (eval slice env) (fun i s₂=>s₂.TypeIs o T/\wpAny (model prog w) A (getItem o i) Q E s₂) E s₁) E s):
  wpAny (model prog w) A (eval (.Subscript value slice pos) env) Q E s:=by
 refine Subscript_ (wpAny_mono h (fun o s₁ h₁=>wpAny_mono h₁ (fun i s₂ h₂=>?_) fun _ _ x=>x) fun _ _ x=>x);obtain ⟨hT,h₂⟩:=h₂;unfold subscriptTail;refine wpAny_bind ?_;rw [getitemInPython_of_ne hT.not_modules];refine wpAny_bind (wpAny_specialOf hT hl ?_);have fin:wpAny (model prog w) A (subscripted slice false o i) (fun r s₃=>wpAny (model prog w) A (letTemporaryGo value o r>>=fun _=>pure r) Q E s₃) E s₂:=by
  rw [hs o i];exact wpAny_operating (wpAny_mono h₂ (fun r s₃ h₃=>wpAny_bind (wpAny_letTemporaryGo (wpAny_pure h₃))) fun _ _ x=>x)
 first
  | exact wpAny_pure (wpAny_bind fin)
  | exact wpAny_bind (wpAny_pure (wpAny_bind fin))
  | exact wpAny_bind fin
theorem qC {X:Cx} {pins:List (Addr × Obj)} {σ:St} {H:Hp} {s:Shared} {a:Addr} {y:V} {o:Option V} (I:Inv X pins σ H s) (g:DGet H a y o):s.TypeIs (.ref a) "dict" := by
 rcases g with ⟨kvs,k,e,_,_⟩ | ⟨kvs,k,b,e,_,_,_⟩
 ·obtain ⟨_,_,vs,_,dd⟩:=ra I.hok e;exact dd.typeIs
 ·obtain ⟨_,_,xs,_,dd⟩:=qV I.hok e;exact dd.typeIs
noncomputable def tDGet (td ty:TE):TE:=fun σ H Q=>td σ H fun x H1=>ty σ H1 fun y H2=>Ex2 fun a v=>x=.ref a/\DGet H2 a y (some v)/\Q v H2
noncomputable def sDPut (td ty tv:TE):TS:=fun D σ H=>tv σ H fun v H1=>td σ H1 fun x H2=>ty σ H2 fun y H3=>Ex2 fun a H4=>x=.ref a/\DPut H3 a y v H4/\D.nx σ H4
section
variable {X:Cx} {o i e value:Expr} {pos pos' tpos:Pos} {td ty tv:TE}
theorem vV (hu:X.A.units+1 < cLine) (ho:PE X o td) (hi:PE X i ty) (hs:NoSl i):PE X (.Subscript o i pos) (tDGet td ty):=by
 intro pins s σ H Q I h;refine xu PySem.F.slot_dict_getitem.lookup hs (thn (ho pins s σ H _ I h) fun u s1 ⟨x,H1,I1,rx,q1⟩=>thn (hi pins s1 σ H1 _ I1 q1) fun iv s2 ⟨y,H2,I2,ry,a,v,ex,g,q2⟩=>?_);subst ex;obtain rfl:u=Value.ref a:=rx;exact ⟨qC I2 g,tX hu I2 g ry fun w' s3 I3 rw'=>⟨v,H2,I3,rw',q2⟩⟩
theorem wb (hu:X.A.units+1 < cLine) (ho:PE X o td) (hi:PE X i ty) (hv:PE X value tv) (hs:swapsWith value (some (.Subscript o i pos')) pos.line X.env=pure false):
  PS X (.Assign [.Subscript o i pos'] value pos) (sDPut td ty tv):=by
 intro pins s σ H D I h;refine wpAny_Assign_Subscript (thn (hv pins s σ H _ I h) fun r s1 ⟨v,H1,I1,rv,q1⟩=>thn (ho pins s1 σ H1 _ I1 q1) fun u s2 ⟨x,H2,I2,rx,q2⟩=>thn (hi pins s2 σ H2 _ I2 q2) fun iv s3 ⟨y,H3,I3,ry,a,H4,ex,g,q3⟩=>?_) hs;subst ex;obtain rfl:u=Value.ref a:=rx;exact tP hu I3 g ry rv fun s4 I4=>⟨σ,H4,I4,q3⟩
end
theorem uT {P:Program} {w:World} {H:Hp} (h:Heap) (hb:sysModules < h.objs.size):ObjOk P w H (h.push { cls:=.type "dict",data:=.dict #[] }) h.objs.size (.dK []):=
 ⟨Nat.zero_le _,beq_eq_false_iff_ne.mpr (Ne.symm (Nat.ne_of_lt hb)),[],.nil,Heap.DictOf.new h⟩
theorem vi {P:Program} {w:World} {H:Hp} (h:Heap) (hb:sysModules < h.objs.size):ObjOk P w H (h.push { cls:=.type "dict",data:=.dict #[] }) h.objs.size (.dT []):=
 ⟨Nat.zero_le _,beq_eq_false_iff_ne.mpr (Ne.symm (Nat.ne_of_lt hb)),[],.nil,_,#[],0,Heap.get?_push_size _ rfl,⟨rfl,rfl,rfl⟩,rfl,rfl,List.nodup_nil⟩
noncomputable def tDNewK:TE:=fun _ H Q=>∀ p,H p=none->Q (.ref p) (upd H p (.dK []))
noncomputable def tDNewT:TE:=fun _ H Q=>∀ p,H p=none->Q (.ref p) (upd H p (.dT []))
section
variable {X:Cx} {pos:Pos}
theorem mW:PE X (.Dict [] [] pos) tDNewK:=fun pins s σ H Q I h=>
 wpAny_Dict_empty ⟨.ref s.heap.objs.size,_,I.laid (a:=s.heap.objs.size) (o:=.dK []) (t':=s.toks) (fun _ _ q=>Heap.get?_push_of_some _ q) (Nat.le_refl _) (uT s.heap I.big),rfl,h _ (I.hok.fresh (Nat.le_refl _))⟩
theorem nC:PE X (.Dict [] [] pos) tDNewT:=fun pins s σ H Q I h=>
 wpAny_Dict_empty ⟨.ref s.heap.objs.size,_,I.laid (a:=s.heap.objs.size) (o:=.dT []) (t':=s.toks) (fun _ _ q=>Heap.get?_push_of_some _ q) (Nat.le_refl _) (vi s.heap I.big),rfl,h _ (I.hok.fresh (Nat.le_refl _))⟩
end
structure M1 (X:Cx) (o:Expr) (m:Str) (apos:Pos) (e:Expr) (cpos:Pos):Prop where
 base:attributeBase o m X.env (eval o X.env)=eval o X.env
 few:((backTo cpos (starEach [e] X.env)).all (fun x=>!x.1) && (backToKw cpos (keywordEach [] X.env)).all (fun x=>x.1.isSome)
  && decide (([e]:List Expr).length+([]:List Keyword).length+(if ([]:List Keyword).isEmpty then 0 else 1) < 30))=true
 line:(apos.endLine == cpos.line)=true
 trees:backTo cpos (starEach [e] X.env)=[(false,eval e X.env)]
def IsD (H:Hp) (a:Addr):Prop:=(∃ kvs,Rd H a (.dK kvs))\/∃ kvs,Rd H a (.dT kvs)
theorem yD {X:Cx} {pins:List (Addr × Obj)} {σ:St} {H:Hp} {s:Shared} {a:Addr} (I:Inv X pins σ H s) (d:IsD H a):
  s.TypeIs (.ref a) "dict" /\ (∀ b,Value.ref a=.ref b->∃ ob,s.heap.get? b=some ob/\ob.dict=none)/\(a == sysModules)=false:=by
 rcases d with ⟨kvs,e⟩ | ⟨kvs,e⟩
 ·obtain ⟨_,hd,vs,_,dd⟩:=ra I.hok e;refine ⟨dd.typeIs,fun b q=>?_,hd⟩;cases q;obtain ⟨ob,_,_,h1,h2,_⟩:=dd;exact ⟨ob,h1,h2.2.1⟩
 ·obtain ⟨_,hd,xs,_,dd⟩:=qV I.hok e;refine ⟨dd.typeIs,fun b q=>?_,hd⟩;cases q;obtain ⟨ob,_,_,h1,h2,_⟩:=dd;exact ⟨ob,h1,h2.2.1⟩
section
variable {X:Cx} {pins:List (Addr × Obj)} {σ:St} {H:Hp} {s:Shared} {a:Addr} {y d:V} {u r:Value} {o:Option V} {A:Around} {E:Value->Shared->Prop}
theorem yB {Q:Value->Shared->Prop} (hu:A.units+1 < cLine) (I:Inv X pins σ H s) (g:DGet H a y o) (ry:RelV y u) (h:∀ w' s',Inv X pins σ H s'->RelV (o.getD .non) w'->Q w' s'):
  wpAny (model X.prog X.w) A (call (.builtin "dict.get") [.ref a,u]) Q E s:=by
 rcases g with ⟨kvs,k,e,ey,l⟩ | ⟨kvs,k,b,e,ey,eb,l⟩
 ·subst ey;obtain ⟨z,hd,vs,rel,dd⟩:=ra I.hok e;refine call_meetsIn PySem.F.slot_dict_get dd.typeIs PySem.F.entry_dict_get (PySem.F.args_dict_get_2 _ _) (meets_dict_get (mixKind X.prog X.w) a (q5 ry) hd) ⟨_,dd.mapOf,h _ _ (I.tok _) ?_⟩;rw [l];exact (rel.val k).getD rfl
 ·subst ey;cases (show u=Value.ref b from ry);obtain ⟨z,hd,xs,rel,dd⟩:=qV I.hok e;refine call_meetsIn PySem.F.slot_dict_get dd.typeIs PySem.F.entry_dict_get (PySem.F.args_dict_get_2 _ _) (meetsH_dict_get (tupleKind (mixKind X.prog X.w)) a b hd) ⟨tupleKind_room_in1 hu,k,xs,pN I.hok eb,dd,h _ _ (I.tok _) ?_⟩;rw [l];exact (rel.val k).getD rfl
end
noncomputable def tDGet1 (td ty:TE):TE:=fun σ H Q=>td σ H fun x H1=>∃ a,x=.ref a/\IsD H1 a/\ty σ H1 fun y H2=>∃ o,DGet H2 a y o/\Q (o.getD .non) H2
section
variable {X:Cx} {o e f:Expr} {apos cpos:Pos} {td ty tx:TE}
theorem vt (hu:X.A.units+1 < cLine) (ho:PE X o td) (he:PE X e ty) (m:M1 X o "get" apos e cpos):PE X (.Call (.Attribute o "get" apos) [e] [] cpos) (tDGet1 td ty):=by
 intro pins s σ H Q I h;refine wpAny_Call_method m.base m.few m.line PySem.F.plainAttrs_dict PySem.F.slot_dict_get PySem.F.type_dict_get (thn (ho pins s σ H _ I h) fun u s1 ⟨x,H1,I1,rx,a,ex,d,q1⟩=>?_);subst ex;obtain rfl:u=Value.ref a:=rx;obtain ⟨t1,t2,_⟩:=yD I1 d;refine ⟨t1,t2,?_⟩;rw [m.trees];refine Calls.callWith_builtin rfl (Calls.evalArgs_plain (Calls.spliced_cons (thn (he pins s1 σ H1 _ I1 q1) fun iv s2 ⟨y,H2,I2,ry,ov,g,q2⟩=>Calls.spliced_nil ?_)));exact yB hu I2 g ry fun w' s3 I3 rw'=>⟨_,H2,I3,rw',q2⟩
end
section
variable {X:Cx} {pins:List (Addr × Obj)} {σ:St} {H:Hp} {s:Shared} {a:Addr} {kvs:List (Key × V)} {A:Around} {E:Value->Shared->Prop}
end
section
variable {X:Cx} {pins:List (Addr × Obj)} {σ:St} {H:Hp} {s:Shared} {a:Addr} {y:V} {u:Value} {A:Around} {E:Value->Shared->Prop}
end
section
variable {X:Cx}
end
section
variable {κ:Type} [DecidableEq κ]
theorem vL {kvs:List (κ × V)} {k:κ} (h:valV kvs k=none):¬ k ∈ kvs.map (·.1):=by
 intro m;obtain ⟨p,hp,e⟩:=List.mem_map.mp m;have q:(kvs.any fun kv=>decide (kv.1=k))=true:=List.any_eq_true.mpr ⟨p,hp,decide_eq_true e⟩;rw [ie,h] at q;exact absurd q (by simp)
end
section
variable {X:Cx} {o i e value:Expr} {pos pos' apos cpos:Pos} {td ty tv ta:TE}
noncomputable def cDGet (td ty:TE):TE:=fun σ H Q=>td σ H fun x H1=>ty σ H1 fun y H2=>match x with
 | .ref a=>∃ v,DGet H2 a y (some v)/\Q v H2
 | _=>False
theorem pE (hu:X.A.units+1 < cLine) (ho:PE X o td) (hi:PE X i ty) (hs:NoSl i):PE X (.Subscript o i pos) (cDGet td ty):=
 (vV hu ho.mono hi.mono hs).imp fun σ H Q q=>⟨_,q,fun x H1 z=>⟨_,z,fun y H2 z=>by
  split at z
  ·obtain ⟨v,g,q⟩:=z;exact ⟨_,v,rfl,g,q⟩
  ·exact z.elim⟩⟩
noncomputable def cDPut (td ty tv:TE):TS:=fun D σ H=>tv σ H fun v H1=>td σ H1 fun x H2=>ty σ H2 fun y H3=>match x with
 | .ref a=>∃ H4,DPut H3 a y v H4/\D.nx σ H4
 | _=>False
theorem jC (hu:X.A.units+1 < cLine) (ho:PE X o td) (hi:PE X i ty) (hv:PE X value tv) (hs:swapsWith value (some (.Subscript o i pos')) pos.line X.env=pure false:=by rfl):
  PS X (.Assign [.Subscript o i pos'] value pos) (cDPut td ty tv):=fun pins s σ H D I h=>
 wb hu ho.mono hi.mono hv.mono hs pins s σ H D I ⟨_,h,fun v H1 z=>⟨_,z,fun x H2 z=>⟨_,z,fun y H3 z=>by
  split at z
  ·obtain ⟨H4,g,q⟩:=z;exact ⟨_,H4,rfl,g,q⟩
  ·exact z.elim⟩⟩⟩
theorem bO {exc cause:Option Expr}:PS X (.Raise exc cause pos) (fun _ _ _=>False):=fun _ _ _ _ _ _ h=>h.elim
theorem xi {σ:St} {H:Hp} {Q:VK}:cDGet td ty σ H Q=td σ H fun x H1=>ty σ H1 fun y H2=>match x with
 | .ref a=>∃ v,DGet H2 a y (some v)/\Q v H2
 | _=>False:=rfl
theorem wU {D:Ends} {σ:St} {H:Hp}:cDPut td ty tv D σ H=tv σ H fun v H1=>td σ H1 fun x H2=>ty σ H2 fun y H3=>match x with
 | .ref a=>∃ H4,DPut H3 a y v H4/\D.nx σ H4
 | _=>False:=rfl
theorem wC {σ:St} {H:Hp} {Q:VK}:tDNewK σ H Q=∀ p,H p=none->Q (.ref p) (upd H p (.dK [])):=rfl
theorem vZ {σ:St} {H:Hp} {Q:VK}:tDNewT σ H Q=∀ p,H p=none->Q (.ref p) (upd H p (.dT [])):=rfl
end
section
variable {X:Cx} {e:Expr} {te:TE} {pos:Pos}
end
section
variable {X:Cx}
variable {o e f:Expr} {to te tf:TE} {apos cpos:Pos}
end
section
variable {X:Cx} {e:Expr} {te:TE} {apos cpos:Pos}
end
section
variable {X:Cx}
end
section
variable {X:Cx} {pins:List (Addr × Obj)} {σ:St} {H:Hp} {s:Shared} {a:Addr} {y v:V} {u r:Value} {A:Around} {E:Value->Shared->Prop}
end
section
variable {X:Cx} {o e f:Expr} {apos cpos:Pos} {td ty tx:TE}
theorem Inv.frozen {pins:List (Addr × Obj)} {σ:St} {H:Hp} {s:Shared} {a:Addr} {kvs:List (Key × V)} (I:Inv X pins σ H s) (e:H a=some (.dK kvs)):∃ ob,Inv X pins σ (upd H a (.frz ob (.dK kvs))) s:=by
 obtain ⟨z,hd,vs,rel,dd⟩:=xM I.hok e;obtain ⟨ob,es,ep,hq,r⟩:=id dd;refine ⟨ob,?_⟩;exact px (h':=s.heap) (t':=s.toks) I (by rw [e]; exact True.intro) ⟨rfl,fun _ _=>rfl⟩ ⟨ob,hq⟩ ⟨hq,rq z hd rel dd⟩
end
noncomputable def epOf (o:Obj):Nat:=match o.data with | .dict _ ep=>ep | _=>0
section
variable {X:Cx} {o:Expr} {to:TE} {apos cpos:Pos}
end
section
variable {X:Cx}
end
section
variable {K:Frag} {g:TG} {tc:TT} {te:TE} {σc:St} {D:Addr} {Q:VK} {H:Hp} {td ty:TE}
end
section
variable {K:Frag} {J:It} {g:TG} {tc:TT} {te:TE} {σc:St} {D:Addr} {Q:VK} {H:Hp}
theorem vh {α:Type} (xs:List α) (keep:α -> Bool) (R:α -> V->Hp->Prop) (hfree:H D=none) (hn:xs.length<=100000) (hgo:∀ i H1,i < xs.length->Same H H1->J.go i H1) (hst:∀ H1,Same H H1->J.stop xs.length H1)
  (hy:∀ i H1 v H2,i < xs.length->J.yld i H1 v H2->Same H1 H2)
  (mono:∀ x v H1 H2 acc,H1 D=some (.lst acc)->(∀ b o,b≠D->H1 b=some o->H2 b=some o)->R x v H1->R x v H2)
  (hs:∀ i x v H1 H2 (out:VK) (non:Hp->Prop),xs[i]? = some x->Same H H1->J.yld i H1 v H2->(∀ v H6,keep x=true->Same H2 H6->R x v H6->out v H6)->(∀ H5,keep x=false->Same H2 H5->non H5) ->
   g v σc H2 fun σ4 H4=>tc σ4 H4 fun b H5=>if b=true then te σ4 H5 out else non H5)
  (hq:∀ H' vs,Same H H'->H' D=some (.lst vs)->Paired (fun x v=>R x v H') (xs.filter keep) vs->Q (.ref D) H'):compW J g tc te σc D Q H:=by
 refine ⟨fun i m acc H2=>m=xs.length - i/\i<=xs.length/\Paired (fun x v=>R x v H2) ((xs.take i).filter keep) acc/\Same H H2/\H2 D=some (.lst acc),⟨xs.length,by simp,Nat.zero_le _,.nil,af hfree _,ab⟩,?_⟩;rintro i m acc H2 ⟨rfl,hi,pr,sm,hD⟩;have len:acc.length<=i:=by
  have a:=pr.length;have b:=List.length_filter_le keep (xs.take i);rw [List.length_take] at b
  lia
 by_cases hlt:i < xs.length
 ·refine .inr ⟨hgo i H2 hlt sm,fun x H3 y=>?_⟩;have s3:=hy i H2 x H3 hlt y;have ht:xs.take (i+1)=xs.take i++[xs[i]]:=by rw [List.take_add_one,List.getElem?_eq_getElem hlt]; rfl
  have hD3:=s3 _ _ hD;refine hs i xs[i] x _ _ _ _ (List.getElem?_eq_getElem hlt) sm y (fun v H6 k s6 r=>?_) fun H5 k s5=>?_
  ·refine ⟨s6 _ _ hD3,Nat.lt_of_le_of_lt len (sizeBig (by lia)),xs.length - (i+1),by lia,rfl,hlt,?_,?_,ab⟩
   ·have m1:∀ x v,R x v H6->R x v (upd H6 D (.lst (acc++[v]))):=fun x v r=>mono x v H6 _ acc (s6 _ _ hD3) (fun b o nb q=>by rw [au nb]; exact q) r
    rw [ht,List.filter_append];have f1:[xs[i]].filter keep=[xs[i]]:=by simp [k]
    rw [f1];have lift:∀ {l:List α} {vs:List V},Paired (fun x v=>R x v H2) l vs->Paired (fun x v'=>R x v' (upd H6 D (.lst (acc++[v])))) l vs:=by
     intro l vs pp
     induction pp with
     | nil=>exact .nil
     | cons r _ ih=>exact .cons (mono _ _ H2 _ acc hD (fun b o nb q=>by rw [au nb]; exact s6 _ _ (s3 _ _ q)) r) ih
    have app:∀ {l:List α} {vs:List V} {x:α} {v':V} {F:α -> V->Prop},Paired F l vs->F x v'->Paired F (l++[x]) (vs++[v']):=by
     intro l vs x v' F pp r
     induction pp with
     | nil=>exact .cons r .nil
     | cons r' _ ih=>exact .cons r' ih
    exact app (lift pr) (m1 _ _ r)
   ·exact aG (sm.trans (s3.trans s6)) hfree
  ·refine ⟨xs.length - (i+1),by lia,rfl,hlt,?_,sm.trans (s3.trans s5),s5 _ _ hD3⟩;rw [ht,List.filter_append];have f1:[xs[i]].filter keep=[]:=by simp [k]
   rw [f1,List.append_nil];have lift:∀ {l:List α} {vs:List V},Paired (fun x v=>R x v H2) l vs->Paired (fun x v'=>R x v' H5) l vs:=by
    intro l vs pp
    induction pp with
    | nil=>exact .nil
    | cons r _ ih=>exact .cons (mono _ _ H2 _ acc hD (fun b o _ q=>s5 _ _ (s3 _ _ q)) r) ih
   exact lift pr
 ·have e:i=xs.length:=by lia
  subst e;rw [List.take_length] at pr;exact .inl ⟨hst H2 sm,hq H2 acc sm hD pr⟩
end
section
variable {X:Cx} {e:Expr} {te:TE} {pos:Pos}
theorem iD (xs:List V) (n:Nat) (h:n<=xs.length):cutV xs none (some (n:Int))=xs.take n:=by
 unfold cutV;have e1:HT.sIx xs.length 0 none=0:=by simp [HT.sIx]
 have e2:HT.sIx xs.length xs.length (some (n:Int))=n:=by
  simp only [HT.sIx];rw [if_neg (by lia)]
  lia
 rw [e1,e2];simp
theorem gb (xs:List V) (n:Nat) (h:n<=xs.length):cutV xs (some (n:Int)) none=xs.drop n:=by
 unfold cutV;have e1:HT.sIx xs.length 0 (some (n:Int))=n:=by
  simp only [HT.sIx];rw [if_neg (by lia)]
  lia
 have e2:HT.sIx xs.length xs.length none=xs.length:=by simp [HT.sIx]
 rw [e1,e2];rw [List.take_of_length_le (by rw [List.length_drop]; lia)]
end
section
variable {X:Cx} {o e:Expr} {to te:TE} {apos cpos:Pos}
noncomputable def cPopAt (to te:TE):TE:=fun σ H Q=>to σ H fun x H1=>match x with
 | .ref l=>(∃ xs,H1 l=some (.lst xs))/\te σ H1 fun y H2=>match y with
  | .int i=>Ex3 fun (xs:List V) (k:Nat) (v:V)=>i=(k:Int)/\H2 l=some (.lst xs)/\xs.length<=100000/\xs[k]? = some v/\Q v (upd H2 l (.lst (xs.eraseIdx k)))
  | _=>False
 | _=>False
theorem m4 (ho:PE X o to) (he:PE X e te) (hbase:attributeBase o "pop" X.env (eval o X.env)=eval o X.env:=by rfl)
  (hfew:((backTo cpos (starEach [e] X.env)).all (fun x=>!x.1) && (backToKw cpos (keywordEach [] X.env)).all (fun x=>x.1.isSome) && decide ([e].length+([]:List Keyword).length+(if ([]:List Keyword).isEmpty then 0 else 1) < 30))=true:=by rfl)
  (hline:(apos.endLine == cpos.line)=true:=by rfl) (hs:starEach [e] X.env=(false,eval e X.env)::starEach [] X.env:=by rfl) (hplain:(backTo cpos (starEach [] X.env)).any (·.1)=false:=by rfl):
  PE X (.Call (.Attribute o "pop" apos) [e] [] cpos) (cPopAt to te):=
 (sT PySem.F.plainAttrs_list PySem.F.slot_list_pop PySem.F.type_list_pop uS ho.mono (aa he.mono ae hs) hbase hfew hline hs hplain).imp fun σ H Q q=>⟨_,q,fun x H1 z=>by
  split at z
  ·rename_i l;obtain ⟨⟨xs,h⟩,z⟩:=z;refine ⟨.inl ⟨rfl,_,SqL.of h⟩,_,z,fun y H2 z2=>?_⟩;split at z2
   ·obtain ⟨xs2,k,v,rfl,h2,h3,h4,z3⟩:=z2;have hk:k < xs2.length:=(List.getElem?_eq_some_iff.mp h4).1;exact ⟨l,xs2,k,k,v,rfl,rfl,h2,by lia,by lia,by unfold seqIndex?; simp; lia,h4,z3⟩
   ·exact z2.elim
  ·exact z.elim⟩
theorem uG {σ:St} {H:Hp} {Q:VK}:cPopAt to te σ H Q=to σ H fun x H1=>match x with
 | .ref l=>(∃ xs,H1 l=some (.lst xs))/\te σ H1 fun y H2=>match y with
  | .int i=>Ex3 fun (xs:List V) (k:Nat) (v:V)=>i=(k:Int)/\H2 l=some (.lst xs)/\xs.length<=100000/\xs[k]? = some v/\Q v (upd H2 l (.lst (xs.eraseIdx k)))
  | _=>False
 | _=>False:=rfl
end
end L2
namespace L2
open PySem PySem.Spec PyProof.Rows PySem.W
end L2
namespace L2
open PySem PySem.Spec PyProof.Rows
section
variable {prog:Program} {w:World} {A:Around} {s:Shared} {E:Value->Shared->Prop}
end
section
variable {X:Cx} {pins:List (Addr × Obj)} {σ:St} {H:Hp} {s:Shared}
end
theorem qq {α β:Type} {R:α -> β -> Prop} {l l':List α} (p:l'.Perm l):∀ {m:List β},Paired R l m->∃ m':List β,m'.Perm m/\Paired R l' m':=by
 induction p with
 | nil=>exact fun {m} h=>⟨m,.refl _,h⟩
 | cons x _ ih=>
  intro m h;cases h with
  | cons a r=>
   obtain ⟨m',q1,q2⟩:=ih r;exact ⟨_::m',q1.cons _,.cons a q2⟩
 | swap x y l=>
  intro m h;cases h with
  | cons a r=>
   cases r with
   | cons b r=>exact ⟨_,.swap _ _ _,.cons b (.cons a r)⟩
 | trans _ _ ih1 ih2=>
  intro m h;obtain ⟨m1,q1,q2⟩:=ih2 h;obtain ⟨m2,q3,q4⟩:=ih1 q2;exact ⟨m2,q3.trans q1,q4⟩
theorem dk {α β:Type} {R:α -> β -> Prop}:∀ {l:List α} {m:List β},Paired R l m->∀ b ∈ m,∃ a ∈ l,R a b
 | _,_,.nil,b,h=>absurd h List.not_mem_nil
 | _,_,.cons q r,b,h=>by
  rcases List.mem_cons.mp h with e | h
  ·rw [e]; exact ⟨_,List.mem_cons_self ..,q⟩
  ·obtain ⟨a,h1,h2⟩:=dk r b h;exact ⟨a,List.mem_cons_of_mem _ h1,h2⟩
theorem eJ {α β:Type} {R:α -> β -> Prop} {S:α -> α -> Prop} {S':β -> β -> Prop} (f:∀ a b c d,R a b->R c d->S a c->S' b d):∀ {l:List α} {m:List β},Paired R l m->l.Pairwise S->m.Pairwise S'
 | _,_,.nil,_=>.nil
 | _,_,.cons a r,h=>by
  obtain ⟨h1,h2⟩:=List.pairwise_cons.mp h;refine List.pairwise_cons.mpr ⟨fun d hd=>?_,eJ f r h2⟩;obtain ⟨c,hc,rc⟩:=dk r d hd;exact f _ _ _ _ a rc (h1 c hc)
theorem aF {key:V->Nat}:∀ {xs:List V} {vs:List Value},Vals xs vs->Paired (fun (p:Int × Value) x=>p.1=key x/\RelV x p.2) ((xs.map fun x=>(key x:Int)).zip vs) xs
 | _,_,.nil=>.nil
 | _,_,.cons a r=>.cons ⟨rfl,a⟩ (aF r)
section
variable {X:Cx}
end
section
variable {X:Cx}
end
noncomputable def tupEq (H:Hp) (zs:List V) (y:V):Bool:=match y with
 | .ref t=>match H t with
  | some (.tup ys)=>eqDs (ys.map D.f) (zs.map D.f)
  | _=>false
 | _=>false
noncomputable def tupEqU (H:Hp) (zs:List V) (u:Value):Bool:=match u with
 | .ref t=>tupEq H zs (.ref t)
 | _=>false
def FlatT (H:Hp) (y:V):Prop:=Ex2 fun t ys=>y=.ref t/\H t=some (.tup ys)/\ys.all flatV=true
theorem fR {K:Frag} {H:Hp}:∀ {ys:List V},ys.all flatV=true->Paired (Deep K H 0) ys (ys.map D.f)
 | [],_=>.nil
 | y::ys,h=>by
  rw [List.all_cons,Bool.and_eq_true] at h;exact .cons ⟨rfl,h.1⟩ (fR h.2)
theorem ke {H:Hp} {zs:List V}:∀ {xs:List V} {us:List Value},Vals xs us->(∀ y ∈ xs,FlatT H y)->us.any (tupEqU H zs)=xs.any (tupEq H zs)
 | _,_,.nil,_=>rfl
 | y::xs,u::us,.cons r t,f=>by
  obtain ⟨a,ys,rfl,_⟩:=f _ List.mem_cons_self;cases r;rw [List.any_cons,List.any_cons,ke t fun z hz=>f z (List.mem_cons_of_mem _ hz)];rfl
section
variable {X:Cx}
noncomputable def kInT (K:Frag):R2:=fun x y H Q=>match x,y with
 | .ref r,.ref p=>Ex2 fun zs xs=>SqL K H p xs/\H r=some (.tup zs)/\zs.all flatV=true/\(∀ y ∈ xs,FlatT H y)/\Q (.bl (xs.any (tupEq H zs))) H
 | _,_=>False
theorem yR (K:Frag) (hK:X.K=K) {k:Nat} (hr:Room k X.A):OpR X (compareOp .In) (kInT K):=by
 subst hK;intro pins s σ H x y v u Q I rx ry q;unfold kInT at q;split at q
 ·rename_i r p;obtain ⟨zs,xs,hq,hz,fz,fs,q⟩:=q;cases rx;cases ry;obtain ⟨its,rv,pl,_⟩:=I.list hq;refine SeqAt.in_listAt (tupEqU H zs) pl.isList (fun w hw=>?_) ⟨.bl _,H,I,rfl,?_⟩
  ·have hw:w ∈ its:=by simpa using hw
   obtain ⟨y,hy,ry⟩:=dk rv w hw;obtain ⟨t,ys,rfl,ht,fy⟩:=fs y hy;cases ry;have:=jF I 1 X.A.in1 (.ref t) (.ref r) (.t (ys.map D.f)) (.t (zs.map D.f)) (.ref t) (.ref r) (by have:=hr.un; show X.A.units+1+1 < _; lia) (.inr (.inr ⟨t,ys,_,rfl,rfl,SqT.of ht,fR fy⟩)) (.inr (.inr ⟨r,zs,_,rfl,rfl,SqT.of hz,fR fz⟩)) rfl rfl;have e:tupEqU H zs (.ref t)=eqD (.t (ys.map D.f)) (.t (zs.map D.f)):=by
    show tupEq H zs (.ref t)=_;unfold tupEq;simp only [ht];rw [eqD]
   rw [e];exact this
  ·rw [show its.toArray.any (tupEqU H zs)=its.any (tupEqU H zs) by simp,ke rv fs];exact q
 ·exact q.elim
theorem yH {K:Frag} {r p:Addr} {H:Hp} {Q:VK}:kInT K (.ref r) (.ref p) H Q=Ex2 fun zs xs=>SqL K H p xs/\H r=some (.tup zs)/\zs.all flatV=true/\(∀ y ∈ xs,FlatT H y)/\Q (.bl (xs.any (tupEq H zs))) H:=rfl
end
structure ClsT (K:Frag) (mg:Str->Option Value) (x:Str):Prop where
 m:mg x=some (.ref (xA K x))
 c:Cls K (xA K x)
def MethT (K:Frag) (x m qual:Str) (st:Stmt):Prop:=Ex2 fun f fd=>Meth K (xA K x) m f/\Fun K m qual st f fd
def MkT (K:Frag) (x qual:Str) (st:Stmt):Prop:=Ex2 fun f fd=>Mk K (xA K x) f/\Fun K "__init__" qual st f fd
def MCal (P:Program) (w:World) (K:Frag) (mg:Str->Option Value) (base:Heap) (k:Nat) (x m:Str) (ps:List Str) (sp:Sp):Prop:=
 Ex2 fun f fd=>FnOk P w K mg base CX0 k f fd ps sp/\Binds K fd ps []/\Meth K (xA K x) m f
def KCal (P:Program) (w:World) (K:Frag) (mg:Str->Option Value) (base:Heap) (k:Nat) (x:Str) (ps:List Str) (sp:Sp):Prop:=
 Ex2 fun f fd=>FnOk P w K mg base CX0 k f fd ps sp/\Binds K fd ps []/\Mk K (xA K x) f
theorem MethT.cal {P:Program} {w:World} {K:Frag} {mg:Str->Option Value} {base:Heap} {x m qual:Str} {st:Stmt} {N ps:List Str} {k:Nat} {sp:Sp} (F:MethT K x m qual st) (S:FnScope N ps (defScope st)) (len:∀ vs H Q E,sp vs H Q E->vs.length=ps.length)
  (hb:∀ (kV doc pm:Value) (an:Option Addr) (cdv ct:Value) (us:List Value),us.length=ps.length->bindArgs (fnOf m qual (defArgs st) (defBody st) (defScope st) .none kV doc pm an cdv ct) ⟨us,[]⟩=pure (ps.zip us))
  (hbody:∀ (f:Addr) (cdv:Value) (A:Around) (outer:List Env) (s:Shared) (H:Hp) (vs:List V) (Q:VK) (E:XK),Room k (A.deeper (envOfC qual (defScope st) s.heap.objs.size f cdv))->sp vs H Q E ->
   ∃ t,PSs (cxOf CX0 P w K mg base N qual (defScope st) f cdv A outer s H E).nox (defBody st) t/\t { nx:=fun _ H'=>Q .non H',rt:=Q } (start N vs) H):MCal P w K mg base (k+1) x m ps sp:=by
 obtain ⟨f,fd,M,F⟩:=F;exact ⟨f,fd,F.ok S len (hbody f),F.binds hb,M⟩
theorem MkT.cal {P:Program} {w:World} {K:Frag} {mg:Str->Option Value} {base:Heap} {x qual:Str} {st:Stmt} {N ps:List Str} {k:Nat} {sp:Sp} (F:MkT K x qual st) (S:FnScope N ps (defScope st)) (len:∀ vs H Q E,sp vs H Q E->vs.length=ps.length)
  (hb:∀ (kV doc pm:Value) (an:Option Addr) (cdv ct:Value) (us:List Value),us.length=ps.length->bindArgs (fnOf "__init__" qual (defArgs st) (defBody st) (defScope st) .none kV doc pm an cdv ct) ⟨us,[]⟩=pure (ps.zip us))
  (hbody:∀ (f:Addr) (cdv:Value) (A:Around) (outer:List Env) (s:Shared) (H:Hp) (vs:List V) (Q:VK) (E:XK),Room k (A.deeper (envOfC qual (defScope st) s.heap.objs.size f cdv))->sp vs H Q E ->
   ∃ t,PSs (cxOf CX0 P w K mg base N qual (defScope st) f cdv A outer s H E).nox (defBody st) t/\t { nx:=fun _ H'=>Q .non H',rt:=Q } (start N vs) H):KCal P w K mg base (k+1) x ps sp:=by
 obtain ⟨f,fd,M,F⟩:=F;exact ⟨f,fd,F.ok S len (hbody f),F.binds hb,M⟩
section
variable {X:Cx} {k:Nat} {x m:Str} {ps:List Str} {sp:Sp} {p pos apos:Pos} {e o:Expr} {es:List Expr} {ta:TE} {t:TA}
theorem b9 {pl:Sem Bool} (C:ClsT X.K X.mg x) (M:MCal X.prog X.w X.K X.mg X.base k x m ps sp) (hr:Room k X.A) (he:PE X o ta) (ha:PA X (e::es) t)
  (hst:starEach (e::es) X.env=(false,eval e X.env)::starEach es X.env:=by rfl) (hpl:(backTo pos (starEach es X.env)).any (·.1)=false:=by rfl)
  (ht:eval (.Call (.Attribute o m apos) (e::es) [] pos) X.env=(do
   let ov <- eval o X.env
   standAt apos.atName
   let (f,first) <- holding [ov] (getMethod ov m pl)
   callWith pos f first (backTo pos (starEach (e::es) X.env)) (backToKw pos (keywordEach [] X.env))):=by rfl):
  PE X (.Call (.Attribute o m apos) (e::es) [] pos) (tMeth (xA X.K x) m sp [] E0 ta t):=by
 obtain ⟨f,fd,F,b,M⟩:=M;exact wk (pl:=pl) he C.c M F hr b .nil pass0 ha hst hpl ht
theorem xj {C:Addr} {E:XK} {dvs:List V} {σ:St} {H:Hp} {Q:VK}:tMeth C m sp dvs E ta t σ H Q=ta σ H fun x H1=>Ex3 fun a dx fs=>x=.ref a/\H1 a=some (.ins C dx fs)/\fs.lookup m=none/\t σ H1 fun vs H2=>sp (x::(vs++dvs)) H2 Q E:=rfl
theorem wD {C:Addr} {E:XK} {dvs:List V} {σ:St} {H:Hp} {Q:VK}:tMake C sp dvs E t σ H Q=t σ H fun vs H1=>∀ x dx,H1 x=none->H1 dx=none->dx≠x->sp (.ref x::(vs++dvs)) (upd (upd H1 dx (.own x)) x (.ins C dx [])) (fun v H2=>v=.non/\Q (.ref x) H2) E:=rfl
theorem y6 {K:Frag} {f:Str} {σ:St} {H:Hp} {Q:VK}:tFld K ta f σ H Q=ta σ H fun x H1=>Ex5 fun a C dx fs v=>x=.ref a/\H1 a=some (.ins C dx fs)/\Cls K C/\NoAttr K C f/\fs.lookup f=some v/\Q v H1:=rfl
theorem yj {K:Frag} {tv:TE} {f:Str} {D:Ends} {σ:St} {H:Hp}:sFld K ta tv f D σ H=tv σ H fun y H1=>ta σ H1 fun x H2=>Ex4 fun a C dx fs=>x=.ref a/\H2 a=some (.ins C dx fs)/\Cls K C/\NoAttr K C f/\fs.length < 1000/\D.nx σ (upd H2 a (.ins C dx (putF f y fs))):=rfl
end
section
variable {X:Cx}
noncomputable def kMax2:List V->Hp->VK->Prop:=fun xs H Q=>match xs with
 | [.int a,.int b]=>Q (.int (if a < b then b else a)) H
 | _=>False
noncomputable def kMin2:List V->Hp->VK->Prop:=fun xs H Q=>match xs with
 | [.int a,.int b]=>Q (.int (if b < a then b else a)) H
 | _=>False
theorem mX (hc:X.calm=true):CallR X (.builtin "max") kMax2:=by
 intro pins s σ H xs us Q I r q;unfold kMax2 at q;split at q
 ·exact ua hc pins s σ H _ us Q I r ⟨_,_,rfl,q⟩
 ·exact q.elim
theorem rR (hc:X.calm=true):CallR X (.builtin "min") kMin2:=by
 intro pins s σ H xs us Q I r q;unfold kMin2 at q;split at q
 ·exact tD hc pins s σ H _ us Q I r ⟨_,_,rfl,q⟩
 ·exact q.elim
theorem wS {a b:Int} {H:Hp} {Q:VK}:kMax2 [.int a,.int b] H Q=Q (.int (if a < b then b else a)) H:=rfl
theorem wf {a b:Int} {H:Hp} {Q:VK}:kMin2 [.int a,.int b] H Q=Q (.int (if b < a then b else a)) H:=rfl
end
section
variable {X:Cx} {a b c:Expr} {ta tb tc:TE} {pos:Pos}
theorem ww {te:TE} {σ:St} {H:Hp} {Q:Bool->Hp->Prop}:tTest te σ H Q=te σ H fun z H3=>∃ k,z=.bl k/\Q k H3:=rfl
end
section
variable {K:Frag} {α:Type} {xs:List α} {item:α -> V} {h:α -> List V} {H:Hp} {D:Addr} {σc:St} {Q:VK}
end
end L2
namespace L2
open PySem
section
variable {K:Frag} {h:Heap} {mg:Str->Option Value} {x m qual:Str} {C f:Addr} {fd:FuncData} {st:Stmt}
theorem sX (X:K.In h) (G:h.Ns mainGlobals mg) (n:nsIn K mainGlobals x=some (some (.ref C))) (pg:PySem.W.plainGet K C Str.empty=true) (hd:PySem.W.hasDictIn K C=true) (po:PySem.W.plainOver K C=true)
  (sa:findIn K (.ref C) "__setattr__" = some (some (.builtin "object.__setattr__"))):ClsT K mg x:=⟨by rw [oI n]; exact mg_of X G n,by rw [oI n]; exact ⟨pg,hd,po,sa⟩⟩
theorem cf {a:Str} (n:nsIn K mainGlobals x=some (some (.ref C))) (e:findIn K (.ref C) a=some none):NoAttr K (xA K x) a:=by rw [oI n]; exact e
theorem cJ (n:nsIn K mainGlobals x=some (some (.ref C))) (a:findIn K (.ref C) m=some (some (.ref f))) (w:PySem.W.isFn K (.ref f)=true) (kp:keepIn K (.ref f)=true) (F:Fun K m qual st f fd):MethT K x m qual st:=
 ⟨f,fd,by rw [oI n]; exact ⟨a,w,kp⟩,F⟩
theorem xT (n:nsIn K mainGlobals x=some (some (.ref C))) (mk:PySem.W.makesIn K C=true) (kc:keepIn K (.ref C)=true) (a:findIn K (.ref C) "__init__" = some (some (.ref f))) (w:PySem.W.isFn K (.ref f)=true) (F:Fun K "__init__" qual st f fd):MkT K x qual st:=
 ⟨f,fd,by rw [oI n]; exact ⟨mk,a,w,kc⟩,F⟩
end
end L2
namespace L2
open PySem PySem.Spec PyProof.Rows
section
variable {X:Cx} {o e f:Expr} {to te tf:TE} {apos cpos:Pos}
end
section
variable {X:Cx} {e:Expr} {te:TE} {lo hi:Option Expr} {st:Expr} {tl th ts:TO} {p2 pos:Pos}
end
def Rise (xs:Array Nat):Prop:=∀ a b,a < b->∀ (hb:b < xs.size) (ha:a < xs.size),xs[a] < xs[b]
theorem nJ {xs:Array Nat} {j:Nat} (hr:Rise xs):∀ (fuel lo hi:Nat),hi - lo<=fuel->lo<=hi->hi<=xs.size->(∀ i (h:i < xs.size),i < lo->xs[i] < j)->(∀ i (h:i < xs.size),hi<=i->j<=xs[i]) ->
  SetTable.below.go xs j fuel lo hi<=xs.size/\(∀ i (h:i < xs.size),i < SetTable.below.go xs j fuel lo hi->xs[i] < j)/\(∀ i (h:i < xs.size),SetTable.below.go xs j fuel lo hi<=i->j<=xs[i])
 | 0,lo,hi,hf,h1,h2,h3,h4=>by
  have:lo=hi:=by lia
  subst this;unfold SetTable.below.go;exact ⟨h2,h3,h4⟩
 | fuel+1,lo,hi,hf,h1,h2,h3,h4=>by
  unfold SetTable.below.go;by_cases hlt:lo < hi
  ·rw [if_pos hlt];have hm:(lo+hi) / 2 < xs.size:=by lia
   have hg:xs.getD ((lo+hi) / 2) j=xs[(lo+hi) / 2]:=by simp [hm]
   simp only [hg];by_cases hx:xs[(lo+hi) / 2] < j
   ·rw [if_pos hx];refine nJ hr fuel _ hi (by lia) (by lia) h2 (fun i h hi'=>?_) h4;rcases Nat.lt_or_ge i ((lo+hi) / 2) with z | z
    ·exact Nat.lt_trans (hr i _ z hm h) hx
    ·obtain rfl:i=(lo+hi) / 2:=by lia
     exact hx
   ·rw [if_neg hx];refine nJ hr fuel lo _ (by lia) (by lia) (by lia) h3 (fun i h hi'=>?_);rcases Nat.lt_or_ge ((lo+hi) / 2) i with z | z
    ·have:=hr _ i z h hm
     lia
    ·obtain rfl:i=(lo+hi) / 2:=by lia
     lia
  ·rw [if_neg hlt];obtain rfl:lo=hi:=by lia
   exact ⟨h2,h3,h4⟩
theorem uw {xs:Array Nat} (hr:Rise xs) (j:Nat):SetTable.below xs j<=xs.size/\(∀ i (h:i < xs.size),i < SetTable.below xs j->xs[i] < j)/\(∀ i (h:i < xs.size),SetTable.below xs j<=i->j<=xs[i]):=by
 unfold SetTable.below;exact nJ hr xs.size 0 xs.size (by lia) (by lia) (Nat.le_refl _) (fun i _ h=>absurd h (by lia)) (fun i h z=>absurd h (by lia))
theorem oK {xs:Array Nat}:Rise xs ↔ xs.toList.Pairwise (· < ·):=by
 rw [List.pairwise_iff_getElem];constructor
 ·intro h a b ha hb hab;have:=h a b hab (by simpa using hb) (by simpa using ha);simpa using this
 ·intro h a b hab hb ha;have:=h a b (by simpa using ha) (by simpa using hb) hab;simpa using this
theorem qF {xs:Array Nat} (hr:Rise xs) {j:Nat} (hj:¬ xs[SetTable.below xs j]? = some j):Rise (SetTable.insertAt xs (SetTable.below xs j) j):=by
 obtain ⟨b0,b1,b2⟩:=uw hr j;generalize SetTable.below xs j=p at *;have hlt:∀ i (h:i < xs.size),p<=i->j < xs[i]:=fun i h z=>by
  have h0:=b2 i h z;rcases Nat.lt_or_ge j xs[i] with q | q
  ·exact q
  ·exfalso;have e:xs[i]=j:=by lia
   rcases Nat.lt_or_ge p i with z2 | z2
   ·have hp:p < xs.size:=by lia
    have:=hr p i z2 h hp;have:=b2 p hp (Nat.le_refl _)
    lia
   ·obtain rfl:i=p:=by lia
    exact hj (by rw [Array.getElem?_eq_getElem h,e])
 have hl:=oK.mp hr;rw [oK,SetTable.toList_insertAt];have A:∀ a ∈ xs.toList.take p,a < j:=fun a ha=>by
  obtain ⟨i,hi,rfl⟩:=List.mem_take_iff_getElem.mp ha;have:=b1 i (by simp at hi; lia) (by lia);simpa using this
 have B:∀ b ∈ xs.toList.drop p,j < b:=fun b hb=>by
  obtain ⟨i,hi,rfl⟩:=List.mem_drop_iff_getElem.mp hb;have:=hlt (p+i) (by simp at hi; lia) (by lia);simpa using this
 have hl':=hl;rw [<- List.take_append_drop p xs.toList,List.pairwise_append] at hl';refine List.pairwise_append.mpr ⟨hl'.1,List.pairwise_cons.mpr ⟨B,hl'.2.1⟩,fun a ha b hb=>?_⟩;rcases List.mem_cons.mp hb with rfl | hb
 ·exact A a ha
 ·exact Nat.lt_trans (A a ha) (B b hb)
def Laid0 (t:SetTable):Prop:=Rise t.place/\t.dummies=#[]
theorem sY (j:Nat):SetTable.has #[] j=false:=by
 unfold SetTable.has;simp
theorem nB {t:SetTable} (h0:t.dummies=#[]) (f:Nat->Int) (h:Int):∀ (n:Nat) (p:SetTable.Probe) (j:Nat) (d:Option Nat),p.dummy=none->SetTable.probe.go t f h n p=some (.empty j d)->d=none/\¬ t.place[SetTable.below t.place j]? = some j
 | 0,p,j,d,_,e=>by simp [SetTable.probe.go] at e
 | n+1,p,j,d,hp,e=>by
  unfold SetTable.probe.go at e;have hs:t.slot p.j=if t.place[SetTable.below t.place p.j]? == some p.j then .live (SetTable.below t.place p.j) else .empty:=by
   unfold SetTable.slot;rw [h0,sY];rfl
  rw [hs] at e;by_cases z:t.place[SetTable.below t.place p.j]? = some p.j
  ·rw [if_pos (by rw [z]; exact beq_self_eq_true _)] at e;dsimp only at e;split at e
   ·cases e
   ·refine nB h0 f h n _ j d ?_ e;unfold SetTable.advance;split
    ·exact hp
    ·exact hp
  ·rw [if_neg (by simpa using z)] at e;dsimp only at e;injection e with e
   injection e with e1 e2
   subst e1 e2;exact ⟨hp,z⟩
theorem rT (n:Nat):Rise (Array.range n):=fun a b h hb ha=>by simpa using h
theorem d7 (t:SetTable) (n:Nat):Laid0 (t.standIn n):=⟨rT n,rfl⟩
theorem vC {t:SetTable} (h:Laid0 t) (n:Nat):Laid0 (t.orStandIn n):=by
 unfold SetTable.orStandIn;split
 ·exact h
 ·exact d7 t n
theorem tJ {t:SetTable} (L:Laid0 t) (es:Array (Int × Value)) (h:Int) (x:Value):Laid0 (layNew t es h x).2.1:=by
 unfold layNew;split
 ·rename_i slot wd e;refine vC ?_ _;unfold SetTable.freeSlot at e;split at e
  ·rename_i j d e2;obtain ⟨rfl,hj⟩:=nB L.2 _ h _ _ j d rfl e2;cases e;refine ⟨qF L.1 hj,?_⟩;show (if SetTable.has t.dummies _ then _ else t.dummies)=#[];rw [L.2,sY];rfl
  ·cases e
 ·exact d7 t _
theorem rC {mask finger moves:Nat} {led plain:Bool} {hs:Array Int} {r:SetTable × Array Nat} (h:SetTable.laid mask finger moves led plain hs=some r):Laid0 r.1:=by
 unfold SetTable.laid at h;cases q:SetTable.layClean mask hs with
 | none=>rw [q] at h; cases h
 | some ow=>
  rw [q] at h;cases h;refine ⟨?_,rfl⟩;have:(((List.range (mask+1)).filterMap fun j=>(ow.getD j none).map (j,·)).map (·.1)).Pairwise (· < ·):=by
   rw [List.pairwise_map,List.pairwise_filterMap];refine List.pairwise_lt_range.imp fun {a b} hab x hx y hy=>?_
   obtain ⟨_,_,rfl⟩:=Option.map_eq_some_iff.mp hx;obtain ⟨_,_,rfl⟩:=Option.map_eq_some_iff.mp hy;exact hab
  intro a b hab hb ha;have:=List.pairwise_iff_getElem.mp this a b (by simpa using ha) (by simpa using hb) hab;simpa using this
theorem lY {t:SetTable} (es:Array (Int × Value)) (n:Nat):Laid0 (relayAll t es n).2.1:=by
 unfold relayAll;split
 ·rename_i t' order e;have q:=rC e;dsimp only;split
  ·exact q
  ·exact d7 t _
 ·exact d7 t _
noncomputable def intOf:Value->Int
 | .int x _=>x
 | _=>0
def IsInts (w:World) (h:Heap) (a:Addr) (led:Bool) (ss:List Int):Prop:=
 Ex3 fun es ep t=>h.get? a=some { cls:=.type "set",dict:=none,data:=.set es ep t,slots:=#[] }/\(∀ e ∈ es.toList,Ex2 fun x u=>e=(hashInt x,Value.int x u)) /\
  (es.toList.map fun e=>intOf e.2).Perm ss/\t.fits es.size=true/\t.led=led/\Laid0 t
section
variable {prog:Program} {w:World} {A:Around} {E:Value->Shared->Prop} {s:Shared}
theorem j9 (x:Int) (u:Tok):Value.isInt x (Value.int x u)=true:=by simp [Value.isInt]
theorem sf {es:Array (Int × Value)} (h:∀ e ∈ es.toList,Ex2 fun x u=>e=(hashInt x,Value.int x u)):ElemsOf (PySem.intKind prog w) es.toList:=fun e he=>by
 obtain ⟨x,u,rfl⟩:=h e he;exact ⟨⟨x,j9 x u,rfl⟩,rfl⟩
theorem uo {es:List (Int × Value)} (h:∀ e ∈ es,Ex2 fun x u=>e=(hashInt x,Value.int x u)) (x:Int):
  (es.findIdx? fun e=>(PySem.intKind prog w).is x e.2)=none ↔ x ∉ es.map fun e=>intOf e.2:=by
 rw [List.findIdx?_eq_none_iff];constructor
 ·intro q hm;obtain ⟨e,he,rfl⟩:=List.mem_map.mp hm;obtain ⟨y,u,rfl⟩:=h e he;have:=q _ he;rw [show (PySem.intKind prog w).is (intOf (hashInt y,Value.int y u).2) (hashInt y,Value.int y u).2=true from j9 y u] at this;cases this
 ·intro q e he;obtain ⟨y,u,rfl⟩:=h e he;cases hb:(PySem.intKind prog w).is x (Value.int y u) with
  | false=>rfl
  | true=>
   have e2:y=x:=by
    obtain ⟨t,q⟩:=Value.isInt_shape (v:=Value.int y u) hb;injection q
   exact absurd (List.mem_map.mpr ⟨_,he,by rw [<- e2]; rfl⟩) q
noncomputable def addI (ss:List Int) (x:Int):List Int:=if x ∈ ss then ss else ss++[x]
theorem add_int {a:Addr} {led:Bool} {ss:List Int} {x:Int} {u:Tok} {Q:Bool->Shared->Prop} (hS:IsInts w s.heap a led ss) (room:ss.length+1 < scanBound)
  (h:∀ h' b,Heap.SameBut a s.heap h'->IsInts w h' a led (addI ss x)->Q b { s with heap:=h' }):
  wpAny (model prog w) A (setAddHashed a (.int x u) (hashInt x)) Q E s:=by
 obtain ⟨es,ep,t,ho,hel,hp,hf,hl,hL⟩:=hS;have hE:=sf (prog:=prog) (w:=w) hel;have hk:(PySem.intKind prog w).is x (Value.int x u)=true:=j9 x u;have hsz:es.size=ss.length:=by have:=hp.length_eq; simpa using this
 have hb:es.size < scanBound:=by lia
 unfold setAddHashed setAddHashedIn;refine wpAny_holding (wpAny_bind (wpAny_setState_of ho rfl hf ?_));dsimp only;rw [byScan_of (knd:=PySem.intKind prog w) rfl hb hE,if_pos rfl];unfold setAddByScan;refine wpAny_bind (wpAny_bind (wpAny_rule (wpAny_bind (wpAny_setScan_of (knd:=PySem.intKind prog w) hk ho rfl hf hE ?_))));have hfind:=uo (prog:=prog) (w:=w) hel x;cases hr:es.toList.findIdx? (fun e=>(PySem.intKind prog w).is x e.2) with
 | some j=>
  have hin:x ∈ ss:=by
   rw [<- hp.mem_iff];apply Classical.byContradiction;intro z;rw [hfind.mpr z] at hr;cases hr
  refine wpAny_pure (wpAny_pure ?_);have:=h s.heap false (Heap.SameBut.refl a s.heap) ⟨es,ep,t,ho,hel,by unfold addI; rw [if_pos hin]; exact hp,hf,hl,hL⟩;exact this
 | none=>
  have hin:x ∉ ss:=by
   rw [<- hp.mem_iff];exact hfind.mp hr
  dsimp only;have p1:=layNew_perm t es (hashInt x) (Value.int x u);have p2:=layNew_fits t es (hashInt x) (Value.int x u);have p3:=rN t es (hashInt x) (Value.int x u);have p4:=tJ hL es (hashInt x) (Value.int x u);generalize layNew t es (hashInt x) (Value.int x u)=L at p1 p2 p3 p4 ⊢;obtain ⟨es1,t1,wd,gave⟩:=L;dsimp only at p1 p2 p3 p4 ⊢;rw [Array.toList_push] at p1;have hel1:∀ e ∈ es1.toList,Ex2 fun x u=>e=(hashInt x,Value.int x u):=fun e he=>by
   rcases List.mem_append.mp (p1.mem_iff.mp he) with q | q
   ·exact hel e q
   ·rw [List.mem_singleton.mp q]; exact ⟨x,u,rfl⟩
  have hp1:(es1.toList.map fun e=>intOf e.2).Perm (addI ss x):=by
   refine (p1.map _).trans ?_;unfold addI;rw [if_neg hin,List.map_append];exact hp.append_right _
  have hz1:es1.size=ss.length+1:=by
   have:=p1.length_eq;simp only [Array.length_toList,List.length_append,List.length_singleton] at this
   lia
  have gw:∀ (b:Bool) (s₁:Shared) (Q':Unit->Shared->Prop),Q' () s₁ -> wpAny (model prog w) A (match b with | true=>rule "set.scan.the-table-gave-way" | false=>pure ()) Q' E s₁:=fun b s₁ Q' q=>by
   cases b
   ·exact wpAny_pure q
   ·exact wpAny_rule q
  refine wpAny_bind (gw _ _ _ ?_);split
  ·refine wpAny_bind ?_;rw [hashByValue_scannable 8 (x:=Value.int x u) rfl];refine wpAny_pure ?_;have pk:plainKind (Value.int x u)=true:=rfl;simp only [pk,↓reduceIte];obtain ⟨t2,et,f2,l2,L2'⟩:∃ t2:SetTable,t2=t1/\t2.fits es1.size=true/\t2.led=led/\Laid0 t2:=⟨_,rfl,p2,p3.1.trans hl,p4⟩;rw [<- et];refine wpAny_bind (wpAny_storeSet_of ho rfl ?_ (fits_of_scanBound (by lia)));have o1:=mJ (es':=es1) (t':=t2) ho;have sb1:=Heap.SameBut.update s.heap a (Obj.putSet es1 t2);refine wpAny_ite_split (fun _=>?_) fun _=>?_
   ·have q1:=relayAll_perm t2 es1 (SetTable.grown es1.size);have q2:=relayAll_fits t2 es1 (SetTable.grown es1.size);have q3:=oU t2 es1 (SetTable.grown es1.size);have q4:=lY (t:=t2) es1 (SetTable.grown es1.size);generalize relayAll t2 es1 (SetTable.grown es1.size)=R at q1 q2 q3 q4 ⊢;obtain ⟨es2,t3,g2⟩:=R;dsimp only at q1 q2 q3 q4 ⊢;have z2:es2.size=es1.size:=by have:=q1.length_eq; simpa using this
    refine wpAny_bind (gw _ _ _ ?_);refine wpAny_bind (wpAny_storeSet_of o1 rfl ?_ (fits_of_scanBound (by lia)));have o2:=mJ (s:={ s with heap:=s.heap.update a (Obj.putSet es1 t2) }) (es':=es2) (t':=t3) o1;exact wpAny_pure (wpAny_pure (h _ _ (sb1.trans (Heap.SameBut.update _ a _)) ⟨es2,_,t3,o2,fun e he=>hel1 e (q1.mem_iff.mp he),(q1.map _).trans hp1,q2,q3.1.trans l2,q4⟩))
   ·exact wpAny_pure (wpAny_pure (h _ _ sb1 ⟨es1,_,t2,o1,hel1,hp1,f2,l2,L2'⟩))
  ·rename_i np;refine wpAny_bind (wpAny_pure ?_);simp only [↓reduceIte];obtain ⟨t2,et,f2,l2,L2'⟩:∃ t2:SetTable,t2=t1/\t2.fits es1.size=true/\t2.led=led/\Laid0 t2:=⟨_,rfl,p2,p3.1.trans hl,p4⟩;rw [<- et];refine wpAny_bind (wpAny_storeSet_of ho rfl ?_ (fits_of_scanBound (by lia)));have o1:=mJ (es':=es1) (t':=t2) ho;have sb1:=Heap.SameBut.update s.heap a (Obj.putSet es1 t2);refine wpAny_ite_split (fun _=>?_) fun _=>?_
   ·have q1:=relayAll_perm t2 es1 (SetTable.grown es1.size);have q2:=relayAll_fits t2 es1 (SetTable.grown es1.size);have q3:=oU t2 es1 (SetTable.grown es1.size);have q4:=lY (t:=t2) es1 (SetTable.grown es1.size);generalize relayAll t2 es1 (SetTable.grown es1.size)=R at q1 q2 q3 q4 ⊢;obtain ⟨es2,t3,g2⟩:=R;dsimp only at q1 q2 q3 q4 ⊢;have z2:es2.size=es1.size:=by have:=q1.length_eq; simpa using this
    refine wpAny_bind (gw _ _ _ ?_);refine wpAny_bind (wpAny_storeSet_of o1 rfl ?_ (fits_of_scanBound (by lia)));have o2:=mJ (s:={ s with heap:=s.heap.update a (Obj.putSet es1 t2) }) (es':=es2) (t':=t3) o1;exact wpAny_pure (wpAny_pure (h _ _ (sb1.trans (Heap.SameBut.update _ a _)) ⟨es2,_,t3,o2,fun e he=>hel1 e (q1.mem_iff.mp he),(q1.map _).trans hp1,q2,q3.1.trans l2,q4⟩))
   ·exact wpAny_pure (wpAny_pure (h _ _ sb1 ⟨es1,_,t2,o1,hel1,hp1,f2,l2,L2'⟩))
end
section
variable {prog:Program} {w:World} {A:Around} {R:Result->Shared->Prop} {I:Addr} {fp wr:List Addr} {G:Array GenState->Array GenState->Prop} {n:Nat} {P:Nat->Value->Prop} {St:Nat->Shared->Prop}
end
section
variable {prog:Program} {w:World} {A:Around} {E:Value->Shared->Prop} {s:Shared}
section
variable {it a:Addr} {es:Array (Int × Value)} {n ep i:Nat} {t:SetTable}
end
end
section
variable {prog:Program} {w:World} {A:Around} {E:Value->Shared->Prop} {s:Shared}
end
section
variable {X:Cx}
end
section
variable {prog:Program} {w:World} {A:Around} {E:Value->Shared->Prop} {s:Shared}
end
section
variable {X:Cx} {pins:List (Addr × Obj)} {σ:St} {H:Hp} {s:Shared} {A:Around}
end
section
variable {prog:Program} {w:World} {A:Around} {E:Value->Shared->Prop} {s:Shared}
end
section
variable {X:Cx}
end
section
variable {K:Frag} {J:It} {g:TG} {tc:TT} {te:TE} {σc:St} {D:Addr} {Q:VK} {H:Hp}
theorem lP {α:Type} (xs:List α) (R:α -> V->Hp->Prop) (hfree:H D=none) (hn:xs.length<=100000) (hgo:∀ i H1,i < xs.length->Same H H1->J.go i H1) (hst:∀ H1,Same H H1->J.stop xs.length H1)
  (hy:∀ i H1 v H2,i < xs.length->J.yld i H1 v H2->Same H1 H2)
  (mono:∀ x v H1 H2 acc,H1 D=some (.lst acc)->(∀ b o,b≠D->H1 b=some o->H2 b=some o)->R x v H1->R x v H2)
  (hs:∀ i x v H1 H2 (out:VK) (non:Hp->Prop),xs[i]? = some x->Same H H1->(∀ b,H1 b=none->b≠D)->J.yld i H1 v H2->(∀ v H6,Same H2 H6->R x v H6->out v H6) ->
   g v σc H2 fun σ4 H4=>tc σ4 H4 fun b H5=>if b=true then te σ4 H5 out else non H5)
  (hq:∀ H' vs,Same H H'->H' D=some (.lst vs)->Paired (fun x v=>R x v H') xs vs->Q (.ref D) H'):compW J g tc te σc D Q H:=by
 refine ⟨fun i m acc H2=>m=xs.length - i/\i<=xs.length/\Paired (fun x v=>R x v H2) (xs.take i) acc/\Same H H2/\H2 D=some (.lst acc),⟨xs.length,by simp,Nat.zero_le _,.nil,af hfree _,ab⟩,?_⟩;rintro i m acc H2 ⟨rfl,hi,pr,sm,hD⟩;have len:acc.length<=i:=by
  have a:=pr.length;rw [List.length_take] at a
  lia
 by_cases hlt:i < xs.length
 ·refine .inr ⟨hgo i H2 hlt sm,fun x H3 y=>?_⟩;have s3:=hy i H2 x H3 hlt y;have hD3:=s3 _ _ hD;refine hs i xs[i] x _ _ _ _ (List.getElem?_eq_getElem hlt) sm (fun b hb z=>by rw [z,hD] at hb; cases hb) y fun v H6 s6 r=>?_
  refine ⟨s6 _ _ hD3,Nat.lt_of_le_of_lt len (sizeBig (by lia)),xs.length - (i+1),by lia,rfl,hlt,?_,aG (sm.trans (s3.trans s6)) hfree,ab⟩;rw [List.take_add_one,List.getElem?_eq_getElem hlt];have lift:∀ {l:List α} {vs:List V} {z:α} {u:V} {F G:α -> V->Prop},(∀ a b,F a b->G a b)->Paired F l vs->G z u->Paired G (l++[z]) (vs++[u]):=by
   intro l vs z u F G f pp r
   induction pp with
   | nil=>exact .cons r .nil
   | cons r' _ ih=>exact .cons (f _ _ r') ih
  exact lift (fun _ _ r'=>mono _ _ H2 _ acc hD (fun b o nb q=>by rw [au nb]; exact s6 _ _ (s3 _ _ q)) r') pr (mono _ _ H6 _ acc (s6 _ _ hD3) (fun b o nb q=>by rw [au nb]; exact q) r)
 ·have hi':i=xs.length:=by lia
  subst hi';rw [List.take_length] at pr;exact .inl ⟨hst H2 sm,hq H2 acc sm hD pr⟩
end
section
variable {X:Cx} {o e:Expr} {to te:TE} {apos cpos:Pos}
noncomputable def cExtend (to te:TE):TE:=fun σ H Q=>to σ H fun x H1=>match x with
 | .ref l=>(∃ xs,H1 l=some (.lst xs))/\te σ H1 fun y H2=>match y with
  | .ref b=>Ex2 fun xs zs=>H2 l=some (.lst xs)/\H2 b=some (.lst zs)/\xs.length+zs.length<=sizeLine/\Q .non (upd H2 l (.lst (xs++zs)))
  | _=>False
 | _=>False
theorem lJ (ho:PE X o to) (he:PE X e te) (hbase:attributeBase o "extend" X.env (eval o X.env)=eval o X.env:=by rfl)
  (hfew:((backTo cpos (starEach [e] X.env)).all (fun x=>!x.1) && (backToKw cpos (keywordEach [] X.env)).all (fun x=>x.1.isSome) && decide ([e].length+([]:List Keyword).length+(if ([]:List Keyword).isEmpty then 0 else 1) < 30))=true:=by rfl)
  (hline:(apos.endLine == cpos.line)=true:=by rfl) (hs:starEach [e] X.env=(false,eval e X.env)::starEach [] X.env:=by rfl) (hplain:(backTo cpos (starEach [] X.env)).any (·.1)=false:=by rfl):
  PE X (.Call (.Attribute o "extend" apos) [e] [] cpos) (cExtend to te):=
 (sT PySem.F.plainAttrs_list PySem.F.slot_list_extend PySem.F.type_list_extend tM ho.mono (aa he.mono ae hs) hbase hfew hline hs hplain).imp fun σ H Q q=>⟨_,q,fun x H1 z=>by
  split at z
  ·rename_i l;obtain ⟨⟨xs,h⟩,z⟩:=z;refine ⟨.inl ⟨rfl,_,SqL.of h⟩,_,z,fun y H2 z2=>?_⟩;split at z2
   ·obtain ⟨xs2,zs,h2,h3,h4,z3⟩:=z2;exact ⟨l,_,xs2,zs,rfl,rfl,h2,h3,h4,z3⟩
   ·exact z2.elim
  ·exact z.elim⟩
theorem tL {σ:St} {H:Hp} {Q:VK}:cExtend to te σ H Q=to σ H fun x H1=>match x with
 | .ref l=>(∃ xs,H1 l=some (.lst xs))/\te σ H1 fun y H2=>match y with
  | .ref b=>Ex2 fun xs zs=>H2 l=some (.lst xs)/\H2 b=some (.lst zs)/\xs.length+zs.length<=sizeLine/\Q .non (upd H2 l (.lst (xs++zs)))
  | _=>False
 | _=>False:=rfl
noncomputable def strOf:Value->Option Str
 | .str x _=>some x
 | _=>none
theorem vd {v:Value} {y:Str} (h:strOf v=some y):∃ t,v=.str y t:=by
 unfold strOf at h;split at h
 ·cases h; exact ⟨_,rfl⟩
 ·cases h
theorem oV:∀ {vs:List Value} {ys:List Str},vs.map strOf=ys.map some->Vals (ys.map V.str) vs
 | [],[],_=>.nil
 | v::vs,y::ys,h=>by
  rw [List.map_cons,List.map_cons,List.cons.injEq] at h;obtain ⟨t,rfl⟩:=vd h.1;exact .cons ⟨t,rfl⟩ (oV h.2)
 | [],_::_,h=>by cases h
 | _::_,[],h=>by cases h
noncomputable def txtsLook (K:Frag) (ys:List Str) (a:Addr):Bool:=match K.lookup a with
 | some o=>o.cls == .type "tuple" && (match o.data with | .seq its _=>decide (its.toList.map strOf=ys.map some) && decide (ys.length<=100) | _=>false)
 | none=>false
theorem xI {K:Frag} {ys:List Str} {a:Addr} (h:txtsLook K ys a=true) (H:Hp):SqT K H a (ys.map V.str):=by
 unfold txtsLook at h;split at h
 ·rename_i o ho;simp only [Bool.and_eq_true,beq_iff_eq] at h;obtain ⟨h1,h2⟩:=h;split at h2
  ·rename_i its n hd;simp only [Bool.and_eq_true,decide_eq_true_eq] at h2;have hv:=oV h2.1;refine .inr ⟨o,its,n,ho,h1,hd,?_,hv⟩;have:=hv.length;rw [List.length_map] at this;rw [<- Array.length_toList,<- this];exact Nat.le_trans h2.2 (by decide)
  ·cases h2
 ·cases h
def TupK (K:Frag) (mg:Str->Option Value) (x:Str) (ys:List Str):Prop:=∃ a,mg x=some (.ref a)/\txtsLook K ys a=true
noncomputable def cTupG (K:Frag) (ys:List Str):TE:=fun _ H Q=>∀ a,SqT K H a (ys.map V.str)->Q (.ref a) H
theorem xE {K:Frag} {ys:List Str} {x:Str} {p:Pos} (T:TupK K X.mg x ys) (hg:Gl X x) (hd:(x == ("__debug__" : Str))=false:=by decide):PE X (.Name x p) (cTupG K ys):=by
 intro pins s σ H Q I h;obtain ⟨a,hm,ht⟩:=T;exact pZ I hg hm ⟨.ref a,H,I,rfl,h a (xI ht H)⟩ hd
theorem xy {K:Frag} {ys:List Str} {σ:St} {H:Hp} {Q:VK}:cTupG K ys σ H Q=∀ a,SqT K H a (ys.map V.str)->Q (.ref a) H:=rfl
end
end L2
namespace L2
open PySem PyProof.Rows
section
variable {α:Type} {le:α -> α -> Prop}
def Srt (le:α -> α -> Prop) (l:List α):Prop:=l.Pairwise le
structure MInv (le:α -> α -> Prop) (A B out:List α) (ia ib:Nat):Prop where
 ha:ia<=A.length
 hb:ib<=B.length
 srt:Srt le out
 low:∀ x ∈ out,(∀ y ∈ A.drop ia,le x y)/\∀ y ∈ B.drop ib,le x y
 perm:(out++(A.drop ia++B.drop ib)).Perm (A++B)
end
section
variable {α:Type} {le:α -> α -> Prop}
structure HInv (le:α -> α -> Prop) (A B out:List α) (na nb:Nat):Prop where
 ha:na<=A.length
 hb:nb<=B.length
 srt:Srt le out.reverse
 low:∀ x ∈ out,(∀ y ∈ A.take na,le y x)/\∀ y ∈ B.take nb,le y x
 perm:(A.take na++B.take nb++out).Perm (A++B)
end
section
variable {prog:Program} {w:World} {A:Around} {E:Value->Shared->Prop} {s:Shared}
def CmpBy (prog:Program) (w:World) (A:Around) (E:Value->Shared->Prop) (s:Shared) (kd:SortKind) (S:Keyed->Prop) (b:Keyed->Keyed->Bool):Prop:=
 ∀ (x y:Keyed) (st:SortSt) (Q:Option Bool->SortSt->Prop),S x->S y->kindOf st=kd->Q (some (b x y)) st->wpS (model prog w) A E s (lt' x y) Q st
abbrev At2 (st:SortSt) (P:Nat->Nat->Prop) (c:Option (Option Nat) × Nat × Nat) (st':SortSt):Prop:=st'=st/\Ex2 fun l o=>c=(none,l,o)/\P l o
@[elab_as_elim] theorem At2.el {st:SortSt} {P:Nat->Nat->Prop} {motive:Option (Option Nat) × Nat × Nat->SortSt->Prop} {c:Option (Option Nat) × Nat × Nat} {st':SortSt} (h:At2 st P c st') (k:∀ l o,P l o->motive (none,l,o) st):motive c st':=by
 obtain ⟨rfl,l,o,rfl,h⟩:=h;exact k l o h
end
structure LtOk (lt:Keyed->Keyed->Bool):Prop where
 rf:∀ x,lt x x=false
 tr:∀ x y z,lt y x=false->lt z y=false->lt z x=false
 as:∀ x y,lt x y=true->lt y x=false
noncomputable abbrev leB (lt:Keyed->Keyed->Bool):Keyed->Keyed->Prop:=fun x y=>lt y x=false
section
variable {prog:Program} {w:World} {A:Around} {E:Value->Shared->Prop} {s:Shared}
theorem sE {arr:Array Keyed} {i:Nat} {x:Keyed} {st:SortSt} {Q:Keyed->SortSt->Prop} (h:arr[i]? = some x) (q:Q x st):wpS (model prog w) A E s (elem' arr i) Q st:=by
 rw [elem'_eq,h];exact wpS_pure q
theorem x6 {arr:Array Keyed} {i:Nat} (h:i < arr.size):∃ x,arr[i]? = some x/\arr.toList[i]? = some x/\x ∈ arr.toList:=
 ⟨arr[i],getElem?_pos arr i h,by rw [Array.getElem?_toList]; exact getElem?_pos arr i h,by simp⟩
abbrev Lo0 (lt:Keyed->Keyed->Bool) (a b:Array Keyed) (n:Nat) (c:Option (Array Keyed) × Array Keyed × Nat × Nat × Nat):Prop:=Ex4 fun out ia ib g=>c=(none,out,ia,ib,g)/\MInv (leB lt) a.toList b.toList out.toList ia ib/\ia+1 < a.size/\ib < b.size/\n < ia+ib
@[elab_as_elim] theorem Lo0.el {lt:Keyed->Keyed->Bool} {a b:Array Keyed} {n:Nat} {motive:Option (Array Keyed) × Array Keyed × Nat × Nat × Nat->Prop} {c:Option (Array Keyed) × Array Keyed × Nat × Nat × Nat} (h:Lo0 lt a b n c) (k:∀ out ia ib g,MInv (leB lt) a.toList b.toList out.toList ia ib->ia+1 < a.size->ib < b.size->n < ia+ib->motive (none,out,ia,ib,g)):motive c:=by
 obtain ⟨out,ia,ib,g,rfl,h1,h2,h3,h4⟩:=h;exact k _ _ _ _ h1 h2 h3 h4
abbrev Lo1 (lt:Keyed->Keyed->Bool) (a b:Array Keyed) (n:Nat) (c:Option (Array Keyed) × Array Keyed × Nat × Nat × Nat × Nat):Prop:=Ex5 fun out ia ib ac bc=>c=(none,out,ia,ib,ac,bc)/\MInv (leB lt) a.toList b.toList out.toList ia ib/\ia+1 < a.size/\ib < b.size/\n<=ia+ib
@[elab_as_elim] theorem Lo1.el {lt:Keyed->Keyed->Bool} {a b:Array Keyed} {n:Nat} {motive:Option (Array Keyed) × Array Keyed × Nat × Nat × Nat × Nat->Prop} {c:Option (Array Keyed) × Array Keyed × Nat × Nat × Nat × Nat} (h:Lo1 lt a b n c) (k:∀ out ia ib ac bc,MInv (leB lt) a.toList b.toList out.toList ia ib->ia+1 < a.size->ib < b.size->n<=ia+ib->motive (none,out,ia,ib,ac,bc)):motive c:=by
 obtain ⟨out,ia,ib,ac,bc,rfl,h1,h2,h3,h4⟩:=h;exact k _ _ _ _ _ h1 h2 h3 h4
abbrev Lo2 (lt:Keyed->Keyed->Bool) (a b:Array Keyed) (n:Nat) (c:Option (Array Keyed) × Array Keyed × Nat × Nat × Nat × Nat × Nat):Prop:=Ex6 fun out ia ib g ac bc=>c=(none,out,ia,ib,g,ac,bc)/\MInv (leB lt) a.toList b.toList out.toList ia ib/\ia+1 < a.size/\ib < b.size/\n<=ia+ib
@[elab_as_elim] theorem Lo2.el {lt:Keyed->Keyed->Bool} {a b:Array Keyed} {n:Nat} {motive:Option (Array Keyed) × Array Keyed × Nat × Nat × Nat × Nat × Nat->Prop} {c:Option (Array Keyed) × Array Keyed × Nat × Nat × Nat × Nat × Nat} (h:Lo2 lt a b n c) (k:∀ out ia ib g ac bc,MInv (leB lt) a.toList b.toList out.toList ia ib->ia+1 < a.size->ib < b.size->n<=ia+ib->motive (none,out,ia,ib,g,ac,bc)):motive c:=by
 obtain ⟨out,ia,ib,g,ac,bc,rfl,h1,h2,h3,h4⟩:=h;exact k _ _ _ _ _ _ h1 h2 h3 h4
end
section
variable {prog:Program} {w:World} {A:Around} {E:Value->Shared->Prop} {s:Shared}
abbrev Hi0 (lt:Keyed->Keyed->Bool) (a b:Array Keyed) (x n:Nat) (c:Option (Array Keyed) × Nat × Nat × Array Keyed × Nat):Prop:=Ex4 fun na nb out g=>c=(none,na,nb,out,g)/\HInv (leB lt) a.toList b.toList out.toList na nb/\0 < na/\1 < nb/\na+nb+x < n
@[elab_as_elim] theorem Hi0.el {lt:Keyed->Keyed->Bool} {a b:Array Keyed} {x n:Nat} {motive:Option (Array Keyed) × Nat × Nat × Array Keyed × Nat->Prop} {c:Option (Array Keyed) × Nat × Nat × Array Keyed × Nat} (h:Hi0 lt a b x n c) (k:∀ na nb out g,HInv (leB lt) a.toList b.toList out.toList na nb->0 < na->1 < nb->na+nb+x < n->motive (none,na,nb,out,g)):motive c:=by
 obtain ⟨na,nb,out,g,rfl,h1,h2,h3,h4⟩:=h;exact k _ _ _ _ h1 h2 h3 h4
abbrev Hi1 (lt:Keyed->Keyed->Bool) (a b:Array Keyed) (x n:Nat) (c:Option (Array Keyed) × Nat × Nat × Array Keyed × Nat × Nat):Prop:=Ex5 fun na nb out ac bc=>c=(none,na,nb,out,ac,bc)/\HInv (leB lt) a.toList b.toList out.toList na nb/\0 < na/\1 < nb/\na+nb+x<=n
@[elab_as_elim] theorem Hi1.el {lt:Keyed->Keyed->Bool} {a b:Array Keyed} {x n:Nat} {motive:Option (Array Keyed) × Nat × Nat × Array Keyed × Nat × Nat->Prop} {c:Option (Array Keyed) × Nat × Nat × Array Keyed × Nat × Nat} (h:Hi1 lt a b x n c) (k:∀ na nb out ac bc,HInv (leB lt) a.toList b.toList out.toList na nb->0 < na->1 < nb->na+nb+x<=n->motive (none,na,nb,out,ac,bc)):motive c:=by
 obtain ⟨na,nb,out,ac,bc,rfl,h1,h2,h3,h4⟩:=h;exact k _ _ _ _ _ h1 h2 h3 h4
abbrev Hi2 (lt:Keyed->Keyed->Bool) (a b:Array Keyed) (x n:Nat) (c:Option (Array Keyed) × Nat × Nat × Array Keyed × Nat × Nat × Nat):Prop:=Ex6 fun na nb out g ac bc=>c=(none,na,nb,out,g,ac,bc)/\HInv (leB lt) a.toList b.toList out.toList na nb/\0 < na/\1 < nb/\na+nb+x<=n
@[elab_as_elim] theorem Hi2.el {lt:Keyed->Keyed->Bool} {a b:Array Keyed} {x n:Nat} {motive:Option (Array Keyed) × Nat × Nat × Array Keyed × Nat × Nat × Nat->Prop} {c:Option (Array Keyed) × Nat × Nat × Array Keyed × Nat × Nat × Nat} (h:Hi2 lt a b x n c) (k:∀ na nb out g ac bc,HInv (leB lt) a.toList b.toList out.toList na nb->0 < na->1 < nb->na+nb+x<=n->motive (none,na,nb,out,g,ac,bc)):motive c:=by
 obtain ⟨na,nb,out,g,ac,bc,rfl,h1,h2,h3,h4⟩:=h;exact k _ _ _ _ _ _ h1 h2 h3 h4
end
def countRunX:Nat->Nat->StateT SortSt Sem (Option Nat):=sortPriv% PySem.Builtin.countRun
def binarySortX:Nat->Nat->Nat->StateT SortSt Sem Bool:=sortPriv% PySem.Builtin.binarySort
def Apart (lt:Keyed->Keyed->Bool) (l:List Keyed):Prop:=l.Pairwise fun x y=>lt x y=true\/lt y x=true
structure LocSt (kd:SortKind) (S:Keyed->Prop) (lt:Keyed->Keyed->Bool) (lo:Nat) (a₀:Array Keyed) (st₀ st:SortSt):Prop where
 k:kindOf st=kd
 f:failedOf st=failedOf st₀
 p:pendingOf st=pendingOf st₀
 perm:(arrOf st).toList.Perm a₀.toList
 pre:∀ i:Nat,i < lo->(arrOf st)[i]? = a₀[i]?
 s:∀ x ∈ a₀.toList,S x
 d:Apart lt a₀.toList
theorem LocSt.size {kd:SortKind} {S:Keyed->Prop} {lt:Keyed->Keyed->Bool} {lo:Nat} {a₀:Array Keyed} {st₀ st:SortSt} (h:LocSt kd S lt lo a₀ st₀ st):(arrOf st).size=a₀.size:=by
 have:=h.perm.length_eq;simpa using this
theorem LocSt.at_ {kd:SortKind} {S:Keyed->Prop} {lt:Keyed->Keyed->Bool} {lo:Nat} {a₀:Array Keyed} {st₀ st:SortSt} (h:LocSt kd S lt lo a₀ st₀ st) {i:Nat} (hi:i < a₀.size):∃ x,(arrOf st)[i]? = some x/\S x:=by
 obtain ⟨x,h1,_,h3⟩:=x6 (show i < (arrOf st).size by rw [h.size]; exact hi);exact ⟨x,h1,h.s x (h.perm.mem_iff.mp h3)⟩
theorem LocSt.apart {kd:SortKind} {S:Keyed->Prop} {lt:Keyed->Keyed->Bool} {lo:Nat} {a₀:Array Keyed} {st₀ st:SortSt} (h:LocSt kd S lt lo a₀ st₀ st) {i j:Nat} {x y:Keyed} (hij:i≠j) (hx:(arrOf st)[i]? = some x) (hy:(arrOf st)[j]? = some y):lt x y=true\/lt y x=true:=by
 have hd:Apart lt (arrOf st).toList:=(h.perm.pairwise_iff (fun {a b} (q:lt a b=true\/lt b a=true)=>q.symm)).mpr h.d;rw [<- Array.getElem?_toList] at hx hy;obtain ⟨hi,rfl⟩:=List.getElem?_eq_some_iff.mp hx;obtain ⟨hj,rfl⟩:=List.getElem?_eq_some_iff.mp hy;rcases Nat.lt_or_gt_of_ne hij with q | q
 ·exact List.pairwise_iff_getElem.mp hd i j hi hj q
 ·exact (List.pairwise_iff_getElem.mp hd j i hj hi q).symm
theorem LocSt.set {kd:SortKind} {S:Keyed->Prop} {lt:Keyed->Keyed->Bool} {lo:Nat} {a₀:Array Keyed} {st₀ st:SortSt} (h:LocSt kd S lt lo a₀ st₀ st) {xs:Array Keyed} (hp:xs.Perm (arrOf st)) (hl:∀ i:Nat,i < lo->xs[i]? = (arrOf st)[i]?):LocSt kd S lt lo a₀ st₀ (setArr st xs):=
 ⟨h.k,h.f,h.p,(Array.perm_iff_toList_perm.mp hp).trans h.perm,fun i hi=>(hl i hi).trans (h.pre i hi),h.s,h.d⟩
def UpIn (lt:Keyed->Keyed->Bool) (xs:Array Keyed) (lo n:Nat):Prop:=∀ (i j:Nat) (x y:Keyed),lo<=i->i<=j->j < lo+n->xs[i]? = some x->xs[j]? = some y->lt y x=false
def DownIn (lt:Keyed->Keyed->Bool) (xs:Array Keyed) (lo n:Nat):Prop:=∀ (i j:Nat) (x y:Keyed),lo<=i->i < j->j < lo+n->xs[i]? = some x->xs[j]? = some y->lt y x=true
theorem sN {lt:Keyed->Keyed->Bool} (hL:LtOk lt) {xs:Array Keyed} {lo n:Nat} (h:UpIn lt xs lo n) (h1:1<=n) {u v:Keyed} (hu:xs[lo+n - 1]? = some u) (hv:xs[lo+n]? = some v) (e:lt v u=false):UpIn lt xs lo (n+1):=fun i j x y hi hij hj hx hy=>by
 by_cases hjn:j < lo+n
 ·exact h i j x y hi hij hjn hx hy
 ·obtain rfl:j=lo+n:=by lia
  rw [hv] at hy;cases hy;by_cases hin:i=lo+n
  ·rw [hin,hv] at hx;cases hx;exact hL.rf _
  ·exact hL.tr _ _ _ (h i (lo+n - 1) x u hi (by lia) (by lia) hx hu) e
theorem tz {lt:Keyed->Keyed->Bool} (hL:LtOk lt) {xs:Array Keyed} {lo n:Nat} (h:DownIn lt xs lo n) (h1:1<=n) {u v:Keyed} (hu:xs[lo+n - 1]? = some u) (hv:xs[lo+n]? = some v) (e:lt v u=true):DownIn lt xs lo (n+1):=fun i j x y hi hij hj hx hy=>by
 by_cases hjn:j < lo+n
 ·exact h i j x y hi hij hjn hx hy
 ·obtain rfl:j=lo+n:=by lia
  rw [hv] at hy;cases hy;by_cases hin:i=lo+n - 1
  ·rw [hin,hu] at hx;cases hx;exact e
  ·have q:=h i (lo+n - 1) x u hi (by lia) (by lia) hx hu;cases r:lt v x
   ·have:=hL.tr x v u r (hL.as _ _ e);rw [q] at this;cases this
   ·rfl
theorem yI {lt:Keyed->Keyed->Bool} (hL:LtOk lt) {xs:Array Keyed} {lo:Nat}:UpIn lt xs lo 1:=fun i j x y hi hij hj hx hy=>by
 obtain rfl:i=j:=by lia
 rw [hx] at hy;cases hy;exact hL.rf _
section
variable {prog:Program} {w:World} {A:Around} {E:Value->Shared->Prop} {s:Shared}
theorem jz {kd:SortKind} {S:Keyed->Prop} {lt:Keyed->Keyed->Bool} (hC:CmpBy prog w A E s kd S lt) {lo:Nat} {a₀:Array Keyed} {st₀ st:SortSt} (h:LocSt kd S lt lo a₀ st₀ st) {i j:Nat} {Q:Option Bool->SortSt->Prop} (hi:i < a₀.size) (hj:j < a₀.size)
  (q:∀ x y,(arrOf st)[i]? = some x->(arrOf st)[j]? = some y->Q (some (lt x y)) st):wpS (model prog w) A E s (ltAt' i j) Q st:=by
 obtain ⟨x,hx,sx⟩:=h.at_ hi;obtain ⟨y,hy,sy⟩:=h.at_ hj;rw [ltAt'_eq];refine wpS_bind (wpS_get ?_);exact wpS_bind (sE hx (wpS_bind (sE hy (hC x y _ _ sx sy h.k (q x y hx hy)))))
theorem qI {kd:SortKind} {S:Keyed->Prop} {lt:Keyed->Keyed->Bool} (hC:CmpBy prog w A E s kd S lt) (hL:LtOk lt) {lo nrem:Nat} {a₀:Array Keyed} {st₀ st:SortSt} {Q:Option Nat->SortSt->Prop} (h:LocSt kd S lt lo a₀ st₀ st) (h1:1<=nrem) (hn:lo+nrem<=a₀.size)
  (q:∀ n st',LocSt kd S lt lo a₀ st₀ st'->1<=n->n<=nrem->UpIn lt (arrOf st') lo n->Q (some n) st'):wpS (model prog w) A E s (countRunX lo nrem) Q st:=by
 unfold countRunX;refine wpS_bind (wpS_mono (wpS_forRange (I:=fun x c st'=>st'=st/\c=(none,x)/\UpIn lt (arrOf st) lo x)
  (Q:=fun c st'=>st'=st/\∃ n,c=(none,n)/\1<=n/\n<=nrem/\UpIn lt (arrOf st) lo n/\(n=nrem\/∀ x y,(arrOf st)[lo+n]? = some x->(arrOf st)[lo+n - 1]? = some y->lt x y=true)) ?step ?fin ⟨rfl,rfl,yI hL⟩) ?post)
 case fin=>
  rintro c st' ⟨rfl,rfl,hu⟩;rw [show max 1 nrem=nrem by lia] at hu ⊢;exact ⟨rfl,nrem,rfl,h1,Nat.le_refl _,hu,.inl rfl⟩
 case step=>
  rintro x c st' hx1 hx ⟨rfl,rfl,hu⟩;dsimp only;refine wpS_bind (jz hC h (by lia) (by lia) fun u v hu' hv'=>?_);cases e:lt u v
  ·simp only [Bool.false_eq_true,if_false];exact wpS_pure ⟨rfl,rfl,sN hL hu hx1 hv' hu' e⟩
  ·simp only [if_true];refine wpS_pure ⟨rfl,x,rfl,hx1,by lia,hu,.inr fun a b ha hb=>?_⟩;rw [hu'] at ha;rw [hv'] at hb;cases ha;cases hb;exact e
 case post=>
  rintro c st' ⟨rfl,n,rfl,n1,n2,hu,hor⟩;dsimp only;by_cases c1:(n == nrem)=true
  ·rw [if_pos c1];exact wpS_pure (q n st' h n1 n2 hu)
  rw [if_neg c1];have c1':¬ n=nrem:=by simpa using c1
  have hlt:=hor.resolve_left c1';by_cases c2:n > 1
  ·rw [if_pos c2];refine wpS_bind (jz hC h (by lia) (by lia) fun u v hu' hv'=>?_);have:lt u v=true:=by
    rcases h.apart (show lo≠lo+n - 1 by lia) hu' hv' with r | r
    ·exact r
    ·rw [hu lo (lo+n - 1) u v (Nat.le_refl _) (by lia) (by lia) hu' hv'] at r;cases r
   rw [this];simp only [if_true];exact wpS_pure (q n st' h n1 n2 hu)
  ·rw [if_neg c2];obtain rfl:n=1:=by lia
   refine wpS_bind (wpS_lift (wpAny_rule ⟨rfl,?_⟩));have d2:DownIn lt (arrOf st') lo (1+1):=fun i j x y hi hij hj hx hy=>by
    obtain rfl:i=lo:=by lia
    obtain rfl:j=i+1:=by lia
    exact hlt y x hy (by rw [Nat.add_sub_cancel]; exact hx)
   refine wpS_bind (wpS_mono (wpS_forRange (I:=fun x c st''=>st''=st'/\c=(none,x,0)/\DownIn lt (arrOf st') lo x)
    (Q:=fun c st''=>st''=st'/\∃ n,c=(none,n,0)/\2<=n/\n<=nrem/\DownIn lt (arrOf st') lo n) ?dstep ?dfin ⟨rfl,rfl,d2⟩) ?dpost)
   case dfin=>
    rintro c st'' ⟨rfl,rfl,hd⟩;rw [show max (1+1) nrem=nrem by lia] at hd ⊢;exact ⟨rfl,nrem,rfl,by lia,Nat.le_refl _,hd⟩
   case dstep=>
    rintro x c st'' hx1 hx ⟨rfl,rfl,hd⟩;dsimp only;refine wpS_bind (jz hC h (by lia) (by lia) fun u v hu' hv'=>?_);cases e:lt u v
    ·simp only [Bool.false_eq_true,if_false];refine wpS_bind (jz hC h (by lia) (by lia) fun u2 v2 hu2 hv2=>?_);have:lt u2 v2=true:=by
      rw [hv'] at hu2;rw [hu'] at hv2;cases hu2;cases hv2;rcases h.apart (show lo+x≠lo+x - 1 by lia) hu' hv' with r | r
      ·rw [e] at r;cases r
      ·exact r
     rw [this];simp only [if_true];exact wpS_pure ⟨rfl,x,rfl,by lia,by lia,hd⟩
    ·simp only [if_true];rw [if_neg (Nat.lt_irrefl 0)];exact wpS_pure ⟨rfl,rfl,tz hL hd (by lia) hv' hu' e⟩
   case dpost=>
    rintro c st'' ⟨rfl,n,rfl,m1,m2,hd⟩;dsimp only;rw [if_neg (Nat.lt_irrefl 0)];refine wpS_bind (wpS_reverse ?_);have hsz:lo+n<=(arrOf st'').size:=by rw [h.size]; lia
    have h':LocSt kd S lt lo a₀ st₀ (setArr st'' (mirror (arrOf st'') lo (lo+n) ((lo+n - lo) / 2))):=h.set (mirror_perm _ _ _ _) fun i hi=>by rw [getElem?_mirror_all hsz,if_neg (by lia)]
    have hup:UpIn lt (mirror (arrOf st'') lo (lo+n) ((lo+n - lo) / 2)) lo n:=fun i j x y hi hij hj hx hy=>by
     rw [getElem?_mirror_all hsz,if_pos (by lia)] at hx hy;by_cases e:i=j
     ·rw [e,hy] at hx;cases hx;exact hL.rf _
     ·exact hL.as _ _ (hd _ _ y x (by lia) (by lia) (by lia) hy hx)
    have hup:UpIn lt (arrOf (setArr st'' (mirror (arrOf st'') lo (lo+n) ((lo+n - lo) / 2)))) lo n:=hup;generalize setArr st'' (mirror (arrOf st'') lo (lo+n) ((lo+n - lo) / 2))=st3 at h' hup;refine wpS_bind (wpS_mono (wpS_forRange (I:=fun x c st4=>st4=st3/\c=(none,x)/\UpIn lt (arrOf st3) lo x)
     (Q:=fun c st4=>st4=st3/\∃ n,c=(none,n)/\1<=n/\n<=nrem/\UpIn lt (arrOf st3) lo n) ?estep ?efin ⟨rfl,rfl,hup⟩) ?epost)
    case efin=>
     rintro c st4 ⟨rfl,rfl,hu⟩;rw [show max n nrem=nrem by lia] at hu ⊢;exact ⟨rfl,nrem,rfl,h1,Nat.le_refl _,hu⟩
    case estep=>
     rintro x c st4 hx1 hx ⟨rfl,rfl,hu⟩;dsimp only;refine wpS_bind (jz hC h' (by lia) (by lia) fun u v hu' hv'=>?_);cases e:lt u v
     ·simp only [Bool.false_eq_true,if_false];exact wpS_pure ⟨rfl,rfl,sN hL hu (by lia) hv' hu' e⟩
     ·simp only [if_true];exact wpS_pure ⟨rfl,x,rfl,by lia,by lia,hu⟩
    case epost=>
     rintro c st4 ⟨rfl,n,rfl,k1,k2,hu⟩;exact wpS_pure (q n st4 h' k1 k2 hu)
theorem nY {kd:SortKind} {S:Keyed->Prop} {lt:Keyed->Keyed->Bool} (hC:CmpBy prog w A E s kd S lt) (hL:LtOk lt) {lo n ok:Nat} {a₀:Array Keyed} {st₀ st:SortSt} {Q:Bool->SortSt->Prop} (h:LocSt kd S lt lo a₀ st₀ st) (hn:lo+n<=a₀.size) (hok:ok<=n) (h1:1<=ok) (hs:UpIn lt (arrOf st) lo ok)
  (q:∀ st',LocSt kd S lt lo a₀ st₀ st'->UpIn lt (arrOf st') lo n->Q true st'):wpS (model prog w) A E s (binarySortX lo n ok) Q st:=by
 unfold binarySortX;refine wpS_bind (wpS_mono (wpS_forRange (I:=fun k c st'=>c=(none,())/\LocSt kd S lt lo a₀ st₀ st'/\UpIn lt (arrOf st') lo k)
  (Q:=fun c st'=>c=(none,())/\LocSt kd S lt lo a₀ st₀ st'/\UpIn lt (arrOf st') lo n) ?step ?fin ?init) ?post)
 case post=>
  rintro c st' ⟨rfl,hB',hs'⟩;exact wpS_pure (q st' hB' hs')
 case init=>exact ⟨rfl,h,by rw [show max ok 1=ok by lia]; exact hs⟩
 case fin=>
  rintro c st' ⟨hc,hB',hs'⟩;rw [show max (max ok 1) n=n by lia] at hs';exact ⟨hc,hB',hs'⟩
 case step=>
  rintro k c st' hak hkn ⟨rfl,hB',hs'⟩;dsimp only;obtain ⟨u,hu,_⟩:=hB'.at_ (show lo+k < a₀.size by lia);refine wpS_bind (wpS_mono (wpS_forRange (I:=fun x c st''=>st''=st'/\Ex2 fun l r=>c=(none,l,r)/\l<=r/\r<=k/\r - l<=k - x /\
    (∀ (i:Nat) x,i < l->(arrOf st')[lo+i]? = some x->lt u x=false)/\(∀ (i:Nat) x,r<=i->i < k->(arrOf st')[lo+i]? = some x->lt u x=true))
   (Q:=fun c st''=>st''=st'/\Ex2 fun l r=>c=(none,l,r)/\l<=k /\
    (∀ (i:Nat) x,i < l->(arrOf st')[lo+i]? = some x->lt u x=false)/\(∀ (i:Nat) x,l<=i->i < k->(arrOf st')[lo+i]? = some x->lt u x=true)) ?istep ?ifin ?iinit) ?ipost)
  case iinit=>exact ⟨rfl,0,k,rfl,by lia,by lia,by lia,fun i _ hi=>by lia,fun i _ h1 h2=>by lia⟩
  case ifin=>
   rintro c st'' ⟨rfl,l,r,rfl,hlr,hrk,hm,hlo,hhi⟩;obtain rfl:l=r:=by lia
   exact ⟨rfl,l,l,rfl,hrk,hlo,hhi⟩
  case istep=>
   rintro x c st'' _ hxk ⟨rfl,l,r,rfl,hlr,hrk,hm,hlo,hhi⟩;dsimp only;by_cases hge:l >= r
   ·rw [if_pos hge];obtain rfl:l=r:=by lia
    exact wpS_pure ⟨rfl,l,l,rfl,hrk,hlo,hhi⟩
   ·rw [if_neg hge];refine wpS_bind (jz hC hB' (by lia) (by lia) fun u' v hu' hv=>?_);rw [hu] at hu';cases hu';cases e:lt u v
    ·simp only [Bool.false_eq_true,if_false];refine wpS_pure ⟨rfl,(l+r) / 2+1,r,rfl,by lia,by lia,by lia,fun i z h1 hz=>?_,hhi⟩;exact hL.tr _ _ _ (hs' (lo+i) (lo+(l+r) / 2) z v (by lia) (by lia) (by lia) hz hv) e
    ·simp only [if_true];refine wpS_pure ⟨rfl,l,(l+r) / 2,rfl,by lia,by lia,by lia,hlo,fun i z h1 h2 hz=>?_⟩;have o:=hs' (lo+(l+r) / 2) (lo+i) v z (by lia) (by lia) (by lia) hv hz;cases r':lt u z
     ·have:=hL.tr v z u o r';rw [e] at this;cases this
     ·rfl
  case ipost=>
   rintro c st'' ⟨rfl,l,r,rfl,hlk,hlo,hhi⟩;have hks:lo+k < (arrOf st'').size:=by rw [hB'.size]; lia
   have hat:∀ i:Nat,(bubble (arrOf st'') (lo+k) (lo+k - (lo+l)))[i]? = if i=lo+l then (arrOf st'')[lo+k]? else if lo+l < i/\i<=lo+k then (arrOf st'')[i - 1]? else (arrOf st'')[i]?:=fun i=>by
    have:=getElem?_bubble hks (lo+k - (lo+l)) (by lia) i
    rwa [show lo+k - (lo+k - (lo+l))=lo+l by lia] at this
   have mv:∀ (Q:PUnit->SortSt->Prop),Q ⟨⟩ (setArr st'' (bubble (arrOf st'') (lo+k) (lo+k - (lo+l))))->wpS (model prog w) A E s (moveDown' (lo+k) (lo+l)) Q st'':=fun Q hq=>by
    rw [moveDown'_eq];exact wpS_modify hq
   refine wpS_bind (mv _ (wpS_pure ⟨rfl,hB'.set (bubble_perm _ _ _) fun i hi=>?_,?_⟩))
   ·rw [hat,if_neg (by lia),if_neg (by lia)]
   ·intro i j x y hi hij hj hx hy;have hx:(bubble (arrOf st'') (lo+k) (lo+k - (lo+l)))[i]? = some x:=hx;have hy:(bubble (arrOf st'') (lo+k) (lo+k - (lo+l)))[j]? = some y:=hy;rw [hat] at hx hy;have sub:∀ {i:Nat},lo<=i->lo+(i - lo)=i:=by lia
    by_cases ci:i=lo+l
    ·rw [if_pos ci,hu] at hx;cases hx;by_cases cj:j=lo+l
     ·rw [if_pos cj,hu] at hy;cases hy;exact hL.rf _
     ·rw [if_neg cj,if_pos (by lia)] at hy;exact hL.as _ _ (hhi (j - 1 - lo) y (by lia) (by lia) (by rw [show lo+(j - 1 - lo)=j - 1 by lia]; exact hy))
    ·rw [if_neg ci] at hx;by_cases cj:j=lo+l
     ·rw [if_pos cj,hu] at hy;cases hy;rw [if_neg (by lia)] at hx;exact hlo (i - lo) x (by lia) (by rw [show lo+(i - lo)=i by lia]; exact hx)
     ·rw [if_neg cj] at hy;by_cases di:lo+l < i/\i<=lo+k
      ·rw [if_pos di] at hx;rw [if_pos (by lia)] at hy;exact hs' (i - 1) (j - 1) x y (by lia) (by lia) (by lia) hx hy
      ·rw [if_neg di] at hx;by_cases dj:lo+l < j/\j<=lo+k
       ·rw [if_pos dj] at hy;exact hs' i (j - 1) x y (by lia) (by lia) (by lia) hx hy
       ·rw [if_neg dj] at hy;exact hs' i j x y (by lia) (by lia) (by lia) hx hy
end
end L2
namespace L2
open PySem PySem.Spec PyProof.Rows
section
variable {X:Cx} {pins:List (Addr × Obj)} {σ:St} {H:Hp} {s:Shared} {a:Addr} {e o:Expr} {te to ty:TE}
noncomputable def tFrz (te:TE):TE:=fun σ H Q=>te σ H fun x H1=>match x with
 | .ref a=>∃ kvs,H1 a=some (.dK kvs)/\∀ ob,Q (.ref a) (upd H1 a (.frz ob (.dK kvs)))
 | _=>False
theorem yX (he:PE X e te):PE X e (tFrz te):=by
 intro pins s σ H Q I h;refine thn (he pins s σ H _ I h) fun u s1 ⟨x,H1,I1,rx,q1⟩=>?_
 dsimp only at q1;split at q1
 ·rename_i a;obtain ⟨kvs,e1,q1⟩:=q1;obtain ⟨ob,I2⟩:=I1.frozen e1;exact ⟨.ref a,_,I2,rx,q1 ob⟩
 ·exact q1.elim
theorem yk {Q:VK}:tFrz te σ H Q=te σ H fun x H1=>match x with
 | .ref a=>∃ kvs,H1 a=some (.dK kvs)/\∀ ob,Q (.ref a) (upd H1 a (.frz ob (.dK kvs)))
 | _=>False:=rfl
theorem oH:∀ as:List Addr,Vals (as.map V.ref) (as.map Value.ref)
 | []=>.nil
 | a::as=>.cons rfl (oH as)
theorem jh {k:Nat} {x m:Str} {ps:List Str} {sp:Sp} {apos pos:Pos} {ta:TE} {pl:Sem Bool} (C:ClsT X.K X.mg x) (M:MCal X.prog X.w X.K X.mg X.base k x m ps sp) (hr:Room k X.A) (he:PE X o ta)
  (ht:eval (.Call (.Attribute o m apos) [] [] pos) X.env=(do
   let ov <- eval o X.env
   standAt apos.atName
   let (f,first) <- holding [ov] (getMethod ov m pl)
   callWith pos f first (backTo pos (starEach [] X.env)) (backToKw pos (keywordEach [] X.env))):=by rfl):
  PE X (.Call (.Attribute o m apos) [] [] pos) (tMeth (xA X.K x) m sp [] E0 ta tNil):=by
 obtain ⟨f,fd,F,b,M⟩:=M;exact uK (pl:=pl) he C.c M F hr b .nil pass0 ht
end
section
variable {prog:Program} {w:World} {A:Around} {E:Value->Shared->Prop} {s:Shared}
end
section
variable {X:Cx}
end
section
variable {prog:Program} {w:World} {A:Around} {E:Value->Shared->Prop} {s:Shared}
theorem rV {kd:SortKind} {S:Keyed->Prop} {lt:Keyed->Keyed->Bool} (hC:CmpBy prog w A E s kd S lt) (hL:LtOk lt) {st:SortSt} {Q:Unit->SortSt->Prop} {n:Nat} (hn:(arrOf st).size=n) (hk:kindOf st=kd) (hf:failedOf st=none) (hp:pendingOf st=#[])
  (hS:∀ x ∈ (arrOf st).toList,S x) (hd:Apart lt (arrOf st).toList) (h2:2<=n) (h64:n < 64) (h:∀ st',failedOf st'=none->(arrOf st').toList.Perm (arrOf st).toList->UpIn lt (arrOf st') 0 n->Q () st'):wpS (model prog w) A E s sortRuns' Q st:=by
 have hm:minRun' n n 0=n:=by
  obtain ⟨k,rfl⟩:∃ k,n=k+1:=⟨n - 1,by lia⟩;rw [minRun'_succ,if_pos h64,Nat.add_zero]
 have l0:LocSt kd S lt 0 (arrOf st) st st:=⟨hk,rfl,rfl,List.Perm.refl _,fun _ _=>rfl,hS,hd⟩;have fin:∀ st',LocSt kd S lt 0 (arrOf st) st st'->pendingOf st'=#[]:=fun st' l=>l.p.trans hp
 rw [sortRuns'_eq];refine wpS_bind (wpS_get ?_);dsimp only;rw [hn,hm];refine wpS_bind (wpS_mono (wpS_forRange (I:=fun x c st'=>(x=0/\c=(none,0)/\st'=st)\/(x≠0/\c=(none,n)/\failedOf st'=none/\(pendingOf st').size=1/\(arrOf st').toList.Perm (arrOf st).toList/\UpIn lt (arrOf st') 0 n))
  (Q:=fun c st'=>c=(none,n)/\failedOf st'=none/\(pendingOf st').size=1/\(arrOf st').toList.Perm (arrOf st).toList/\UpIn lt (arrOf st') 0 n) ?turn ?out (.inl ⟨rfl,rfl,rfl⟩)) ?more)
 case out=>
  rintro c st' (⟨hx,_⟩ | ⟨_,z⟩)
  ·lia
  ·exact z
 case turn=>
  rintro x c st' _ hx (⟨rfl,rfl,rfl⟩ | ⟨_,rfl,z⟩)
  ·dsimp only;rw [if_neg (show ¬ 0 >= n by lia)];refine wpS_bind (qI hC hL l0 (by lia) (by lia) fun m st2 l2 m1 m2 hu=>?_);dsimp only;have ends:∀ st3,LocSt kd S lt 0 (arrOf st') st' st3->UpIn lt (arrOf st3) 0 n->∀ (pd:Array (Nat × Nat × Nat)),pd.size=1->(0+1≠0/\((none:Option Unit),0+n)=(none,n)/\failedOf (setPending st3 pd)=none/\(pendingOf (setPending st3 pd)).size=1/\(arrOf (setPending st3 pd)).toList.Perm (arrOf st').toList/\UpIn lt (arrOf (setPending st3 pd)) 0 n):=
    fun st3 l3 u3 pd hpd=>⟨by lia,by rw [Nat.zero_add],l3.f.trans hf,hpd,l3.perm,u3⟩
   by_cases c1:m < n
   ·rw [if_pos c1];refine wpS_bind (wpS_lift (wpAny_rule ⟨rfl,?_⟩));refine wpS_bind (nY hC hL l2 (by lia) (by lia) m1 hu fun st3 l3 u3=>?_);simp only [Bool.not_true,Bool.false_eq_true,if_false];refine wpS_bind (wpS_get ?_);rw [show (pendingOf st3).back? = none by rw [fin st3 l3]; rfl];dsimp only;have en:min (n - 0) n=n:=by lia
    rw [en] at u3;refine wpS_bind (wpS_modify (wpS_pure (.inr ?_)));have e3:=ends st3 l3 u3 ((pendingOf st3).push (0,n,0)) (by rw [fin st3 l3]; rfl);rw [en];exact ⟨e3.1,by rw [Nat.zero_add],e3.2.2⟩
   ·rw [if_neg c1];obtain rfl:m=n:=by lia
    refine wpS_bind (wpS_get ?_);rw [show (pendingOf st2).back? = none by rw [fin st2 l2]; rfl];dsimp only;refine wpS_bind (wpS_modify (wpS_pure (.inr ?_)));have e3:=ends st2 l2 hu ((pendingOf st2).push (0,m,0)) (by rw [fin st2 l2]; rfl);exact ⟨e3.1,by rw [Nat.zero_add],e3.2.2⟩
  ·dsimp only;rw [if_pos (Nat.le_refl n)];exact wpS_pure ⟨rfl,z⟩
 case more=>
  rintro c st' ⟨rfl,f,pz,pm,u⟩;dsimp only;refine wpS_bind (wpS_mono (wpS_forRange (I:=fun _ c st2=>c=(none,())/\st2=st') (Q:=fun c st2=>c=(none,())/\st2=st') ?go (fun c st2 z=>z) ⟨rfl,rfl⟩) ?fine)
  case go=>
   rintro y c st2 _ _ ⟨rfl,rfl⟩;refine wpS_bind (wpS_get ?_);rw [if_pos (show (pendingOf st2).size<=1 by lia)];exact wpS_pure ⟨rfl,rfl⟩
  case fine=>
   rintro c st2 ⟨rfl,rfl⟩;exact wpS_pure (h st2 f pm u)
end
noncomputable def txtIn (o:Option Value):List Nat:=match o with
 | some (.str x _)=>x.cps.toList
 | _=>[]
def PairIn (h:Heap) (ws:List (List Nat × List Nat)) (x:Value):Prop:=Ex4 fun t w u v=>x=.ref t/\w ∈ ws/\IsTup h t #[.str (st w.1) u,.str (st w.2) v]
section
variable {prog:Program} {w:World} {A:Around} {E:Value->Shared->Prop} {s:Shared}
end
theorem l7 {α β:Type} {R:α -> β -> Prop}:∀ {l:List α} {m:List β},Paired R l m->∀ a ∈ l,∃ b ∈ m,R a b
 | _,_,.nil,_,h=>by cases h
 | _,_,.cons r t,a,h=>by
  rcases List.mem_cons.mp h with rfl | h
  ·exact ⟨_,List.mem_cons_self,r⟩
  ·obtain ⟨b,hb,rb⟩:=l7 t a h;exact ⟨b,List.mem_cons_of_mem _ hb,rb⟩
theorem ma {α β:Type} {R:α -> β -> Prop}:∀ {l:List α} {m:List β},Paired R l m->Paired (fun b a=>R a b) m l
 | _,_,.nil=>.nil
 | _,_,.cons r t=>.cons r (ma t)
theorem lC {α β:Type} {R:α -> β -> Prop} {S:β -> β -> Prop} {S':α -> α -> Prop} (f:∀ a b c d,R a b->R c d->S b d->S' a c) {l:List α} {m:List β} (p:Paired R l m) (h:m.Pairwise S):l.Pairwise S':=
 eJ (fun a b c d h1 h2 z=>f b a d c h1 h2 z) (ma p) h
def TxP (H:Hp) (x:List Nat × List Nat) (v:V):Prop:=∃ t,v=.ref t/\H t=some (.tup [V.str (st x.1),V.str (st x.2)])
section
variable {X:Cx}
end
section
variable {prog:Program} {w:World} {A:Around} {E:Value->Shared->Prop} {s:Shared} {a:Addr} {δ:Type} {R:δ -> Value->Prop} {D:List (Str × δ)} {k:Str} {tk:Tok}
end
section
variable {X:Cx} {i:Expr} {p pos:Pos} {ty:TE} {x:Str}
end
section
variable {X:Cx} {k:Nat} {x:Str} {ps:List Str} {sp:Sp} {p pos:Pos} {e:Expr} {es:List Expr} {t:TA}
theorem uW (C:ClsT X.K X.mg x) (M:KCal X.prog X.w X.K X.mg X.base k x ps sp) (hr:Room (k+1) X.A) (hg:Gl X x) (ha:PA X (e::es) t) (hd:(x == ("__debug__" : Str))=false:=by decide)
  (he:starEach (e::es) X.env=(false,eval e X.env)::starEach es X.env:=by rfl) (hpl:(backTo pos (starEach es X.env)).any (·.1)=false:=by rfl):PE X (.Call (.Name x p) (e::es) [] pos) (tMake (xA X.K x) sp [] E0 t):=by
 obtain ⟨f,fd,F,b,M⟩:=M;exact sO M F hr hg C.m b .nil pass0 ha hd he hpl
end
noncomputable def enc (x:List Nat × List Nat):List Nat:=x.1.map (· + 1)++0::x.2
theorem jg {a b:Nat} {l m:List Nat}:(a::l < b::m) ↔ a < b\/a=b/\l < m:=List.cons_lt_cons_iff
theorem mO:∀ {a b:List Nat} {c d:List Nat},a≠b->(enc (a,c) < enc (b,d) ↔ a < b)
 | [],[],_,_,h=>absurd rfl h
 | [],y::b,c,d,_=>by
  unfold enc;simp only [List.map_nil,List.nil_append,List.map_cons,List.cons_append,jg];exact ⟨fun _=>List.nil_lt_cons _ _,fun _=>.inl (Nat.succ_pos _)⟩
 | x::a,[],c,d,_=>by
  unfold enc;simp only [List.map_nil,List.nil_append,List.map_cons,List.cons_append,jg];refine ⟨fun h=>?_,fun h=>absurd h (List.not_lt_nil _)⟩;rcases h with h | ⟨h,_⟩ <;> lia
 | x::a,y::b,c,d,h=>by
  have ih:a≠b->_:=fun k=>mO (a:=a) (b:=b) (c:=c) (d:=d) k
  unfold enc at ih ⊢;simp only [List.map_cons,List.cons_append,jg] at ih ⊢;by_cases e:x=y
  ·subst e;have hab:a≠b:=fun z=>h (by rw [z])
   constructor
   ·rintro (k | ⟨_,k⟩)
    ·lia
    ·exact .inr ⟨rfl,(ih hab).mp k⟩
   ·rintro (k | ⟨_,k⟩)
    ·lia
    ·exact .inr ⟨rfl,(ih hab).mpr k⟩
  ·constructor
   ·rintro (k | ⟨k,_⟩)
    ·exact .inl (by lia)
    ·lia
   ·rintro (k | ⟨k,_⟩)
    ·exact .inl (by lia)
    ·exact absurd k e
theorem sI:∀ {a c d:List Nat},enc (a,c) < enc (a,d) ↔ c < d
 | [],c,d=>by
  unfold enc;rw [List.map_nil,List.nil_append,List.nil_append,jg];refine ⟨fun h=>?_,fun h=>.inr ⟨rfl,h⟩⟩;rcases h with h | ⟨_,h⟩
  ·lia
  ·exact h
 | x::a,c,d=>by
  have ih:=sI (a:=a) (c:=c) (d:=d);unfold enc at ih ⊢;rw [List.map_cons,List.cons_append,List.cons_append,jg];refine ⟨fun h=>?_,fun h=>.inr ⟨rfl,ih.mpr h⟩⟩;rcases h with h | ⟨_,h⟩
  ·lia
  ·exact ih.mp h
theorem wG {x y:List Nat × List Nat} (h:enc x=enc y):x=y:=by
 obtain ⟨a,c⟩:=x;obtain ⟨b,d⟩:=y;have ll:∀ l:List Nat,¬ l < l:=fun l=>List.lt_irrefl l
 by_cases e:a=b
 ·subst e;have:c=d:=by
   have hh:a.map (· + 1)++0::c=a.map (· + 1)++0::d:=h;have:=List.append_cancel_left hh;exact (List.cons.inj this).2
  rw [this]
 ·exfalso;by_cases k:a < b
  ·have z:=(mO (c:=c) (d:=d) e).mpr k;rw [h] at z;exact ll _ z
  ·have z:=(mO (c:=d) (d:=c) (Ne.symm e)).mpr (rZ _ _ e k);rw [h] at z;exact ll _ z
noncomputable def encIn (o:Option Obj):List Nat:=match o with
 | some o=>match o.data with
  | .seq xs _=>enc (txtIn (xs[0]?:Option Value),txtIn (xs[1]?:Option Value))
  | _=>[]
 | none=>[]
noncomputable def encOf (h:Heap) (v:Value):List Nat:=match v with
 | .ref t=>encIn (h.get? t)
 | _=>[]
theorem gc {h:Heap} {t:Addr} {a b:List Nat} {u v:Tok} (e:IsTup h t #[.str (st a) u,.str (st b) v]):encOf h (.ref t)=enc (a,b):=by
 obtain ⟨o,ho,_,n,hd⟩:=e;unfold encOf encIn;simp only [ho,hd];rfl
noncomputable def encLt (h:Heap) (x y:Keyed):Bool:=strKind.blt (encOf h x.1) (encOf h y.1)
theorem vn (h:Heap):LtOk (encLt h):=
 ⟨fun x=>strKind.irrefl _,fun x y z h k=>KeyOrd.kle_trans (O:=strKind.toKeyOrd) h k,fun x y h=>KeyOrd.kle_of_klt (O:=strKind.toKeyOrd) h⟩
section
variable {prog:Program} {w:World} {A:Around} {E:Value->Shared->Prop} {s:Shared}
theorem xb {ws:List (List Nat × List Nat)}:CmpBy prog w A E s (tuples' true) (fun x=>PairIn s.heap ws x.1) (encLt s.heap):=fun x y st Q hx hy hk q=>by
 obtain ⟨x,p⟩:=x;obtain ⟨y,r⟩:=y;obtain ⟨t1,w1,u1,v1,rfl,m1,i1⟩:=hx;obtain ⟨t2,w2,u2,v2,rfl,m2,i2⟩:=hy;have f1:=gc i1;have f2:=gc i2;obtain ⟨o1,h1,_,n1,d1⟩:=i1;obtain ⟨o2,h2,_,n2,d2⟩:=i2;have q:Q (some (decide (encOf s.heap (.ref t1) < encOf s.heap (.ref t2)))) st:=q;rw [f1,f2] at q;rw [lt'_eq];refine wpS_bind (wpS_get ?_);rw [hk];refine wpS_bind (wpS_lift (wpAny_attempt (PySem.W.kat_lt h1 d1 h2 d2 (PySem.W.kat_cons (wpAny_eqBool_str ?_)))));obtain ⟨a1,b1⟩:=w1;obtain ⟨a2,b2⟩:=w2;dsimp only at q ⊢;by_cases c:a1=a2
 ·subst c;have e:decide (enc (a1,b1) < enc (a1,b2))=decide (b1 < b2):=decide_eq_decide.mpr sI;rw [e] at q;rw [decide_eq_true rfl];refine PySem.W.kat_yes (PySem.W.kat_cons (wpAny_eqBool_str ?_));by_cases c2:b1=b2
  ·subst c2;rw [decide_eq_true rfl];refine PySem.W.kat_yes (PySem.W.kat_nil ⟨rfl,wpS_pure ?_⟩);have e2:decide (b1 < b1)=false:=decide_eq_false (List.lt_irrefl _);rw [e2] at q;exact q
  ·rw [decide_eq_false (fun z=>c2 (km.mp z))];exact PySem.W.kat_no (PySem.W.kat_one _ _ (PyProof.Rows.lt_str ⟨rfl,wpS_pure q⟩))
 ·rw [decide_eq_false (fun z=>c (km.mp z))];have e:decide (enc (a1,b1) < enc (a2,b2))=decide (a1 < a2):=decide_eq_decide.mpr (mO c);rw [e] at q;exact PySem.W.kat_no (oneLt_str ⟨rfl,wpS_pure q⟩)
theorem og {a:Addr} {vs:List Value} {ws:List (List Nat × List Nat)} {n:Nat} {P:Fin->Shared->Prop} (ho:s.heap.get? a=some (seqObj "list" vs.toArray n)) (hp:∀ v ∈ vs,PairIn s.heap ws v)
  (ap:vs.Pairwise fun x y=>encOf s.heap x≠encOf s.heap y) (h64:vs.length < 64)
  (h:∀ out:Array Value,out.toList.Perm vs->out.toList.Pairwise (fun x y=>encOf s.heap x < encOf s.heap y)->P (.done (.ret .none)) { s with heap:=sortedHeap s.heap a vs out }):
  wpAny (model prog w) A (Builtin.«list.sort» ⟨[.ref a],[]⟩) P E s:=by
 have hlt:=Heap.lt_size ho;have pairs:(vs.toArray.zip vs.toArray).toList=vs.map fun v=>(v,v):=by
  have:∀ l:List Value,l.zip l=l.map fun v=>(v,v):=fun l=>by
   induction l with
   | nil=>rfl
   | cons x l ih=>rw [List.zip_cons_cons,ih,List.map_cons]
  simp [this]
 rw [list_sort_plain];refine wpAny_bind (listItems_at ho rfl (wpAny_bind (listUpdate_at ho rfl ?_)));obtain ⟨n1,o1⟩:∃ n1,(s.heap.update a (Obj.mapSeq fun _=>#[])).get? a=some (seqObj "list" #[] n1):=⟨_,get?_update_seq ho fun _=>(#[]:Array Value)⟩;refine wpAny_bind (seqEpoch_at o1 rfl (wpAny_bind (wpAny_newTuple (wpAny_bind (wpAny_newList (wpAny_holding ?_))))));have hl1:a < (s.heap.update a (Obj.mapSeq fun _=>#[])).objs.size:=Nat.lt_of_lt_of_eq hlt (Heap.size_update ..).symm;generalize hM:((s.heap.update a (Obj.mapSeq fun _=>#[])).push (seqObj "tuple" vs.toArray 0)).push (seqObj "list" #[] 0)=M;have kp:∀ b o,b≠a->s.heap.get? b=some o->M.get? b=some o:=fun b o hb e=>by
  rw [<- hM];refine Heap.get?_push_of_some _ (Heap.get?_push_of_some _ ?_);rw [Heap.get?_update_other _ _ (Ne.symm hb)];exact e
 have o6:M.get? a=some (seqObj "list" #[] n1):=by
  rw [<- hM];exact Heap.get?_push_of_some _ (Heap.get?_push_of_some _ o1)
 have nota:∀ t its,IsTup s.heap t its->t≠a:=fun t its i z=>by
  obtain ⟨o,hq,hc,_⟩:=i;rw [z,ho] at hq;have hq:=Option.some.inj hq;rw [<- hq] at hc;exact absurd hc (by simp [seqObj])
 have tupM:∀ t its,IsTup s.heap t its->IsTup M t its:=fun t its i=>by
  have ne:=nota t its i;obtain ⟨o,hq,r⟩:=i;exact ⟨o,kp t o ne hq,r⟩
 have inM:∀ v ∈ vs,PairIn M ws v:=fun v hv=>by
  obtain ⟨t,w,u,x,e,m,i⟩:=hp v hv;exact ⟨t,w,u,x,e,m,tupM t _ i⟩
 have firstM:∀ v ∈ vs,encOf M v=encOf s.heap v:=fun v hv=>by
  obtain ⟨t,w,u,x,rfl,m,i⟩:=hp v hv;rw [gc i,gc (tupM t _ i)]
 have put:∀ out:Array Value,sortedHeap s.heap a vs out=M.update a (Obj.mapSeq fun _=>out):=fun out=>by
  rw [<- hM];rfl
 show wpAny (model prog w) A _ P E { s with heap:=M };dsimp only;by_cases two:vs.toArray.size < 2
 ·rw [if_pos two,if_pos two];refine wpAny_bind (wpAny_pure ?_);rw [StateT.run_pure];refine wpAny_bind (wpAny_pure ?_);dsimp only;have e0:((vs.toArray.zip vs.toArray).map (·.2)).toList=vs:=by
   rw [Array.toList_map,pairs,List.map_map];exact List.map_id vs
  have ez:((vs.toArray.zip vs.toArray).map (·.2)).size<=sizeLine+1:=by
   rw [<- Array.length_toList,e0,sizeLine_eq]
   lia
  refine wpAny_bind (seqEpoch_at o6 rfl (wpAny_bind (listUpdate_at o6 rfl ?_ (hsz2:=ez))));simp only [bne_self_eq_false,Bool.false_eq_true,if_false];have hh:=h ((vs.toArray.zip vs.toArray).map (·.2)) (by rw [e0]) (by
   rw [e0]
   match vs,two with
   | [],_=>exact List.Pairwise.nil
   | [x],_=>simp
   | x::y::l,z=>exact absurd z (by simp))
  rw [put] at hh;exact wpAny_pure hh
 ·rw [if_neg two,if_neg two];have two':2<=vs.length:=by simpa using two
  have kt:∀ l:List Value,(∀ v ∈ l,PairIn M ws v)->∃ fs,PySem.W.KatTups M l fs/\fs.length=l.length/\∀ f ∈ fs,Ex2 fun x u=>f=Value.str x u:=fun l hl=>by
   induction l with
   | nil=>exact ⟨[],trivial,rfl,fun f hf=>absurd hf List.not_mem_nil⟩
   | cons v l ih=>
    obtain ⟨fs,a1,a2,a3⟩:=ih fun x hx=>hl x (List.mem_cons_of_mem _ hx)
    obtain ⟨t,w,u,x,rfl,m,⟨o,b1,b2,k,b3⟩⟩:=hl v List.mem_cons_self;refine ⟨.str (st w.1) u::fs,PySem.W.KatTups.cons b1 b2 b3 rfl a1,by simp [a2],fun f hf=>?_⟩;rcases List.mem_cons.mp hf with rfl | hf
    ·exact ⟨_,_,rfl⟩
    ·exact a3 f hf
  obtain ⟨fs,t1,t2,t3⟩:=kt vs inM;refine wpAny_bind (PySem.W.kat_kind (T:=.type "str") t1 (by lia) (fun v hv=>by
   obtain ⟨x,u,rfl⟩:=t3 v hv;exact PySem.W.Looks.now) rfl ?_)
  refine wpAny_bind (wpAny_mono (rV (s:={ s with heap:=M }) (Q:=fun _ st'=>failedOf st'=none/\(arrOf st').toList.Perm (vs.map fun v=>(v,v))/\UpIn (encLt M) (arrOf st') 0 vs.length) (xb (ws:=ws)) (vn M)
   (n:=vs.length) (by show (vs.toArray.zip vs.toArray).size=_; rw [<- Array.length_toList,pairs,List.length_map]) rfl rfl rfl ?_ ?_ two' h64 fun st' f p u=>⟨f,by rw [<- pairs]; exact p,u⟩) ?_ fun _ _ z=>z)
  ·intro x hx;have hx:x ∈ (vs.toArray.zip vs.toArray).toList:=hx;rw [pairs] at hx;obtain ⟨v,hv,rfl⟩:=List.mem_map.mp hx;exact inM v hv
  ·show Apart (encLt M) (vs.toArray.zip vs.toArray).toList;rw [pairs];refine List.pairwise_map.mpr (ap.imp_of_mem fun {x y} hx hy ne=>?_);show decide (encOf M x < encOf M y)=true\/decide (encOf M y < encOf M x)=true;rw [decide_eq_true_eq,decide_eq_true_eq,firstM x hx,firstM y hy];by_cases c:encOf s.heap x < encOf s.heap y
   ·exact .inl c
   ·exact .inr (rZ _ _ ne c)
  rintro ⟨⟨⟩,st'⟩ s' ⟨rfl,f,p,u⟩;dsimp only;have pl:=p.length_eq;rw [List.length_map,Array.length_toList] at pl;have ez:((arrOf st').map (·.2)).size<=sizeLine+1:=by
   rw [Array.size_map,pl,sizeLine_eq]
   lia
  refine wpAny_bind (seqEpoch_at o6 rfl (wpAny_bind (listUpdate_at o6 rfl ?_ (hsz2:=ez))));rw [f];simp only [bne_self_eq_false,Bool.false_eq_true,if_false];have p2:((arrOf st').map (·.2)).toList.Perm vs:=by
   rw [Array.toList_map];have:=p.map (·.2);rw [List.map_map,show ((fun x:Value × Value=>x.2) ∘ fun v=>(v,v))=id from rfl,List.map_id] at this;exact this
  have hh:=h ((arrOf st').map (·.2)) p2 (by
   rw [List.pairwise_iff_getElem];intro i j hi hj hij;have ap2:((arrOf st').map (·.2)).toList.Pairwise fun x y=>encOf s.heap x≠encOf s.heap y:=(p2.pairwise_iff (fun {a b} (q:encOf s.heap a≠encOf s.heap b)=>q.symm)).mpr ap
   have ne:=List.pairwise_iff_getElem.mp ap2 i j hi hj hij;have hi':i < (arrOf st').size:=by simpa using hi
   have hj':j < (arrOf st').size:=by simpa using hj
   have one:∀ k (hk:k < (arrOf st').size),∃ v ∈ vs,(arrOf st')[k]=(v,v):=fun k hk=>by
    have:(arrOf st')[k] ∈ (arrOf st').toList:=by simp
    obtain ⟨v,hv,e⟩:=List.mem_map.mp (p.mem_iff.mp this);exact ⟨v,hv,e.symm⟩
   obtain ⟨v,hv,ev⟩:=one i hi';obtain ⟨z,hz,ez⟩:=one j hj';have up:=u i j _ _ (Nat.zero_le _) (Nat.le_of_lt hij) (by rw [Nat.zero_add,<- pl]; exact hj') (getElem?_pos (arrOf st') i hi') (getElem?_pos (arrOf st') j hj');rw [ev,ez] at up;have up:decide (encOf M z < encOf M v)=false:=up;rw [decide_eq_false_iff_not,firstM v hv,firstM z hz] at up;simp only [Array.getElem_toList,Array.getElem_map,ev,ez] at ne ⊢;exact Classical.byContradiction fun c=>up (rZ _ _ ne c))
  rw [put] at hh;exact wpAny_pure hh
theorem rj {l:Addr} {vs:List Value} {ws:List (List Nat × List Nat)} {Q:Value->Shared->Prop} (hl:s.heap.IsList l vs.toArray) (hp:∀ v ∈ vs,PairIn s.heap ws v)
  (ap:vs.Pairwise fun x y=>encOf s.heap x≠encOf s.heap y) (h64:vs.length < 64)
  (h:∀ (D:Addr) (h':Heap) (tk:Nat) (out:List Value) (e:Nat),(∀ b o,s.heap.get? b=some o->h'.get? b=some o)->s.heap.objs.size<=D->h'.get? D=some (seqObj "list" out.toArray e)->out.Perm vs->out.Pairwise (fun x y=>encOf s.heap x < encOf s.heap y) ->
   Q (.ref D) { s with heap:=h',toks:=tk }):
  wpAny (model prog w) A (call (.builtin "sorted") [.ref l]) Q E s:=by
 refine Calls.call_function_entry kind_sorted plain_sorted entry_sorted (args_sorted1 _) ?_;unfold Builtin.«sorted»;refine wpAny_bind (m:=checkCount "sorted" 1 1 _) (wpAny_pure ?_);refine wpAny_bind (collect_list hl ?_ (by rw [sizeLine_eq]; lia));refine wpAny_bind (wpAny_newList ?_ (by rw [sizeLine_eq]; lia));generalize hM:(s.heap.push (seqObj "list" #[] 0)).update s.heap.objs.size (Obj.mapSeq (· ++ vs.toArray))=M;have kp:∀ b o,s.heap.get? b=some o->M.get? b=some o:=fun b o q=>by
  rw [<- hM,Heap.get?_update_other _ _ (Nat.ne_of_gt (Heap.lt_size q))];exact Heap.get?_push_of_some _ q
 have hsz:s.heap.objs.size<=M.objs.size:=by
  rw [<- hM,Heap.size_update,size_push'];exact Nat.le_succ _
 have hD:(M.push (seqObj "list" vs.toArray 0)).get? M.objs.size=some (seqObj "list" vs.toArray 0):=Heap.get?_push_size _ rfl;have tupM:∀ t its,IsTup s.heap t its->IsTup (M.push (seqObj "list" vs.toArray 0)) t its:=fun t its ⟨o,hq,r⟩=>⟨o,Heap.get?_push_of_some _ (kp t o hq),r⟩
 have firstM:∀ v ∈ vs,encOf (M.push (seqObj "list" vs.toArray 0)) v=encOf s.heap v:=fun v hv=>by
  obtain ⟨t,w,u,x,rfl,m,i⟩:=hp v hv;rw [gc i,gc (tupM t _ i)]
 show wpAny _ _ _ _ _ { s with heap:=M.push (seqObj "list" vs.toArray 0) };refine wpAny_bind (wpAny_holding (wpAny_call_entry slot_list_sort ⟨_,hD,rfl⟩ entry_list_sort (og (s:={ s with heap:=M.push (seqObj "list" vs.toArray 0) }) hD (ws:=ws) (fun v hv=>?_) (ap.imp_of_mem fun {x y} hx hy ne=>?_) h64 fun out p u=>⟨_,rfl,?_⟩) (args_list_sort _)))
 ·obtain ⟨t,w,u,x,e,m,i⟩:=hp v hv;exact ⟨t,w,u,x,e,m,tupM t _ i⟩
 ·show encOf (M.push (seqObj "list" vs.toArray 0)) x≠encOf (M.push (seqObj "list" vs.toArray 0)) y;rw [firstM x hx,firstM y hy];exact ne
 obtain ⟨e,he⟩:=sortedHeap_at (out:=out) hD;refine wpAny_pure ⟨_,rfl,h _ _ s.toks out.toList e (fun b o q=>?_) hsz (by rw [Array.toArray_toList]; exact he) p (u.imp_of_mem fun {x y} hx hy lt=>?_)⟩
 ·have hb1:=Heap.lt_size (kp b o q);show (sortedHeap (M.push (seqObj "list" vs.toArray 0)) M.objs.size vs out).get? b=some o;rw [sortedHeap_old (Nat.ne_of_lt hb1) (by rw [size_push']; exact Nat.lt_succ_of_lt hb1)];exact Heap.get?_push_of_some _ (kp b o q)
 ·have lt:encOf (M.push (seqObj "list" vs.toArray 0)) x < encOf (M.push (seqObj "list" vs.toArray 0)) y:=lt;rw [firstM x (p.mem_iff.mp hx),firstM y (p.mem_iff.mp hy)] at lt;exact lt
end
noncomputable def kSortQ (K:Frag):List V->Hp->VK->Prop:=fun xs H Q=>match xs with
 | [.ref p]=>Ex2 fun (ws:List (List Nat × List Nat)) (vs:List V)=>SqL K H p vs/\Paired (TxP H) ws vs/\ws.Nodup/\ws.length < 64/\∀ q ws' vs',H q=none->ws'.Perm ws->ws'.Pairwise (fun x y=>enc x < enc y)->Paired (TxP H) ws' vs'->Q (.ref q) (upd H q (.lst vs'))
 | _=>False
section
variable {X:Cx}
theorem kr (K:Frag) (hK:X.K=K):CallR X (.builtin "sorted") (kSortQ K):=by
 subst hK;intro pins s σ H xs us Q I r q;unfold kSortQ at q;split at q
 ·rename_i p;obtain ⟨ws,vs,hs,pr,nd,h64,q⟩:=q;obtain ⟨u,rfl,ru⟩:=vals1 r;cases ru;obtain ⟨its,rv,pl,hz⟩:=I.list hs
  let R:Value->(List Nat × List Nat) × V->Prop:=fun u x=>RelV x.2 u/\TxP H x.1 x.2/\encOf s.heap u=enc x.1/\∀ ws,x.1 ∈ ws->PairIn s.heap ws u
  have one:∀ x v u,TxP H x v->RelV v u->R u (x,v):=fun x v u ht ru=>by
   obtain ⟨t,rfl,e⟩:=id ht;obtain rfl:u=Value.ref t:=ru;obtain ⟨_,its,vr,i⟩:=(show ObjOk X.prog X.w H s.heap t (.tup [V.str (st x.1),V.str (st x.2)]) from I.hok t _ e);obtain ⟨a,b,rfl,⟨u1,rfl⟩,⟨u2,rfl⟩⟩:=vals2 vr;exact ⟨rfl,ht,gc i,fun ws hm=>⟨t,x,u1,u2,rfl,hm,i⟩⟩
  have zip:∀ {ws:List (List Nat × List Nat)} {vs:List V} {its:List Value},Paired (TxP H) ws vs->Vals vs its->Paired R its (ws.zip vs):=fun {ws vs its} a=>by
   induction a generalizing its with
   | nil=>intro b; cases b; exact .nil
   | cons h _ ih=>intro b; cases b with | cons h2 t2=>exact .cons (one _ _ _ h h2) (ih t2)
  have Z:=zip pr rv;have hl:=pr.length;have hl2:=rv.length;have fz:(ws.zip vs).map Prod.fst=ws:=List.map_fst_zip (by lia);refine tokQ I.tk (rj (ws:=ws) pl.isList (fun v hv=>?_) ?_ (by lia) fun D h' tk out e old hD ho hp hu (htk:0 < tk)=>?_)
  ·obtain ⟨x,hx,_,_,_,z⟩:=l7 Z v hv;exact z ws (List.of_mem_zip hx).1
  ·refine lC (fun a b c d h1 h2 (ne:enc b.1≠enc d.1)=>?_) Z ?_
   ·rw [h1.2.2.1,h2.2.2.1];exact ne
   ·have this:((ws.zip vs).map Prod.fst).Pairwise fun x y=>enc x≠enc y:=by
     rw [fz];exact List.Pairwise.imp (fun {a b} h z=>h (wG z)) nd
    exact (List.pairwise_map (R:=fun x y:List Nat × List Nat=>enc x≠enc y)).mp this
  ·obtain ⟨m',pm,Zm⟩:=qq hp Z;have v2:Vals (m'.map Prod.snd) out:=by
    clear pm hu ho hp
    induction Zm with
    | nil=>exact .nil
    | cons h _ ih=>exact .cons h.1 ih
   have t2:Paired (TxP H) (m'.map Prod.fst) (m'.map Prod.snd):=by
    clear pm hu ho hp v2
    induction Zm with
    | nil=>exact .nil
    | cons h _ ih=>exact .cons h.2.1 ih
   have ol:(m'.map Prod.snd).length<=sizeLine:=by
    rw [List.length_map,pm.length_eq,List.length_zip,sizeLine_eq]
    lia
   have I2:=I.laid (a:=D) (o:=.lst (m'.map Prod.snd)) (t':=tk) old hD ⟨ol,out,e,v2,ho⟩;refine ⟨.ref D,_,I2,rfl,q D (m'.map Prod.fst) _ (I.hok.fresh hD) (by rw [<- fz]; exact pm.map _) ?_ t2⟩;refine List.pairwise_map.mpr (eJ (fun a b c d h1 h2 lt=>?_) Zm hu);rw [h1.2.2.1,h2.2.2.1] at lt;exact lt
 ·exact q.elim
theorem uJ {K:Frag} {p:Addr} {H:Hp} {Q:VK}:kSortQ K [.ref p] H Q=Ex2 fun (ws:List (List Nat × List Nat)) (vs:List V)=>SqL K H p vs/\Paired (TxP H) ws vs/\ws.Nodup/\ws.length < 64/\∀ q ws' vs',H q=none->ws'.Perm ws->ws'.Pairwise (fun x y=>enc x < enc y)->Paired (TxP H) ws' vs'->Q (.ref q) (upd H q (.lst vs')):=rfl
end
section
variable {X:Cx} {o e:Expr} {td ty to te:TE} {apos cpos:Pos}
noncomputable def cDGet1 (td ty:TE):TE:=fun σ H Q=>td σ H fun x H1=>match x with
 | .ref a=>IsD H1 a/\ty σ H1 fun y H2=>∃ o,DGet H2 a y o/\Q (o.getD .non) H2
 | _=>False
theorem uO (hu:X.A.units+1 < cLine) (ho:PE X o to) (he:PE X e te) (m:M1 X o "get" apos e cpos):PE X (.Call (.Attribute o "get" apos) [e] [] cpos) (cDGet1 to te):=
 (vt hu ho.mono he.mono m).imp fun σ H Q q=>⟨_,q,fun x H1 z=>by
  split at z
  ·obtain ⟨d,z⟩:=z;exact ⟨_,rfl,d,_,z,fun y H2 z2=>z2⟩
  ·exact z.elim⟩
theorem vo {td ty:TE} {σ:St} {H:Hp} {Q:VK}:cDGet1 td ty σ H Q=td σ H fun x H1=>match x with
 | .ref a=>IsD H1 a/\ty σ H1 fun y H2=>∃ o,DGet H2 a y o/\Q (o.getD .non) H2
 | _=>False:=rfl
end
class LenSp (sp:Sp) (n:outParam Nat):Prop where
 h:∀ vs H Q E,sp vs H Q E->vs.length=n
noncomputable def av (f:Addr->Sp):Sp:=fun vs H Q E=>match vs with
 | .ref x::r=>f x r H Q E
 | _=>False
theorem av.el {f:Addr->Sp} {vs:List V} {H:Hp} {Q:VK} {E:XK} (h:av f vs H Q E):Ex2 fun x r=>vs=.ref x::r/\f x r H Q E:=by
 unfold av at h;split at h
 ·exact ⟨_,_,rfl,h⟩
 ·exact h.elim
noncomputable def be (f:Int->Sp):Sp:=fun vs H Q E=>match vs with
 | .int x::r=>f x r H Q E
 | _=>False
theorem be.el {f:Int->Sp} {vs:List V} {H:Hp} {Q:VK} {E:XK} (h:be f vs H Q E):Ex2 fun x r=>vs=.int x::r/\f x r H Q E:=by
 unfold be at h;split at h
 ·exact ⟨_,_,rfl,h⟩
 ·exact h.elim
noncomputable def aZ (f:Str->Sp):Sp:=fun vs H Q E=>match vs with
 | .str x::r=>f x r H Q E
 | _=>False
theorem aZ.el {f:Str->Sp} {vs:List V} {H:Hp} {Q:VK} {E:XK} (h:aZ f vs H Q E):Ex2 fun x r=>vs=.str x::r/\f x r H Q E:=by
 unfold aZ at h;split at h
 ·exact ⟨_,_,rfl,h⟩
 ·exact h.elim
noncomputable def jR (f:Bool->Sp):Sp:=fun vs H Q E=>match vs with
 | .bl x::r=>f x r H Q E
 | _=>False
theorem jR.el {f:Bool->Sp} {vs:List V} {H:Hp} {Q:VK} {E:XK} (h:jR f vs H Q E):Ex2 fun x r=>vs=.bl x::r/\f x r H Q E:=by
 unfold jR at h;split at h
 ·exact ⟨_,_,rfl,h⟩
 ·exact h.elim
noncomputable def ky (f:V->Sp):Sp:=fun vs H Q E=>match vs with
 | x::r=>f x r H Q E
 | []=>False
theorem ky.el {f:V->Sp} {vs:List V} {H:Hp} {Q:VK} {E:XK} (h:ky f vs H Q E):Ex2 fun x r=>vs=x::r/\f x r H Q E:=by
 cases vs with
 | nil=>exact h.elim
 | cons x r=>exact ⟨x,r,rfl,h⟩
noncomputable def aE (f:Hp->VK->XK->Prop):Sp:=fun vs H Q E=>match vs with
 | []=>f H Q E
 | _::_=>False
theorem aE.el {f:Hp->VK->XK->Prop} {vs:List V} {H:Hp} {Q:VK} {E:XK} (h:aE f vs H Q E):vs=[]/\f H Q E:=by
 cases vs with
 | nil=>exact ⟨rfl,h⟩
 | cons x r=>exact h.elim
instance {f:Hp->VK->XK->Prop}:LenSp (aE f) 0:=⟨fun vs H Q E h=>by rw [(aE.el h).1]; rfl⟩
instance {f:Addr->Sp} {n:Nat} [i:∀ x,LenSp (f x) n]:LenSp (av f) (n+1):=⟨fun vs H Q E h=>by
 obtain ⟨x,r,e,h⟩:=av.el h;rw [e,List.length_cons,(i x).h r H Q E h]⟩
instance {f:Int->Sp} {n:Nat} [i:∀ x,LenSp (f x) n]:LenSp (be f) (n+1):=⟨fun vs H Q E h=>by
 obtain ⟨x,r,e,h⟩:=be.el h;rw [e,List.length_cons,(i x).h r H Q E h]⟩
instance {f:Str->Sp} {n:Nat} [i:∀ x,LenSp (f x) n]:LenSp (aZ f) (n+1):=⟨fun vs H Q E h=>by
 obtain ⟨x,r,e,h⟩:=aZ.el h;rw [e,List.length_cons,(i x).h r H Q E h]⟩
instance {f:Bool->Sp} {n:Nat} [i:∀ x,LenSp (f x) n]:LenSp (jR f) (n+1):=⟨fun vs H Q E h=>by
 obtain ⟨x,r,e,h⟩:=jR.el h;rw [e,List.length_cons,(i x).h r H Q E h]⟩
instance {f:V->Sp} {n:Nat} [i:∀ x,LenSp (f x) n]:LenSp (ky f) (n+1):=⟨fun vs H Q E h=>by
 obtain ⟨x,r,e,h⟩:=ky.el h;rw [e,List.length_cons,(i x).h r H Q E h]⟩
section
variable {X:Cx} {o:Expr} {to:TE} {apos cpos:Pos}
noncomputable def cClear (to:TE):TE:=fun σ H Q=>to σ H fun x H1=>match x with
 | .ref l=>(∃ xs,H1 l=some (.lst xs))/\Q .non (upd H1 l (.lst []))
 | _=>False
theorem mS (ho:PE X o to) (hbase:attributeBase o "clear" X.env (eval o X.env)=eval o X.env:=by rfl) (hline:(apos.endLine == cpos.line)=true:=by rfl):PE X (.Call (.Attribute o "clear" apos) [] [] cpos) (cClear to):=
 (ye PySem.F.plainAttrs_list PySem.F.slot_list_clear PySem.F.type_list_clear ux ho.mono hbase hline).imp fun σ H Q q=>⟨_,q,fun x H1 z=>by
  split at z
  ·rename_i l;obtain ⟨⟨xs,h⟩,z⟩:=z;exact ⟨.inl ⟨rfl,_,SqL.of h⟩,l,xs,rfl,rfl,h,z⟩
  ·exact z.elim⟩
theorem ur {σ:St} {H:Hp} {Q:VK}:cClear to σ H Q=to σ H fun x H1=>match x with
 | .ref l=>(∃ xs,H1 l=some (.lst xs))/\Q .non (upd H1 l (.lst []))
 | _=>False:=rfl
end
section
variable {prog:Program} {w:World} {A:Around} {E:Value->Shared->Prop} {s:Shared} {it d:Addr} {i ep:Nat} {es:Array DictEntry}
def RawD (h:Heap) (d:Addr) (es:Array DictEntry) (ep:Nat):Prop:=∃ o,h.get? d=some o/\o.ExactDict/\o.data=.dict es ep
theorem RawD.ty (hm:RawD s.heap d es ep):s.TypeIs (.ref d) "dict" := let ⟨o,ho,hc,_⟩:=hm; ⟨o,ho,hc.1⟩
theorem RawD.to {h h':Heap} (hm:RawD h d es ep) (k:∀ o,h.get? d=some o->h'.get? d=some o):RawD h' d es ep:=let ⟨o,ho,r⟩:=hm; ⟨o,k o ho,r⟩
theorem RawD.lt {h:Heap} (hm:RawD h d es ep):d < h.objs.size:=let ⟨_,ho,_⟩:=hm; Heap.lt_size ho
theorem o5 {Q:Value->Shared->Prop} (lo:(d == sysModules)=false) (hm:RawD s.heap d es ep)
  (q:Q (.ref s.heap.objs.size) { s with heap:=s.heap.push { cls:=.type "dict_keyiterator",data:=.fields #[.ref d,.int 0 0,.int es.size 0,.int ep 0] } }):wpAny (model prog w) A (pyIter (.ref d)) Q E s:=by
 have ty:=hm.ty;obtain ⟨o,ho,hc,hdat⟩:=hm;refine wpAny_pyIter_slot ty PySem.F.slot_dict_iter (wpAny_call_entry PySem.F.slot_dict_iter ty PySem.F.entry_dict_iter ?_ (PySem.F.args_dict_iter_1 _));unfold Builtin.«dict.__iter__»; refine wpAny_bind ?_; unfold Builtin.Dict.dictSlotNone; refine wpAny_bind (wpAny_notOrdered_dict ty ?_);change wpAny _ _ (pure _) _ _ s; refine wpAny_pure ?_; change wpAny _ _ (Builtin.Dict.showsAll d>>=_) _ _ s; unfold Builtin.Dict.showsAll; rw [if_neg (by simp [lo])];exact wpAny_bind (wpAny_pure (wpAny_bind (wpAny_dictEntries ho hdat (wpAny_bind (wpAny_dictEpoch ho hdat (wpAny_bind (wpAny_newObj_type (wpAny_pure ⟨_,rfl, "dict_keyiterator",_,⟨_,Heap.get?_push_size _ rfl,rfl⟩,PySem.F.slot_dict_keyiterator_next.lookup,by simpa [rawInt] using q⟩))))))))
theorem lQ {Q:Option Value->Shared->Prop} (hh:A.handled=none) (hit:s.heap.IsKeyIter it d i es.size ep) (hm:RawD s.heap d es ep)
  (one:∀ e h',es[i]? = some e->h'.IsKeyIter it d (i+1) es.size ep->Heap.SameBut it s.heap h'->Q (some e.key) { s with heap:=h' })
  (non:es[i]? = none->∀ h',Heap.ExtBut it s.heap h'->Q none { s with heap:=h' }):wpAny (model prog w) A (pyNext (.ref it)) Q E s:=by
 have ty:=hit.typeIs;obtain ⟨o,ho,hc,hd⟩:=id hit;obtain ⟨od,hod,_,hdd⟩:=id hm;unfold pyNext; refine wpAny_bind (wpAny_attempt (wpAny_callSpecial?_slot (name:=Str.ofString "__next__") ty PySem.F.slot_dict_keyiterator_next (wpAny_call_entry PySem.F.slot_dict_keyiterator_next ty PySem.F.entry_dict_keyiterator_next ?_ (PySem.F.args_dict_keyiterator_next_1 _))));refine wpAny_bind (wpAny_pure (wpAny_bind (wpAny_bind ?_))); refine wpAny_bind (wpAny_typeNameOfWhole_keyiter ty (wpAny_pure (wpAny_bind (wpAny_fieldsOf ho hd ?_))));simp only [show Builtin.Dict_items.ownsTuple "dict_keyiterator" = false by decide,if_false,Bool.false_eq_true];change wpAny _ _ (if (Value.ref d == Value.none)=true then _ else _) _ _ s;rw [if_neg (nofun:¬ ((Value.ref d == Value.none)=true))];refine wpAny_bind (wpAny_pure (wpAny_bind (wpAny_dictEntries hod hdd ?_))); rw [if_neg (by simp)];refine wpAny_bind (wpAny_pure (wpAny_bind (wpAny_dictEpoch hod hdd ?_))); rw [if_neg (by simp)]; refine wpAny_pure ?_;simp only [Int.toNat_natCast,show ¬ ((i:Int) < 0) by lia,if_false];cases he:es[i]? with
 | some e=>
  refine wpAny_bind ?_; refine wpAny_bind (wpAny_typeNameOfWhole_keyiter ty (wpAny_pure ?_)); refine wpAny_bind (wpAny_isOneOf_keyiter ty ?_);change wpAny _ _ (setField (.ref it) 1 (rawInt ((i:Int)+1))>>=_) _ _ s; refine wpAny_bind (wpAny_setField ho hd (by simp) ?_);have nx:(s.heap.update it (Obj.mapFields (·.setIfInBounds 1 (rawInt ((i:Int)+1))))).IsKeyIter it d (i+1) es.size ep:=⟨_,Heap.get?_update_self _ ho (Obj.isFreed_of_fields (Obj.data_mapFields hd _)),(Obj.cls_mapFields ..).trans hc,by rw [Obj.data_mapFields hd]; simp [rawInt]⟩;refine wpAny_bind (wpAny_holding (wpAny_bind (wpAny_isOneOf_keyiter (s:={ s with heap:=s.heap.update it (Obj.mapFields (·.setIfInBounds 1 (rawInt ((i:Int)+1)))) }) nx.typeIs ?_)));change wpAny _ _ (pure e.key) _ _ _; exact wpAny_pure (wpAny_pure ⟨_,rfl,wpAny_pure (one e _ he nx (Heap.SameBut.update ..))⟩)
 | none=>
  refine wpAny_bind ?_; refine wpAny_bind (wpAny_typeNameOfWhole_keyiter ty (wpAny_pure ?_));change wpAny _ _ (setField (.ref it) 0 .none>>=_) _ _ s; refine wpAny_bind (wpAny_setField ho hd (by simp) ?_);change wpAny _ _ (newExc (.type "StopIteration") []>>=_) _ _ _; refine wpAny_bind ?_; simp only [newTuple,newExc];refine wpAny_bind (wpAny_newObj_type (wpAny_bind (m:=firstArgMember _ _) (wpAny_of_eq (a:=Value.none) (by first | rfl | (unfold firstArgMember; rfl)) (wpAny_newObj_type ?_ (by size_fits)))) (by size_fits));simp only [raiseNew]; refine wpAny_bind (wpAny_handled ?_); rw [show A.in1.handled=_ from hh]; refine wpAny_bind (wpAny_pure (wpAny_throw ?_));refine wpAny_bind (wpAny_isInstance (b:=true) (T := "StopIteration") ⟨_,Heap.get?_push_size _ rfl,rfl⟩ isSubtype_stop (wpAny_pure (non he _ ?_)));exact ((Heap.SameBut.update ..).extBut.push _).push _
theorem rA (hh:A.handled=none) (I d:Addr) (ne:d≠I) (es:Array DictEntry) (ep:Nat):Walks prog w A I [I,d] [I] es.size (fun i v=>∃ e,es[i]? = some e/\v=e.key) (fun i h=>h.IsKeyIter I d i es.size ep/\RawD h d es ep) where
 sub:=fun b hb=>by simp only [List.mem_singleton] at hb; simp [hb]
 frame:=fun _ _ _ st k=>⟨Heap.IsKeyIter.at st.1 fun o e=>k I (by simp) o e,st.2.to fun o e=>k d (by simp) o e⟩
 item:=fun i s Q E hi st q=>lQ hh st.1 st.2 (fun e h' he it' sb=>q e.key h' s.toks ⟨e,he,rfl⟩ ⟨it',st.2.to fun o z=>sb.extBut d o ne z⟩ fun b o hb z=>sb.extBut b o (fun y=>hb (by simp [y])) z) fun he=>by simp [hi] at he
 done:=fun s Q E st q=>lQ hh st.1 st.2 (fun e h' he=>by simp at he) fun _ h' eb=>q h' s.toks fun b o hb z=>eb b o (fun y=>hb (by simp [y])) z
 self:=fun _ _ _ _ st q=>wpAny_pyIter_keyiter st.1 q
theorem vb (lo:(d == sysModules)=false):PySem.W.KdlSrc prog w "dict" d d es.size (fun i v=>∃ e,es[i]? = some e/\v=e.key) (fun h=>RawD h d es ep) where
 type:=fun _ hm=>hm.ty
 there:=fun _ hm=>⟨hm.lt,hm.lt⟩
 keep:=fun _ _ hm k=>hm.to fun o e=>k d (.inl rfl) o e
 notList:=by decide
 notTuple:=by decide
 hint:=fun _ _ _ _ hm q=>PySem.W.kdl_hint_dict hm.ty q
 iter:=fun _ _ hh hm=>⟨_,_,(fun _ _ q=>o5 lo hm q),rA hh _ d (Nat.ne_of_lt hm.lt) es ep,⟨⟨_,Heap.get?_push_size _ rfl,rfl,rfl⟩,hm.to fun o e=>Heap.get?_push_of_some _ e⟩⟩
end
section
variable {X:Cx}
theorem sW {H:Hp}:∀ {kvs:List (List Key × V)} {xs:List (List Key × Addr × Value)},KT H kvs xs->Paired (fun (kv:List Key × V) v=>∃ b,v=.ref b/\H b=some (.tup (kv.1.map kV))) kvs (xs.map fun x=>V.ref x.2.1)
 | _,_,.nil=>.nil
 | _,_,.cons h t=>.cons ⟨_,rfl,h.2.1⟩ (sW t)
noncomputable def kListD:List V->Hp->VK->Prop:=fun xs H Q=>match xs with
 | [.ref a]=>∃ kvs:List (List Key × V),H a=some (.dT kvs)/\∀ p vs,H p=none->Paired (fun (kv:List Key × V) v=>∃ b,v=.ref b/\H b=some (.tup (kv.1.map kV))) kvs vs->Q (.ref p) (upd H p (.lst vs))
 | _=>False
theorem sn (hc:X.calm=true):CallR X (.type "list") kListD:=by
 intro pins s σ H xs us Q I r q;unfold kListD at q;split at q
 ·obtain ⟨kvs,e,q⟩:=q;rename_i a;obtain ⟨u,rfl,ru⟩:=vals1 r;obtain rfl:u=Value.ref a:=ru;obtain ⟨z,lo,xs,kt,o,es,ep,ho,hx,hdat,hes,_⟩:=xK I.hok e;have hsz:es.size=xs.length:=size_of_entries hes;have hlen:kvs.length=xs.length:=Paired.length kt;refine tokQ I.tk (PySem.W.kdl_call (vb (es:=es) (ep:=ep) lo) (I.ok.hd hc) ⟨o,ho,hx,hdat⟩ (by lia) fun h' tk acc c' kp hl hi (htk:0 < tk)=>?_);have hacc:acc.toList=(xs.map fun x=>x.2.1).map Value.ref:=by
   refine List.ext_getElem? fun j=>?_
   rw [Array.getElem?_toList];cases hj:acc[j]? with
   | none=>
    have:=Array.getElem?_eq_none_iff.mp hj;rw [List.getElem?_eq_none (by rw [List.length_map,List.length_map]; have:=hi.1; lia)]
   | some v=>
    obtain ⟨e1,h1,rfl⟩:=hi.2 j v hj;rw [entry_at hes j] at h1;obtain ⟨x,hx1,rfl⟩:=Option.map_eq_some_iff.mp h1;rw [List.getElem?_map,List.getElem?_map,hx1];rfl
  refine ⟨.ref s.heap.objs.size,_,I.laid (a:=s.heap.objs.size) (o:=.lst (xs.map fun x=>V.ref x.2.1)) kp (Nat.le_refl _) ⟨?_,acc.toList,c',?_,by simpa using hl⟩,rfl,q _ _ I.fresh (sW kt)⟩
  ·rw [List.length_map]
   lia
  ·rw [hacc,show (xs.map fun x=>V.ref x.2.1)=(xs.map fun x=>x.2.1).map V.ref by rw [List.map_map]; rfl];exact oH _
 ·exact q.elim
theorem uF {a:Addr} {H:Hp} {Q:VK}:kListD [.ref a] H Q=∃ kvs:List (List Key × V),H a=some (.dT kvs)/\∀ p vs,H p=none->Paired (fun (kv:List Key × V) v=>∃ b,v=.ref b/\H b=some (.tup (kv.1.map kV))) kvs vs->Q (.ref p) (upd H p (.lst vs)):=rfl
end
section
variable {X:Cx}
end
section
variable {X:Cx}
end
section
variable {X:Cx} {o e:Expr} {to te:TE} {apos cpos:Pos}
end
theorem pI:typeLookup (.type "list") "keys" = pure none:=am_miss_of_fast (by kernel_rfl)
section
variable {prog:Program} {w:World} {A:Around} {E:Value->Shared->Prop} {s:Shared} {a:Addr} {its:Array Value} {n:Nat}
theorem tw {Q:Option Value->Shared->Prop} (hx:s.heap.get? a=some { cls:=.type "list",dict:=none,data:=.seq its n,slots:=#[] }) (hA:A.handled=none)
  (q:∀ h' tk,(∀ b o,s.heap.get? b=some o->h'.get? b=some o)->Q none { s with heap:=h',toks:=tk }):wpAny (model prog w) A (getAttr? (.ref a) "keys") Q E s:=by
 obtain ⟨hp,g,d,tk,os⟩:=s;have ty:∀ tk',(⟨hp,g,d,tk',os⟩:Shared).TypeIs (.ref a) "list" := fun _=>⟨_,hx,rfl⟩
 have g1:=sub_AttributeError; have g3:=PySem.F.slot_list_getattribute.lookup; have g4:=PySem.F.slot_list_getattribute.bind (.ref a); have g5:=am_list_getattr_none;unfold getAttr? getAttrBy? getAttrBy
 repeat (any_goals (first | assumption | exact ty _ | ((with_reducible show wpAny _ _ (call (Value.builtin "list.__getattribute__") _ _) _ _ _); refine call_meets PySem.F.slot_list_getattribute (ty _) am_entry_list_getattribute (PySem.F.args_list_getattribute_2 _ _) (meets_getattribute_miss_list a its n #[] "keys" _ pI (by decide) (by size_fits)) ⟨hx,hA,fun h' tk' e hx'=>?_⟩) | wp_step))
 obtain ⟨t',u',he⟩:=hx'.there;show wpAny _ _ (getattributeRaised _ _ _ _ _ _ _) _ _ _;unfold getattributeRaised
 repeat (any_goals (first | assumption | wp_step))
 exact q h' tk' hx'.keeps
end
theorem dF:plainId "dict.update.loop" = true:=by decide +kernel
theorem jq:entryFor table "dict.update.loop" = some Builtin.«dict.update.loop»:=entryFor_of_tree (by kernel_rfl)
section
variable {prog:Program} {w:World} {A:Around} {E:Value->Shared->Prop} {K:Type} [DecidableEq K] {knd:KeyKind prog w K}
theorem vp {s:Shared} {d I l t:Addr} {i n:Nat} {its:Array Value} {kvs:List (K × Value)} {k:K} {key v:Value} {o:Obj} {Q:PySem.Fin->Shared->Prop} (hit:s.heap.IsListIter I l i) (hl:s.heap.IsList l its) (hx:its[i]? = some (.ref t)) (ht:s.heap.get? t=some o) (tc:o.cls=.type "tuple") (td:o.data=.seq #[key,v] n)
  (hk:knd.is k key=true) (hd:s.heap.DictOf knd d kvs) (hz:kvs.length<=sizeLine) (nt:t≠I) (nd:d≠I)
  (q:∀ h' tk,h'.IsListIter I l (i+1)->h'.DictOf knd d (stored kvs k v)->(∀ b o,b≠I->b≠d->s.heap.get? b=some o->h'.get? b=some o)->Q (.again (.builtin "dict.update.loop" ⟨[.ref d,.ref I,rawInt ((i:Int)+1),.none],[]⟩)) { s with heap:=h',toks:=tk }):
  wpAny (model prog w) A (Builtin.«dict.update.loop» ⟨[.ref d,.ref I,rawInt i,.none],[]⟩) Q E s:=by
 unfold Builtin.«dict.update.loop»;refine wpAny_bind (wpAny_pyNext_list_item hit hl hx fun h1 hit1 sb=>?_);have ht1:=sb.extBut t _ nt ht;have hT:({ s with heap:=h1 }:Shared).TypeIs (.ref t) "tuple" := ⟨_,ht1,tc⟩;have hd1:h1.DictOf knd d kvs:=by
  obtain ⟨o,es,ep,ho,r⟩:=hd;exact ⟨o,es,ep,sb.extBut d o nd ho,r⟩
 change wpAny _ _ (holding [Value.ref t] _>>=_) _ _ _;refine wpAny_bind (wpAny_holding (wpAny_bind ?_));change wpAny _ _ (tryCatch _ _) _ _ _;refine wpAny_tryCatch ?_;unfold Builtin.Dict.pairItems;refine wpAny_bind (wpAny_typeOf hT ?_);rw [if_pos (by decide)];refine wpAny_bind (wpAny_seqItems ht1 td (wpAny_pure ?_));change wpAny _ _ (holding [key,v] (dictSet d key v)) _ _ _;unfold dictSet;refine wpAny_holding (wpAny_holding (wpAny_bind (knd.pyHash hk (wpAny_dictSetHashed_pairs (s:={ s with heap:=h1,toks:=s.toks+1 }) hk hd1 (fun h2 hd2 sb2=>?_) hz))));change wpAny _ _ (pure _) _ _ _;refine wpAny_pure (q h2 (s.toks+1) ?_ hd2 fun b o n1 n2 e=>sb2.extBut b o n2 (sb.extBut b o n1 e));obtain ⟨o,ho,r⟩:=hit1;exact ⟨o,sb2.extBut I o (Ne.symm nd) ho,r⟩
theorem w9 {s:Shared} {d I l:Addr} {i:Nat} {its:Array Value} {Q:PySem.Fin->Shared->Prop} (hh:A.handled=none) (hit:s.heap.IsListIter I l i) (hl:s.heap.IsList l its) (hx:its[i]? = none)
  (q:∀ h',Heap.ExtBut I s.heap h'->Q (.done (.ret .none)) { s with heap:=h' }):wpAny (model prog w) A (Builtin.«dict.update.loop» ⟨[.ref d,.ref I,rawInt i,.none],[]⟩) Q E s:=by
 unfold Builtin.«dict.update.loop»;refine wpAny_bind (wpAny_pyNext_list_end hh hit hl hx fun h1 eb=>?_);change wpAny _ _ (Builtin.Dict.addKeywords d []>>=_) _ _ _;exact wpAny_bind (wpAny_pure (wpAny_pure (q h1 eb)))
def PairAt (knd:KeyKind prog w K) (h:Heap) (p:K × Value) (u:Value):Prop:=Ex4 fun (t n:Nat) (key:Value) (o:Obj)=>u=.ref t/\h.get? t=some o/\o.cls=.type "tuple" /\ o.data=.seq #[key,p.2] n/\knd.is p.1 key=true
theorem vw {d I l:Addr} {its:Array Value} {R:Result->Shared->Prop} (hh:A.handled=none) (nd:d≠I) (nl:l≠I) (nld:l≠d) (ps:List (K × Value)) (hlen:ps.length=its.size) (hsz:ps.length<=100000):
  ∀ (m i:Nat) (s:Shared) (kvs:List (K × Value)),its.size - i=m->i<=its.size->s.heap.IsListIter I l i->s.heap.IsList l its->s.heap.DictOf knd d kvs->kvs.length<=i->(∀ (j:Nat) p u,ps[j]? = some p->its[j]? = some u->PairAt knd s.heap p u) ->
   (∀ h' tk,h'.DictOf knd d ((ps.drop i).foldl (fun a p=>stored a p.1 p.2) kvs)->(∀ b o,b≠I->b≠d->s.heap.get? b=some o->h'.get? b=some o)->R (.ok (.ret .none)) { s with heap:=h',toks:=tk }) ->
   codeAny (model prog w) A (.builtin "dict.update.loop" ⟨[.ref d,.ref I,rawInt i,.none],[]⟩) R s:=by
 intro m
 induction m with
 | zero=>
  intro i s kvs hm hi hit hl hd hk hp q;refine codeAny_builtin jq ?_;rw [Around.under_plainId dF];refine w9 hh hit hl (by simp; lia) fun h' eb=>q h' s.toks ?_ fun b o n1 _ e=>eb b o n1 e
  rw [List.drop_eq_nil_of_le (by lia)];obtain ⟨o,es,ep,ho,r⟩:=hd;exact ⟨o,es,ep,eb d o nd ho,r⟩
 | succ m ih=>
  intro i s kvs hm hi hit hl hd hk hp q;have hlt:i < its.size:=by lia
  have hlp:i < ps.length:=by lia
  obtain ⟨t,n,key,ot,eu,ht,tc,td,hkey⟩:=hp i ps[i] its[i] (List.getElem?_eq_getElem hlp) (Array.getElem?_eq_getElem hlt);have nt:t≠I:=fun z=>by
   obtain ⟨o,ho,hc,_⟩:=hit;rw [z,ho] at ht;cases ht;rw [tc] at hc; exact absurd hc (by simp)
  refine codeAny_builtin jq ?_;rw [Around.under_plainId dF];refine vp hit hl (t:=t) (by rw [Array.getElem?_eq_getElem hlt,eu]) ht tc td hkey hd (Nat.le_trans hk (Nat.le_trans hi (by rw [<- hlen]; exact Nat.le_trans hsz (by decide)))) nt nd fun h1 tk hit1 hd1 kp=>⟨plainId_quiet dF _,?_⟩
  have hl1:h1.IsList l its:=by
   obtain ⟨o,ho,r⟩:=hl;exact ⟨o,kp l o nl nld ho,r⟩
  have hc:((i:Int)+1)=((i+1:Nat):Int):=by push_cast; rfl
  rw [hc];refine ih (i+1) { s with heap:=h1,toks:=tk } _ (by lia) (by lia) hit1 hl1 hd1 (Nat.le_trans (stored_length_le _ _ _) (by lia)) (fun j p u hj hu=>?_) fun h2 tk2 hd2 kp2=>?_
  ·obtain ⟨t',n',key',o',e1,e2,tc,td',e3⟩:=hp j p u hj hu;refine ⟨t',n',key',o',e1,kp t' _ (fun z=>?_) (fun z=>?_) e2,tc,td',e3⟩
   ·obtain ⟨o,ho,hc,_⟩:=hit;rw [z,ho] at e2;cases e2;rw [tc] at hc; exact absurd hc (by simp)
   ·obtain ⟨o,es,ep,ho,hc,_⟩:=hd;rw [z,ho] at e2;cases e2;have hc:=hc.1; rw [tc] at hc; exact absurd hc (by simp)
  ·refine q h2 tk2 ?_ fun b o n1 n2 e=>kp2 b o n1 n2 (kp b o n1 n2 e)
   rw [List.drop_eq_getElem_cons hlp];exact hd2
theorem mZ:∀ (ps kvs:List (K × Value)),((kvs++ps).map (·.1)).Nodup->ps.foldl (fun a p=>stored a p.1 p.2) kvs=kvs++ps
 | [],kvs,_=>by simp
 | p::ps,kvs,h=>by
  have hn:valueAt kvs p.1=none:=by
   unfold valueAt;rw [List.find?_eq_none.mpr fun x hx=>?_]
   ·rfl
   ·rw [List.map_append,List.map_cons,List.nodup_append] at h;exact fun e=>h.2.2 x.1 (List.mem_map.mpr ⟨x,hx,rfl⟩) p.1 List.mem_cons_self (by simpa using e)
  rw [List.foldl_cons,stored_absent hn,mZ ps _ (by simpa using h)];simp
theorem rm {s:Shared} {l:Addr} {its:Array Value} {n:Nat} {Q:Value->Shared->Prop} (hh:A.handled=none) (hl:s.heap.get? l=some { cls:=.type "list",dict:=none,data:=.seq its n,slots:=#[] }) (ps:List (K × Value)) (hlen:ps.length=its.size) (hsz:ps.length<=100000) (nd:(ps.map (·.1)).Nodup)
  (hp:∀ (j:Nat) p u,ps[j]? = some p->its[j]? = some u->PairAt knd s.heap p u)
  (q:∀ h' tk,h'.DictOf knd s.heap.objs.size ps->(∀ b o,s.heap.get? b=some o->h'.get? b=some o)->Q (.ref s.heap.objs.size) { s with heap:=h',toks:=tk }):wpAny (model prog w) A (call (.type "dict") [.ref l]) Q E s:=by
 refine callType_codes (Q₁:=fun obj s₁=>obj=.ref s.heap.objs.size/\s₁ = { s with heap:=s.heap.push { cls:=.type "dict",data:=.dict #[] } }) PySem.F.kt_called_dict (PySem.F.kt_typeCall_dict_1 _) PySem.F.entry_dict_init (kt_code_dict_new _ ⟨rfl,rfl⟩) ?_;rintro obj s₁ ⟨rfl,rfl⟩;have new:(s.heap.push { cls:=.type "dict",data:=.dict #[] }).DictOf knd s.heap.objs.size []:=Heap.DictOf.new s.heap;have hl1:=Heap.get?_push_of_some (h:=s.heap) { cls:=.type "dict",data:=.dict #[] } hl;have lt:l < s.heap.objs.size:=Heap.lt_size hl;refine ⟨new.typeIs,PySem.F.args_dict_init_2 _ _,?_⟩;unfold Builtin.«dict.__init__»; refine wpAny_bind ?_; unfold Builtin.Dict.selfAndRest; refine wpAny_bind (wpAny_notOrdered_dict new.typeIs ?_);change wpAny _ _ (pure (s.heap.objs.size,[Value.ref l])) _ _ _; refine wpAny_pure ?_;change wpAny _ _ (Builtin.Dict.updateFrom "dict.__init__" s.heap.objs.size (.ref l) [] .none) _ _ _; unfold Builtin.Dict.updateFrom;refine wpAny_bind (wpAny_typeOf (T := "list") ⟨_,hl1,rfl⟩ ?_);rw [if_pos (by decide)];refine wpAny_bind (tw hl1 hh fun h1 tk1 kp1=>?_);rw [if_pos (show (none:Option Value).isNone=true from rfl)];have hl2:h1.IsList l its:=⟨_,kp1 _ _ hl1,rfl,n,rfl⟩;have sz:s.heap.objs.size < h1.objs.size:=by
  obtain ⟨o,es,ep,ho,_⟩:=new;exact Heap.lt_size (kp1 _ _ ho)
 refine wpAny_bind (wpAny_rule ?_);refine wpAny_bind (wpAny_pyIter_list (s:={ s with heap:=h1,toks:=tk1 }) hl2 ?_);refine wpAny_pure ⟨plainId_quiet dF _,?_⟩;have old:∀ b o,s.heap.get? b=some o->(h1.push { cls:=.type "list_iterator",data:=.fields #[.ref l,.int 0 0] }).get? b=some o:=fun b o e=>Heap.get?_push_of_some _ (kp1 _ _ (Heap.get?_push_of_some _ e))
 have new2:(h1.push { cls:=.type "list_iterator",data:=.fields #[.ref l,.int 0 0] }).DictOf knd s.heap.objs.size []:=by
  obtain ⟨o,es,ep,ho,r⟩:=new;exact ⟨o,es,ep,Heap.get?_push_of_some _ (kp1 _ _ ho),r⟩
 refine vw (A:=A.in1) (s:={ s with heap:=h1.push { cls:=.type "list_iterator",data:=.fields #[.ref l,.int 0 0] },toks:=tk1 }) (knd:=knd) (show A.in1.handled=none from hh) (Nat.ne_of_lt sz) (Nat.ne_of_lt (Nat.lt_trans lt sz)) (Nat.ne_of_lt lt) ps hlen hsz its.size 0 [] rfl (Nat.zero_le _) ⟨_,Heap.get?_push_size _ rfl,rfl,rfl⟩ (hl2.push _) new2 (Nat.le_refl _) (fun j p u hj hu=>?_) fun h2 tk2 hd2 kp2=>⟨rfl,?_⟩
 ·obtain ⟨t,n',key,o',e1,e2,e3⟩:=hp j p u hj hu;exact ⟨t,n',key,o',e1,old _ _ e2,e3⟩
 ·rw [List.drop_zero,mZ ps [] (by simpa using nd),List.nil_append] at hd2;refine q h2 tk2 hd2 fun b o e=>kp2 b o (fun z=>?_) (fun z=>?_) (old b o e)
  ·have:=Heap.lt_size e;rw [z] at this;exact Nat.lt_asymm this sz
  ·exact Nat.lt_irrefl _ (z ▸ Heap.lt_size e)
end
section
variable {X:Cx}
noncomputable def kDictP:List V->Hp->VK->Prop:=fun xs H Q=>match xs with
 | [.ref p]=>Ex2 fun (vs:List V) (kvs:List (Key × V))=>H p=some (.lst vs)/\kvs.length<=100000/\(kvs.map (·.1)).Nodup/\Paired (fun (kv:Key × V) v=>∃ t,v=.ref t/\H t=some (.tup [kV kv.1,kv.2])) kvs vs/\∀ d,H d=none->Q (.ref d) (upd H d (.dK kvs))
 | _=>False
theorem nq {P:Program} {w:World} {H:Hp} {h:Heap} (ok:HOk P w H h):∀ {kvs:List (Key × V)} {vs:List V} {us:List Value},Paired (fun (kv:Key × V) v=>∃ t,v=.ref t/\H t=some (.tup [kV kv.1,kv.2])) kvs vs->Vals vs us->∃ ps:List (Key × Value),KV kvs ps/\Paired (PairAt (mixKind P w) h) ps us
 | _,_,_,.nil,.nil=>⟨[],.nil,.nil⟩
 | kv::kvs,_,u::us,.cons ⟨t,rfl,ht⟩ p,.cons ru r=>by
  obtain ⟨ps,h1,h2⟩:=nq ok p r;cases ru;obtain ⟨_,its,rv,o,e1,e2,n,e3⟩:=(show ObjOk P w H h t (.tup [kV kv.1,kv.2]) from ok t _ ht);cases rv with
  | cons r1 rv=>cases rv with
   | cons r2 rv=>
    cases rv;exact ⟨(kv.1,_)::ps,.cons ⟨rfl,r2⟩ h1,.cons ⟨t,n,_,o,rfl,e1,e2,e3,q5 r1⟩ h2⟩
theorem nv (hc:X.calm=true):CallR X (.type "dict") kDictP:=by
 intro pins s σ H xs us Q I r q;unfold kDictP at q;split at q
 ·rename_i p;obtain ⟨vs,kvs,hp,hn,nd,pr,q⟩:=q;obtain ⟨u,rfl,ru⟩:=vals1 r;cases ru;obtain ⟨z,its,n,rl,hl,e⟩:=I.lstM hp;obtain ⟨ps,kv,pa⟩:=nq I.hok pr rl;have hl1:kvs.length=ps.length:=Paired.length kv;have hl2:ps.length=its.length:=Paired.length pa;have hk:kvs.map (·.1)=ps.map (·.1):=KV.keys kv;refine tokQ I.tk (rm (knd:=mixKind X.prog X.w) (I.ok.hd hc) e ps (by simp [hl2]) (by lia) (by rw [<- hk]; exact nd) (fun j x u hj hu=>?_) fun h' tk dd kp (htk:0 < tk)=>?_)
  ·obtain ⟨u',hu',h1⟩:=aA pa hj;rw [List.getElem?_toArray,hu'] at hu;cases hu;exact h1
  ·refine ⟨.ref s.heap.objs.size,_,I.laid (a:=s.heap.objs.size) (o:=.dK kvs) kp (Nat.le_refl _) (rq (Nat.le_trans hn (by decide)) ?_ kv dd),rfl,q _ I.fresh⟩;have:=I.big;simp only [beq_eq_false_iff_ne];exact Nat.ne_of_gt this
 ·exact q.elim
theorem vv {p:Addr} {H:Hp} {Q:VK}:kDictP [.ref p] H Q=Ex2 fun (vs:List V) (kvs:List (Key × V))=>H p=some (.lst vs)/\kvs.length<=100000/\(kvs.map (·.1)).Nodup/\Paired (fun (kv:Key × V) v=>∃ t,v=.ref t/\H t=some (.tup [kV kv.1,kv.2])) kvs vs/\∀ d,H d=none->Q (.ref d) (upd H d (.dK kvs)):=rfl
end
theorem sP:bootBuiltins "dict" = some (.type "dict"):=by decide +kernel
section
variable {X:Cx}
end
section
variable {X:Cx}
end
section
variable {K:Frag}
end
section
variable {prog:Program} {w:World} {A:Around} {R:Result->Shared->Prop} {I:Addr} {fp wr:List Addr} {n:Nat} {P:Nat->Value->Prop} {St:Nat->Heap->Prop}
end
section
variable {prog:Program} {w:World} {A:Around} {E:Value->Shared->Prop} {s:Shared}
end
section
variable {X:Cx} {e d:Expr} {ta tk:TA} {p pos kp:Pos}
end
section
variable {X:Cx} {k:Nat} {x:Str} {ps:List Str} {sp:Sp} {p pos:Pos} {e:Expr} {es:List Expr} {t:TA} {E:XK}
end
structure FunD (K:Frag) (x qual:Str) (st:Stmt) (f:Addr) (fd:FuncData) (items:Array Value):Prop where
 ex:Ex7 fun (oc:Value) (od:Option Addr) (T:Addr) (kV doc pm:Value) (an:Option Addr)=>Ex5 fun (cdv ct:Value) (osl:Array (Option Value)) (o:Obj) (n:Nat)=>
  fd=fnOf x qual (defArgs st) (defBody st) (defScope st) (.ref T) kV doc pm an cdv ct/\K.lookup f=some ⟨oc,od,.func fd,osl⟩/\codeIn K cdv qual=true/\K.lookup T=some o/\o.data=.seq items n
 kp:keepIn K (.ref f)=true
def MkD (K:Frag) (x qual:Str) (st:Stmt) (items:Array Value):Prop:=Ex2 fun f fd=>Mk K (xA K x) f/\FunD K "__init__" qual st f fd items
def KCalD (P:Program) (w:World) (K:Frag) (mg:Str->Option Value) (base:Heap) (k:Nat) (x:Str) (ps:List Str) (ds:List Value) (sp:Sp):Prop:=
 Ex2 fun f fd=>FnOk P w K mg base CX0 k f fd ps sp/\Binds K fd ps ds/\Mk K (xA K x) f
theorem MkD.cal {P:Program} {w:World} {K:Frag} {mg:Str->Option Value} {base:Heap} {x qual:Str} {st:Stmt} {N ps:List Str} {ds:List Value} {k:Nat} {sp:Sp} (F:MkD K x qual st ds.toArray) (S:FnScope N ps (defScope st)) (len:∀ vs H Q E,sp vs H Q E->vs.length=ps.length)
  (hb:∀ (T:Addr) (kV doc pm:Value) (an:Option Addr) (cdv ct:Value) (us:List Value),(us++ds).length=ps.length->∃ k,bindArgs (fnOf "__init__" qual (defArgs st) (defBody st) (defScope st) (.ref T) kV doc pm an cdv ct) ⟨us,[]⟩=(seqItems? (.ref T)>>=k)/\k (some ds.toArray)=pure (ps.zip (us++ds)))
  (hbody:∀ (f:Addr) (cdv:Value) (A:Around) (outer:List Env) (s:Shared) (H:Hp) (vs:List V) (Q:VK) (E:XK),Room k (A.deeper (envOfC qual (defScope st) s.heap.objs.size f cdv))->sp vs H Q E ->
   ∃ t,PSs (cxOf CX0 P w K mg base N qual (defScope st) f cdv A outer s H E).nox (defBody st) t/\t { nx:=fun _ H'=>Q .non H',rt:=Q } (start N vs) H):KCalD P w K mg base (k+1) x ps ds sp:=by
 obtain ⟨f,fd,M,⟨oc,od,T,kV,doc,pm,an,cdv,ct,osl,o,n,rfl,lk,hcd,lT,hT⟩,kp⟩:=F;refine ⟨f,_,xJ lk hcd S len fun A outer s H vs Q E hr hsp=>?_,fun s us KX hl=>?_,M⟩
 ·obtain ⟨t,h,q⟩:=hbody f cdv A outer s H vs Q E hr hsp;exact ⟨t,h.nox,q⟩
 ·obtain ⟨k',h1,h2⟩:=hb T kV doc pm an cdv ct us hl;exact BindsTo.of_defaults (T:=T) rfl (KX _ _ lT) hT h1 h2
section
variable {X:Cx} {k:Nat} {x:Str} {ps:List Str} {sp:Sp} {p pos:Pos} {e:Expr} {es:List Expr} {t:TA} {ds:List Value} {dvs:List V}
theorem ut (C:ClsT X.K X.mg x) (M:KCalD X.prog X.w X.K X.mg X.base k x ps ds sp) (hv:Vals dvs ds) (hr:Room (k+1) X.A) (hg:Gl X x) (ha:PA X (e::es) t) (hd:(x == ("__debug__" : Str))=false:=by decide)
  (he:starEach (e::es) X.env=(false,eval e X.env)::starEach es X.env:=by rfl) (hpl:(backTo pos (starEach es X.env)).any (·.1)=false:=by rfl):PE X (.Call (.Name x p) (e::es) [] pos) (tMake (xA X.K x) sp dvs E0 t):=by
 obtain ⟨f,fd,F,b,M⟩:=M;exact sO M F hr hg C.m b hv pass0 ha hd he hpl
end
section
variable {K:Frag} {x qual:Str} {C f:Addr} {st:Stmt} {fd:FuncData} {items:Array Value}
theorem yi (n:nsIn K mainGlobals x=some (some (.ref C))) (mk:PySem.W.makesIn K C=true) (kc:keepIn K (.ref C)=true) (a:findIn K (.ref C) "__init__" = some (some (.ref f))) (w:PySem.W.isFn K (.ref f)=true) (F:FunD K "__init__" qual st f fd items):MkD K x qual st items:=
 ⟨f,fd,by rw [oI n]; exact ⟨mk,a,w,kc⟩,F⟩
theorem vX {x qual:Str} {oc:Value} {od an odT:Option Addr} {osl oslT:Array (Option Value)} {kV doc pm cdv ct ocT:Value} {T:Addr} {n:Nat} (l:K.lookup f=some ⟨oc,od,.func (fnOf x qual (defArgs st) (defBody st) (defScope st) (.ref T) kV doc pm an cdv ct),osl⟩)
  (c:codeIn K cdv qual=true) (k:keepIn K (.ref f)=true) (lT:K.lookup T=some ⟨ocT,odT,.seq items n,oslT⟩):FunD K x qual st f (fnOf x qual (defArgs st) (defBody st) (defScope st) (.ref T) kV doc pm an cdv ct) items:=
 ⟨⟨oc,od,T,kV,doc,pm,an,cdv,ct,osl,_,n,rfl,l,c,lT,rfl⟩,k⟩
end
section
variable {X:Cx} {o:Expr} {to:TE} {tg:Expr}
end
section
variable {X:Cx}
noncomputable def kNotInU (K:Frag):R2:=fun x y H Q=>match x,y with
 | .ref r,.ref p=>Ex2 fun zs xs=>SqT K H p xs/\H r=some (.tup zs)/\zs.all flatV=true/\(∀ y ∈ xs,FlatT H y)/\Q (.bl (!xs.any (tupEq H zs))) H
 | _,_=>False
theorem oG (K:Frag) (hK:X.K=K) {k:Nat} (hr:Room k X.A):OpR X (compareOp .NotIn) (kNotInU K):=by
 subst hK;intro pins s σ H x y v u Q I rx ry q;unfold kNotInU at q;split at q
 ·rename_i r p;obtain ⟨zs,xs,hq,hz,fz,fs,q⟩:=q;cases rx;cases ry;obtain ⟨its,rv,pl,_⟩:=I.tuple hq;refine SeqAt.notIn_tupleAt (tupEqU H zs) pl (fun w hw=>?_) ⟨.bl _,H,I,rfl,?_⟩
  ·have hw:w ∈ its:=by simpa using hw
   obtain ⟨y,hy,ry⟩:=dk rv w hw;obtain ⟨t,ys,rfl,ht,fy⟩:=fs y hy;cases ry;have:=jF I 1 X.A.in1 (.ref t) (.ref r) (.t (ys.map D.f)) (.t (zs.map D.f)) (.ref t) (.ref r) (by have:=hr.un; show X.A.units+1+1 < _; lia) (.inr (.inr ⟨t,ys,_,rfl,rfl,SqT.of ht,fR fy⟩)) (.inr (.inr ⟨r,zs,_,rfl,rfl,SqT.of hz,fR fz⟩)) rfl rfl;have e:tupEqU H zs (.ref t)=eqD (.t (ys.map D.f)) (.t (zs.map D.f)):=by
    show tupEq H zs (.ref t)=_;unfold tupEq;simp only [ht];rw [eqD]
   rw [e];exact this
  ·rw [show its.toArray.any (tupEqU H zs)=its.any (tupEqU H zs) by simp,ke rv fs];exact q
 ·exact q.elim
theorem tq {K:Frag} {r p:Addr} {H:Hp} {Q:VK}:kNotInU K (.ref r) (.ref p) H Q=Ex2 fun zs xs=>SqT K H p xs/\H r=some (.tup zs)/\zs.all flatV=true/\(∀ y ∈ xs,FlatT H y)/\Q (.bl (!xs.any (tupEq H zs))) H:=rfl
end
theorem xL {X:Cx} {e:Expr}:PE X e (fun _ _ _=>False):=fun _ _ _ _ _ _ h=>h.elim
noncomputable def Ito (a:Addr) (o:Obj):It:=⟨fun _ _=>False,fun _ _ _ _=>False,fun i H=>H a=some (.frz o (.dK []))/\i=0⟩
section
variable {X:Cx} {o:Expr} {to:TE} {tg:Expr}
theorem qZ {pins:List (Addr × Obj)} {σ:St} {H:Hp} {s:Shared} {a:Addr} {o:Obj} (I:Inv X pins σ H s) (e:H a=some (.frz o (.dK []))):Ex2 fun es ep=>o.data=.dict es ep/\RawD s.heap a es ep/\es.size=0/\(a == sysModules)=false:=by
 obtain ⟨h1,_,hd,xs,rel,ob,es,ep,hq,he,hdt,_,hes,_⟩:=(show ObjOk X.prog X.w H s.heap a (.frz o (.dK [])) from I.hok a _ e);rw [h1] at hq;cases hq;cases rel;exact ⟨es,ep,hdt,⟨o,h1,he,hdt⟩,by simpa using hes.length,hd⟩
theorem ul {P:Program} {w:World} {K:Frag} {tg:Expr} (a it:Addr) (hne:a≠it) (o:Obj) (es:Array DictEntry) (hep:o.data=.dict es (epOf o)) (hl:es.size=0):
  Turn P w K tg (Ito a o) [it] it (fun i h=>h.IsKeyIter it a i es.size (epOf o)) where
 mem:=by simp
 obj:=fun i h st b hb=>by
  obtain ⟨ob,he,hc,hd⟩:=st;have e:b=it:=by simpa using hb
  subst e;exact ⟨_,he,fun v z=>by rw [hd] at z; cases z⟩
 keep:=fun i h h' st k=>Heap.IsKeyIter.at st fun o e=>k it (by simp) o e
 item:=by
  intro X hP hw hK hc i pins s σ H E I hf st hg;exact hg.elim
 done:=by
  intro X hP hw hK hc i pins s σ H E I hf st hg;subst hP hw hK;obtain ⟨hq,rfl⟩:=hg;obtain ⟨es',ep,hdat,hm,hes,_⟩:=qZ I hq;rw [hep] at hdat;cases hdat;refine lQ (I.ok.hd hc) st hm (fun e h' he=>?_) fun _ h' hx=>⟨rfl,I.turnedL (its:=[it]) (fun b o hb q=>hx b o (by simpa using hb) q) hf I.tk⟩
  rw [Array.getElem?_eq_none (by lia)] at he;cases he
 self:=fun A i s Q E st h=>wpAny_pyIter_keyiter st h
noncomputable def cNone (to:TE):TI:=fun σ H R=>to σ H fun x H1=>match x with
 | .ref a=>∃ ob,H1 a=some (.frz ob (.dK []))/\R (Ito a ob) H1
 | _=>False
theorem wu (ho:PE X o to):PI X tg o (cNone to):=by
 intro pins s σ H R I h;refine thn (ho pins s σ H _ I h) fun u s1 ⟨x,H1,I1,rx,q1⟩=>?_
 dsimp only at q1;split at q1
 ·rename_i a;obtain ⟨ob,e1,q1⟩:=q1;obtain rfl:u=Value.ref a:=rx;obtain ⟨es,ep,hdat,hm,hsz,lo⟩:=qZ I1 e1;have hep:ob.data=.dict es (epOf ob):=by
   rw [hdat];unfold epOf;rw [hdat]
  have e2:ep=epOf ob:=by
   unfold epOf;rw [hdat]
  subst e2;refine o5 lo hm ?_;refine ⟨_,[_],_,Ito a ob,H1,rfl,I1.kept (t':=s1.toks) fun b o e=>Heap.get?_push_of_some _ e,ul a _ (Nat.ne_of_lt hm.lt) ob es hep hsz,⟨_,Heap.get?_push_size _ rfl,rfl,rfl⟩,fun b hb=>?_,q1⟩;have e:=List.mem_singleton.mp hb;subst e;exact I1.fpOk (Nat.le_refl _) (I1.hok.fresh (Nat.le_refl _))
 ·exact q1.elim
theorem xa {σ:St} {H:Hp} {R:It->Hp->Prop}:cNone to σ H R=to σ H fun x H1=>match x with
 | .ref a=>∃ ob,H1 a=some (.frz ob (.dK []))/\R (Ito a ob) H1
 | _=>False:=rfl
end
end L2
set_option maxHeartbeats 4000000
namespace L2
open PySem PySem.Spec PyProof.Rows
theorem lc {c:Scope} {x:Str} (h:Loc c x:=by first | exact Or.inl rfl | exact Or.inr rfl):Loc c x:=h
theorem Room.m {j k:Nat} {A:Around} (r:Room k A) (h:j<=k:=by first | decide | exact Nat.le_refl _ | exact Nat.le_succ _ | exact Nat.le_add_left _ _ | lia):Room j A:=r.mono h
end L2
namespace Law
open PySem L2 Mir
noncomputable def top (i:Nat):Stmt:=PySem.Challenge.pw_throng_k60_deeds_of_a_keeper.main.body.getD i (.Pass ⟨0,0,0,0⟩)
noncomputable abbrev nj:Stmt:=top 2
theorem uk:FnScope ["thing", "width"] ["thing", "width"] (defScope nj):=⟨rfl,rfl,rfl,by decide +kernel,rfl,by decide +kernel,by decide +kernel⟩
noncomputable abbrev i7:Stmt:=top 3
theorem pK:FnScope ["thing", "width"] ["thing", "width"] (defScope i7):=⟨rfl,rfl,rfl,by decide +kernel,rfl,by decide +kernel,by decide +kernel⟩
noncomputable abbrev iN:Stmt:=top 4
theorem jO:FnScope ["thing", "width", "signs", "sign"] ["thing", "width", "signs"] (defScope iN):=⟨rfl,rfl,rfl,by decide +kernel,rfl,by decide +kernel,by decide +kernel⟩
noncomputable abbrev du:Stmt:=top 17
theorem mC:FnScope ["layout"] ["layout"] (defScope du):=⟨rfl,rfl,rfl,by decide +kernel,rfl,by decide +kernel,by decide +kernel⟩
noncomputable abbrev iU:Stmt:=top 18
theorem cY:FnScope ["layout", "name", "first", "field", "size"] ["layout", "name"] (defScope iU):=⟨rfl,rfl,rfl,by decide +kernel,rfl,by decide +kernel,by decide +kernel⟩
noncomputable abbrev fV:Stmt:=top 20
theorem mz:FnScope ["number", "count"] ["number", "count"] (defScope fV):=⟨rfl,rfl,rfl,by decide +kernel,rfl,by decide +kernel,by decide +kernel⟩
noncomputable abbrev eM:Stmt:=top 21
theorem lM:FnScope ["rules", "number"] ["rules", "number"] (defScope eM):=⟨rfl,rfl,rfl,by decide +kernel,rfl,by decide +kernel,by decide +kernel⟩
noncomputable abbrev fX:Stmt:=top 23
theorem my:FnScope ["thing", "longest"] ["thing", "longest"] (defScope fX):=⟨rfl,rfl,rfl,by decide +kernel,rfl,by decide +kernel,by decide +kernel⟩
noncomputable abbrev iF:Stmt:=top 25
theorem gM:FnScope ["house", "door", "gate", "rules"] ["house", "door"] (defScope iF):=⟨rfl,rfl,rfl,by decide +kernel,rfl,by decide +kernel,by decide +kernel⟩
noncomputable abbrev gO:Stmt:=top 28
theorem nz:FnScope ["net"] ["net"] (defScope gO):=⟨rfl,rfl,rfl,by decide +kernel,rfl,by decide +kernel,by decide +kernel⟩
noncomputable abbrev jo:Stmt:=top 29
theorem pV:FnScope ["thing", "earlier"] ["thing", "earlier"] (defScope jo):=⟨rfl,rfl,rfl,by decide +kernel,rfl,by decide +kernel,by decide +kernel⟩
noncomputable abbrev fZ:Stmt:=top 30
theorem cZ:FnScope ["layout", "names", "name", "size"] ["layout"] (defScope fZ):=⟨rfl,rfl,rfl,by decide +kernel,rfl,by decide +kernel,by decide +kernel⟩
noncomputable abbrev fT:Stmt:=top 31
theorem da:FnScope ["layout", "houses", "names", "name", "house"] ["layout", "houses"] (defScope fT):=⟨rfl,rfl,rfl,by decide +kernel,rfl,by decide +kernel,by decide +kernel⟩
noncomputable abbrev hX:Stmt:=top 32
theorem bS:FnScope ["layout", "house", "doors", "door", "rules", "row", "word", "over"] ["layout", "house"] (defScope hX):=⟨rfl,rfl,rfl,by decide +kernel,rfl,by decide +kernel,by decide +kernel⟩
noncomputable abbrev iJ:Stmt:=top 33
theorem jK:FnScope ["layout", "row", "word", "over", "width"] ["layout", "row", "word", "over"] (defScope iJ):=⟨rfl,rfl,rfl,by decide +kernel,rfl,by decide +kernel,by decide +kernel⟩
noncomputable abbrev iM:Stmt:=top 34
theorem ee:FnScope ["layout", "house", "beginnings", "beginning", "door"] ["layout", "house"] (defScope iM):=⟨rfl,rfl,rfl,by decide +kernel,rfl,by decide +kernel,by decide +kernel⟩
noncomputable abbrev jb:Stmt:=top 35
theorem ku:FnScope ["layout", "house", "beginning", "door", "beginnings", "span"] ["layout", "house", "beginning", "door", "beginnings"] (defScope jb):=⟨rfl,rfl,rfl,by decide +kernel,rfl,by decide +kernel,by decide +kernel⟩
noncomputable abbrev gZ:Stmt:=top 36
theorem dE:FnScope ["net", "tied", "line", "spot"] ["net"] (defScope gZ):=⟨rfl,rfl,rfl,by decide +kernel,rfl,by decide +kernel,by decide +kernel⟩
noncomputable abbrev iP:Stmt:=top 37
theorem oo:FnScope ["net", "house", "door"] ["net", "house", "door"] (defScope iP):=⟨rfl,rfl,rfl,by decide +kernel,rfl,by decide +kernel,by decide +kernel⟩
noncomputable abbrev gI:Stmt:=top 38
theorem gf:FnScope ["net", "name", "its", "house"] ["net", "name"] (defScope gI):=⟨rfl,rfl,rfl,by decide +kernel,rfl,by decide +kernel,by decide +kernel⟩
noncomputable abbrev fG:Stmt:=top 39
theorem n8:FnScope ["net"] ["net"] (defScope fG):=⟨rfl,rfl,rfl,by decide +kernel,rfl,by decide +kernel,by decide +kernel⟩
noncomputable abbrev dA:Stmt:=top 40
theorem mD:FnScope ["house"] ["house"] (defScope dA):=⟨rfl,rfl,rfl,by decide +kernel,rfl,by decide +kernel,by decide +kernel⟩
noncomputable abbrev cL:Stmt:=top 41
theorem kB:FnScope ["net", "name", "house"] ["net", "name", "house"] (defScope cL):=⟨rfl,rfl,rfl,by decide +kernel,rfl,by decide +kernel,by decide +kernel⟩
noncomputable abbrev cK:Stmt:=top 42
theorem dL:FnScope ["net", "name", "door", "rules", "house", "gates"] ["net", "name", "door", "rules"] (defScope cK):=⟨rfl,rfl,rfl,by decide +kernel,rfl,by decide +kernel,by decide +kernel⟩
noncomputable abbrev gC:Stmt:=top 43
theorem fH:FnScope ["net", "spots", "name", "house"] ["net"] (defScope gC):=⟨rfl,rfl,rfl,by decide +kernel,rfl,by decide +kernel,by decide +kernel⟩
noncomputable abbrev ko:Stmt:=top 44
theorem qO:FnScope ["net", "house", "door"] ["net", "house", "door"] (defScope ko):=⟨rfl,rfl,rfl,by decide +kernel,rfl,by decide +kernel,by decide +kernel⟩
noncomputable abbrev jn:Stmt:=top 45
theorem fB:FnScope ["net", "ends", "one", "other"] ["net"] (defScope jn):=⟨rfl,rfl,rfl,by decide +kernel,rfl,by decide +kernel,by decide +kernel⟩
noncomputable abbrev lR:Stmt:=top 52
theorem iS:FnScope ["_law_script", "_law_k", "_law_many", "_law_cell", "_law_mixed"] ["_law_script", "_law_k", "_law_many"] (defScope lR):=⟨rfl,rfl,rfl,by decide +kernel,rfl,by decide +kernel,by decide +kernel⟩
noncomputable abbrev cw:Stmt:=top 53
theorem bo:FnScope ["_law_script", "_law_k", "_law_count", "_law_letters", "_law_word", "_law_turn", "_law_names_here", "_law_size", "_law_place", "_law_first", "_law_signs_here"] ["_law_script", "_law_k", "_law_count"] (defScope cw):=⟨rfl,rfl,rfl,by decide +kernel,rfl,by decide +kernel,by decide +kernel⟩
noncomputable abbrev h8:Stmt:=top 54
theorem fO:FnScope ["_law_script", "_law_k", "_law_others", "_law_at"] ["_law_script", "_law_k"] (defScope h8):=⟨rfl,rfl,rfl,by decide +kernel,rfl,by decide +kernel,by decide +kernel⟩
noncomputable abbrev iI:Stmt:=top 55
theorem qY:FnScope ["_law_script", "_law_k", "_law_width"] ["_law_script", "_law_k", "_law_width"] (defScope iI):=⟨rfl,rfl,rfl,by decide +kernel,rfl,by decide +kernel,by decide +kernel⟩
noncomputable abbrev gA:Stmt:=top 56
theorem fJ:FnScope ["_law_script", "_law_k", "_law_width", "_law_shift", "_law_word", "_law_signs_here", "_law_over"] ["_law_script", "_law_k", "_law_width", "_law_shift"] (defScope gA):=⟨rfl,rfl,rfl,by decide +kernel,rfl,by decide +kernel,by decide +kernel⟩
noncomputable abbrev fM:Stmt:=top 57
theorem n0:FnScope ["_law_script", "_law_k", "_law_size"] ["_law_script", "_law_k", "_law_size"] (defScope fM):=⟨rfl,rfl,rfl,by decide +kernel,rfl,by decide +kernel,by decide +kernel⟩
noncomputable abbrev gD:Stmt:=top 58
theorem fK:FnScope ["_law_script", "_law_k", "_law_size", "_law_doors", "_law_ways_here", "_law_j", "_law_signs_here"] ["_law_script", "_law_k", "_law_size", "_law_doors"] (defScope gD):=⟨rfl,rfl,rfl,by decide +kernel,rfl,by decide +kernel,by decide +kernel⟩
noncomputable abbrev cM:Stmt:=top 59
theorem bZ:FnScope ["_law_script", "_law_k", "_law_layout_here", "_law_doors", "_law_shift", "_law_width", "_law_gates", "_law_j", "_law_here", "_law_many", "_law_size"] ["_law_script", "_law_k", "_law_layout_here", "_law_doors", "_law_shift"] (defScope cM):=⟨rfl,rfl,rfl,by decide +kernel,rfl,by decide +kernel,by decide +kernel⟩
noncomputable abbrev iH:Stmt:=top 60
theorem cA:FnScope ["_law_script", "_law_k", "_law_spots_here", "_law_spare", "_law_free", "_law_most", "_law_lines_here", "_law_j", "_law_one"] ["_law_script", "_law_k", "_law_spots_here", "_law_spare"] (defScope iH):=⟨rfl,rfl,rfl,by decide +kernel,rfl,by decide +kernel,by decide +kernel⟩
noncomputable abbrev iT:Stmt:=top 61
theorem cm:FnScope ["_law_script", "_law_k", "_law_most", "_law_spare", "_law_layout_here", "_law_names_here", "_law_doors", "_law_houses", "_law_spots_here", "_law_j", "_law_own"] ["_law_script", "_law_k", "_law_most", "_law_spare"] (defScope iT):=⟨rfl,rfl,rfl,by decide +kernel,rfl,by decide +kernel,by decide +kernel⟩
noncomputable abbrev gU:Stmt:=top 62
theorem mV:FnScope ["_law_row_here", "_law_pad", "_law_front"] ["_law_row_here", "_law_pad", "_law_front"] (defScope gU):=⟨rfl,rfl,rfl,by decide +kernel,rfl,by decide +kernel,by decide +kernel⟩
noncomputable abbrev fF:Stmt:=top 63
theorem bD:FnScope ["_law_net_here", "_law_size", "_law_front", "_law_layout_here", "_law_houses", "_law_name", "_law_house_here", "_law_gates", "_law_door", "_law_rules"] ["_law_net_here", "_law_size", "_law_front"] (defScope fF):=⟨rfl,rfl,rfl,by decide +kernel,rfl,by decide +kernel,by decide +kernel⟩
noncomputable abbrev de:Stmt:=top 64
theorem jG:FnScope ["_law_rule_here", "_law_size", "_law_front"] ["_law_rule_here", "_law_size", "_law_front"] (defScope de):=⟨rfl,rfl,rfl,by decide +kernel,rfl,by decide +kernel,by decide +kernel⟩
noncomputable abbrev jx:Stmt:=top 65
theorem rJ:FnScope ["_law_pairs", "_law_name"] ["_law_pairs", "_law_name"] (defScope jx):=⟨rfl,rfl,rfl,by decide +kernel,rfl,by decide +kernel,by decide +kernel⟩
noncomputable abbrev eC:Stmt:=top 66
theorem kL:FnScope ["_law_net_here", "_law_spot", "_law_ends"] ["_law_net_here", "_law_spot"] (defScope eC):=⟨rfl,rfl,rfl,by decide +kernel,rfl,by decide +kernel,by decide +kernel⟩
noncomputable abbrev ft:Stmt:=top 67
theorem ef:FnScope ["_law_net_here", "_law_spots_here", "_law_name", "_law_house_here"] ["_law_net_here"] (defScope ft):=⟨rfl,rfl,rfl,by decide +kernel,rfl,by decide +kernel,by decide +kernel⟩
noncomputable abbrev gB:Stmt:=top 68
theorem pO:FnScope ["_law_net_here"] ["_law_net_here"] (defScope gB):=⟨rfl,rfl,rfl,by decide +kernel,rfl,by decide +kernel,by decide +kernel⟩
noncomputable abbrev bN:Stmt:=top 69
theorem ba:FnScope ["_law_script", "_law_k", "_law_net_here", "_law_pads", "_law_spots_here", "_law_house_here", "_law_door", "_law_kept", "_law_rules", "_law_kind", "_law_free", "_law_one", "_law_spot", "_law_width", "_law_rule_here"] ["_law_script", "_law_k", "_law_net_here", "_law_pads"] (defScope bN):=⟨rfl,rfl,rfl,by decide +kernel,rfl,by decide +kernel,by decide +kernel⟩
noncomputable abbrev bL:Stmt:=top 70
theorem bY:FnScope ["_law_script", "_law_k", "_law_net_here", "_law_house_here", "_law_kept", "_law_size", "_law_signs_here"] ["_law_script", "_law_k", "_law_net_here", "_law_house_here"] (defScope bL):=⟨rfl,rfl,rfl,by decide +kernel,rfl,by decide +kernel,by decide +kernel⟩
noncomputable abbrev fu:Stmt:=top 71
theorem cV:FnScope ["_law_net_here", "_law_deed_here", "_law_houses", "_law_name", "_law_house_here"] ["_law_net_here", "_law_deed_here"] (defScope fu):=⟨rfl,rfl,rfl,by decide +kernel,rfl,by decide +kernel,by decide +kernel⟩
noncomputable abbrev cu:Stmt:=top 72
theorem bu:FnScope ["_law_house_here", "_law_deed_here", "_law_gates", "_law_door", "_law_rules"] ["_law_house_here", "_law_deed_here"] (defScope cu):=⟨rfl,rfl,rfl,by decide +kernel,rfl,by decide +kernel,by decide +kernel⟩
noncomputable abbrev lH:Stmt:=top 73
theorem ro:FnScope ["_law_keeper", "_law_deed_here"] ["_law_keeper", "_law_deed_here"] (defScope lH):=⟨rfl,rfl,rfl,by decide +kernel,rfl,by decide +kernel,by decide +kernel⟩
noncomputable abbrev d0:Stmt:=top 74
theorem dC:FnScope ["_law_net_here", "_law_houses", "_law_name", "_law_house_here"] ["_law_net_here"] (defScope d0):=⟨rfl,rfl,rfl,by decide +kernel,rfl,by decide +kernel,by decide +kernel⟩
noncomputable abbrev iA:Stmt:=top 75
theorem d9:FnScope ["_law_script", "_law_most", "_law_spare", "_law_size", "_law_front", "_law_net_here"] ["_law_script", "_law_most", "_law_spare"] (defScope iA):=⟨rfl,rfl,rfl,by decide +kernel,rfl,by decide +kernel,by decide +kernel⟩
noncomputable abbrev iG:Stmt:=top 76
theorem cX:FnScope ["_law_net_here", "_law_name", "_law_house_here", "_law_door", "_law_rules"] ["_law_net_here"] (defScope iG):=⟨rfl,rfl,rfl,by decide +kernel,rfl,by decide +kernel,by decide +kernel⟩
noncomputable abbrev gz:Stmt:=top 77
theorem p8:FnScope ["_law_found", "_law_net_here"] ["_law_found", "_law_net_here"] (defScope gz):=⟨rfl,rfl,rfl,by decide +kernel,rfl,by decide +kernel,by decide +kernel⟩
noncomputable abbrev lU:Stmt:=top 78
theorem eQ:FnScope ["_law_script", "_law_net_here", "_law_pads", "_law_handed", "_law_keeper", "_law_still", "_law_held", "_law_first", "_law_j", "_law_deed_here", "_law_told"] ["_law_script"] (defScope lU):=⟨rfl,rfl,rfl,by decide +kernel,rfl,by decide +kernel,by decide +kernel⟩
noncomputable abbrev bF:Stmt:=inClass (top 47) 0
theorem kj:FnScope ["self", "net", "gates", "by_rules"] ["self", "net", "gates", "by_rules"] (defScope bF):=⟨rfl,rfl,rfl,by decide +kernel,rfl,by decide +kernel,by decide +kernel⟩
noncomputable abbrev bA:Stmt:=inClass (top 49) 0
theorem fh:FnScope ["self", "net", "spot"] ["self", "net"] (defScope bA):=⟨rfl,rfl,rfl,by decide +kernel,rfl,by decide +kernel,by decide +kernel⟩
noncomputable abbrev bH:Stmt:=inClass (top 49) 4
theorem kb:FnScope ["self"] ["self"] (defScope bH):=⟨rfl,rfl,rfl,by decide +kernel,rfl,by decide +kernel,by decide +kernel⟩
noncomputable abbrev bB:Stmt:=inClass (top 49) 5
theorem eY:FnScope ["self", "house", "door", "number", "rule", "rules"] ["self", "house", "door", "number", "rule"] (defScope bB):=⟨rfl,rfl,rfl,by decide +kernel,rfl,by decide +kernel,by decide +kernel⟩
noncomputable abbrev aX:Stmt:=inClass (top 49) 6
theorem dI:FnScope ["self", "house", "door", "number", "rules"] ["self", "house", "door", "number"] (defScope aX):=⟨rfl,rfl,rfl,by decide +kernel,rfl,by decide +kernel,by decide +kernel⟩
noncomputable abbrev bx:Stmt:=inClass (top 49) 7
theorem jI:FnScope ["self", "house", "door"] ["self", "house", "door"] (defScope bx):=⟨rfl,rfl,rfl,by decide +kernel,rfl,by decide +kernel,by decide +kernel⟩
noncomputable abbrev bv:Stmt:=inClass (top 49) 8
theorem jp:FnScope ["self", "house", "door", "rules"] ["self", "house", "door", "rules"] (defScope bv):=⟨rfl,rfl,rfl,by decide +kernel,rfl,by decide +kernel,by decide +kernel⟩
noncomputable abbrev bq:Stmt:=inClass (top 49) 9
theorem fQ:FnScope ["self", "house", "beginning", "door", "its"] ["self", "house", "beginning", "door"] (defScope bq):=⟨rfl,rfl,rfl,by decide +kernel,rfl,by decide +kernel,by decide +kernel⟩
noncomputable abbrev aR:Stmt:=inClass (top 49) 10
theorem cB:FnScope ["self", "house", "beginning", "ways", "left"] ["self", "house", "beginning"] (defScope aR):=⟨rfl,rfl,rfl,by decide +kernel,rfl,by decide +kernel,by decide +kernel⟩
noncomputable abbrev bz:Stmt:=inClass (top 49) 11
theorem ff:FnScope ["self", "house", "ways", "gates"] ["self", "house", "ways"] (defScope bz):=⟨rfl,rfl,rfl,by decide +kernel,rfl,by decide +kernel,by decide +kernel⟩
noncomputable abbrev cz:Stmt:=inClass (top 49) 12
theorem jf:FnScope ["self", "one", "other", "net"] ["self", "one", "other"] (defScope cz):=⟨rfl,rfl,rfl,by decide +kernel,rfl,by decide +kernel,by decide +kernel⟩
noncomputable abbrev bJ:Stmt:=inClass (top 49) 13
theorem dY:FnScope ["self", "house", "door", "end", "lines"] ["self", "house", "door"] (defScope bJ):=⟨rfl,rfl,rfl,by decide +kernel,rfl,by decide +kernel,by decide +kernel⟩
noncomputable abbrev aV:Stmt:=inClass (top 49) 14
theorem cD:FnScope ["self", "net", "houses", "gates", "spot", "classes"] ["self", "net", "houses"] (defScope aV):=⟨rfl,rfl,rfl,by decide +kernel,rfl,by decide +kernel,by decide +kernel⟩
structure Top (K:Frag) (mg:Str->Option Value):Prop where
 rg:Fn K mg "is_row" nj
 mj:Fn K mg "is_letter" i7
 kZ:Fn K mg "is_text_of" iN
 jw:Fn K mg "layout_width" du
 ld:Fn K mg "field_span" iU
 jv:Fn K mg "check_number" fV
 i0:Fn K mg "rules_without" eM
 js:Fn K mg "is_beginning" fX
 kX:Fn K mg "gate_rules" iF
 j3:Fn K mg "net_checked" gO
 mo:Fn K mg "check_new" jo
 jt:Fn K mg "check_layout" fZ
 ju:Fn K mg "check_houses" fT
 j5:Fn K mg "check_gates" hX
 lx:Fn K mg "check_rule" iJ
 ly:Fn K mg "check_ways" iM
 mx:Fn K mg "check_way" jb
 j6:Fn K mg "check_lines" gZ
 lj:Fn K mg "check_spot" iP
 j0:Fn K mg "house_named" gI
 kW:Fn K mg "net_copied" fG
 jr:Fn K mg "house_copied" dA
 im:Fn K mg "net_with_house" cL
 ik:Fn K mg "net_with_rules" cK
 mt:Fn K mg "net_spots" gC
 nQ:Fn K mg "net_tied" ko
 mw:Fn K mg "line_ends" jn
 o9:Fn K mg "_law_by" lR
 kS:Fn K mg "_law_names" cw
 jX:Fn K mg "_law_layout" h8
 nM:Fn K mg "_law_row" iI
 mi:Fn K mg "_law_rule" gA
 kR:Fn K mg "_law_signs" fM
 mq:Fn K mg "_law_ways" gD
 lm:Fn K mg "_law_house" cM
 kQ:Fn K mg "_law_lines" iH
 nN:Fn K mg "_law_net" iT
 jY:Fn K mg "_law_padded" gU
 li:Fn K mg "_law_wider" fF
 gx:Fn K mg "_law_rule_padded" de
 o7:Fn K mg "_law_of" jx
 mn:Fn K mg "_law_tied" eC
 kT:Fn K mg "_law_spots" ft
 mr:Fn K mg "_law_open" gB
 mh:Fn K mg "_law_deed" bN
 fj:Fn K mg "_law_deed_of_ways" bL
 kY:Fn K mg "_law_after" fu
 gt:Fn K mg "_law_house_after" cu
 o8:Fn K mg "_law_do" lH
 jZ:Fn K mg "_law_copied" d0
 kU:Fn K mg "_law_drawn" iA
 kP:Fn K mg "_law_spoil" iG
 me:Fn K mg "_law_same" gz
 xQ:Fn K mg "law" lU
 gF:MkD K "Crowd" "Crowd.__init__" bF [Value.bool false].toArray
 gn:MkT K "Keeper" "Keeper.__init__" bA
 gH:MethT K "Keeper" "net_now" "Keeper.net_now" bH
 gu:MethT K "Keeper" "put_rule" "Keeper.put_rule" bB
 dO:MethT K "Keeper" "strike_rule" "Keeper.strike_rule" aX
 gq:MethT K "Keeper" "rules_at" "Keeper.rules_at" bx
 fm:MethT K "Keeper" "put_rules" "Keeper.put_rules" bv
 gG:MethT K "Keeper" "put_way" "Keeper.put_way" bq
 eD:MethT K "Keeper" "strike_way" "Keeper.strike_way" aR
 gr:MethT K "Keeper" "put_ways" "Keeper.put_ways" bz
 j4:MethT K "Keeper" "tie" "Keeper.tie" cz
 i3:MethT K "Keeper" "untie" "Keeper.untie" bJ
 ij:MethT K "Keeper" "change" "Keeper.change" aV
 c_Crowd:ClsT K mg "Crowd"
 a_Crowd_layout:NoAttr K (xA K "Crowd") "layout"
 a_Crowd_houses:NoAttr K (xA K "Crowd") "houses"
 a_Crowd_ends:NoAttr K (xA K "Crowd") "ends"
 a_Crowd_gates:NoAttr K (xA K "Crowd") "gates"
 a_Crowd_by_rules:NoAttr K (xA K "Crowd") "by_rules"
 a_Crowd_shares:NoAttr K (xA K "Crowd") "shares"
 a_Crowd_known:NoAttr K (xA K "Crowd") "known"
 c_Keeper:ClsT K mg "Keeper"
 a_Keeper_net:NoAttr K (xA K "Keeper") "net"
 a_Keeper_crowd:NoAttr K (xA K "Keeper") "crowd"
 a_Keeper_standing:NoAttr K (xA K "Keeper") "standing"
 a_Keeper_fallen:NoAttr K (xA K "Keeper") "fallen"
 dM:mg "isinstance" = none
 vQ:mg "str" = none
 cq:mg "len" = none
 tm:mg "sum" = none
 eU:mg "list" = none
 nP:mg "sorted" = none
 cO:mg "range" = none
 vP:mg "max" = none
 s0:mg "tuple" = none
 vT:mg "bool" = none
 xP:mg "min" = none
 su:mg "dict" = none
 u_WORDS:TupK K mg "WORDS" ["pass", "drop"]
local macro_rules | `(tactic| walk_at "rd")=>`(tactic| try simp only [yp,zA,zh,wz,xz,wK,zz,zn,xk,wT,x4,yK,yr,xG,wY,xo,zo,yW,yL,yQ,yS,xr,wE,xq,uf,yo,zq,tO,wL,vy,zc,Ty.isBl,Ty.isInt,Ty.isStr,Ty.isLst,Ty.isTup,xp,zy,wZ,yY,zr,yO,y8,zp,yq,vD,ze,xB,wm,zl,xW,yt,w4,xU,wI,yJ,yU,xZ,wO,wW,yf,wo,xC,vU,compσ,L2.start,zu,yb,CDiv,CPow,List.map_cons,List.map_nil,List.length_cons,List.length_nil,List.replicate_succ,List.replicate_zero,List.cons_append,List.nil_append,List.getElem?_cons_zero,List.getElem?_cons_succ,List.set_cons_zero,List.set_cons_succ,Option.getD_some,Option.getD_none,Nat.reduceAdd,Nat.reduceSub,Bool.false_bne,Bool.true_bne,Bool.false_xor,Bool.true_xor,Bool.not_eq_true',decide_eq_true_eq,decide_eq_false_iff_not,Bool.not_true,Bool.not_false,if_true,if_false,true_and,and_true,Int.reduceLT,Int.reduceLE,Nat.reduceLeDiff,Bool.false_eq_true,v9,yP,x9,vH,u0,xY,yu,yA,xi,wU,wC,uG,zv,yH,xj,wD,y6,yj,vZ,wS,wf,ww,tL,xy,ur,uJ,vo,vv,uF,xa,tq,yk,ite_not,az,Bool.true_eq_false,Int.zero_add,reduceIte,ite_true,ite_false])
section
variable {P:Program} {w:World} {K:Frag} {mg:Str->Option Value} {base:Heap}
set_option hygiene false in
local macro_rules | `(tactic| walk_at "el")=>`(tactic| (repeat first | (replace h:=av.el h; obtain ⟨_,_,rfl,h⟩:=h) | (replace h:=be.el h; obtain ⟨_,_,rfl,h⟩:=h) | (replace h:=aZ.el h; obtain ⟨_,_,rfl,h⟩:=h) | (replace h:=jR.el h; obtain ⟨_,_,rfl,h⟩:=h) | (replace h:=ky.el h; obtain ⟨_,_,rfl,h⟩:=h) | (replace h:=aE.el h; obtain ⟨rfl,h⟩:=h)))
noncomputable def textOf (v:V) (w:Int) (l:List Nat):Bool:=match v with
 | .str a=>decide ((a.cps.toList.length:Int)=w) && a.cps.toList.all fun c=>decide (c ∈ l)
 | _=>false
def Known (H:Hp) (v:V):Prop:=match v with
 | .non=>True
 | .bl _=>True
 | .int _=>True
 | .str a=>a.cps.toList.length<=1000
 | .ref p=>(∃ xs,H p=some (.lst xs))\/(∃ xs,H p=some (.tup xs))
 | _=>False
noncomputable def gT:Sp:=ky fun v=>be fun w=>aZ fun l=>aE fun H Q _=>Known H v/\Q (.bl (textOf v w l.cps.toList)) H
theorem jW (T:Top K mg):Callee P w K mg base 1 "is_text_of" ["thing", "width", "signs"] gT:=by
 refine T.kZ.cal jO (by unfold gT; exact LenSp.h) (fun _ _ _ _ _ _ us hl=>match us,hl with | [_,_,_],_=>rfl) (fun f cdv A outer s H vs Q E hr h=>?_);unfold gT at h;walk_at "el";refine ⟨_,(ag (aW (PW.pt (qM (ix (eE (jB .str rfl T.dM (qv 0) rfl T.vQ ve))) (ni (aB rD (aH (lenE K rfl) rfl T.cq bK (aa (qv 0) ae)) (qv 1))))) (ah (ax jU)) aC)
   (ag (bw PassesOwn.never rfl (iterE K rfl (qv 0)) (aj (i:=3) jO.nd rfl lc) (ah (aW (aB (notinE K rfl) (qv 3) (qv 2)) (ah (ax jU)) aC)))
   (ah (ax jU)))),?_⟩
 rename_i v n z;obtain ⟨l,rfl⟩:∃ x,z=st x:=⟨_,(bf z).symm⟩;obtain ⟨hk,q⟩:=h;simp only [az] at q;walk_at "rd";cases v with
 | str a=>
  obtain ⟨x,rfl⟩:∃ x,a=st x:=⟨_,(bf a).symm⟩;walk_at "rd";have hk':x.length<=1000:=hk;refine ⟨by lia,ite2 (fun g1=>?_) fun g1=>?_⟩
  ·refine uH (fun i σ H'=>∃ k,σ = [some (.str (st x)),some (.int n),some (.str (st l)),k]/\H'=H/\(x.take i).all (fun c=>decide (c ∈ l))=true) ⟨none,rfl,rfl,rfl⟩ ?_ ?_
   ·rintro i c σ H1 hc ⟨k,rfl,rfl,e1⟩;walk_at "rd";refine ite2 (fun g2=>⟨_,rfl,?_⟩) fun g2=>?_
    ·rw [List.take_succ,hc,List.all_append,e1];simp [g2]
    ·have e:textOf (.str (st x)) n l=false:=by
      simp only [textOf,az,Bool.and_eq_false_iff];refine .inr ?_;rw [Bool.eq_false_iff];intro z;rw [List.all_eq_true] at z;exact g2 (of_decide_eq_true (z c (List.mem_of_getElem? hc)))
     rw [e] at q;exact q
   ·rintro σ H1 ⟨k,rfl,rfl,e1⟩;walk_at "rd";rw [List.take_length] at e1;have e:textOf (.str (st x)) n l=true:=by
     simp only [textOf,az,Bool.and_eq_true];exact ⟨decide_eq_true g1,e1⟩
    rw [e] at q;exact q
  ·have e:textOf (.str (st x)) n l=false:=by
    simp only [textOf,az,Bool.and_eq_false_iff];exact .inl (decide_eq_false g1)
   rw [e] at q;exact q
 | ref p=>
  rcases hk with hk | hk
  ·exact .inl ⟨hk,q⟩
  ·exact .inr ⟨hk,q⟩
 | non=>exact q
 | bl b=>exact q
 | int i=>exact q
 | _=>exact hk.elim
noncomputable def lK:Sp:=ky fun v=>be fun w=>aE fun H Q _=>Known H v/\Q (.bl (textOf v w [48,49,45])) H
theorem oN (T:Top K mg):Callee P w K mg base 2 "is_row" ["thing", "width"] lK:=by
 refine T.rg.cal uk (by unfold lK; exact LenSp.h) (fun _ _ _ _ _ _ us hl=>match us,hl with | [_,_],_=>rfl) (fun f cdv A outer s H vs Q E hr h=>?_);unfold lK at h;walk_at "el";refine ⟨_,(ah (ax (am (jW T) hr.m rfl (aa (qv 0) (aa (qv 1) (aa (qs [48,49,45]) ae)))))),?_⟩;walk_at "rd";exact h
noncomputable abbrev Fld:=List Nat × Nat
def FldAt (H:Hp) (x:Fld) (v:V):Prop:=∃ t,v=.ref t/\H t=some (.tup [tx x.1,.int x.2])
def Lay (H:Hp) (p:Addr) (ls:List Fld):Prop:=∃ vs,H p=some (.lst vs)/\Paired (FldAt H) ls vs
theorem cb {H H':Hp} (k:∀ t vs,H t=some (.tup vs)->H' t=some (.tup vs)) {ls:List Fld} {vs:List V} (h:Paired (FldAt H) ls vs):Paired (FldAt H') ls vs:=
 L2.Paired.mapP h fun _ _ ⟨t,e,q⟩=>⟨t,e,k _ _ q⟩
theorem Lay.same {H H':Hp} {p:Addr} {ls:List Fld} (h:Lay H p ls) (s:Same H H'):Lay H' p ls:=by
 obtain ⟨vs,e,pr⟩:=h;exact ⟨vs,s _ _ e,cb (fun t us q=>s _ _ q) pr⟩
noncomputable def fldD (x:Fld):D:=.t [.f (tx x.1),.f (.int x.2)]
noncomputable def widthL (ls:List Fld):Nat:=(ls.map (·.2)).sum
theorem aF {α β:Type} {F:α -> β -> Prop} {l:List α} {m:List β} (h:Paired F l m):(l.zip m).map (·.2)=m/\∀ x ∈ l.zip m,F x.1 x.2:=by
 induction h with
 | nil=>exact ⟨rfl,fun x hx=>by cases hx⟩
 | cons r _ ih=>exact ⟨by rw [List.zip_cons_cons,List.map_cons,ih.1],fun x hx=>by
   rw [List.zip_cons_cons] at hx;rcases List.mem_cons.mp hx with rfl | hx
   ·exact r
   ·exact ih.2 x hx⟩
theorem bj {α β:Type}:∀ {l:List α} {m:List β},l.length=m.length->(l.zip m).map (·.1)=l
 | [],_,_=>rfl
 | x::l,[],h=>by cases h
 | x::l,y::m,h=>by rw [List.zip_cons_cons,List.map_cons,bj (by simpa using h)]
theorem nL:∀ l:List Nat,(l.map fun n:Nat=>(n:Int)).sum=(l.sum:Nat)
 | []=>rfl
 | x::l=>by rw [List.map_cons,List.sum_cons,List.sum_cons,nL l]; lia
noncomputable def eL (K:Frag):Sp:=av fun p=>aE fun H Q _=>∃ ls:List Fld,Lay H p ls/\ls.length<=1000/\∀ H',Same H H'->Q (.int (widthL ls:Nat)) H'
theorem iZ (T:Top K mg):Callee P w K mg base 1 "layout_width" ["layout"] (eL K):=by
 refine T.jw.cal mC (by unfold eL; exact LenSp.h) (fun _ _ _ _ _ _ us hl=>match us,hl with | [_],_=>rfl) (fun f cdv A outer s H vs Q E hr h=>?_);unfold eL at h;walk_at "el";refine ⟨_,(ah (ax (aH (lD K rfl rfl) rfl T.tm rH (aa (aJ (nt:=2) (fi:=[]) (N':=["name", "size"]) rfl (cscope rfl (by decide +kernel)) (cnames (N:=["layout"]) (sc:=defScope du) rfl rfl (by decide +kernel)) (fq (by decide) (by decide)) (iterE K rfl (qv 0)) (fun _ _ _ _ _=>(tupE K rfl rfl (n:=2) (ao (aj (i:=0) (by show (["name", "size"]:List Str).Nodup; decide +kernel) rfl lc) (ao (aj (i:=1) (by show (["name", "size"]:List Str).Nodup; decide +kernel) rfl lc) aM)))) (fun _ _ _ _ _=>bd) (fun _ _ _ _ _=>(qv 1))) ae)))),?_⟩;rename_i p;obtain ⟨ls,⟨vs,e0,pr⟩,hn,q⟩:=h;have hl:=pr.length;obtain ⟨z1,z2⟩:=aF pr;walk_at "rd";refine .inl ⟨⟨_,SqL.of e0⟩,fun D hD=>?_⟩;refine bU (item:=fun x:Fld × V=>x.2) (xs:=ls.zip vs) (h:=fun x=>[V.int x.1.2]) hD (by rw [z1]; exact SqL.of e0) (by rw [List.length_zip]; lia) (fun _=>by simp) ?_ ?_
 ·intro x H1 out non hx s1 ho _;obtain ⟨t,ex,et⟩:=z2 x hx;rw [ex];refine ⟨t,[_,_],rfl,SqT.of (s1 _ _ et),rfl,_,[_],rfl,_,[],rfl,rfl,?_⟩;walk_at "rd";exact ho _ _ rfl (Same.refl _)
 ·intro H1 s1 e1;rw [show (ls.zip vs).flatMap (fun x=>[V.int x.1.2])=(ls.map fun x:Fld=>(x.2:Int)).map V.int by
   rw [<- bj (l:=ls) (m:=vs) hl];simp only [List.map_map];rw [bj hl]
   induction ls.zip vs with
   | nil=>rfl
   | cons x r ih=>rw [List.flatMap_cons,ih]; rfl] at e1
  walk_at "rd";refine ⟨_,SqL.of e1,?_⟩;have:=q H1 s1;unfold widthL at this;rw [show (ls.map fun x:Fld=>(x.2:Int)).sum=((ls.map (·.2)).sum:Nat) by rw [<- nL,List.map_map]; rfl];exact this
noncomputable def spanF:List Fld->List Nat->Nat->Option (Nat × Nat)
 | [],_,_=>none
 | (f,z)::r,n,a=>if f=n then some (a,a+z) else spanF r n (a+z)
theorem ka:∀ (l r:List Fld) (n:List Nat) (a:Nat),(∀ x ∈ l,¬ x.1=n)->spanF (l++r) n a=spanF r n (a+widthL l)
 | [],r,n,a,_=>rfl
 | (f,z)::l,r,n,a,h=>by
  have h0:¬ f=n:=h (f,z) List.mem_cons_self;rw [List.cons_append,spanF,if_neg h0,ka l r n (a+z) fun x hx=>h x (List.mem_cons_of_mem _ hx)];unfold widthL;rw [List.map_cons,List.sum_cons,Nat.add_assoc]
theorem qy:∀ (l:List Fld) (n:List Nat) (a x y:Nat),spanF l n a=some (x,y)->x<=y
 | [],_,_,_,_,h=>by cases h
 | (f,z)::l,n,a,x,y,h=>by
  rw [spanF] at h;split at h
  ·cases h; lia
  ·exact qy l n _ x y h
noncomputable abbrev Rule:=List Nat × List Nat × List Nat
def RuleAt (H:Hp) (x:Rule) (v:V):Prop:=∃ t,v=.ref t/\H t=some (.tup [tx x.1,tx x.2.1,tx x.2.2])
def Rules (H:Hp) (p:Addr) (rs:List Rule):Prop:=∃ vs,H p=some (.lst vs)/\Paired (RuleAt H) rs vs
theorem aI {H H':Hp} (k:∀ t vs,H t=some (.tup vs)->H' t=some (.tup vs)) {rs:List Rule} {vs:List V} (h:Paired (RuleAt H) rs vs):Paired (RuleAt H') rs vs:=
 L2.Paired.mapP h fun _ _ ⟨t,e,q⟩=>⟨t,e,k _ _ q⟩
theorem aK {H:Hp} {g:Addr} {xs ys:List V} (h:H g=some (.lst xs)):∀ t vs,H t=some (.tup vs)->upd H g (.lst ys) t=some (.tup vs):=fun t vs q=>by
 rw [au (fun e=>by rw [e,h] at q; cases q)];exact q
theorem Rules.same {H H':Hp} {p:Addr} {rs:List Rule} (h:Rules H p rs) (s:Same H H'):Rules H' p rs:=by
 obtain ⟨vs,e,pr⟩:=h;exact ⟨vs,s _ _ e,aI (fun t us q=>s _ _ q) pr⟩
noncomputable def ruleD (x:Rule):D:=.t [.f (tx x.1),.f (tx x.2.1),.f (tx x.2.2)]
noncomputable def dropT:List Nat:=[100,114,111,112]
noncomputable def passT:List Nat:=[112,97,115,115]
noncomputable abbrev Way:=List Nat × List Nat
def WayAt (H:Hp) (x:Way) (v:V):Prop:=∃ t,v=.ref t/\H t=some (.tup [tx x.1,tx x.2])
def Ways (H:Hp) (p:Addr) (ws:List Way):Prop:=∃ vs,H p=some (.lst vs)/\Paired (WayAt H) ws vs
theorem aD {H H':Hp} (k:∀ t vs,H t=some (.tup vs)->H' t=some (.tup vs)) {ws:List Way} {vs:List V} (h:Paired (WayAt H) ws vs):Paired (WayAt H') ws vs:=
 L2.Paired.mapP h fun _ _ ⟨t,e,q⟩=>⟨t,e,k _ _ q⟩
theorem Ways.same {H H':Hp} {p:Addr} {ws:List Way} (h:Ways H p ws) (s:Same H H'):Ways H' p ws:=by
 obtain ⟨vs,e,pr⟩:=h;exact ⟨vs,s _ _ e,aD (fun t us q=>s _ _ q) pr⟩
theorem aO {α β:Type} {F:α -> β -> Prop} {l:List α} {m:List β} {x:α} {y:β} (h:Paired F l m) (r:F x y):Paired F (l++[x]) (m++[y]):=by
 induction h with
 | nil=>exact .cons r .nil
 | cons r' _ ih=>exact .cons r' ih
noncomputable def wayD (x:Way):D:=.t [.f (tx x.1),.f (tx x.2)]
theorem oY {H:Hp} {p:Addr} {ws:List Way} (h:Ways H p ws):Deep K H 2 (.ref p) (.l (ws.map wayD)):=by
 obtain ⟨vs,e,pr⟩:=h;refine .inr (.inl ⟨p,vs,ws.map wayD,rfl,rfl,SqL.of e,?_⟩);clear e
 induction pr with
 | nil=>exact .nil
 | cons r _ ih=>
  obtain ⟨t,rfl,q⟩:=r;exact .cons (.inr (.inr ⟨t,_,_,rfl,rfl,SqT.of q,.cons (ce 0 rfl) (.cons (ce 0 rfl) .nil)⟩)) ih
noncomputable abbrev Gate:=List Nat × List Rule
noncomputable abbrev House:=List Gate × List Way
def GateAt (H:Hp) (x:Gate) (v:V):Prop:=Ex2 fun t p=>v=.ref t/\H t=some (.tup [tx x.1,.ref p])/\Rules H p x.2
def Gates (H:Hp) (p:Addr) (gs:List Gate):Prop:=∃ vs,H p=some (.lst vs)/\Paired (GateAt H) gs vs
def HouseAt (H:Hp) (t:Addr) (h:House):Prop:=Ex2 fun g w=>H t=some (.tup [.ref g,.ref w])/\Gates H g h.1/\Ways H w h.2
theorem Gates.same {H H':Hp} {p:Addr} {gs:List Gate} (h:Gates H p gs) (s:Same H H'):Gates H' p gs:=by
 obtain ⟨vs,e,pr⟩:=h;exact ⟨vs,s _ _ e,L2.Paired.mapP pr fun _ _ ⟨t,q,e,h1,h2⟩=>⟨t,q,e,s _ _ h1,h2.same s⟩⟩
theorem HouseAt.same {H H':Hp} {t:Addr} {h:House} (x:HouseAt H t h) (s:Same H H'):HouseAt H' t h:=by
 obtain ⟨g,w,e,h1,h2⟩:=x;exact ⟨g,w,s _ _ e,h1.same s,h2.same s⟩
noncomputable def gateOf (gs:List Gate) (n:List Nat):Option (List Rule):=(gs.find? fun g=>decide (g.1=n)).map (·.2)
noncomputable def toT:List Nat:=[116,111]
theorem dU {gs:List Gate} {n:List Nat} {rs:List Rule} (h:gateOf gs n=some rs):∃ g ∈ gs,g.1=n/\g.2=rs:=by
 unfold gateOf at h;obtain ⟨g,hg,rfl⟩:=Option.map_eq_some_iff.mp h;have:=List.find?_some hg;exact ⟨g,List.mem_of_find?_eq_some hg,of_decide_eq_true this,rfl⟩
noncomputable def spanG (ls:List Fld):Nat × Nat:=(spanF ls toT 0).getD (0,0)
noncomputable def abc:List Nat:=(List.range 26).map (97+·)
theorem uX {i:Nat} (h:i < 26):abc[i]? = some (97+i):=by
 unfold abc;rw [List.getElem?_map,List.getElem?_range h];rfl
def Low (l:List Nat):Prop:=∀ c ∈ l,97<=c/\c<=122
theorem oS {n:Nat} (f:Nat->List Nat) (h:∀ i j,i < n->j < n->f i=f j->i=j):((List.range n).map f).Nodup:=by
 refine List.pairwise_map.mpr (List.Pairwise.imp_of_mem ?_ List.nodup_range);intro a b ha hb hab e;exact hab (h a b (List.mem_range.mp ha) (List.mem_range.mp hb) e)
theorem dr {α β:Type} (f:α -> β) (l:List α):(l.flatMap fun x=>[f x])=l.map f:=by
 induction l with
 | nil=>rfl
 | cons x l ih=>rw [List.flatMap_cons,ih]; rfl
noncomputable abbrev nV (n:Nat):V:=V.int (n:Int)
structure WaysOk (S:Nat) (ds:List (List Nat)) (ws:List Way):Prop where
 n:∀ x ∈ ws,x.1.length<=S
 bits:∀ x ∈ ws,∀ c ∈ x.1,c=48\/c=49
 door:∀ x ∈ ws,x.2 ∈ ds
 nd:(ws.map (·.1)).Nodup
theorem pf (n:List Nat) (l:List (List Nat)):inV (tx n) (l.map tx)=decide (n ∈ l):=by
 unfold inV
 induction l with
 | nil=>simp
 | cons d l ih=>
  rw [List.map_cons,List.any_cons,ih];simp only [eqV,List.mem_cons];have stj:st n=st d ↔ n=d:=⟨fun h=>by simpa using congrArg (fun x:Str=>x.cps.toList) h,fun h=>by rw [h]⟩;by_cases h:n=d
  ·subst h; simp
  ·have h2:¬ d=n:=fun z=>h z.symm
   simp [h,h2]
theorem mM (l:List (List Nat)):(l.map tx).all flatV=true:=by
 rw [List.all_eq_true];intro v hv;obtain ⟨c,_,rfl⟩:=List.mem_map.mp hv;rfl
theorem ge {α β:Type} {F:α -> V->Prop} {P:β -> Prop} {g:β -> V} (h:∀ a v,F a v->∃ b,P b/\v=g b):∀ {l:List α} {vs:List V},Paired F l vs->∃ bs:List β,vs=bs.map g/\bs.length=l.length/\∀ b ∈ bs,P b
 | _,_,.nil=>⟨[],rfl,rfl,fun b hb=>by simp at hb⟩
 | _,_,.cons r p=>by
  obtain ⟨b,h1,rfl⟩:=h _ _ r;obtain ⟨bs,rfl,h3,h4⟩:=ge h p;refine ⟨b::bs,rfl,by simp [h3],fun c hc=>?_⟩;rcases List.mem_cons.mp hc with rfl | hc
  ·exact h1
  ·exact h4 c hc
theorem lB {α:Type} {l:List α} {i:Nat} (h:i < l.length):∃ c,c ∈ l/\atI l (i:Int)=some c:=⟨l[i],List.getElem_mem h,bC (List.getElem?_eq_getElem h)⟩
theorem vJ {cs:List Nat} {B:Nat} {vs:List V} (e:vs=cs.map nV) (h:∀ c ∈ cs,c<=B) {i:Nat} (hi:i < vs.length):∃ c,c<=B/\atI vs (i:Int)=some (nV c):=by
 subst e;obtain ⟨v,hv,ev⟩:=lB hi;obtain ⟨c,hc,rfl⟩:=List.mem_map.mp hv;exact ⟨c,h c hc,ev⟩
structure RuleOk (W:Nat) (r:Rule):Prop where
 row:RowL r.1
 rowN:r.1.length=W
 word:r.2.1=passT\/r.2.1=dropT
 over:RowL r.2.2
 overN:r.2.2.length=W
structure LayOk (ls:List Fld):Prop where
 to:Ex2 fun a b=>spanF ls toT 0=some (a,b)/\a < b/\b<=widthL ls
 w1:1<=widthL ls
 w2:widthL ls<=100
 len:ls.length<=8
 pos:∀ x ∈ ls,1<=x.2
 nd:(ls.map (·.1)).Nodup
 low:∀ x ∈ ls,Low x.1/\1<=x.1.length/\x.1.length<=8
theorem g7 {α β:Type} {F:β -> V->Prop} {P:β -> Prop}:∀ {l:List α} {vs:List V},Paired (fun _ v=>∃ b,P b/\F b v) l vs->∃ bs:List β,Paired F bs vs/\bs.length=l.length/\∀ b ∈ bs,P b
 | _,_,.nil=>⟨[],.nil,rfl,fun b hb=>by simp at hb⟩
 | _,_,.cons ⟨b,h1,h2⟩ p=>by
  obtain ⟨bs,h3,h4,h5⟩:=g7 p;refine ⟨b::bs,.cons h2 h3,by simp [h4],fun c hc=>?_⟩;rcases List.mem_cons.mp hc with rfl | hc
  ·exact h1
  ·exact h5 c hc
def GateB (gl:Addr) (F:Addr->Prop) (H:Hp) (x:Gate) (v:V):Prop:=Ex2 fun t r=>v=.ref t/\(r≠gl/\F r)/\H t=some (.tup [tx x.1,.ref r])/\Rules H r x.2
theorem rQ {gl:Addr} {F:Addr->Prop} {H H':Hp} (s:Same H H') {gs:List Gate} {vs:List V} (p:Paired (GateB gl F H) gs vs):Paired (GateB gl F H') gs vs:=
 L2.Paired.mapP p fun _ _ ⟨t,r,e,n,h1,h2⟩=>⟨t,r,e,n,s _ _ h1,h2.same s⟩
theorem oE {gl r:Addr} {H:Hp} {us us':List V} {rs:List Rule} (h:H gl=some (.lst us)) (n:r≠gl) (hr:Rules H r rs):Rules (upd H gl (.lst us')) r rs:=by
 obtain ⟨vs,e,pr⟩:=hr;refine ⟨vs,?_,aI (aK h) pr⟩;rw [au n];exact e
theorem tT {gl:Addr} {F:Addr->Prop} {H:Hp} {us us':List V} (h:H gl=some (.lst us)) {gs:List Gate} {vs:List V} (p:Paired (GateB gl F H) gs vs):Paired (GateB gl F (upd H gl (.lst us'))) gs vs:=
 L2.Paired.mapP p fun _ _ ⟨t,r,e,n,h1,h2⟩=>⟨t,r,e,n,aK h _ _ h1,oE h n.1 h2⟩
def GateN (N:Addr->Prop) (H:Hp) (x:Gate) (v:V):Prop:=Ex2 fun t r=>v=.ref t/\N r/\H t=some (.tup [tx x.1,.ref r])/\Rules H r x.2
structure HouseN (F:Addr->Prop) (H:Hp) (q g w:Addr) (hs:House):Prop where
 tup:H q=some (.tup [.ref g,.ref w])
 ne:g≠w
 gates:∃ vs,H g=some (.lst vs)/\Paired (GateN (fun r=>r≠g/\r≠w/\F r) H) hs.1 vs
 ways:Ways H w hs.2
theorem HouseN.at {F:Addr->Prop} {H:Hp} {q g w:Addr} {hs:House} (h:HouseN F H q g w hs):HouseAt H q hs:=by
 obtain ⟨vs,e,p⟩:=h.gates;exact ⟨g,w,h.tup,⟨vs,e,L2.Paired.mapP p fun _ _ ⟨t,r,e,_,h1,h2⟩=>⟨t,r,e,h1,h2⟩⟩,h.ways⟩
theorem HouseN.same {F:Addr->Prop} {H H':Hp} {q g w:Addr} {hs:House} (h:HouseN F H q g w hs) (s:Same H H'):HouseN F H' q g w hs:=by
 obtain ⟨vs,e,p⟩:=h.gates;exact ⟨s _ _ h.tup,h.ne,⟨vs,s _ _ e,L2.Paired.mapP p fun _ _ ⟨t,r,e,n,h1,h2⟩=>⟨t,r,e,n,s _ _ h1,h2.same s⟩⟩,h.ways.same s⟩
noncomputable abbrev Named:=List Nat × House
def NamedAt (H:Hp) (x:Named) (v:V):Prop:=Ex2 fun t q=>v=.ref t/\H t=some (.tup [tx x.1,.ref q])/\HouseAt H q x.2
def Houses (H:Hp) (p:Addr) (hs:List Named):Prop:=∃ vs,H p=some (.lst vs)/\Paired (NamedAt H) hs vs
theorem Houses.same {H H':Hp} {p:Addr} {hs:List Named} (h:Houses H p hs) (s:Same H H'):Houses H' p hs:=by
 obtain ⟨vs,e,pr⟩:=h;exact ⟨vs,s _ _ e,L2.Paired.mapP pr fun _ _ ⟨t,q,e,h1,h2⟩=>⟨t,q,e,s _ _ h1,h2.same s⟩⟩
noncomputable def spotsOf (hs:List Named):List Way:=hs.flatMap fun x=>x.2.1.map fun g=>(x.1,g.1)
theorem nF (hs:List Named) (i:Nat) (h:i < hs.length):spotsOf (hs.take (i+1))=spotsOf (hs.take i)++hs[i].2.1.map fun g=>(hs[i].1,g.1):=by
 unfold spotsOf;rw [List.take_add_one,List.getElem?_eq_getElem h,Option.toList_some,List.flatMap_append];simp
theorem bI {α β:Type} {F:α -> β -> Prop}:∀ {l l':List α} {m m':List β},Paired F l m->Paired F l' m'->Paired F (l++l') (m++m')
 | _,_,_,_,.nil,q=>q
 | _,_,_,_,.cons r p,q=>.cons r (bI p q)
theorem aS {α β γ:Type} {F:β -> γ -> Prop} {f:α -> β}:∀ {l:List α} {vs:List γ},Paired (fun x v=>F (f x) v) l vs->Paired F (l.map f) vs
 | _,_,.nil=>.nil
 | _,_,.cons r p=>.cons r (aS p)
theorem lN {hs:List Named} {c:Nat} (h:∀ x ∈ hs,x.2.1.length<=c):(spotsOf hs).length<=hs.length*c:=by
 unfold spotsOf
 induction hs with
 | nil=>simp
 | cons x hs ih=>
  have h1:=h x List.mem_cons_self;have h2:=ih fun y hy=>h y (List.mem_cons_of_mem _ hy)
  rw [List.flatMap_cons,List.length_append,List.length_map,List.length_cons,Nat.add_mul]
  lia
noncomputable abbrev Line:=Way × Way
def LineAt (H:Hp) (x:Line) (v:V):Prop:=Ex3 fun t u1 u2=>v=.ref t/\H t=some (.tup [u1,u2])/\WayAt H x.1 u1/\WayAt H x.2 u2
def Lines (H:Hp) (p:Addr) (ls:List Line):Prop:=∃ vs,H p=some (.lst vs)/\Paired (LineAt H) ls vs
theorem bi {H H':Hp} (k:∀ t vs,H t=some (.tup vs)->H' t=some (.tup vs)) {x:Line} {v:V} (h:LineAt H x v):LineAt H' x v:=by
 obtain ⟨t,u1,u2,e,h1,⟨a,ea,ha⟩,⟨b,eb,hb⟩⟩:=h;exact ⟨t,u1,u2,e,k _ _ h1,⟨a,ea,k _ _ ha⟩,⟨b,eb,k _ _ hb⟩⟩
theorem Lines.same {H H':Hp} {p:Addr} {ls:List Line} (h:Lines H p ls) (s:Same H H'):Lines H' p ls:=by
 obtain ⟨vs,e,pr⟩:=h;exact ⟨vs,s _ _ e,L2.Paired.mapP pr fun _ _ z=>bi (fun t us q=>s _ _ q) z⟩
noncomputable def endsOf (ls:List Line):List Way:=ls.flatMap fun x=>[x.1,x.2]
theorem fL {α β:Type} {F:α -> β -> Prop}:∀ {l:List α} {m:List β} (i:Nat),Paired F l m->Paired F (l.eraseIdx i) (m.eraseIdx i)
 | _,_,_,.nil=>.nil
 | _,_,0,.cons r p=>p
 | _,_,i+1,.cons r p=>.cons r (fL i p)
noncomputable abbrev Net:=List Fld × List Named × List Line
def NetAt (H:Hp) (t:Addr) (n:Net):Prop:=Ex3 fun a b c=>H t=some (.tup [.ref a,.ref b,.ref c])/\Lay H a n.1/\Houses H b n.2.1/\Lines H c n.2.2
theorem NetAt.same {H H':Hp} {t:Addr} {n:Net} (h:NetAt H t n) (s:Same H H'):NetAt H' t n:=by
 obtain ⟨a,b,c,e,h1,h2,h3⟩:=h;exact ⟨a,b,c,s _ _ e,h1.same s,h2.same s,h3.same s⟩
noncomputable def gJ (K:Frag):Sp:=av fun p=>aZ fun n=>aE fun H Q E=>∃ ls:List Fld,Lay H p ls/\(∀ c ∈ n.cps.toList,c < 16 ^ 8)/\n.cps.toList.length<=1000 /\
   (∀ a b,spanF ls n.cps.toList 0=some (a,b)->∀ t H',H t=none->Same H H'->H' t=some (.tup [.int (a:Nat),.int (b:Nat)])->Q (.ref t) H') /\
   (spanF ls n.cps.toList 0=none->False)
theorem oi (T:Top K mg):Callee P w K mg base 1 "field_span" ["layout", "name"] (gJ K):=by
 refine T.ld.cal cY (by unfold gJ; exact LenSp.h) (fun _ _ _ _ _ _ us hl=>match us,hl with | [_,_],_=>rfl) (fun f cdv A outer s H vs Q E hr h=>?_);unfold gJ at h;walk_at "el";refine ⟨_,(ag (aq (i:=2) cY.nd rfl lc ad)
   (ag (bw PassesOwn.never rfl (iterE K rfl (qv 0)) (tupE K rfl rfl (n:=2) (ao (aj (i:=3) cY.nd rfl lc) (ao (aj (i:=4) cY.nd rfl lc) aM))) (ag (aW (aB bn (qv 3) (qv 1)) (ah (ax (ay (aa (qv 2) (aa (al ak (qv 2) (qv 4)) ae))))) aC)
   (ah (aq (i:=2) cY.nd rfl lc (al ak (qv 2) (qv 4))))))
   (ah bO))),?_⟩
 rename_i p s;obtain ⟨n,rfl⟩:∃ x,s=st x:=⟨_,(bf s).symm⟩;obtain ⟨ls,⟨vs,e0,pr⟩,hc,hn,q1,q2⟩:=h;simp only [az] at q1 q2 hc hn;have hl:=pr.length;walk_at "rd";refine .inl ⟨⟨_,SqL.of e0⟩,?_⟩;refine aN (xs:=vs) (fun i σ H'=>Ex2 fun u v=>σ = [some (.ref p),some (.str (st n)),some (.int (widthL (ls.take i):Nat)),u,v]/\Same H H'/\∀ x ∈ ls.take i,¬ x.1=n) ⟨none,none,rfl,Same.refl _,fun x hx=>by simp at hx⟩ (fun i σ H' _ ⟨_,_,_,z,_⟩=>SqL.of (z _ _ e0)) ?_ ?_
 ·rintro i x σ H1 hx ⟨u,v,rfl,s1,h1⟩;have hi:i < vs.length:=(List.getElem?_eq_some_iff.mp hx).1;have hil:i < ls.length:=by lia
  obtain ⟨y,hy,t,ey,et⟩:=aA pr (List.getElem?_eq_getElem hil);obtain rfl:x=.ref t:=by rw [hy] at hx; rw [<- Option.some.inj hx,ey]
  refine ⟨t,[_,_],rfl,SqT.of (s1 _ _ et),rfl,_,[_],rfl,_,[],rfl,rfl,?_⟩;walk_at "rd";have sp:spanF ls n 0=spanF (ls.drop i) n (0+widthL (ls.take i)):=by
   have:=ka (ls.take i) (ls.drop i) n 0 h1;rw [List.take_append_drop] at this;exact this
  rw [List.drop_eq_getElem_cons hil,Nat.zero_add] at sp;have w1:widthL (ls.take (i+1))=widthL (ls.take i)+ls[i].2:=by
   unfold widthL;rw [List.take_add_one,List.getElem?_eq_getElem hil,Option.toList_some,List.map_append,List.sum_append];simp
  refine ite2 (fun g=>⟨by decide,fun t2 ht2=>?_⟩) fun g=>⟨some (tx ls[i].1),some (.int ls[i].2),?_,s1,fun y hy=>?_⟩
  ·refine q1 (widthL (ls.take i)) (widthL (ls.take i)+ls[i].2) ?_ t2 _ (s1.free ht2) (s1.trans (af ht2 _)) ?_
   ·rw [sp,show ls[i]=(ls[i].1,ls[i].2) from rfl,spanF,if_pos g]
   ·rw [ab];simp
  ·rw [w1];simp
  ·rw [List.take_add_one,List.getElem?_eq_getElem hil] at hy;rcases List.mem_append.mp hy with hy | hy
   ·exact h1 y hy
   ·have e:y=ls[i]:=by simpa using hy
    rw [e];exact g
 ·rintro σ H1 ⟨u,v,rfl,s1,h1⟩;walk_at "rd";have e:spanF ls n 0=none:=by
   have:=ka ls [] n 0 fun x hx=>h1 x (by rw [<- hl,List.take_length]; exact hx)
   rw [List.append_nil] at this;exact this
  exact q2 e
noncomputable def gK (K:Frag):Sp:=av fun t=>aZ fun n=>aE fun H Q E=>∃ h:House,HouseAt H t h/\(∀ c ∈ n.cps.toList,c < 16 ^ 8)/\n.cps.toList.length<=1000 /\
   (∀ rs,gateOf h.1 n.cps.toList=some rs->∀ p H',Same H H'->Rules H' p rs->Q (.ref p) H') /\
   (gateOf h.1 n.cps.toList=none->False)
theorem gP (T:Top K mg):Callee P w K mg base 1 "gate_rules" ["house", "door"] (gK K):=by
 refine T.kX.cal gM (by unfold gK; exact LenSp.h) (fun _ _ _ _ _ _ us hl=>match us,hl with | [_,_],_=>rfl) (fun f cdv A outer s H vs Q E hr h=>?_);unfold gK at h;walk_at "el";refine ⟨_,(ag (bw PassesOwn.never rfl (iterE K rfl (ai (ixE K rfl) (qv 0) ad (fun _ _=>rfl))) (tupE K rfl rfl (n:=2) (ao (aj (i:=2) gM.nd rfl lc) (ao (aj (i:=3) gM.nd rfl lc) aM))) (ah (aW (aB bn (qv 2) (qv 1)) (ah (ax (qv 3))) aC)))
   (ah bO)),?_⟩
 rename_i p s;obtain ⟨n,rfl⟩:∃ x,s=st x:=⟨_,(bf s).symm⟩;obtain ⟨hs,⟨g,w,e,⟨vs,e0,pr⟩,hw⟩,hc,hn,q1,q2⟩:=h;simp only [az] at q1 q2 hc hn;have hl:=pr.length;walk_at "rd";refine ⟨_,_,.inr (SqT.of e),rfl,?_⟩;walk_at "rd";refine .inl ⟨⟨_,SqL.of e0⟩,?_⟩;refine aN (xs:=vs) (fun i σ H'=>Ex2 fun u v=>σ = [some (.ref p),some (.str (st n)),u,v]/\Same H H'/\∀ x ∈ hs.1.take i,¬ x.1=n) ⟨none,none,rfl,Same.refl _,fun x hx=>by simp at hx⟩ (fun i σ H' _ ⟨_,_,_,z,_⟩=>SqL.of (z _ _ e0)) ?_ ?_
 ·rintro i x σ H1 hx ⟨u,v,rfl,s1,h1⟩;have hi:i < vs.length:=(List.getElem?_eq_some_iff.mp hx).1;have hil:i < hs.1.length:=by lia
  obtain ⟨y,hy,t,r,ey,et,hr⟩:=aA pr (List.getElem?_eq_getElem hil);obtain rfl:x=.ref t:=by rw [hy] at hx; rw [<- Option.some.inj hx,ey]
  refine ⟨t,[_,_],rfl,SqT.of (s1 _ _ et),rfl,_,[_],rfl,_,[],rfl,rfl,?_⟩;walk_at "rd";refine ite2 (fun g=>?_) fun g=>⟨some (tx hs.1[i].1),some (.ref r),rfl,s1,fun y hy=>?_⟩
  ·refine q1 hs.1[i].2 ?_ r H1 s1 (hr.same s1);unfold gateOf;rw [show hs.1.find? (fun g=>decide (g.1=n))=some hs.1[i] from List.find?_eq_some_iff_append.mpr ⟨by simpa using g,hs.1.take i,hs.1.drop (i+1),by simp,fun y hy=>by simpa using h1 y hy⟩];rfl
  ·rw [List.take_add_one,List.getElem?_eq_getElem hil] at hy;rcases List.mem_append.mp hy with hy | hy
   ·exact h1 y hy
   ·have e:y=hs.1[i]:=by simpa using hy
    rw [e];exact g
 ·rintro σ H1 ⟨u,v,rfl,s1,h1⟩;walk_at "rd";have e:gateOf hs.1 n=none:=by
   unfold gateOf;rw [List.find?_eq_none.mpr fun y hy=>by simpa using h1 y (by rw [<- hl,List.take_length]; exact hy)];rfl
  exact q2 e
noncomputable def houseOf (hs:List Named) (n:List Nat):Option House:=(hs.find? fun x=>decide (x.1=n)).map (·.2)
noncomputable def gj (K:Frag):Sp:=av fun t=>aZ fun n=>aE fun H Q E=>∃ N:Net,NetAt H t N/\(∀ c ∈ n.cps.toList,c < 16 ^ 8)/\n.cps.toList.length<=1000 /\
   (∀ h,houseOf N.2.1 n.cps.toList=some h->∀ q H',Same H H'->HouseAt H' q h->Q (.ref q) H') /\
   (houseOf N.2.1 n.cps.toList=none->False)
theorem ck (T:Top K mg):Callee P w K mg base 1 "house_named" ["net", "name"] (gj K):=by
 refine T.j0.cal gf (by unfold gj; exact LenSp.h) (fun _ _ _ _ _ _ us hl=>match us,hl with | [_,_],_=>rfl) (fun f cdv A outer s H vs Q E hr h=>?_);unfold gj at h;walk_at "el";refine ⟨_,(ag (bw PassesOwn.never rfl (iterE K rfl (ai (ixE K rfl) (qv 0) ad (fun _ _=>rfl))) (tupE K rfl rfl (n:=2) (ao (aj (i:=2) gf.nd rfl lc) (ao (aj (i:=3) gf.nd rfl lc) aM))) (ah (aW (aB bn (qv 2) (qv 1)) (ah (ax (qv 3))) aC)))
   (ah bO)),?_⟩
 rename_i p s;obtain ⟨n,rfl⟩:∃ x,s=st x:=⟨_,(bf s).symm⟩;obtain ⟨N,⟨a,b,c,e,_,⟨vs,e0,pr⟩,_⟩,hc,hn,q1,q2⟩:=h;simp only [az] at q1 q2 hc hn;have hl:=pr.length;walk_at "rd";refine ⟨_,_,.inr (SqT.of e),rfl,?_⟩;walk_at "rd";refine .inl ⟨⟨_,SqL.of e0⟩,?_⟩;refine aN (xs:=vs) (fun i σ H'=>Ex2 fun u v=>σ = [some (.ref p),some (.str (st n)),u,v]/\Same H H'/\∀ x ∈ N.2.1.take i,¬ x.1=n) ⟨none,none,rfl,Same.refl _,fun x hx=>by simp at hx⟩ (fun i σ H' _ ⟨_,_,_,z,_⟩=>SqL.of (z _ _ e0)) ?_ ?_
 ·rintro i x σ H1 hx ⟨u,v,rfl,s1,h1⟩;have hi:i < vs.length:=(List.getElem?_eq_some_iff.mp hx).1;have hil:i < N.2.1.length:=by lia
  obtain ⟨y,hy,t,r,ey,et,hr⟩:=aA pr (List.getElem?_eq_getElem hil);obtain rfl:x=.ref t:=by rw [hy] at hx; rw [<- Option.some.inj hx,ey]
  refine ⟨t,[_,_],rfl,SqT.of (s1 _ _ et),rfl,_,[_],rfl,_,[],rfl,rfl,?_⟩;walk_at "rd";refine ite2 (fun g=>?_) fun g=>⟨some (tx N.2.1[i].1),some (.ref r),rfl,s1,fun y hy=>?_⟩
  ·refine q1 N.2.1[i].2 ?_ r H1 s1 (hr.same s1);unfold houseOf;rw [show N.2.1.find? (fun g=>decide (g.1=n))=some N.2.1[i] from List.find?_eq_some_iff_append.mpr ⟨by simpa using g,N.2.1.take i,N.2.1.drop (i+1),by simp,fun y hy=>by simpa using h1 y hy⟩];rfl
  ·rw [List.take_add_one,List.getElem?_eq_getElem hil] at hy;rcases List.mem_append.mp hy with hy | hy
   ·exact h1 y hy
   ·have e:y=N.2.1[i]:=by simpa using hy
    rw [e];exact g
 ·rintro σ H1 ⟨u,v,rfl,s1,h1⟩;walk_at "rd";have e:houseOf N.2.1 n=none:=by
   unfold houseOf;rw [List.find?_eq_none.mpr fun y hy=>by simpa using h1 y (by rw [<- hl,List.take_length]; exact hy)];rfl
  exact q2 e
noncomputable def gL (K:Frag):Sp:=av fun t=>aZ fun n=>aZ fun d=>aE fun H Q E=>∃ N:Net,NetAt H t N/\(∀ c ∈ n.cps.toList,c < 16 ^ 8)/\n.cps.toList.length<=1000/\(∀ c ∈ d.cps.toList,c < 16 ^ 8)/\d.cps.toList.length<=1000 /\
   (∀ h,houseOf N.2.1 n.cps.toList=some h->(∀ rs,gateOf h.1 d.cps.toList=some rs->∀ H',Same H H'->Q .non H')/\(gateOf h.1 d.cps.toList=none->False)) /\
   (houseOf N.2.1 n.cps.toList=none->False)
theorem jM (T:Top K mg):Callee P w K mg base 2 "check_spot" ["net", "house", "door"] (gL K):=by
 refine T.lj.cal oo (by unfold gL; exact LenSp.h) (fun _ _ _ _ _ _ us hl=>match us,hl with | [_,_,_],_=>rfl) (fun f cdv A outer s H vs Q E hr h=>?_);unfold gL at h;walk_at "el";refine ⟨_,(ah (aw (am (gP T) hr.m rfl (aa (am (ck T) hr.m rfl (aa (qv 0) (aa (qv 1) ae))) (aa (qv 2) ae))))),?_⟩;rename_i t n d;obtain ⟨N,hN,h1,h2,h3,h4,q1,q2⟩:=h;walk_at "rd";refine ⟨N,hN,h1,h2,fun h eh q H1 s1 hH=>?_,q2⟩;obtain ⟨q3,q4⟩:=q1 h eh;walk_at "rd";exact ⟨h,hH,h3,h4,fun rs ers p H2 s2 _=>q3 rs ers H2 (s1.trans s2),q4⟩
theorem vW {H:Hp} {x w:Way} {v:V} (h:WayAt H x v):tupEq H [tx w.1,tx w.2] v=decide (x=w):=by
 obtain ⟨t,rfl,e⟩:=h;have txs:∀ x y:List Nat,eqV (tx x) (tx y)=decide (x=y):=fun x y=>by
  show (st x == st y)=_;rw [Bool.eq_iff_iff,beq_iff_eq,km,decide_eq_true_eq]
 unfold tupEq;simp only [e,List.map_cons,List.map_nil,eqDs,eqD,txs,Bool.and_true];rw [Bool.eq_iff_iff];simp [Prod.ext_iff]
theorem mK {H:Hp} {w:Way}:∀ {B:List Way} {us:List V},Paired (WayAt H) B us->us.any (tupEq H [tx w.1,tx w.2])=decide (w ∈ B)
 | _,_,.nil=>by simp
 | _,_,.cons (a:=x) r t=>by
  rw [List.any_cons,vW r,mK t,Bool.eq_iff_iff,Bool.or_eq_true,decide_eq_true_eq,decide_eq_true_eq,decide_eq_true_eq,List.mem_cons];exact ⟨fun h=>h.imp Eq.symm id,fun h=>h.imp Eq.symm id⟩
theorem jy {H:Hp}:∀ {B:List Way} {us:List V},Paired (WayAt H) B us->∀ y ∈ us,FlatT H y
 | _,_,.nil,y,hy=>by simp at hy
 | _,_,.cons ⟨t,e,q⟩ p,y,hy=>by
  rcases List.mem_cons.mp hy with rfl | hy
  ·exact ⟨t,_,e,q,rfl⟩
  ·exact jy p y hy
noncomputable def iu (K:Frag):Sp:=ky fun v=>av fun p=>aE fun H Q _=>(Ex2 fun (n:List Nat) (ls:List (List Nat))=>v=tx n/\H p=some (.lst (ls.map tx))/\n ∉ ls/\Q .non H)\/(Ex3 fun (x:Way) (xs:List Way) (us:List V)=>WayAt H x v/\H p=some (.lst us)/\Paired (WayAt H) xs us/\x ∉ xs/\Q .non H)
theorem dH (T:Top K mg):Callee P w K mg base 1 "check_new" ["thing", "earlier"] (iu K):=by
 refine T.mo.cal pV (by unfold iu; exact LenSp.h) (fun _ _ _ _ _ _ us hl=>match us,hl with | [_,_],_=>rfl) (fun f cdv A outer s H vs Q E hr h=>?_);unfold iu at h;walk_at "el";refine ⟨_,(ah (aW (aB (OpR.or (inE K rfl) (yR K rfl hr)) (qv 0) (qv 1)) (ah bO) aC)),?_⟩;rename_i v p;rcases h with ⟨n,ls,rfl,e,hn,q⟩ | ⟨x,xs,us,⟨t,rfl,et⟩,e,pr,hn,q⟩
 ·walk_at "rd";refine .inl ⟨_,.inl (SqL.of e),rfl,mM _,?_⟩;rw [pf];walk_at "rd";rw [if_neg hn];exact q
 ·walk_at "rd";refine .inr ⟨_,_,SqL.of e,et,rfl,jy pr,?_⟩;rw [mK pr];walk_at "rd";rw [if_neg hn];exact q
noncomputable def eS (K:Frag):Sp:=av fun p=>aE fun H Q _=>∃ ls:List Fld,Lay H p ls/\ls.length<=1000/\(ls.map (·.1)).Nodup/\(∀ x ∈ ls,1<=x.2)/\toT ∈ ls.map (·.1)/\∀ H',Same H H'->Q .non H'
theorem i6 {α:Type} {l:List α} (nd:l.Nodup) {i:Nat} (h:i < l.length):l[i] ∉ l.take i:=fun hm=>by
 obtain ⟨j,hj,e⟩:=List.mem_take_iff_getElem.mp hm;have:=(List.getElem_inj nd).mp e
 lia
theorem mF (T:Top K mg):Callee P w K mg base 2 "check_layout" ["layout"] (eS K):=by
 refine T.jt.cal cZ (by unfold eS; exact LenSp.h) (fun _ _ _ _ _ _ us hl=>match us,hl with | [_],_=>rfl) (fun f cdv A outer s H vs Q E hr h=>?_);unfold eS at h;walk_at "el";refine ⟨_,(ag (aq (i:=1) cZ.nd rfl lc (aL ae))
   (ag (bw PassesOwn.never rfl (iterE K rfl (qv 0)) (tupE K rfl rfl (n:=2) (ao (aj (i:=2) cZ.nd rfl lc) (ao (aj (i:=3) cZ.nd rfl lc) aM))) (ag (aw (am (dH T) hr.m rfl (aa (qv 2) (aa (qv 1) ae))))
   (ag (aW (aB si (qv 3) ad) (ah bO) aC)
   (ah (aw (aY (qv 1) (qv 2)))))))
   (ah (aW (aB (notinE K rfl) (qs [116,111]) (qv 1)) (ah bO) aC)))),?_⟩
 rename_i p;obtain ⟨ls,⟨vs,e0,pr⟩,hn,nd,hp,hto,q⟩:=h;have hl:=pr.length;walk_at "rd";refine ⟨Nat.zero_le _,fun g hg=>?_⟩;have s1:=af hg (.lst []);refine .inl ⟨⟨_,SqL.of (s1 _ _ e0)⟩,?_⟩;refine aN (xs:=vs) (fun i σ H'=>Ex2 fun u v=>σ = [some (.ref p),some (.ref g),u,v]/\Same H H'/\H' g=some (.lst (((ls.take i).map (·.1)).map tx))) ⟨none,none,rfl,s1,ab⟩ (fun i σ H' _ ⟨_,_,_,z,_⟩=>SqL.of (z _ _ e0)) ?_ ?_
 ·rintro i x σ H1 hx ⟨u,v,rfl,s2,e2⟩;have hi:i < vs.length:=(List.getElem?_eq_some_iff.mp hx).1;have hil:i < ls.length:=by lia
  obtain ⟨y,hy,t,ey,et⟩:=aA pr (List.getElem?_eq_getElem hil);obtain rfl:x=.ref t:=by rw [hy] at hx; rw [<- Option.some.inj hx,ey]
  refine ⟨t,[_,_],rfl,SqT.of (s2 _ _ et),rfl,_,[_],rfl,_,[],rfl,rfl,?_⟩;walk_at "rd";have hni:ls[i].1 ∉ (ls.take i).map (·.1):=by
   rw [List.map_take];have:=i6 nd (i:=i) (by simpa using hil)
   rwa [List.getElem_map] at this
  refine .inl ⟨ls[i].1,_,rfl,e2,hni,?_⟩;walk_at "rd";have hpi:=hp ls[i] (List.getElem_mem hil);rw [if_neg (by lia)];refine ⟨⟨_,e2⟩,_,e2,sizeBig (by simp; lia),some (tx ls[i].1),some (.int ls[i].2),rfl,aG s2 hg,?_⟩;rw [ab,List.take_add_one,List.getElem?_eq_getElem hil,Option.toList_some,List.map_append,List.map_append];rfl
 ·rintro σ H1 ⟨u,v,rfl,s2,e2⟩;rw [<- hl,List.take_length] at e2;walk_at "rd";refine ⟨_,.inl (SqL.of e2),rfl,mM _,?_⟩;rw [show V.str (st [116,111])=tx toT from rfl,pf];walk_at "rd";rw [if_pos hto];exact q H1 s2
theorem qp {r:List Nat} {W:Nat} (h:RowL r) (hl:r.length=W):textOf (tx r) (W:Int) [48,49,45]=true:=by
 simp only [textOf,az,Bool.and_eq_true,decide_eq_true_eq,List.all_eq_true];refine ⟨by lia,fun c hc=>?_⟩;rcases h c hc with z | z | z <;> simp [z]
theorem qJ {r:List Nat} (h:∀ c ∈ r,c=48\/c=49):textOf (tx r) (r.length:Int) [48,49]=true:=by
 simp only [textOf,az,Bool.and_eq_true,decide_eq_true_eq,List.all_eq_true];refine ⟨trivial,fun c hc=>?_⟩;rcases h c hc with z | z <;> simp [z]
noncomputable def gW (K:Frag):Sp:=av fun p=>aZ fun r=>aZ fun w=>aZ fun o=>aE fun H Q _=>∃ ls:List Fld,Lay H p ls/\ls.length<=1000/\widthL ls<=1000/\RuleOk (widthL ls) (r.cps.toList,w.cps.toList,o.cps.toList)/\∀ H',Same H H'->Q .non H'
theorem jN (T:Top K mg):Callee P w K mg base 3 "check_rule" ["layout", "row", "word", "over"] (gW K):=by
 refine T.lx.cal jK (by unfold gW; exact LenSp.h) (fun _ _ _ _ _ _ us hl=>match us,hl with | [_,_,_,_],_=>rfl) (fun f cdv A outer s H vs Q E hr h=>?_);unfold gW at h;walk_at "el";refine ⟨_,(ag (aq (i:=4) jK.nd rfl lc (am (iZ T) hr.m rfl (aa (qv 0) ae)))
   (ag (aW (ix (eE (am (oN T) hr.m rfl (aa (qv 1) (aa (qv 4) ae))))) (ah bO) aC)
   (ag (aW (aB (notinE K rfl) (qv 2) (xE T.u_WORDS rfl)) (ah bO) aC)
   (ah (aW (ix (eE (am (oN T) hr.m rfl (aa (qv 3) (aa (qv 4) ae))))) (ah bO) aC))))),?_⟩
 rename_i p r w' o;obtain ⟨r,rfl⟩:∃ x,r=st x:=⟨_,(bf r).symm⟩;obtain ⟨wd,rfl⟩:∃ x,w'=st x:=⟨_,(bf w').symm⟩;obtain ⟨o,rfl⟩:∃ x,o=st x:=⟨_,(bf o).symm⟩;obtain ⟨ls,hL,hn,hW,ok,q⟩:=h;simp only [az] at ok;have hr:=ok.rowN;have ho:=ok.overN;walk_at "rd";refine ⟨ls,hL,hn,fun H1 s1=>?_⟩;walk_at "rd";refine ⟨by show (st r).cps.toList.length<=1000; simp only [az]; exact Nat.le_trans (Nat.le_of_eq hr) hW,?_⟩;rw [show V.str (st r)=tx r from rfl,qp ok.row hr];walk_at "rd";intro W hW1;have hin:inV (V.str (st wd)) [V.str (Str.ofString "pass"),V.str (Str.ofString "drop")]=true:=by
  rcases ok.word with z | z
  ·rw [show wd=passT from z]; decide +kernel
  ·rw [show wd=dropT from z]; decide +kernel
 refine ⟨_,.inr hW1,rfl,rfl,?_⟩;rw [hin];walk_at "rd";refine ⟨by show (st o).cps.toList.length<=1000; simp only [az]; exact Nat.le_trans (Nat.le_of_eq ho) hW,?_⟩;rw [show V.str (st o)=tx o from rfl,qp ok.over ho];walk_at "rd";exact q H1 s1
noncomputable def iy:Sp:=ky fun v=>be fun w=>aE fun H Q _=>Known H v/\Q (.bl (textOf v w [48,49])) H
theorem py (T:Top K mg):Callee P w K mg base 2 "is_letter" ["thing", "width"] iy:=by
 refine T.mj.cal pK (by unfold iy; exact LenSp.h) (fun _ _ _ _ _ _ us hl=>match us,hl with | [_,_],_=>rfl) (fun f cdv A outer s H vs Q E hr h=>?_);unfold iy at h;walk_at "el";refine ⟨_,(ah (ax (am (jW T) hr.m rfl (aa (qv 0) (aa (qv 1) (aa (qs [48,49]) ae)))))),?_⟩;walk_at "rd";exact h
noncomputable def eK:Sp:=aZ fun b=>be fun n=>aE fun H Q _=>b.cps.toList.length<=1000/\(b.cps.toList.length:Int)<=n/\(∀ c ∈ b.cps.toList,c=48\/c=49)/\Q (.bl true) H
theorem mH (T:Top K mg):Callee P w K mg base 3 "is_beginning" ["thing", "longest"] eK:=by
 refine T.js.cal my (by unfold eK; exact LenSp.h) (fun _ _ _ _ _ _ us hl=>match us,hl with | [_,_],_=>rfl) (fun f cdv A outer s H vs Q E hr h=>?_);unfold eK at h;walk_at "el";refine ⟨_,(ah (ax (uD (jB .str rfl T.dM (qv 0) rfl T.vQ ve) (uD (pC zd (aH (lenE K rfl) rfl T.cq bK (aa (qv 0) ae)) (qv 1)) (yn (am (py T) hr.m rfl (aa (qv 0) (aa (aH (lenE K rfl) rfl T.cq bK (aa (qv 0) ae)) ae)))))))),?_⟩;rename_i b n;obtain ⟨b,rfl⟩:∃ x,b=st x:=⟨_,(bf b).symm⟩;obtain ⟨h1,h2,h3,q⟩:=h;simp only [az] at h1 h2 h3;walk_at "rd";rw [if_pos h2];refine ⟨by lia,by lia,?_⟩;walk_at "rd";refine ⟨h1,?_⟩;rw [show V.str (st b)=tx b from rfl,qJ h3];exact q
noncomputable def f8 (K:Frag):Sp:=av fun p=>av fun t=>aE fun H Q _=>Ex2 fun (ls:List Fld) (hs:House)=>Lay H p ls/\ls.length<=1000/\widthL ls<=1000/\HouseAt H t hs/\hs.1.length<=1000/\(hs.1.map (·.1)).Nodup/\(∀ x ∈ hs.1,∀ r ∈ x.2,RuleOk (widthL ls) r)/\∀ H',Same H H'->Q .non H'
theorem no (T:Top K mg):Callee P w K mg base 4 "check_gates" ["layout", "house"] (f8 K):=by
 refine T.j5.cal bS (by unfold f8; exact LenSp.h) (fun _ _ _ _ _ _ us hl=>match us,hl with | [_,_],_=>rfl) (fun f cdv A outer s H vs Q E hr h=>?_);unfold f8 at h;walk_at "el";refine ⟨_,(ag (aq (i:=2) bS.nd rfl lc (aL ae))
   (ah (bw PassesOwn.never rfl (iterE K rfl (ai (ixE K rfl) (qv 1) ad (fun _ _=>rfl))) (tupE K rfl rfl (n:=2) (ao (aj (i:=3) bS.nd rfl lc) (ao (aj (i:=4) bS.nd rfl lc) aM))) (ag (aw (am (dH T) hr.m rfl (aa (qv 3) (aa (qv 2) ae))))
   (ag (bw PassesOwn.never rfl (iterE K rfl (qv 4)) (tupE K rfl rfl (n:=3) (ao (aj (i:=5) bS.nd rfl lc) (ao (aj (i:=6) bS.nd rfl lc) (ao (aj (i:=7) bS.nd rfl lc) aM)))) (ah (aw (am (jN T) hr.m rfl (aa (qv 0) (aa (qv 5) (aa (qv 6) (aa (qv 7) ae))))))))
   (ah (aw (aY (qv 2) (qv 3))))))))),?_⟩
 rename_i p t;obtain ⟨ls,hs,hL,hn,hW,hH,hg,nd,hr',q⟩:=h;walk_at "rd";refine ⟨Nat.zero_le _,fun g hg0=>?_⟩;have s1:=af hg0 (.lst []);obtain ⟨ga,wa,eh,⟨gv,eg,pg⟩,_⟩:=hH;have hgl:=pg.length;refine ⟨_,_,.inr (SqT.of (s1 _ _ eh)),rfl,?_⟩;walk_at "rd";refine .inl ⟨⟨_,SqL.of (s1 _ _ eg)⟩,?_⟩;refine aN (xs:=gv) (fun i σ H'=>Ex5 fun u3 u4 u5 u6 u7=>σ = [some (.ref p),some (.ref t),some (.ref g),u3,u4,u5,u6,u7]/\Same H H'/\H' g=some (.lst (((hs.1.take i).map (·.1)).map tx))) ⟨none,none,none,none,none,rfl,s1,ab⟩ (fun i σ H' _ ⟨_,_,_,_,_,_,z,_⟩=>SqL.of (z _ _ eg)) ?_ ?_
 ·rintro i x σ H1 hx ⟨u3,u4,u5,u6,u7,rfl,s2,e2⟩;have hi:i < gv.length:=(List.getElem?_eq_some_iff.mp hx).1;have hil:i < hs.1.length:=by lia
  obtain ⟨y,hy,t',r',ey,et,hR⟩:=aA pg (List.getElem?_eq_getElem hil);obtain rfl:x=.ref t':=by rw [hy] at hx; rw [<- Option.some.inj hx,ey]
  refine ⟨t',[_,_],rfl,SqT.of (s2 _ _ et),rfl,_,[_],rfl,_,[],rfl,rfl,?_⟩;walk_at "rd";have hni:hs.1[i].1 ∉ (hs.1.take i).map (·.1):=by
   rw [List.map_take];have:=i6 nd (i:=i) (by simpa using hil)
   rwa [List.getElem_map] at this
  refine .inl ⟨hs.1[i].1,_,rfl,e2,hni,?_⟩;obtain ⟨rv,er,prr⟩:=hR;have hrl:=prr.length;refine .inl ⟨⟨_,SqL.of (s2 _ _ er)⟩,?_⟩;refine aN (xs:=rv) (fun j σ H'=>Ex3 fun v5 v6 v7=>σ = [some (.ref p),some (.ref t),some (.ref g),some (tx hs.1[i].1),some (.ref r'),v5,v6,v7]/\Same H1 H') ⟨_,_,_,rfl,Same.refl _⟩ (fun j σ H' _ ⟨_,_,_,_,z⟩=>SqL.of (z _ _ (s2 _ _ er))) ?_ ?_
  ·rintro j z σ H2 hz ⟨v5,v6,v7,rfl,s3⟩;have hj:j < rv.length:=(List.getElem?_eq_some_iff.mp hz).1;have hjl:j < hs.1[i].2.length:=by lia
   obtain ⟨y2,hy2,t2,ey2,et2⟩:=aA prr (List.getElem?_eq_getElem hjl);obtain rfl:z=.ref t2:=by rw [hy2] at hz; rw [<- Option.some.inj hz,ey2]
   have s23:=s2.trans s3;refine ⟨t2,[_,_,_],rfl,SqT.of (s23 _ _ et2),rfl,_,[_,_],rfl,_,[_],rfl,_,[],rfl,rfl,?_⟩;walk_at "rd";refine ⟨ls,hL.same s23,hn,hW,by simp only [az]; exact hr' hs.1[i] (List.getElem_mem hil) hs.1[i].2[j] (List.getElem_mem hjl),fun H3 s4=>?_⟩;exact ⟨_,_,_,rfl,s3.trans s4⟩
  ·rintro σ H2 ⟨v5,v6,v7,rfl,s3⟩;have e3:=s3 _ _ e2;walk_at "rd";refine ⟨⟨_,e3⟩,_,e3,sizeBig (by simp; lia),some (tx hs.1[i].1),some (.ref r'),_,_,_,rfl,aG (s2.trans s3) hg0,?_⟩;rw [ab,List.take_add_one,List.getElem?_eq_getElem hil,Option.toList_some,List.map_append,List.map_append];rfl
 ·rintro σ H1 ⟨u3,u4,u5,u6,u7,rfl,s2,e2⟩;exact q H1 s2
noncomputable def iE (K:Frag):Sp:=av fun p=>av fun t=>aZ fun b=>aZ fun d=>av fun bs=>aE fun H Q _=>Ex5 fun (ls:List Fld) (hs:House) (bl:List (List Nat)) (fa fb:Nat)=>Lay H p ls/\spanF ls toT 0=some (fa,fb)/\fb<=1000/\HouseAt H t hs/\b.cps.toList.length<=fb - fa/\(∀ c ∈ b.cps.toList,c=48\/c=49)/\H bs=some (.lst (bl.map tx))/\b.cps.toList ∉ bl/\d.cps.toList ∈ hs.1.map (·.1)/\Low d.cps.toList/\d.cps.toList.length<=1000/\∀ H',Same H H'->Q .non H'
theorem kD (T:Top K mg):Callee P w K mg base 4 "check_way" ["layout", "house", "beginning", "door", "beginnings"] (iE K):=by
 refine T.mx.cal ku (by unfold iE; exact LenSp.h) (fun _ _ _ _ _ _ us hl=>match us,hl with | [_,_,_,_,_],_=>rfl) (fun f cdv A outer s H vs Q E hr h=>?_);unfold iE at h;walk_at "el";refine ⟨_,(ag (aq (i:=5) ku.nd rfl lc (am (oi T) hr.m rfl (aa (qv 0) (aa (qs [116,111]) ae))))
   (ag (aW (ix (eE (am (mH T) hr.m rfl (aa (qv 2) (aa (al pS (ai (ixE K rfl) (qv 5) ad (fun _ _=>rfl)) (ai (ixE K rfl) (qv 5) ad (fun _ _=>rfl))) ae))))) (ah bO) aC)
   (ag (aw (am (dH T) hr.m rfl (aa (qv 2) (aa (qv 4) ae))))
   (ah (aw (am (gP T) hr.m rfl (aa (qv 1) (aa (qv 3) ae)))))))),?_⟩
 rename_i p t b d bs;obtain ⟨b,rfl⟩:∃ x,b=st x:=⟨_,(bf b).symm⟩;obtain ⟨d,rfl⟩:∃ x,d=st x:=⟨_,(bf d).symm⟩;obtain ⟨ls,hs,bl,fa,fb,hL,esp,hfb,hH,hbl,hb2,ebs,hbn,hdm,hdl,hdn,q⟩:=h;simp only [az] at hbl hb2 hbn hdm hdl hdn;have hab:=qy ls toT 0 fa fb esp;walk_at "rd";refine ⟨ls,hL,by decide,by decide,fun a1 b1 e1 t1 H1 ht1 s1 et1=>?_,fun e1=>?_⟩
 ·have e1':spanF ls toT 0=some (a1,b1):=e1;rw [esp] at e1';cases e1';walk_at "rd";refine ⟨_,_,.inr (SqT.of et1),rfl,_,_,.inr (SqT.of et1),rfl,?_⟩;walk_at "rd";refine ⟨by simp only [az]; lia,by simp only [az]; lia,by simp only [az]; exact hb2,?_⟩;walk_at "rd";refine .inl ⟨b,bl,rfl,s1 _ _ ebs,hbn,?_⟩;walk_at "rd";refine ⟨hs,hH.same s1,fun c hc=>?_,by simp only [az]; exact hdn,fun rs ers r H2 s2 hR=>q H2 (s1.trans s2),fun en=>?_⟩
  ·have:=hdl c (by simpa using hc)
   lia
  ·simp only [az] at en;exfalso;unfold gateOf at en;obtain ⟨x,hx,ex⟩:=List.mem_map.mp hdm;have:=List.find?_eq_none.mp (Option.map_eq_none_iff.mp en) x hx;simp [ex] at this
 ·have e1':spanF ls toT 0=none:=e1;rw [esp] at e1';cases e1'
noncomputable def gR (K:Frag):Sp:=av fun p=>av fun t=>aE fun H Q _=>Ex4 fun (ls:List Fld) (hs:House) (fa fb:Nat)=>Lay H p ls/\spanF ls toT 0=some (fa,fb)/\fb<=1000/\HouseAt H t hs/\hs.2.length<=1000/\WaysOk (fb - fa) (hs.1.map (·.1)) hs.2/\(∀ x ∈ hs.1,Low x.1/\x.1.length<=1000)/\∀ H',Same H H'->Q .non H'
theorem nX (T:Top K mg):Callee P w K mg base 5 "check_ways" ["layout", "house"] (gR K):=by
 refine T.ly.cal ee (by unfold gR; exact LenSp.h) (fun _ _ _ _ _ _ us hl=>match us,hl with | [_,_],_=>rfl) (fun f cdv A outer s H vs Q E hr h=>?_);unfold gR at h;walk_at "el";refine ⟨_,(ag (aq (i:=2) ee.nd rfl lc (aL ae))
   (ah (bw PassesOwn.never rfl (iterE K rfl (ai (ixE K rfl) (qv 1) ad (fun _ _=>rfl))) (tupE K rfl rfl (n:=2) (ao (aj (i:=3) ee.nd rfl lc) (ao (aj (i:=4) ee.nd rfl lc) aM))) (ag (aw (am (kD T) hr.m rfl (aa (qv 0) (aa (qv 1) (aa (qv 3) (aa (qv 4) (aa (qv 2) ae)))))))
   (ah (aw (aY (qv 2) (qv 3)))))))),?_⟩
 rename_i p t;obtain ⟨ls,hs,fa,fb,hL,esp,hfb,hH,hg,wok,hlo,q⟩:=h;walk_at "rd";refine ⟨Nat.zero_le _,fun g hg0=>?_⟩;have s1:=af hg0 (.lst []);obtain ⟨ga,wa,eh,hG,⟨wv,ew,pw⟩⟩:=id hH;have hwl:=pw.length;refine ⟨_,_,.inr (SqT.of (s1 _ _ eh)),rfl,?_⟩;walk_at "rd";refine .inl ⟨⟨_,SqL.of (s1 _ _ ew)⟩,?_⟩;refine aN (xs:=wv) (fun i σ H'=>Ex2 fun u3 u4=>σ = [some (.ref p),some (.ref t),some (.ref g),u3,u4]/\Same H H'/\H' g=some (.lst (((hs.2.take i).map (·.1)).map tx))) ⟨none,none,rfl,s1,ab⟩ (fun i σ H' _ ⟨_,_,_,z,_⟩=>SqL.of (z _ _ ew)) ?_ ?_
 ·rintro i x σ H1 hx ⟨u3,u4,rfl,s2,e2⟩;have hi:i < wv.length:=(List.getElem?_eq_some_iff.mp hx).1;have hil:i < hs.2.length:=by lia
  obtain ⟨y,hy,t',ey,et⟩:=aA pw (List.getElem?_eq_getElem hil);obtain rfl:x=.ref t':=by rw [hy] at hx; rw [<- Option.some.inj hx,ey]
  refine ⟨t',[_,_],rfl,SqT.of (s2 _ _ et),rfl,_,[_],rfl,_,[],rfl,rfl,?_⟩;walk_at "rd";have hmi:=List.getElem_mem hil;have hni:hs.2[i].1 ∉ (hs.2.take i).map (·.1):=by
   rw [List.map_take];have:=i6 wok.nd (i:=i) (by simpa using hil)
   rwa [List.getElem_map] at this
  have hdo:=wok.door _ hmi;obtain ⟨xg,hxg,exg⟩:=List.mem_map.mp hdo;obtain ⟨lo1,lo2⟩:=hlo xg hxg;rw [exg] at lo1 lo2;refine ⟨ls,hs,_,fa,fb,hL.same s2,esp,hfb,hH.same s2,by simp only [az]; exact wok.n _ hmi,by simp only [az]; exact wok.bits _ hmi,e2,by simp only [az]; exact hni,by simp only [az]; exact hdo,by simp only [az]; exact lo1,by simp only [az]; exact lo2,fun H2 s3=>?_⟩;have e3:=s3 _ _ e2;walk_at "rd";refine ⟨⟨_,e3⟩,_,e3,sizeBig (by simp; lia),some (tx hs.2[i].1),some (tx hs.2[i].2),rfl,aG (s2.trans s3) hg0,?_⟩;rw [ab,List.take_add_one,List.getElem?_eq_getElem hil,Option.toList_some,List.map_append,List.map_append];rfl
 ·rintro σ H1 ⟨u3,u4,rfl,s2,e2⟩;exact q H1 s2
structure HouseOk5 (W S:Nat) (hs:House):Prop where
 nd:(hs.1.map (·.1)).Nodup
 g3:hs.1.length<=8
 rules:∀ x ∈ hs.1,∀ r ∈ x.2,RuleOk W r
 many:∀ x ∈ hs.1,x.2.length<=300
 ways:WaysOk S (hs.1.map (·.1)) hs.2
 w8:hs.2.length<=100
structure NetOk (n:Net):Prop where
 lay:LayOk n.1
 nd:(n.2.1.map (·.1)).Nodup
 low:∀ x ∈ n.2.1,Low x.1/\x.1.length<=1000
 house:∀ x ∈ n.2.1,HouseOk5 (widthL n.1) ((spanG n.1).2 - (spanG n.1).1) x.2
 door:∀ x ∈ n.2.1,∀ g ∈ x.2.1,Low g.1/\g.1.length<=1000
 h100:n.2.1.length<=100
 ends:(endsOf n.2.2).Nodup
 spots:∀ s ∈ endsOf n.2.2,s ∈ spotsOf n.2.1
 l500:n.2.2.length<=500
noncomputable def eO (K:Frag):Sp:=av fun p=>av fun t=>aE fun H Q _=>Ex2 fun (ls:List Fld) (hs:List Named)=>Lay H p ls/\LayOk ls/\Houses H t hs/\hs.length<=100/\(hs.map (·.1)).Nodup/\(∀ x ∈ hs,HouseOk5 (widthL ls) ((spanG ls).2 - (spanG ls).1) x.2)/\(∀ x ∈ hs,∀ g ∈ x.2.1,Low g.1/\g.1.length<=1000)/\∀ H',Same H H'->Q .non H'
theorem mE (T:Top K mg):Callee P w K mg base 6 "check_houses" ["layout", "houses"] (eO K):=by
 refine T.ju.cal da (by unfold eO; exact LenSp.h) (fun _ _ _ _ _ _ us hl=>match us,hl with | [_,_],_=>rfl) (fun f cdv A outer s H vs Q E hr h=>?_);unfold eO at h;walk_at "el";refine ⟨_,(ag (aq (i:=2) da.nd rfl lc (aL ae))
   (ah (bw PassesOwn.never rfl (iterE K rfl (qv 1)) (tupE K rfl rfl (n:=2) (ao (aj (i:=3) da.nd rfl lc) (ao (aj (i:=4) da.nd rfl lc) aM))) (ag (aw (am (dH T) hr.m rfl (aa (qv 3) (aa (qv 2) ae))))
   (ag (aw (am (no T) hr.m rfl (aa (qv 0) (aa (qv 4) ae))))
   (ag (aw (am (nX T) hr.m rfl (aa (qv 0) (aa (qv 4) ae))))
   (ah (aw (aY (qv 2) (qv 3)))))))))),?_⟩
 rename_i p t;obtain ⟨ls,hs,hL,ok,⟨hv,e0,pr⟩,hn,nd,hok,hlo,q⟩:=h;have hl:=pr.length;have w2:=ok.w2;have l3:=ok.len;obtain ⟨fa,fb,esp,hab,hb⟩:=ok.to;have eG:spanG ls=(fa,fb):=by unfold spanG; rw [esp]; rfl
 rw [eG] at hok;walk_at "rd";refine ⟨Nat.zero_le _,fun g hg0=>?_⟩;have s1:=af hg0 (.lst []);refine .inl ⟨⟨_,SqL.of (s1 _ _ e0)⟩,?_⟩;refine aN (xs:=hv) (fun i σ H'=>Ex2 fun u3 u4=>σ = [some (.ref p),some (.ref t),some (.ref g),u3,u4]/\Same H H'/\H' g=some (.lst (((hs.take i).map (·.1)).map tx))) ⟨none,none,rfl,s1,ab⟩ (fun i σ H' _ ⟨_,_,_,z,_⟩=>SqL.of (z _ _ e0)) ?_ ?_
 ·rintro i x σ H1 hx ⟨u3,u4,rfl,s2,e2⟩;have hi:i < hv.length:=(List.getElem?_eq_some_iff.mp hx).1;have hil:i < hs.length:=by lia
  obtain ⟨y,hy,t',q',ey,et,hH⟩:=aA pr (List.getElem?_eq_getElem hil);obtain rfl:x=.ref t':=by rw [hy] at hx; rw [<- Option.some.inj hx,ey]
  refine ⟨t',[_,_],rfl,SqT.of (s2 _ _ et),rfl,_,[_],rfl,_,[],rfl,rfl,?_⟩;walk_at "rd";have hmi:=List.getElem_mem hil;have hoi:=hok _ hmi;have hni:hs[i].1 ∉ (hs.take i).map (·.1):=by
   rw [List.map_take];have:=i6 nd (i:=i) (by simpa using hil)
   rwa [List.getElem_map] at this
  refine .inl ⟨hs[i].1,_,rfl,e2,hni,?_⟩;walk_at "rd";have g3:=hoi.g3;have w8:=hoi.w8;refine ⟨ls,hs[i].2,hL.same s2,by lia,by lia,hH.same s2,by lia,hoi.nd,hoi.rules,fun H2 s3=>?_⟩;walk_at "rd";have s23:=s2.trans s3;refine ⟨ls,hs[i].2,fa,fb,hL.same s23,esp,by lia,hH.same s23,by lia,hoi.ways,hlo _ hmi,fun H3 s4=>?_⟩;have e3:=s4 _ _ (s3 _ _ e2);walk_at "rd";refine ⟨⟨_,e3⟩,_,e3,sizeBig (by simp; lia),some (tx hs[i].1),some (.ref q'),rfl,aG (s23.trans s4) hg0,?_⟩;rw [ab,List.take_add_one,List.getElem?_eq_getElem hil,Option.toList_some,List.map_append,List.map_append];rfl
 ·rintro σ H1 ⟨u3,u4,rfl,s2,e2⟩;exact q H1 s2
theorem pT {hs:List Named} (nd:(hs.map (·.1)).Nodup) {x:Way} (h:x ∈ spotsOf hs):∃ h',∃ rs,houseOf hs x.1=some h'/\gateOf h'.1 x.2=some rs:=by
 unfold spotsOf at h;obtain ⟨y,hy,hx⟩:=List.mem_flatMap.mp h;obtain ⟨g,hg,rfl⟩:=List.mem_map.mp hx;obtain ⟨i,hi,rfl⟩:=List.getElem_of_mem hy;refine ⟨hs[i].2,?_⟩;have e1:houseOf hs hs[i].1=some hs[i].2:=by
  unfold houseOf;rw [show hs.find? (fun g=>decide (g.1=hs[i].1))=some hs[i] from List.find?_eq_some_iff_append.mpr ⟨by simp,hs.take i,hs.drop (i+1),by simp,fun z hz=>?_⟩]
  ·rfl
  ·obtain ⟨j,hj,rfl⟩:=List.mem_take_iff_getElem.mp hz;have:=List.pairwise_iff_getElem.mp nd j i (by simp; lia) (by simp; lia) (by lia);rw [List.getElem_map,List.getElem_map] at this;simpa using this
 cases e:gateOf hs[i].2.1 g.1 with
 | some rs=>exact ⟨rs,e1,rfl⟩
 | none=>
  exfalso;unfold gateOf at e;have:=List.find?_eq_none.mp (Option.map_eq_none_iff.mp e) g hg;simp at this
theorem oB (ls:List Line) (i:Nat) (h:i < ls.length):endsOf (ls.take (i+1))=endsOf (ls.take i)++[ls[i].1,ls[i].2]:=by
 unfold endsOf;rw [List.take_add_one,List.getElem?_eq_getElem h,Option.toList_some,List.flatMap_append];simp
theorem uC (ls:List Line):(endsOf ls).length=2*ls.length:=by
 unfold endsOf
 induction ls with
 | nil=>rfl
 | cons x ls ih=>rw [List.flatMap_cons,List.length_append,ih]; simp; lia
theorem qB {ls:List Line} {i:Nat} (h:i < ls.length):endsOf ls=endsOf (ls.take i)++([ls[i].1,ls[i].2]++endsOf (ls.drop (i+1))):=by
 conv=>lhs; rw [<- List.take_append_drop (i+1) ls]
 rw [show endsOf (ls.take (i+1)++ls.drop (i+1))=endsOf (ls.take (i+1))++endsOf (ls.drop (i+1)) by unfold endsOf; rw [List.flatMap_append],oB ls i h,List.append_assoc]
noncomputable def gi (K:Frag):Sp:=av fun t=>aE fun H Q _=>∃ N:Net,NetAt H t N/\NetOk N/\∀ H',Same H H'->Q .non H'
theorem jk (T:Top K mg):Callee P w K mg base 3 "check_lines" ["net"] (gi K):=by
 refine T.j6.cal dE (by unfold gi; exact LenSp.h) (fun _ _ _ _ _ _ us hl=>match us,hl with | [_],_=>rfl) (fun f cdv A outer s H vs Q E hr h=>?_);unfold gi at h;walk_at "el";refine ⟨_,(ag (aq (i:=1) dE.nd rfl lc (aL ae))
   (ah (bw PassesOwn.never rfl (iterE K rfl (ai (ixE K rfl) (qv 0) ad (fun _ _=>rfl))) (aj (i:=2) dE.nd rfl lc) (ah (bw PassesOwn.never rfl (iterE K rfl (qv 2)) (aj (i:=3) dE.nd rfl lc) (ag (aw (am (jM T) hr.m rfl (aa (qv 0) (aa (ai (ixE K rfl) (qv 3) ad (fun _ _=>rfl)) (aa (ai (ixE K rfl) (qv 3) ad (fun _ _=>rfl)) ae)))))
   (ag (aw (am (dH T) hr.m rfl (aa (qv 3) (aa (qv 1) ae))))
   (ah (aw (aY (qv 1) (qv 3))))))))))),?_⟩
 rename_i t;obtain ⟨N,hN,ok,q⟩:=h;obtain ⟨a,b,c,e,hL,hH,⟨cv,ec,pc⟩⟩:=id hN;have hcl:=pc.length;have h500:=ok.l500;walk_at "rd";refine ⟨Nat.zero_le _,fun g hg0=>?_⟩;have s1:=af hg0 (.lst []);refine ⟨_,_,.inr (SqT.of (s1 _ _ e)),rfl,?_⟩;walk_at "rd";refine .inl ⟨⟨_,SqL.of (s1 _ _ ec)⟩,?_⟩;refine aN (xs:=cv) (fun i σ H'=>Ex3 fun u2 u3 tv=>σ = [some (.ref t),some (.ref g),u2,u3]/\Same H H'/\H' g=some (.lst tv)/\Paired (WayAt H') (endsOf (N.2.2.take i)) tv) ⟨none,none,[],rfl,s1,ab,.nil⟩ (fun i σ H' _ ⟨_,_,_,_,z,_⟩=>SqL.of (z _ _ ec)) ?_ ?_
 ·rintro i x σ H1 hx ⟨u2,u3,tv,rfl,s2,e2,p2⟩;have hi:i < cv.length:=(List.getElem?_eq_some_iff.mp hx).1;have hil:i < N.2.2.length:=by lia
  obtain ⟨y,hy,t',v1,v2,ey,et,w1,w2⟩:=aA pc (List.getElem?_eq_getElem hil);obtain rfl:x=.ref t':=by rw [hy] at hx; rw [<- Option.some.inj hx,ey]
  have ea:=qB hil;have end':=ok.ends;have hin:∀ z ∈ [N.2.2[i].1,N.2.2[i].2],z ∈ spotsOf N.2.1:=fun z hz=>ok.spots z (by rw [ea]; exact List.mem_append_right _ (List.mem_append_left _ hz))
  rw [ea,<- List.append_assoc] at end';have end2:=(List.nodup_append.mp end').1;have el:=uC (N.2.2.take i);rw [List.length_take] at el;walk_at "rd";refine .inr ⟨⟨_,SqT.of (s2 _ _ et)⟩,?_⟩;have wl:Paired (WayAt H) [N.2.2[i].1,N.2.2[i].2] [v1,v2]:=.cons w1 (.cons w2 .nil);refine vG (xs:=[v1,v2]) (fun j σ H'=>Ex2 fun u3 tv=>σ = [some (.ref t),some (.ref g),some (.ref t'),u3]/\Same H H'/\H' g=some (.lst tv)/\Paired (WayAt H') (endsOf (N.2.2.take i)++[N.2.2[i].1,N.2.2[i].2].take j) tv) ⟨_,tv,rfl,s2,e2,by simpa using p2⟩ (fun j σ H' _ ⟨_,_,_,z,_⟩=>SqT.of (z _ _ et)) ?_ ?_
  ·rintro j v σ H2 hv ⟨u3,tv2,rfl,s3,e3,p3⟩;have hj2:j < 2:=(List.getElem?_eq_some_iff.mp hv).1;have hjl:j < [N.2.2[i].1,N.2.2[i].2].length:=hj2;obtain ⟨y3,hy3,ta,eya,eta⟩:=aA wl (List.getElem?_eq_getElem hjl);obtain rfl:v=.ref ta:=by rw [hy3] at hv; rw [<- Option.some.inj hv,eya]
   have hsp:=hin _ (List.getElem_mem hjl);have hfresh:[N.2.2[i].1,N.2.2[i].2][j] ∉ endsOf (N.2.2.take i)++[N.2.2[i].1,N.2.2[i].2].take j:=by
    have hk:(endsOf (N.2.2.take i)).length+j < (endsOf (N.2.2.take i)++[N.2.2[i].1,N.2.2[i].2]).length:=by rw [List.length_append]; exact Nat.add_lt_add_left hjl _
    have:=i6 end2 hk;rw [List.getElem_append_right (by lia)] at this;simp only [Nat.add_sub_cancel_left,List.take_append,List.take_of_length_le (Nat.le_add_right _ j)] at this;exact this
   have etk:[N.2.2[i].1,N.2.2[i].2].take (j+1)=[N.2.2[i].1,N.2.2[i].2].take j++[[N.2.2[i].1,N.2.2[i].2][j]]:=by rw [List.take_add_one,List.getElem?_eq_getElem hjl]; rfl
   have l5:([N.2.2[i].1,N.2.2[i].2].take j).length<=2:=by rw [List.length_take]; exact Nat.min_le_right _ _
   rw [etk];generalize [N.2.2[i].1,N.2.2[i].2][j]=z at hsp hfresh eta ⊢;obtain ⟨h',rs,hh1,hh2⟩:=pT ok.nd hsp;have lowz:Low z.1/\z.1.length<=1000/\Low z.2/\z.2.length<=1000:=by
    unfold spotsOf at hsp;obtain ⟨yy,hyy,hxx⟩:=List.mem_flatMap.mp hsp;obtain ⟨gg,hgg,rfl⟩:=List.mem_map.mp hxx;exact ⟨(ok.low yy hyy).1,(ok.low yy hyy).2,(ok.door yy hyy gg hgg).1,(ok.door yy hyy gg hgg).2⟩
   obtain ⟨lz1,lz2,lz3,lz4⟩:=lowz;walk_at "rd";refine ⟨_,_,.inr (SqT.of (s3 _ _ eta)),rfl,_,_,.inr (SqT.of (s3 _ _ eta)),rfl,?_⟩;refine ⟨N,hN.same s3,fun c hc=>?_,by simp only [az]; exact lz2,fun c hc=>?_,by simp only [az]; exact lz4,fun h2 eh2=>⟨fun rs2 _ H3 s4=>?_,fun en=>?_⟩,fun en=>?_⟩
   ·have:=lz1 c (by simpa using hc)
    lia
   ·have:=lz3 c (by simpa using hc)
    lia
   ·walk_at "rd";have e4:=s4 _ _ e3;have p4:=aD (fun t us q=>s4 _ _ q) p3;refine .inr ⟨z,_,_,⟨ta,rfl,s4 _ _ (s3 _ _ eta)⟩,e4,p4,hfresh,?_⟩;walk_at "rd";have l4:=p4.length;rw [List.length_append] at l4;refine ⟨⟨_,e4⟩,_,e4,sizeBig ?_,_,_,rfl,aG (s3.trans s4) hg0,ab,?_⟩
    ·lia
    ·rw [<- List.append_assoc];exact aO (aD (aK e4) p4) ⟨ta,rfl,aK e4 _ _ (s4 _ _ (s3 _ _ eta))⟩
   ·simp only [az] at eh2 en;rw [hh1] at eh2;cases eh2;rw [hh2] at en;cases en
   ·simp only [az] at en;rw [hh1] at en;cases en
  ·rintro σ H2 ⟨u3,tv2,rfl,s3,e3,p3⟩;refine ⟨_,_,tv2,rfl,s3,e3,?_⟩;rw [oB _ i hil];simpa using p3
 ·rintro σ H1 ⟨u2,u3,tv,rfl,s2,e2,p2⟩;exact q H1 s2
noncomputable def fS (K:Frag):Sp:=av fun t=>aE fun H Q _=>∃ N:Net,NetAt H t N/\NetOk N/\∀ H',Same H H'->Q (.bl true) H'
theorem ox:∀ (ls:List Fld) (n:List Nat) (a x y:Nat),spanF ls n a=some (x,y)->n ∈ ls.map (·.1)
 | [],_,_,_,_,h=>by cases h
 | (f,z)::l,n,a,x,y,h=>by
  rw [spanF] at h;split at h
  ·rename_i e;rw [List.map_cons,<- e];exact List.mem_cons_self
  ·exact List.mem_cons_of_mem _ (ox l n _ x y h)
theorem m5 (T:Top K mg):Callee P w K mg base 7 "net_checked" ["net"] (fS K):=by
 refine T.j3.cal nz (by unfold fS; exact LenSp.h) (fun _ _ _ _ _ _ us hl=>match us,hl with | [_],_=>rfl) (fun f cdv A outer s H vs Q E hr h=>?_);unfold fS at h;walk_at "el";refine ⟨_,(ag (aw (am (mF T) hr.m rfl (aa (ai (ixE K rfl) (qv 0) ad (fun _ _=>rfl)) ae)))
   (ag (aw (am (mE T) hr.m rfl (aa (ai (ixE K rfl) (qv 0) ad (fun _ _=>rfl)) (aa (ai (ixE K rfl) (qv 0) ad (fun _ _=>rfl)) ae))))
   (ag (aw (am (jk T) hr.m rfl (aa (qv 0) ae)))
   (ah (ax jU))))),?_⟩
 rename_i t;obtain ⟨N,hN,ok,q⟩:=h;have l3:=ok.lay.len;obtain ⟨fa,fb,esp,_,_⟩:=ok.lay.to;obtain ⟨a,b,c,e,hL,hH,hC⟩:=id hN;walk_at "rd";refine ⟨_,_,.inr (SqT.of e),rfl,?_⟩;walk_at "rd";refine ⟨N.1,hL,by lia,ok.lay.nd,ok.lay.pos,ox _ _ _ _ _ esp,fun H1 s1=>?_⟩;walk_at "rd";refine ⟨_,_,.inr (SqT.of (s1 _ _ e)),rfl,_,_,.inr (SqT.of (s1 _ _ e)),rfl,?_⟩;walk_at "rd";refine ⟨N.1,N.2.1,hL.same s1,ok.lay,hH.same s1,ok.h100,ok.nd,ok.house,ok.door,fun H2 s2=>?_⟩;walk_at "rd";have s12:=s1.trans s2;refine ⟨N,hN.same s12,ok,fun H3 s3=>?_⟩;walk_at "rd";exact q H3 (s12.trans s3)
noncomputable def iL (K:Frag):Sp:=av fun a=>be fun k=>be fun m=>aE fun H Q _=>∃ ns:List Int,SqL K H a (ns.map V.int)/\0<=k/\k<=100000/\1<=m/\m<=100000/\∀ r:Nat,(r:Int) < m->Q (.int (r:Nat)) H
theorem ar (T:Top K mg):Callee P w K mg base 1 "_law_by" ["_law_script", "_law_k", "_law_many"] (iL K):=by
 refine T.o9.cal iS (by unfold iL; exact LenSp.h) (fun _ _ _ _ _ _ us hl=>match us,hl with | [_,_,_],_=>rfl) (fun f cdv A outer s H vs Q E hr h=>?_);unfold iL at h;walk_at "el";refine ⟨_,(ag (aq (i:=3) iS.nd rfl lc ad)
   (cg (aW (aB nK (aH (lenE K rfl) rfl T.cq bK (aa (qv 0) ae)) ad) (ah (aq (i:=3) iS.nd rfl lc (al iR (ai (ixE K rfl) (qv 0) (al iR (qv 1) (aH (lenE K rfl) rfl T.cq bK (aa (qv 0) ae))) (fun _ _=>rfl)) ad))) aC)
   (ag (aq (i:=4) iS.nd rfl lc (al iR (al bM (al ak (al ak (qv 3) (al bM ad (qv 1))) ad) (al ak ad (al bM (al bM ad (qv 1)) (qv 1)))) ad))
   (ah (ax (al iR (al iR (al bM (qv 4) (al ak ad (al bM ad (qv 1)))) ad) (qv 2))))))),?_⟩
 rename_i a k m;obtain ⟨ns,hS,hk0,hk1,hm0,hm1,q⟩:=h;obtain ⟨k,rfl⟩:∃ x:Nat,k=(x:Int):=⟨k.toNat,by lia⟩;walk_at "rd";refine ⟨fun σ' H'=>∃ c:Int,σ'=[some (.ref a),some (.int k),some (.int m),some (.int c),none]/\H'=H/\0<=c/\c < 999983,⟨_,.inl hS,ite2 (fun g=>⟨_,.inl hS,by simpa using g,?_⟩) fun g=>?_⟩,?_⟩
 ·rw [List.length_map] at g ⊢;have hl:0 < ns.length:=by lia
  have hj:k % ns.length < ns.length:=Nat.mod_lt _ hl;refine ⟨_,V.int ns[k % ns.length],.inl hS,?_,?_⟩
  ·rw [show (k:Int) % (ns.length:Int)=((k % ns.length:Nat):Int) by lia];exact bC (by rw [List.getElem?_map,List.getElem?_eq_getElem hj]; rfl)
  walk_at "rd";exact ⟨_,rfl,Int.emod_nonneg _ (by decide),Int.emod_lt_of_pos _ (by decide)⟩
 ·exact ⟨0,rfl,rfl,by decide,by decide⟩
 ·rintro σ' H' ⟨c,rfl,rfl,c0,c1⟩;walk_at "rd";have hc (x:Int) (h0:0<=x) (h1:x<=2147483647):-(2 ^ 64) < x/\x < 2 ^ 64:=⟨Int.lt_of_lt_of_le (by decide) h0,Int.lt_of_le_of_lt h1 (by decide)⟩;have e0:=Int.emod_nonneg ((c+17*(k:Int)+5)*(48271+613*(k:Int)*(k:Int))) (b:=999983) (by decide);have e1:=Int.emod_lt_of_pos ((c+17*(k:Int)+5)*(48271+613*(k:Int)*(k:Int))) (b:=999983) (by decide);refine ⟨.inr (hc k (by lia) (by lia)),.inr (hc k (by lia) (by lia)),.inr (hc k (by lia) (by lia)),.inl (hc _ (by lia) (by lia)),.inr (hc k (by lia) (by lia)),.inl (hc _ e0 (by lia)),by lia,?_⟩;generalize (c+17*(k:Int)+5)*(48271+613*(k:Int)*(k:Int)) % 999983*(16807+271*(k:Int)) % 1000003=z;have z0:0<=z % m:=Int.emod_nonneg _ (by lia);have z1:z % m < m:=Int.emod_lt_of_pos _ (by lia);have:=q (z % m).toNat (by lia);rw [Int.toNat_of_nonneg z0] at this;exact this
theorem br {H:Hp} {a:Addr} {k m:Int} {ns:List Int} {Q:VK} {E:XK} (hS:SqL K H a (ns.map V.int)) (hk0:0<=k) (hk1:k<=100000) (hm0:1<=m) (hm1:m<=100000) (q:∀ r:Nat,(r:Int) < m->Q (.int (r:Nat)) H):iL K [.ref a,.int k,.int m] H Q E:=⟨ns,hS,hk0,hk1,hm0,hm1,q⟩
noncomputable def jd (K:Frag):Sp:=av fun a=>be fun k=>be fun w=>aE fun H Q _=>Ex2 fun (ns:List Int) (W:Nat)=>SqL K H a (ns.map V.int)/\0<=k/\k<=50000/\w=(W:Int)/\W<=1000/\∀ r H',Same H H'->r.length=W->RowL r->Q (tx r) H'
theorem l9 (T:Top K mg):Callee P w K mg base 2 "_law_row" ["_law_script", "_law_k", "_law_width"] (jd K):=by
 refine T.nM.cal qY (by unfold jd; exact LenSp.h) (fun _ _ _ _ _ _ us hl=>match us,hl with | [_,_,_],_=>rfl) (fun f cdv A outer s H vs Q E hr h=>?_);unfold jd at h;walk_at "el";refine ⟨_,(ah (ax (joinE K rfl (aJ (nt:=1) (fi:=[0,1]) (N':=["_law_j", "_law_script", "_law_k"]) rfl (cscope rfl (by decide +kernel)) (cnames (N:=["_law_script", "_law_k", "_law_width"]) (sc:=defScope iI) rfl rfl (by decide +kernel)) (aQ (by decide)) (bV rfl T.cO (qv 2)) (fun _ _ _ _ _=>(aj (i:=0) (by show (["_law_j", "_law_script", "_law_k"]:List Str).Nodup; decide +kernel) rfl lc)) (fun _ _ _ _ _=>bd) (fun _ _ _ _ _=>(ai (ixE K rfl) (qs [48,45,49,45,45,45]) (am (ar T) hr.m rfl (aa (qv 1) (aa (al ak (qv 2) (qv 0)) (aa ad ae)))) (fun _ _=>rfl))))))),?_⟩;rename_i a k w';obtain ⟨ns,W,hS,hk0,hk1,rfl,hW,q⟩:=h;walk_at "rd";refine ⟨by lia,by lia,fun D hD=>?_⟩;rw [Int.toNat_natCast];refine ig (lo:=0) (n:=W) (fun _ v _=>∃ x,(x=48\/x=49\/x=45)/\v=V.str (st [x])) hD (by lia) (fun _ _ _ _ _ _ _ r=>r) ?_ ?_
 ·intro i H1 out non hi s1 ho;walk_at "rd";refine br (s1.seq hS) (by lia) (by lia) (by decide) (by decide) fun r hr=>?_
  obtain ⟨x,hx,ex⟩:=lB (l:=[48,45,49,45,45,45]) (i:=r) (by show r < 6; lia);walk_at "rd";exact ⟨x,ex,ho _ _ (Same.refl _) ⟨x,by simp at hx; lia,rfl⟩⟩
 ·intro H1 vs s1 e1 p1;obtain ⟨os,rfl,hol,hok⟩:=ge (P:=fun x=>x=48\/x=49\/x=45) (fun _ _ r=>r) p1;rw [List.length_range] at hol;walk_at "rd";exact ⟨os,SqL.of e1,by lia,q os H1 s1 hol hok⟩
noncomputable def gS (K:Frag):Sp:=av fun a=>be fun k=>be fun w=>aE fun H Q _=>Ex2 fun (ns:List Int) (W:Nat)=>SqL K H a (ns.map V.int)/\0<=k/\k<=50000/\w=(W:Int)/\W<=1000/\∀ r H',Same H H'->r.length=W->(∀ c ∈ r,c=48\/c=49)->Q (tx r) H'
theorem jP (T:Top K mg):Callee P w K mg base 2 "_law_signs" ["_law_script", "_law_k", "_law_size"] (gS K):=by
 refine T.kR.cal n0 (by unfold gS; exact LenSp.h) (fun _ _ _ _ _ _ us hl=>match us,hl with | [_,_,_],_=>rfl) (fun f cdv A outer s H vs Q E hr h=>?_);unfold gS at h;walk_at "el";refine ⟨_,(ah (ax (joinE K rfl (aJ (nt:=1) (fi:=[0,1]) (N':=["_law_j", "_law_script", "_law_k"]) rfl (cscope rfl (by decide +kernel)) (cnames (N:=["_law_script", "_law_k", "_law_size"]) (sc:=defScope fM) rfl rfl (by decide +kernel)) (aQ (by decide)) (bV rfl T.cO (qv 2)) (fun _ _ _ _ _=>(aj (i:=0) (by show (["_law_j", "_law_script", "_law_k"]:List Str).Nodup; decide +kernel) rfl lc)) (fun _ _ _ _ _=>bd) (fun _ _ _ _ _=>(ai (ixE K rfl) (qs [48,49]) (am (ar T) hr.m rfl (aa (qv 1) (aa (al ak (qv 2) (qv 0)) (aa ad ae)))) (fun _ _=>rfl))))))),?_⟩;rename_i a k w';obtain ⟨ns,W,hS,hk0,hk1,rfl,hW,q⟩:=h;walk_at "rd";refine ⟨by lia,by lia,fun D hD=>?_⟩;rw [Int.toNat_natCast];refine ig (lo:=0) (n:=W) (fun _ v _=>∃ x,(x=48\/x=49)/\v=V.str (st [x])) hD (by lia) (fun _ _ _ _ _ _ _ r=>r) ?_ ?_
 ·intro i H1 out non hi s1 ho;walk_at "rd";refine br (s1.seq hS) (by lia) (by lia) (by decide) (by decide) fun r hr=>?_
  obtain ⟨x,hx,ex⟩:=lB (l:=[48,49]) (i:=r) (by show r < 2; lia);walk_at "rd";exact ⟨x,ex,ho _ _ (Same.refl _) ⟨x,by simpa using hx,rfl⟩⟩
 ·intro H1 vs s1 e1 p1;obtain ⟨os,rfl,hol,hok⟩:=ge (P:=fun x=>x=48\/x=49) (fun _ _ r=>r) p1;rw [List.length_range] at hol;walk_at "rd";exact ⟨os,SqL.of e1,by lia,q os H1 s1 hol hok⟩
noncomputable def iw (K:Frag):Sp:=av fun a=>be fun k=>be fun w=>be fun sh=>aE fun H Q _=>Ex2 fun (ns:List Int) (W:Nat)=>SqL K H a (ns.map V.int)/\0<=k/\k<=40000/\w=(W:Int)/\W<=1000/\0<=sh/\sh<=1000/\∀ t H' (r:Rule),H t=none->Same H H'->H' t=some (.tup [tx r.1,tx r.2.1,tx r.2.2])->RuleOk W r->Q (.ref t) H'
theorem kx (T:Top K mg):Callee P w K mg base 3 "_law_rule" ["_law_script", "_law_k", "_law_width", "_law_shift"] (iw K):=by
 refine T.mi.cal fJ (by unfold iw; exact LenSp.h) (fun _ _ _ _ _ _ us hl=>match us,hl with | [_,_,_,_],_=>rfl) (fun f cdv A outer s H vs Q E hr h=>?_);unfold iw at h;walk_at "el";refine ⟨_,(ag (aq (i:=4) fJ.nd rfl lc (ai (ixE K rfl) (aL (aa (qs [112,97,115,115]) (aa (qs [100,114,111,112]) (aa (qs [112,97,115,115]) (aa (qs [112,97,115,115]) ae))))) (am (ar T) hr.m rfl (aa (qv 0) (aa (qv 1) (aa ad ae)))) (fun _ _=>rfl)))
   (ag (aq (i:=5) fJ.nd rfl lc (am (l9 T) hr.m rfl (aa (qv 0) (aa (al ak (qv 1) ad) (aa (qv 2) ae)))))
   (ag (aq (i:=6) fJ.nd rfl lc (joinE K rfl (aJ (nt:=1) (fi:=[5,3]) (N':=["_law_j", "_law_signs_here", "_law_shift"]) rfl (cscope rfl (by decide +kernel)) (cnames (N:=["_law_script", "_law_k", "_law_width", "_law_shift", "_law_word", "_law_signs_here", "_law_over"]) (sc:=defScope gA) rfl rfl (by decide +kernel)) (aQ (by decide)) (bV rfl T.cO (qv 2)) (fun _ _ _ _ _=>(aj (i:=0) (by show (["_law_j", "_law_signs_here", "_law_shift"]:List Str).Nodup; decide +kernel) rfl lc)) (fun _ _ _ _ _=>bd) (fun _ _ _ _ _=>(m9 (aB si (al iR (al ak (qv 0) (qv 2)) ad) ad) (ai (ixE K rfl) (qv 1) (qv 0) (fun _ _=>rfl)) (qs [45]))))))
   (ah (ax (ay (aa (am (l9 T) hr.m rfl (aa (qv 0) (aa (al ak (qv 1) ad) (aa (qv 2) ae)))) (aa (qv 4) (aa (qv 6) ae))))))))),?_⟩
 rename_i a k w' sh;obtain ⟨ns,W,hS,hk0,hk1,rfl,hW,hs0,hs1,q⟩:=h;walk_at "rd";refine ⟨by decide,fun p1 hp1=>?_⟩;have s1:=af hp1 (.lst ([passT,dropT,passT,passT].map tx));refine br (s1.seq hS) (by lia) (by lia) (by decide) (by decide) fun r1 hr1=>?_
 obtain ⟨v,hv,ev⟩:=lB (l:=[passT,dropT,passT,passT].map tx) (i:=r1) (by show r1 < 4; lia);obtain ⟨wd,hwd,rfl⟩:=List.mem_map.mp hv;walk_at "rd";refine ⟨_,_,.inl (SqL.of ab),ev,?_⟩;walk_at "rd";refine ⟨ns,W,s1.seq hS,by lia,by lia,rfl,hW,fun sg H2 s2 hl2 hsg=>?_⟩;walk_at "rd";refine ⟨by lia,by lia,fun D hD=>?_⟩;rw [Int.toNat_natCast];have s12:=s1.trans s2;refine ig (lo:=0) (n:=W) (fun _ v _=>∃ x,(x=48\/x=49\/x=45)/\v=V.str (st [x])) hD (by lia) (fun _ _ _ _ _ _ _ r=>r) ?_ ?_
 ·intro i H3 out non hi s3 ho;walk_at "rd";obtain ⟨x,hx,ex⟩:=lB (l:=sg) (i:=i) (by lia);exact ite2 (fun _=>⟨by lia,x,ex,ho _ _ (Same.refl _) ⟨x,hsg x hx,rfl⟩⟩) fun _=>ho _ _ (Same.refl _) ⟨45,.inr (.inr rfl),rfl⟩
 ·intro H3 vs s3 e3 p3;obtain ⟨os,rfl,hol,hok⟩:=ge (P:=fun x=>x=48\/x=49\/x=45) (fun _ _ r=>r) p3;rw [List.length_range] at hol;have s13:=s12.trans s3;walk_at "rd";refine ⟨os,SqL.of e3,by lia,ns,W,s13.seq hS,by lia,by lia,rfl,hW,fun rw4 H4 s4 hl4 hr4=>⟨by decide,fun t ht=>?_⟩⟩;refine q t _ (rw4,wd,os) ((s13.trans s4).free ht) (s13.trans (s4.trans (af ht _))) ab ⟨hr4,hl4,?_,hok,hol⟩;simp only [List.mem_cons,List.not_mem_nil,or_false] at hwd;show wd=passT\/wd=dropT;rcases hwd with z | z | z | z
  ·exact .inl z
  ·exact .inr z
  ·exact .inl z
  ·exact .inl z
structure NamesB (n:Nat) (ls:List (List Nat)):Prop where
 len:ls.length=n
 nd:ls.Nodup
 low:∀ l ∈ ls,Low l
 short:∀ l ∈ ls,1<=l.length/\l.length<=8
theorem NamesB.perm {n:Nat} {ls ms:List (List Nat)} (h:NamesB n ls) (p:ms.Perm ls):NamesB n ms:=
 ⟨p.length_eq.trans h.len,p.nodup_iff.mpr h.nd,fun l hl=>h.low l (p.mem_iff.mp hl),fun l hl=>h.short l (p.mem_iff.mp hl)⟩
theorem r9 {w:List Nat} (hw:w.length=8) (hl:Low w) {n:Nat} (hn:n<=8):NamesB n ((List.range n).map fun j=>w.take (j+1)) where
 len:=by simp
 nd:=oS _ fun i j hi hj e=>by
  have:=congrArg List.length e;rw [List.length_take,List.length_take] at this
  lia
 low:=fun l hl'=>by
  obtain ⟨j,_,rfl⟩:=List.mem_map.mp hl';exact fun c hc=>hl c (List.mem_of_mem_take hc)
 short:=fun l hl'=>by
  obtain ⟨j,hj,rfl⟩:=List.mem_map.mp hl';have:=List.mem_range.mp hj;rw [List.length_take]
  lia
theorem tN {w:List Nat} (hw:w.length=8) (hl:Low w) {n m z p:Nat} (hn:n<=8) (hz:z<=8) (hp:p < z):NamesB n ((List.range n).map fun j=>w.take p++[97+(m+7*j) % 26]++(w.drop (p+1)).take (z - (p+1))) where
 len:=by simp
 nd:=oS _ fun i j hi hj e=>by
  have e1:=List.append_cancel_right e;have e2:=List.append_cancel_left e1;have e3:97+(m+7*i) % 26=97+(m+7*j) % 26:=by simpa using e2
  lia
 low:=fun l hl'=>by
  obtain ⟨j,_,rfl⟩:=List.mem_map.mp hl';intro c hc;rcases List.mem_append.mp hc with hc | hc
  ·rcases List.mem_append.mp hc with hc | hc
   ·exact hl c (List.mem_of_mem_take hc)
   ·rw [List.mem_singleton.mp hc]
    lia
  ·exact hl c (List.mem_of_mem_drop (List.mem_of_mem_take hc))
 short:=fun l hl'=>by
  obtain ⟨j,_,rfl⟩:=List.mem_map.mp hl';simp only [List.length_append,List.length_take,List.length_drop,List.length_cons,List.length_nil]
  lia
noncomputable def hJ (K:Frag):Sp:=av fun a=>be fun k=>be fun n=>aE fun H Q _=>Ex2 fun (ns:List Int) (N:Nat)=>SqL K H a (ns.map V.int)/\0<=k/\k<=50000/\n=(N:Int)/\1<=N/\N<=8/\∀ p H' ls,H p=none->Same H H'->H' p=some (.lst (ls.map tx))->NamesB N ls->Q (.ref p) H'
theorem xF {vs:List V} {l:List Nat} (p:Paired (fun _ v=>∃ x:Nat,(97<=x/\x<=122)/\v=V.str (st [x])) l vs):∃ os:List Nat,vs=os.map (fun k=>V.str (st [k]))/\os.length=l.length/\Low os:=ge (P:=fun x:Nat=>97<=x/\x<=122) (fun _ _ r=>r) p
theorem jV (T:Top K mg):Callee P w K mg base 2 "_law_names" ["_law_script", "_law_k", "_law_count"] (hJ K):=by
 refine T.kS.cal bo (by unfold hJ; exact LenSp.h) (fun _ _ _ _ _ _ us hl=>match us,hl with | [_,_,_],_=>rfl) (fun f cdv A outer s H vs Q E hr h=>?_);unfold hJ at h;walk_at "el";refine ⟨_,(ag (aq (i:=3) bo.nd rfl lc (qs [97,98,99,100,101,102,103,104,105,106,107,108,109,110,111,112,113,114,115,116,117,118,119,120,121,122]))
   (ag (aq (i:=4) bo.nd rfl lc (joinE K rfl (aJ (nt:=1) (fi:=[3,0,1]) (N':=["_law_j", "_law_letters", "_law_script", "_law_k"]) rfl (cscope rfl (by decide +kernel)) (cnames (N:=["_law_script", "_law_k", "_law_count", "_law_letters", "_law_word", "_law_turn", "_law_names_here", "_law_size", "_law_place", "_law_first", "_law_signs_here"]) (sc:=defScope cw) rfl rfl (by decide +kernel)) (aQ (by decide)) (bV rfl T.cO ad) (fun _ _ _ _ _=>(aj (i:=0) (by show (["_law_j", "_law_letters", "_law_script", "_law_k"]:List Str).Nodup; decide +kernel) rfl lc)) (fun _ _ _ _ _=>bd) (fun _ _ _ _ _=>(ai (ixE K rfl) (qv 1) (am (ar T) hr.m rfl (aa (qv 2) (aa (al ak (qv 3) (qv 0)) (aa ad ae)))) (fun _ _=>rfl))))))
   (ag (aq (i:=5) bo.nd rfl lc (am (ar T) hr.m rfl (aa (qv 0) (aa (al ak (qv 1) ad) (aa (qv 2) ae)))))
   (ag (jE (i:=6) (nt:=1) (fi:=[4]) (N':=["_law_j", "_law_word"]) bo.nd rfl lc rfl (cscope rfl (by decide +kernel)) (cnames (N:=["_law_script", "_law_k", "_law_count", "_law_letters", "_law_word", "_law_turn", "_law_names_here", "_law_size", "_law_place", "_law_first", "_law_signs_here"]) (sc:=defScope cw) rfl rfl (by decide +kernel)) (aQ (by decide)) (bV rfl T.cO (qv 2)) (fun _ _ _ _ _=>(aj (i:=0) (by show (["_law_j", "_law_word"]:List Str).Nodup; decide +kernel) rfl lc)) (fun _ _ _ _ _=>bd) (fun _ _ _ _ _=>(bp (slE K rfl) (qv 1) bT (bG (al ak (qv 0) ad)))))
   (cg (aW (aB bn (am (ar T) hr.m rfl (aa (qv 0) (aa (al ak (qv 1) ad) (aa ad ae)))) ad) (ag (aq (i:=7) bo.nd rfl lc (al ak ad (am (ar T) hr.m rfl (aa (qv 0) (aa (al ak (qv 1) ad) (aa ad ae))))))
   (ag (aq (i:=8) bo.nd rfl lc (am (ar T) hr.m rfl (aa (qv 0) (aa (al ak (qv 1) ad) (aa (qv 7) ae)))))
   (ag (aq (i:=9) bo.nd rfl lc (am (ar T) hr.m rfl (aa (qv 0) (aa (al ak (qv 1) ad) (aa ad ae)))))
   (ag (jE (i:=10) (nt:=1) (fi:=[3,9]) (N':=["_law_j", "_law_letters", "_law_first"]) bo.nd rfl lc rfl (cscope rfl (by decide +kernel)) (cnames (N:=["_law_script", "_law_k", "_law_count", "_law_letters", "_law_word", "_law_turn", "_law_names_here", "_law_size", "_law_place", "_law_first", "_law_signs_here"]) (sc:=defScope cw) rfl rfl (by decide +kernel)) (aQ (by decide)) (bV rfl T.cO (qv 2)) (fun _ _ _ _ _=>(aj (i:=0) (by show (["_law_j", "_law_letters", "_law_first"]:List Str).Nodup; decide +kernel) rfl lc)) (fun _ _ _ _ _=>bd) (fun _ _ _ _ _=>(ai (ixE K rfl) (qv 1) (al iR (al ak (qv 2) (al bM ad (qv 0))) ad) (fun _ _=>rfl))))
   (ah (jE (i:=6) (nt:=1) (fi:=[4,7,8]) (N':=["_law_sign", "_law_word", "_law_size", "_law_place"]) bo.nd rfl lc rfl (cscope rfl (by decide +kernel)) (cnames (N:=["_law_script", "_law_k", "_law_count", "_law_letters", "_law_word", "_law_turn", "_law_names_here", "_law_size", "_law_place", "_law_first", "_law_signs_here"]) (sc:=defScope cw) rfl rfl (by decide +kernel)) (aQ (by decide)) (iterE K rfl (qv 10)) (fun _ _ _ _ _=>(aj (i:=0) (by show (["_law_sign", "_law_word", "_law_size", "_law_place"]:List Str).Nodup; decide +kernel) rfl lc)) (fun _ _ _ _ _=>bd) (fun _ _ _ _ _=>(al ak (al ak (bp (slE K rfl) (qv 1) bT (bG (qv 3))) (qv 0)) (bp slB (qv 1) (bG (al ak (qv 3) ad)) (bG (qv 2))))))))))) aC)
   (ah (ax (al ak (bp (slE K rfl) (qv 6) (bG (qv 5)) bT) (bp (slE K rfl) (qv 6) bT (bG (qv 5))))))))))),?_⟩
 rename_i a k n;obtain ⟨ns,N,hS,hk0,hk1,rfl,hN1,hN8,q⟩:=h;walk_at "rd";intro D hD;refine ig (lo:=0) (n:=8) (fun _ v _=>∃ x:Nat,(97<=x/\x<=122)/\v=V.str (st [x])) hD (by decide) (fun _ _ _ _ _ _ _ r=>r) ?_ ?_
 ·intro i H1 out non hi s1 ho;walk_at "rd";refine br (s1.seq hS) (by lia) (by lia) (by decide) (by decide) fun r hr=>?_
  walk_at "rd";exact ⟨_,(show atI abc (r:Int)=some (97+r) from bC (uX (by lia))),ho _ _ (Same.refl _) ⟨97+r,⟨by lia,by lia⟩,rfl⟩⟩
 intro H1 vs s1 e1 p1;obtain ⟨w,rfl,hwl,hw⟩:=xF p1;rw [List.length_range] at hwl;walk_at "rd";refine ⟨w,SqL.of e1,by lia,?_⟩;refine br (s1.seq hS) (by lia) (by lia) (by lia) (by lia) fun r1 hr1=>?_
 walk_at "rd";refine ⟨by lia,by lia,fun D2 hD2=>?_⟩;rw [Int.toNat_natCast];refine nI (lo:=0) (n:=N) (h:=fun j=>[tx (w.take (j+1))]) hD2 (by lia) (fun _=>by simp) ?_ ?_
 ·intro i H2 out non hi s2 ho _;walk_at "rd";refine ⟨by lia,by lia,by lia,?_⟩;rw [show ((i:Int)+1).toNat=i+1 by lia];exact ho _ _ rfl (Same.refl _)
 intro H2 s2 e2;rw [dr (fun j=>tx (w.take (j+1))),show (List.range N).map (fun j=>tx (w.take (j+1)))=((List.range N).map fun j=>w.take (j+1)).map tx by rw [List.map_map]; rfl] at e2;have s12:=s1.trans s2;refine ⟨fun σ' H'=>Ex6 fun (p:Addr) (ls:List (List Nat)) (u3 u4 u5 u6:Option V)=>σ'=[some (.ref a),some (.int k),some (nV N),some (tx ([97,98,99,100,101,102,103,104,105,106,107,108,109,110,111,112,113,114,115,116,117,118,119,120,121,122])),some (tx w),some (nV r1),some (.ref p),u3,u4,u5,u6]/\Same H H'/\H' p=some (.lst (ls.map tx))/\NamesB N ls,?_,?_⟩
 ·refine br (s12.seq hS) (by lia) (by lia) (by decide) (by decide) fun r2 hr2=>?_
  walk_at "rd";refine ite2 (fun _=>?_) fun _=>⟨D2,_,none,none,none,none,rfl,s12,e2,r9 hwl hw hN8⟩
  refine br (s12.seq hS) (by lia) (by lia) (by decide) (by decide) fun r3 hr3=>?_
  walk_at "rd";refine br (s12.seq hS) (by lia) (by lia) (by lia) (by lia) fun r4 hr4=>?_
  walk_at "rd";refine br (s12.seq hS) (by lia) (by lia) (by lia) (by lia) fun r5 hr5=>?_
  walk_at "rd";refine ⟨by lia,by lia,fun D3 hD3=>?_⟩;refine nI (lo:=0) (n:=N) (h:=fun j=>[V.str (st [97+(r5+7*j) % 26])]) hD3 (by lia) (fun _=>by simp) ?_ ?_
  ·intro i H3 out non hi s3 ho _;walk_at "rd";refine ⟨.inl ⟨by decide,by decide⟩,97+(r5+7*i) % 26,?_,ho _ _ rfl (Same.refl _)⟩;rw [show (((r5:Int)+7*(i:Int)) % 26)=(((r5+7*i) % 26:Nat):Int) by lia];exact (show atI abc _=_ from bC (uX (by lia)))
  intro H3 s3 e3;walk_at "rd";rw [dr (fun j=>V.str (st [97+(r5+7*j) % 26]))] at e3;refine .inl ⟨⟨_,SqL.of e3⟩,fun D4 hD4=>?_⟩;refine bU (item:=fun j:Nat=>V.str (st [97+(r5+7*j) % 26])) (xs:=List.range N) (h:=fun j=>[tx (w.take r4++[97+(r5+7*j) % 26]++(w.drop (r4+1)).take (1+r3 - (r4+1)))]) hD4 (SqL.of e3) (by rw [List.length_range]; lia) (fun _=>by simp) ?_ ?_
  ·intro j H4 out non hj s4 ho _;walk_at "rd";have l1:(w.take r4).length=r4:=by rw [List.length_take]; lia
   have l2:(List.take (1+r3 - (r4+1)) (w.drop (r4+1))).length<=8:=by rw [List.length_take]; lia
   rw [show ((1:Int)+(r3:Int)).toNat=1+r3 by lia,show ((r4:Int)+1).toNat=r4+1 by lia,Int.toNat_natCast];refine ⟨by lia,by lia,by lia,by lia,by lia,by lia,by lia,by lia,?_,ho _ _ rfl (Same.refl _)⟩;rw [List.length_append,l1];simp only [List.length_cons,List.length_nil]
   lia
  intro H4 s4 e4;rw [dr (fun j=>tx (w.take r4++[97+(r5+7*j) % 26]++(w.drop (r4+1)).take (1+r3 - (r4+1)))),show (List.range N).map (fun j=>tx (w.take r4++[97+(r5+7*j) % 26]++(w.drop (r4+1)).take (1+r3 - (r4+1))))=((List.range N).map fun j=>w.take r4++[97+(r5+7*j) % 26]++(w.drop (r4+1)).take (1+r3 - (r4+1))).map tx by rw [List.map_map]; rfl] at e4;exact ⟨D4,_,_,_,_,_,rfl,s12.trans (s3.trans s4),e4,tN hwl hw hN8 (by lia) (by lia)⟩
 ·rintro σ' H3 ⟨p,ls,u3,u4,u5,u6,rfl,s3,e3,NB⟩;walk_at "rd";have hl:(ls.map tx).length=N:=by rw [List.length_map]; exact NB.len
  refine ⟨_,SqL.of e3,fun q1 hq1=>?_⟩;have s4:=af hq1 (.lst (cutV (ls.map tx) (some (r1:Int)) none));refine ⟨_,SqL.of (s4 _ _ e3),fun q2 hq2=>?_⟩;have s5:=af hq2 (.lst (cutV (ls.map tx) none (some (r1:Int))));refine ⟨_,_,s5 _ _ ab,ab,?_,fun q3 hq3=>?_⟩
  ·rw [gb _ _ (by lia),iD _ _ (by lia),List.length_drop,List.length_take,sizeLine_eq]
   lia
  have s6:=af hq3 (.lst (cutV (ls.map tx) (some (r1:Int)) none++cutV (ls.map tx) none (some (r1:Int))));refine q q3 _ (ls.drop r1++ls.take r1) ((s3.trans (s4.trans s5)).free hq3) (s3.trans (s4.trans (s5.trans s6))) ?_ (NB.perm ?_)
  ·rw [ab,gb _ _ (by lia),iD _ _ (by lia),List.map_append,List.map_drop,List.map_take]
  ·refine List.perm_append_comm.trans ?_;rw [List.take_append_drop]
theorem cG {α β:Type} {F:α -> β -> Prop}:∀ {l:List α} {m:List β} (n:Nat),Paired F l m->Paired F (l.take n) (m.take n)
 | _,_,0,_=>by rw [List.take_zero,List.take_zero]; exact .nil
 | _,_,n+1,.nil=>.nil
 | _,_,n+1,.cons r p=>.cons r (cG n p)
theorem dq {α β:Type} {F:α -> β -> Prop}:∀ {l:List α} {m:List β} (n:Nat),Paired F l m->Paired F (l.drop n) (m.drop n)
 | _,_,0,p=>p
 | _,_,n+1,.nil=>.nil
 | _,_,n+1,.cons _ p=>dq n p
noncomputable def toB:List Nat:=[116,111]
noncomputable def padB:List Nat:=[112,97,100]
structure LayB (ls:List Fld):Prop where
 two:2<=ls.length
 few:ls.length<=4
 nd:(ls.map (·.1)).Nodup
 to:∃ n,(toB,n) ∈ ls
 sz:∀ x ∈ ls,x.2<=100
structure FldK (x:Fld):Prop where
 h1:1<=x.2
 h3:x.2<=3
 np:x.1≠padB
 low:Low x.1/\1<=x.1.length/\x.1.length<=8
noncomputable def f7 (K:Frag):Sp:=av fun a=>be fun k=>aE fun H Q _=>∃ ns:List Int,SqL K H a (ns.map V.int)/\0<=k/\k<=50000/\∀ p H' ls,H p=none->Same H H'->Lay H' p ls->LayB ls->ls.length<=3->(∀ x ∈ ls,FldK x)->widthL ls<=6->Q (.ref p) H'
theorem mY (T:Top K mg):Callee P w K mg base 2 "_law_layout" ["_law_script", "_law_k"] (f7 K):=by
 refine T.jX.cal fO (by unfold f7; exact LenSp.h) (fun _ _ _ _ _ _ us hl=>match us,hl with | [_,_],_=>rfl) (fun f cdv A outer s H vs Q E hr h=>?_);unfold f7 at h;walk_at "el";refine ⟨_,(ag (aq (i:=2) fO.nd rfl lc (bp (slE K rfl) (aL (aa (ay (aa (qs [116]) (aa (al ak ad (am (ar T) hr.m rfl (aa (qv 0) (aa (qv 1) (aa ad ae))))) ae))) (aa (ay (aa (qs [116,111,101]) (aa ad ae))) ae))) bT (bG (al ak ad (am (ar T) hr.m rfl (aa (qv 0) (aa (al ak (qv 1) ad) (aa ad ae))))))))
   (ag (aq (i:=3) fO.nd rfl lc (am (ar T) hr.m rfl (aa (qv 0) (aa (al ak (qv 1) ad) (aa (al ak (aH (lenE K rfl) rfl T.cq bK (aa (qv 2) ae)) ad) ae)))))
   (ah (ax (al ak (al ak (bp (slE K rfl) (qv 2) bT (bG (qv 3))) (aL (aa (ay (aa (qs [116,111]) (aa (al ak ad (am (ar T) hr.m rfl (aa (qv 0) (aa (al ak (qv 1) ad) (aa ad ae))))) ae))) ae))) (bp (slE K rfl) (qv 2) (bG (qv 3)) bT)))))),?_⟩
 rename_i a k;obtain ⟨ns,hS,hk0,hk1,q⟩:=h;walk_at "rd";refine br hS (by lia) (by lia) (by decide) (by decide) fun r1 hr1=>?_
 walk_at "rd";refine ⟨by decide,fun t1 ht1=>⟨by decide,fun t2 ht2=>⟨by decide,fun l0 hl0=>?_⟩⟩⟩;have k1:=af ht1 (.tup [V.str (st [116]),V.int (1+(r1:Int))]);have k2:=af ht2 (.tup [V.str (st [116,111,101]),V.int 1]);have k3:=af hl0 (.lst [V.ref t1,V.ref t2]);have s1:=k1.trans (k2.trans k3);have L0:Lay (upd (upd (upd H t1 (.tup [V.str (st [116]),V.int (1+(r1:Int))])) t2 (.tup [V.str (st [116,111,101]),V.int 1])) l0 (.lst [V.ref t1,V.ref t2])) l0 [([116],1+r1),([116,111,101],1)]:=
  ⟨_,ab,.cons ⟨t1,rfl,by rw [k3 _ _ (k2 _ _ ab)]; push_cast; rfl⟩ (.cons ⟨t2,rfl,k3 _ _ ab⟩ .nil)⟩
 generalize upd (upd (upd H t1 (.tup [V.str (st [116]),V.int (1+(r1:Int))])) t2 (.tup [V.str (st [116,111,101]),V.int 1])) l0 (.lst [V.ref t1,V.ref t2])=H1 at s1 L0 ⊢;obtain ⟨v0,e0,p0⟩:=L0;have hv0:=p0.length;refine br (s1.seq hS) (by lia) (by lia) (by decide) (by decide) fun r2 hr2=>?_
 walk_at "rd";refine ⟨_,SqL.of e0,fun l1 hl1=>?_⟩;rw [show ((1:Int)+(r2:Int))=((1+r2:Nat):Int) by lia,iD _ _ (by rw [<- hv0]; show 1+r2<=2; lia)];have s2:=af hl1 (.lst (v0.take (1+r2)));have L1:Lay (upd H1 l1 (.lst (v0.take (1+r2)))) l1 ([([116],1+r1),([116,111,101],1)].take (1+r2)):=⟨_,ab,cb (fun t vs z=>s2 _ _ z) (cG _ p0)⟩;have s12:=s1.trans s2;generalize upd H1 l1 (.lst (v0.take (1+r2)))=H2 at s12 L1 ⊢;have okO:([([116],1+r1),([116,111,101],1)].take (1+r2):List Fld)=[([116],1+r1)]\/([([116],1+r1),([116,111,101],1)].take (1+r2):List Fld)=[([116],1+r1),([116,111,101],1)]:=by
  rcases (by lia:r2=0\/r2=1) with rfl | rfl
  ·exact .inl rfl
  ·exact .inr rfl
 generalize ([([116],1+r1),([116,111,101],1)].take (1+r2):List Fld)=os at L1 okO;have hos:1<=os.length/\os.length<=2:=by rcases okO with rfl | rfl <;> simp
 obtain ⟨v1,e1,p1⟩:=L1;have hv1:=p1.length;refine ⟨v1,.inl (SqL.of e1),?_⟩;refine br (s12.seq hS) (by lia) (by lia) (by lia) (by lia) fun r3 hr3=>?_
 walk_at "rd";refine ⟨_,SqL.of e1,fun l2 hl2=>?_⟩;rw [iD _ _ (by lia)];have s3:=af hl2 (.lst (v1.take r3));refine br ((s12.trans s3).seq hS) (by lia) (by lia) (by decide) (by decide) fun r4 hr4=>?_
 walk_at "rd";refine ⟨by decide,fun t3 ht3=>⟨by decide,fun l3 hl3=>?_⟩⟩;have k4:=af ht3 (.tup [V.str (st [116,111]),V.int (1+(r4:Int))]);have k5:=af hl3 (.lst [V.ref t3]);have k45:=k4.trans k5;have lt1:(v1.take r3).length=r3:=by rw [List.length_take]; lia
 refine ⟨_,_,k45 _ _ ab,ab,by rw [lt1,sizeLine_eq]; simp only [List.length_cons,List.length_nil]; lia,fun l4 hl4=>?_⟩;have k6:=af hl4 (.lst (v1.take r3++[V.ref t3]));have k36:=s3.trans (k45.trans k6);refine ⟨_,SqL.of (k36 _ _ e1),fun l5 hl5=>?_⟩;rw [gb _ _ (by lia)];have k7:=af hl5 (.lst (v1.drop r3));refine ⟨_,_,k7 _ _ ab,ab,by rw [List.length_append,lt1,List.length_drop,sizeLine_eq]; simp only [List.length_cons,List.length_nil]; lia,fun l6 hl6=>?_⟩;have k8:=af hl6 (.lst (v1.take r3++[V.ref t3]++v1.drop r3));have k48:=k5.trans (k6.trans (k7.trans k8));have sA:=s12.trans (s3.trans (k4.trans k48));have hmem:∀ x ∈ os.take r3++[(toB,1+r4)]++os.drop r3,x ∈ os\/x=(toB,1+r4):=fun x hx=>by
  rcases List.mem_append.mp hx with hx | hx
  ·rcases List.mem_append.mp hx with hx | hx
   ·exact .inl (List.mem_of_mem_take hx)
   ·exact .inr (List.mem_singleton.mp hx)
  ·exact .inl (List.mem_of_mem_drop hx)
 have hlen:(os.take r3++[(toB,1+r4)]++os.drop r3).length=os.length+1:=by
  rw [List.length_append,List.length_append,List.length_take,List.length_drop];simp only [List.length_cons,List.length_nil]
  lia
 have lowC:∀ l:List Nat,(l.all fun c=>decide (97<=c) && decide (c<=122))=true->Low l:=fun l h c hc=>by
  have:=List.all_eq_true.mp h c hc;simpa using this
 have lo1:Low [116]/\1<=([116]:List Nat).length/\([116]:List Nat).length<=8:=⟨lowC _ (by decide),by decide,by decide⟩;have lo2:Low toB/\1<=toB.length/\toB.length<=8:=⟨lowC _ (by decide),by decide,by decide⟩;have hsz:∀ x ∈ os.take r3++[(toB,1+r4)]++os.drop r3,FldK x:=fun x hx=>by
  rcases hmem x hx with z | rfl
  ·rcases okO with rfl | rfl
   ·rw [List.mem_singleton.mp z];exact ⟨by show 1<=1+r1; lia,by show 1+r1<=3; lia,by show ([116]:List Nat)≠padB; decide,lo1⟩
   ·rcases List.mem_cons.mp z with rfl | z
    ·exact ⟨by show 1<=1+r1; lia,by show 1+r1<=3; lia,by show ([116]:List Nat)≠padB; decide,lo1⟩
    ·rw [List.mem_singleton.mp z];exact ⟨by decide,by decide,by decide,lowC _ (by decide),by decide,by decide⟩
  ·exact ⟨by show 1<=1+r4; lia,by show 1+r4<=3; lia,by show toB≠padB; decide,lo2⟩
 have hwd:widthL (os.take r3++[(toB,1+r4)]++os.drop r3)<=6:=by
  have e1:widthL (os.take r3++[(toB,1+r4)]++os.drop r3)=widthL os+(1+r4):=by
   have:=congrArg widthL (List.take_append_drop r3 os);unfold widthL at this ⊢;rw [List.map_append,List.sum_append] at this;simp only [List.map_append,List.sum_append,List.map_cons,List.map_nil,List.sum_cons,List.sum_nil]
   lia
  rw [e1];rcases okO with rfl | rfl
  ·show 1+r1+0+(1+r4)<=6
   lia
  ·show 1+r1+(1+0)+(1+r4)<=6
   lia
 refine q l6 _ (os.take r3++[(toB,1+r4)]++os.drop r3) (((s12.trans s3).trans (k4.trans (k5.trans (k6.trans k7)))).free hl6) sA ⟨_,ab,bI (bI (cb (fun t vs z=>(s3.trans (k4.trans k48)) _ _ z) (cG _ p1)) (.cons ⟨t3,rfl,?_⟩ .nil)) (cb (fun t vs z=>(s3.trans (k4.trans k48)) _ _ z) (dq _ p1))⟩ ⟨by lia,by lia,?_,⟨1+r4,by simp⟩,fun x hx=>Nat.le_trans (hsz x hx).h3 (by decide)⟩ (by lia) hsz hwd
 ·rw [k48 _ _ ab]
  push_cast
  rfl
 ·have pm:(os.take r3++[(toB,1+r4)]++os.drop r3).Perm ((toB,1+r4)::os):=by
   rw [List.append_assoc];refine List.perm_middle.trans ?_;show ((toB,1+r4)::(os.take r3++os.drop r3)).Perm _;rw [List.take_append_drop]
  rw [(pm.map (·.1)).nodup_iff];rcases okO with rfl | rfl
  ·show ([toB,[116]]:List (List Nat)).Nodup;decide
  ·show ([toB,[116],[116,111,101]]:List (List Nat)).Nodup;decide
theorem oX {S:Nat} {ds:List (List Nat)} {ws:List Way} (ok:WaysOk S ds ws) {b d:List Nat} (h1:b.length<=S) (h2:∀ c ∈ b,c=48\/c=49) (h3:d ∈ ds) (h4:b ∉ ws.map (·.1)):WaysOk S ds (ws++[(b,d)]) where
 n:=fun x hx=>by
  rcases List.mem_append.mp hx with z | z
  ·exact ok.n x z
  ·rw [List.mem_singleton.mp z]; exact h1
 bits:=fun x hx=>by
  rcases List.mem_append.mp hx with z | z
  ·exact ok.bits x z
  ·rw [List.mem_singleton.mp z]; exact h2
 door:=fun x hx=>by
  rcases List.mem_append.mp hx with z | z
  ·exact ok.door x z
  ·rw [List.mem_singleton.mp z]; exact h3
 nd:=by
  rw [List.map_append];exact List.nodup_append.mpr ⟨ok.nd,by simp,fun x hx y hy e=>h4 ((show y=b by simpa using hy) ▸ e ▸ hx)⟩
noncomputable def iK (K:Frag):Sp:=av fun a=>be fun k=>be fun z=>av fun d=>aE fun H Q _=>Ex3 fun (ns:List Int) (S:Nat) (ds:List (List Nat))=>SqL K H a (ns.map V.int)/\0<=k/\k<=40000/\z=(S:Int)/\S<=100/\H d=some (.lst (ds.map tx))/\1<=ds.length/\ds.length<=100 /\
   ∀ p H' ws,H p=none->Same H H'->Ways H' p ws->ws.length<=5->WaysOk S ds ws->Q (.ref p) H'
theorem pW (T:Top K mg):Callee P w K mg base 3 "_law_ways" ["_law_script", "_law_k", "_law_size", "_law_doors"] (iK K):=by
 refine T.mq.cal fK (by unfold iK; exact LenSp.h) (fun _ _ _ _ _ _ us hl=>match us,hl with | [_,_,_,_],_=>rfl) (fun f cdv A outer s H vs Q E hr h=>?_);unfold iK at h;walk_at "el";refine ⟨_,(ag (aq (i:=4) fK.nd rfl lc (aL ae))
   (ag (bw PassesOwn.never rfl (bV rfl T.cO (am (ar T) hr.m rfl (aa (qv 0) (aa (qv 1) (aa ad ae))))) (aj (i:=5) fK.nd rfl lc) (ag (aq (i:=6) fK.nd rfl lc (bp (slE K rfl) (am (jP T) hr.m rfl (aa (qv 0) (aa (al ak (al ak (qv 1) (al bM ad (qv 5))) ad) (aa (qv 2) ae)))) bT (bG (am (ar T) hr.m rfl (aa (qv 0) (aa (al ak (al ak (qv 1) (al bM ad (qv 5))) ad) (aa (al ak (qv 2) ad) ae)))))))
   (ah (aW (aB (notinE K rfl) (qv 6) (aJ (nt:=1) (fi:=[]) (N':=["_law_way"]) rfl (cscope rfl (by decide +kernel)) (cnames (N:=["_law_script", "_law_k", "_law_size", "_law_doors", "_law_ways_here", "_law_j", "_law_signs_here"]) (sc:=defScope gD) rfl rfl (by decide +kernel)) (aQ (by decide)) (iterE K rfl (qv 4)) (fun _ _ _ _ _=>(aj (i:=0) (by show (["_law_way"]:List Str).Nodup; decide +kernel) rfl lc)) (fun _ _ _ _ _=>bd) (fun _ _ _ _ _=>(ai (ixE K rfl) (qv 0) ad (fun _ _=>rfl))))) (ah (aw (aY (qv 4) (ay (aa (qv 6) (aa (ai (ixE K rfl) (qv 3) (am (ar T) hr.m rfl (aa (qv 0) (aa (al ak (al ak (qv 1) (al bM ad (qv 5))) ad) (aa (aH (lenE K rfl) rfl T.cq bK (aa (qv 3) ae)) ae)))) (fun _ _=>rfl)) ae)))))) aC))))
   (ah (ax (qv 4))))),?_⟩
 rename_i a k z d;obtain ⟨ns,S,ds,hS,hk0,hk1,rfl,hSz,hd,hd1,hd2,q⟩:=h;walk_at "rd";refine ⟨Nat.zero_le _,fun g hg=>?_⟩;have s1:=af hg (.lst []);refine br (s1.seq hS) (by lia) (by lia) (by decide) (by decide) fun r1 hr1=>?_
 walk_at "rd";refine ⟨by lia,by lia,?_⟩;rw [Int.toNat_natCast];refine fP (lo:=0) (n:=r1) (fun i σ H'=>Ex3 fun (ws:List Way) (u5 u6:Option V)=>σ = [some (.ref a),some (.int k),some (nV S),some (.ref d),some (.ref g),u5,u6]/\Same H H'/\Ways H' g ws/\ws.length<=i/\WaysOk S ds ws)
  ⟨[],none,none,rfl,s1,⟨[],ab,.nil⟩,by simp,⟨fun x hx=>by simp at hx,fun x hx=>by simp at hx,fun x hx=>by simp at hx,List.nodup_nil⟩⟩ ?_ ?_
 ·rintro i σ H1 hi ⟨ws,u5,u6,rfl,s2,hw,hwl,hwS⟩;walk_at "rd";have mul8:CMul 8 (i:Int):=.inl ⟨by decide,by decide⟩;refine ⟨mul8,ns,S,s2.seq hS,by lia,by lia,rfl,by lia,fun sg H2 s3 hsl hsb=>⟨mul8,?_⟩⟩;have s23:=s2.trans s3;refine br (s23.seq hS) (by lia) (by lia) (by lia) (by lia) fun r2 hr2=>?_
  walk_at "rd";refine ⟨by lia,by lia,by lia,?_⟩;rw [Int.toNat_natCast];have hbg:(sg.take r2).length<=S:=by rw [List.length_take]; lia
  have hbb:∀ c ∈ sg.take r2,c=48\/c=49:=fun c hc=>hsb c (List.mem_of_mem_take hc)
  generalize sg.take r2=bg at hbg hbb;obtain ⟨vs,e1,pr⟩:=hw.same s3;have hvl:=pr.length;obtain ⟨z1,z2⟩:=aF pr;refine .inl ⟨⟨_,SqL.of e1⟩,fun D hD=>?_⟩;refine bU (item:=fun x:Way × V=>x.2) (xs:=ws.zip vs) (h:=fun x=>[tx x.1.1]) hD (by rw [z1]; exact SqL.of e1) (by rw [List.length_zip]; lia) (fun _=>by simp) ?_ ?_
  ·intro x H3 out non hx s5 ho _;obtain ⟨t,ex,et⟩:=z2 x hx;rw [ex];walk_at "rd";exact ⟨_,_,.inr (SqT.of (s5 _ _ et)),rfl,ho _ _ rfl (Same.refl _)⟩
  intro H3 s5 e3;rw [show (ws.zip vs).flatMap (fun x=>[tx x.1.1])=(ws.map (·.1)).map tx by
   rw [dr (fun x:Way × V=>tx x.1.1)]
   conv=>rhs; rw [<- bj (l:=ws) (m:=vs) hvl,List.map_map,List.map_map]
   rfl] at e3
  have s25:=s23.trans s5;have e5:=s5 _ _ e1;walk_at "rd";refine ⟨_,.inl (SqL.of e3),rfl,mM _,?_⟩;rw [show V.str (st bg)=tx bg from rfl,pf];walk_at "rd";refine ite2 (fun _=>⟨ws,_,_,rfl,s25,(hw.same s3).same s5,by lia,hwS⟩) fun hni=>?_
  have hd5:=s25 _ _ hd;refine ⟨⟨_,e5⟩,mul8,_,.inl (SqL.of hd5),?_⟩;rw [List.length_map];refine br (s25.seq hS) (by lia) (by lia) (by lia) (by lia) fun r3 hr3=>?_
  obtain ⟨dv,hdv,edv⟩:=lB (l:=ds.map tx) (i:=r3) (by rw [List.length_map]; lia);obtain ⟨dn,hdn,rfl⟩:=List.mem_map.mp hdv;walk_at "rd";refine ⟨_,_,.inl (SqL.of hd5),edv,by decide,fun t ht=>?_⟩;have s6:=af ht (.tup [tx bg,tx dn]);have e6:=s6 _ _ e5;refine ⟨vs,e6,sizeBig (by lia),ws++[(bg,dn)],_,_,rfl,aG (s25.trans s6) hg,⟨_,ab,?_⟩,by rw [List.length_append]; simp only [List.length_cons,List.length_nil]; lia,?_⟩
  rotate_left
  ·exact oX hwS hbg hbb hdn hni
  exact aO (aD (aK e6) (aD (fun t vs z=>s6 _ _ z) (aD (fun t vs z=>s5 _ _ z) pr))) ⟨t,rfl,aK e6 _ _ ab⟩
 ·rintro σ H1 ⟨ws,u5,u6,rfl,s2,hw,hwl,hwS⟩;walk_at "rd";exact q g H1 ws hg s2 hw (by lia) hwS
theorem vk {ls:List Fld} (h:(ls.map (·.1)).Nodup) {a b:Nat} (ha:(toB,a) ∈ ls) (hb:(toB,b) ∈ ls):a=b:=by
 induction ls with
 | nil=>cases ha
 | cons x l ih=>
  rw [List.map_cons,List.nodup_cons] at h;rcases List.mem_cons.mp ha with e1 | e1 <;> rcases List.mem_cons.mp hb with e2 | e2
  ·rw [<- e1] at e2;exact (Prod.ext_iff.mp e2).2.symm
  ·exact absurd (List.mem_map.mpr ⟨_,e2,by rw [<- e1]⟩) h.1
  ·exact absurd (List.mem_map.mpr ⟨_,e1,by rw [<- e2]⟩) h.1
  ·exact ih h.2 e1 e2
theorem qU:∀ l:List (Fld × V),(∃ x ∈ l,x.1.1=toB)->(∀ x ∈ l,x.1.2<=3)->Ex2 fun (m:Nat) (rest:List V)=>(l.flatMap fun x=>if decide (x.1.1=toB)=true then [V.int x.1.2] else [])=V.int m::rest/\m<=3/\∃ x ∈ l,x.1=(toB,m)
 | [],⟨_,h,_⟩,_=>by cases h
 | x::l,h,hz=>by
  rw [List.flatMap_cons];by_cases g:x.1.1=toB
  ·rw [if_pos (decide_eq_true g)];exact ⟨x.1.2,_,rfl,hz x List.mem_cons_self,x,List.mem_cons_self,Prod.ext g rfl⟩
  ·rw [if_neg (fun z=>g (of_decide_eq_true z)),List.nil_append];obtain ⟨m,rest,e1,e2,y,hy,e3⟩:=qU l (by
    obtain ⟨y,hy,e⟩:=h;rcases List.mem_cons.mp hy with rfl | hy
    ·exact absurd e g
    ·exact ⟨y,hy,e⟩) fun y hy=>hz y (List.mem_cons_of_mem _ hy)
   exact ⟨m,rest,e1,e2,y,List.mem_cons_of_mem _ hy,e3⟩
structure HouseB (hs:House):Prop where
 g3:hs.1.length<=3
 rl:∀ x ∈ hs.1,x.2.length<=100
 w5:hs.2.length<=100
structure HouseK (W S j:Nat) (hs:House):Prop where
 nd:(hs.1.map (·.1)).Nodup
 g1:1<=hs.1.length
 g3:hs.1.length<=3
 rules:∀ x ∈ hs.1,∀ r ∈ x.2,RuleOk W r
 rl:∀ x ∈ hs.1,x.2.length<=3+j
 ways:WaysOk S (hs.1.map (·.1)) hs.2
 w5:hs.2.length<=5+j
noncomputable def hU (K:Frag):Sp:=av fun a=>be fun k=>av fun l=>av fun d=>be fun sh=>aE fun H Q _=>Ex3 fun (ns:List Int) (ls:List Fld) (ds:List (List Nat))=>SqL K H a (ns.map V.int)/\0<=k/\k<=20000/\Lay H l ls/\LayB ls/\(∀ x ∈ ls,x.2<=3)/\H d=some (.lst (ds.map tx))/\ds.Nodup/\1<=ds.length/\ds.length<=3/\0<=sh/\sh<=1000 /\
   ∀ q g w H' hs,H q=none->H g=none->H w=none->Same H H'->HouseN (fun r=>H r=none) H' q g w hs->(∀ Z,(toB,Z) ∈ ls->HouseK (widthL ls) Z 0 hs)->hs.1.map (·.1)=ds->Q (.ref q) H'
theorem nZ (T:Top K mg):Callee P w K mg base 4 "_law_house" ["_law_script", "_law_k", "_law_layout_here", "_law_doors", "_law_shift"] (hU K):=by
 refine T.lm.cal bZ (by unfold hU; exact LenSp.h) (fun _ _ _ _ _ _ us hl=>match us,hl with | [_,_,_,_,_],_=>rfl) (fun f cdv A outer s H vs Q E hr h=>?_);unfold hU at h;walk_at "el";refine ⟨_,(ag (aq (i:=5) bZ.nd rfl lc (aH (lD K rfl rfl) rfl T.tm rH (aa (aJ (nt:=1) (fi:=[]) (N':=["_law_pair"]) rfl (cscope rfl (by decide +kernel)) (cnames (N:=["_law_script", "_law_k", "_law_layout_here", "_law_doors", "_law_shift", "_law_width", "_law_gates", "_law_j", "_law_here", "_law_many", "_law_size"]) (sc:=defScope cM) rfl rfl (by decide +kernel)) (aQ (by decide)) (iterE K rfl (qv 2)) (fun _ _ _ _ _=>(aj (i:=0) (by show (["_law_pair"]:List Str).Nodup; decide +kernel) rfl lc)) (fun _ _ _ _ _=>bd) (fun _ _ _ _ _=>(ai (ixE K rfl) (qv 0) ad (fun _ _=>rfl)))) ae)))
   (ag (aq (i:=6) bZ.nd rfl lc (aL ae))
   (ag (bw PassesOwn.never rfl (bV rfl T.cO (aH (lenE K rfl) rfl T.cq bK (aa (qv 3) ae))) (aj (i:=7) bZ.nd rfl lc) (ag (aq (i:=8) bZ.nd rfl lc (al ak (al ak (qv 1) ad) (al bM ad (qv 7))))
   (ag (aq (i:=9) bZ.nd rfl lc (ai (ixE K rfl) (aL (aa ad (aa ad (aa ad (aa ad ae))))) (am (ar T) hr.m rfl (aa (qv 0) (aa (al ak (al ak (qv 1) ad) (qv 7)) (aa ad ae)))) (fun _ _=>rfl)))
   (ah (aw (aY (qv 6) (ay (aa (ai (ixE K rfl) (qv 3) (qv 7) (fun _ _=>rfl)) (aa (aJ (nt:=1) (fi:=[0,5,4,8]) (N':=["_law_i", "_law_script", "_law_width", "_law_shift", "_law_here"]) rfl (cscope rfl (by decide +kernel)) (cnames (N:=["_law_script", "_law_k", "_law_layout_here", "_law_doors", "_law_shift", "_law_width", "_law_gates", "_law_j", "_law_here", "_law_many", "_law_size"]) (sc:=defScope cM) rfl rfl (by decide +kernel)) (aQ (by decide)) (bV rfl T.cO (qv 9)) (fun _ _ _ _ _=>(aj (i:=0) (by show (["_law_i", "_law_script", "_law_width", "_law_shift", "_law_here"]:List Str).Nodup; decide +kernel) rfl lc)) (fun _ _ _ _ _=>bd) (fun _ _ _ _ _=>(am (kx T) hr.m rfl (aa (qv 1) (aa (al ak (qv 4) (al bM ad (qv 0))) (aa (qv 2) (aa (qv 3) ae))))))) ae)))))))))
   (ag (aq (i:=10) bZ.nd rfl lc (ai (ixE K rfl) (aJ (nt:=1) (fi:=[]) (N':=["_law_pair"]) rfl (cscope rfl (by decide +kernel)) (cnames (N:=["_law_script", "_law_k", "_law_layout_here", "_law_doors", "_law_shift", "_law_width", "_law_gates", "_law_j", "_law_here", "_law_many", "_law_size"]) (sc:=defScope cM) rfl rfl (by decide +kernel)) (aQ (by decide)) (iterE K rfl (qv 2)) (fun _ _ _ _ _=>(aj (i:=0) (by show (["_law_pair"]:List Str).Nodup; decide +kernel) rfl lc)) (fun _ _ _ _ _=>(cN (aB bn (ai (ixE K rfl) (qv 0) ad (fun _ _=>rfl)) (qs [116,111])))) (fun _ _ _ _ _=>(ai (ixE K rfl) (qv 0) ad (fun _ _=>rfl)))) ad (fun _ _=>rfl)))
   (ah (ax (ay (aa (qv 6) (aa (am (pW T) hr.m rfl (aa (qv 0) (aa (qv 1) (aa (qv 10) (aa (qv 3) ae))))) ae))))))))),?_⟩
 rename_i a k l d sh;obtain ⟨ns,ls,ds,hS,hk0,hk1,hL,ok,hz,hd,hdn,hd1,hd3,hs0,hs1,q⟩:=h;obtain ⟨vl,el,pl⟩:=id hL;have hll:=pl.length;have few:=ok.few;obtain ⟨z1,z2⟩:=aF pl;walk_at "rd";refine .inl ⟨⟨_,SqL.of el⟩,fun D hD=>?_⟩;refine bU (item:=fun x:Fld × V=>x.2) (xs:=ls.zip vl) (h:=fun x=>[V.int x.1.2]) hD (by rw [z1]; exact SqL.of el) (by rw [List.length_zip]; lia) (fun _=>by simp) ?_ ?_
 ·intro x H1 out non hx s1 ho _;obtain ⟨t,ex,et⟩:=z2 x hx;rw [ex];walk_at "rd";exact ⟨_,_,.inr (SqT.of (s1 _ _ et)),rfl,ho _ _ rfl (Same.refl _)⟩
 intro H1 s1 e1;rw [show (ls.zip vl).flatMap (fun x=>[V.int x.1.2])=((ls.map (·.2)).map fun n:Nat=>(n:Int)).map V.int by
  rw [dr (fun x:Fld × V=>V.int x.1.2)]
  conv=>rhs; rw [<- bj (l:=ls) (m:=vl) hll,List.map_map,List.map_map,List.map_map]
  rfl] at e1
 refine ⟨_,SqL.of e1,?_⟩;obtain ⟨W,eWL⟩:∃ W:Nat,W=widthL ls:=⟨_,rfl⟩;have eW:((ls.map (·.2)).map fun n:Nat=>(n:Int)).sum=(W:Int):=by
  rw [eWL];unfold widthL;generalize ls.map (·.2)=m
  induction m with
  | nil=>rfl
  | cons x m ih=>
   rw [List.map_cons,List.sum_cons,ih,List.sum_cons]
   push_cast
   rfl
 have hW:W<=12:=by
  have key:∀ l:List Fld,(∀ x ∈ l,x.2<=3)->(l.map (·.2)).sum<=3*l.length:=by
   intro l
   induction l with
   | nil=>exact fun _=>Nat.le_refl _
   | cons x l ih=>
    intro h;have:=ih fun y hy=>h y (List.mem_cons_of_mem _ hy)
    have:=h x List.mem_cons_self;rw [List.map_cons,List.sum_cons,List.length_cons]
    lia
  have:=key ls hz;rw [eWL];unfold widthL
  lia
 rw [eW];walk_at "rd";refine ⟨Nat.zero_le _,fun gl hgl=>⟨_,.inl (SqL.of ((s1.trans (af hgl (.lst []))) _ _ hd)),?_⟩⟩;rw [List.length_map];refine ⟨by lia,by lia,?_⟩;rw [Int.toNat_natCast];have sg:=af hgl (.lst []);refine fP (lo:=0) (n:=ds.length) (fun i σ H'=>Ex5 fun (gs:List Gate) (vs:List V) (u7 u8 u9:Option V)=>σ = [some (.ref a),some (.int k),some (.ref l),some (.ref d),some (.int sh),some (nV W),some (.ref gl),u7,u8,u9,none]/\Same H1 H'/\H' gl=some (.lst vs)/\Paired (GateB gl (fun r=>H r=none) H') gs vs/\gs.map (·.1)=ds.take i/\(∀ x ∈ gs,x.2.length<=3)/\∀ x ∈ gs,∀ r ∈ x.2,RuleOk W r)
  ⟨[],[],none,none,none,rfl,sg,ab,.nil,by simp,fun x hx=>by simp at hx,fun x hx=>by simp at hx⟩ ?_ ?_
 ·rintro i σ H2 hi ⟨gs,vs,u7,u8,u9,rfl,s2,eg,pg,hgd,hgl3,hgr⟩;walk_at "rd";have m60:CMul 60 (i:Int):=.inl ⟨by decide,by decide⟩;refine ⟨m60,by decide,fun c1 hc1=>?_⟩;have s3:=af hc1 (.lst [V.int 2,V.int 1,V.int 0,V.int 3]);have s13:=s1.trans (s2.trans s3);refine br (s13.seq hS) (by lia) (by lia) (by decide) (by decide) fun r1 hr1=>?_
  obtain ⟨c,hc,ec⟩:=vJ (cs:=[2,1,0,3]) (B:=3) (vs:=[V.int 2,V.int 1,V.int 0,V.int 3]) rfl (by decide) (i:=r1) (by show r1 < 4; lia);walk_at "rd";refine ⟨_,_,.inl (SqL.of ab),ec,?_⟩;walk_at "rd";have eg3:=s3 _ _ eg;refine ⟨⟨_,eg3⟩,_,tx ds[i],.inl (SqL.of (s13 _ _ hd)),bC (by rw [List.getElem?_map,List.getElem?_eq_getElem hi]; rfl),by lia,by lia,fun R hR=>?_⟩;rw [Int.toNat_natCast];refine ig (lo:=0) (n:=c) (fun _ v H'=>∃ r:Rule,RuleOk W r/\RuleAt H' r v) hR (by lia) ?_ ?_ ?_
  ·rintro x v H7 H8 acc hd' k' ⟨r,hr,t',rfl,et⟩;exact ⟨r,hr,t',rfl,k' t' _ (fun z=>by rw [z,hd'] at et; cases et) et⟩
  ·intro j H3 out non hj s4 ho;walk_at "rd";exact ⟨.inl ⟨by decide,by decide⟩,ns,W,(s13.trans s4).seq hS,by lia,by lia,rfl,by lia,hs0,hs1,fun t H4 r ht s5 e5 hr=>ho _ _ s5 ⟨r,hr,t,rfl,e5⟩⟩
  intro H3 us s4 e4 p4;obtain ⟨rs,pr4,hrl,hrok⟩:=g7 p4;rw [List.length_range] at hrl;refine ⟨by decide,fun t ht=>?_⟩;have s5:=af ht (.tup [tx ds[i],.ref R]);have eg5:=s5 _ _ (s4 _ _ eg3);have hvl:=pg.length;have hgl2:gs.length=i:=by
   have:=congrArg List.length hgd;rw [List.length_map,List.length_take] at this
   lia
  have nRg:R≠gl:=fun z=>by rw [z,eg3] at hR; cases hR
  refine ⟨vs,eg5,sizeBig (by lia),gs++[(ds[i],rs)],_,_,_,_,rfl,aG (s2.trans (s3.trans (s4.trans s5))) hgl,ab,?_,?_,fun x hx=>?_,fun x hx=>?_⟩
  ·exact aO (tT eg5 (rQ (s3.trans (s4.trans s5)) pg)) ⟨t,R,rfl,⟨nRg,s13.free hR⟩,aK eg5 _ _ ab,oE eg5 nRg (Rules.same ⟨us,e4,pr4⟩ s5)⟩
  ·rw [List.map_append,hgd,List.take_add_one,List.getElem?_eq_getElem hi];rfl
  ·rcases List.mem_append.mp hx with z | z
   ·exact hgl3 x z
   ·rw [List.mem_singleton.mp z];show rs.length<=3
    lia
  ·rcases List.mem_append.mp hx with z | z
   ·exact hgr x z
   ·rw [List.mem_singleton.mp z];exact hrok
 ·rintro σ H2 ⟨gs,vs,u7,u8,u9,rfl,s2,eg,pg,hgd,hgl3,hgr⟩;rw [List.take_length] at hgd;have s12:=s1.trans s2;have el2:=s12 _ _ el;walk_at "rd";refine .inl ⟨⟨_,SqL.of el2⟩,fun D2 hD2=>?_⟩;refine bU (item:=fun x:Fld × V=>x.2) (xs:=ls.zip vl) (h:=fun x=>if decide (x.1.1=toB)=true then [V.int x.1.2] else []) hD2 (by rw [z1]; exact SqL.of el2) (by rw [List.length_zip]; lia) (fun _=>by split <;> simp) ?_ ?_
  ·intro x H3 out non hx s3 ho hno;obtain ⟨t,ex,et⟩:=z2 x hx;rw [ex];have et3:=s3 _ _ (s12 _ _ et);walk_at "rd";refine ⟨_,_,.inr (SqT.of et3),rfl,?_⟩;walk_at "rd";exact ite2 (fun g=>⟨_,_,.inr (SqT.of et3),rfl,ho _ _ (if_pos (decide_eq_true g)) (Same.refl _)⟩) fun g=>hno _ (if_neg (fun z=>g (of_decide_eq_true z))) (Same.refl _)
  intro H3 s3 e3;obtain ⟨m,rest,er,hm,xm,hxm,exm⟩:=qU (ls.zip vl) (by
   obtain ⟨n,hn⟩:=ok.to;rw [<- bj (l:=ls) (m:=vl) hll] at hn;obtain ⟨x,hx,e⟩:=List.mem_map.mp hn;exact ⟨x,hx,by rw [e]⟩) fun x hx=>hz x.1 (List.of_mem_zip hx).1
  rw [er] at e3;have s13:=s12.trans s3;walk_at "rd";refine ⟨_,V.int m,.inl (SqL.of e3),show atI _ ((0:Nat):Int)=_ from bC rfl,ns,m,ds,s13.seq hS,hk0,by lia,rfl,by lia,s13 _ _ hd,hd1,by lia,fun wp H4 ws hwp s4 hw hwl hwS=>⟨by decide,fun t ht=>?_⟩⟩;have s5:=af ht (.tup [V.ref gl,V.ref wp]);have s35:=s3.trans (s4.trans s5);have hgs:gs.length=ds.length:=by rw [<- hgd,List.length_map]
  refine q t gl wp _ (gs,ws) ((s13.trans s4).free ht) (s1.free hgl) (s13.free hwp) (s13.trans (s4.trans s5)) ⟨ab,fun z=>(by rw [<- z,s3 _ _ eg] at hwp; cases hwp),⟨vs,s35 _ _ eg,L2.Paired.mapP pg ?_⟩,hw.same s5⟩ (fun Z hZ=>?_) hgd
  ·rintro x v ⟨t',r,rfl,n,h1,h2⟩;refine ⟨t',r,rfl,⟨n.1,fun z=>?_,n.2⟩,s35 _ _ h1,h2.same s35⟩;obtain ⟨us,eu,_⟩:=h2;have:=s3 _ _ eu;rw [z,hwp] at this;cases this
  ·obtain rfl:Z=m:=vk ok.nd hZ (by rw [<- exm]; exact (List.of_mem_zip hxm).1);exact ⟨by show (gs.map (·.1)).Nodup; rw [hgd]; exact hdn,by show 1<=gs.length; lia,by show gs.length<=3; lia,fun x hx r hr=>by rw [<- eWL]; exact hgr x hx r hr,hgl3,by show WaysOk Z (gs.map (·.1)) ws; rw [hgd]; exact hwS,hwl⟩
noncomputable def g9 (K:Frag):Sp:=av fun a=>be fun k=>av fun p=>be fun z=>aE fun H Q _=>Ex2 fun (ns:List Int) (ss:List Way)=>SqL K H a (ns.map V.int)/\0<=k/\k<=40000/\z=0/\Ways H p ss/\ss.Nodup/\1<=ss.length/\ss.length<=12 /\
   ∀ q H' ls,H q=none->Same H H'->Lines H' q ls->(endsOf ls).Nodup->(∀ s ∈ endsOf ls,s ∈ ss)->ls.length<=6->Q (.ref q) H'
theorem n4 (T:Top K mg):Callee P w K mg base 2 "_law_lines" ["_law_script", "_law_k", "_law_spots_here", "_law_spare"] (g9 K):=by
 refine T.kQ.cal cA (by unfold g9; exact LenSp.h) (fun _ _ _ _ _ _ us hl=>match us,hl with | [_,_,_,_],_=>rfl) (fun f cdv A outer s H vs Q E hr h=>?_);unfold g9 at h;walk_at "el";refine ⟨_,(ag (aq (i:=4) cA.nd rfl lc (bP (b8 K rfl rfl) rfl T.eU dz (aa (qv 2) ae)))
   (ag (aq (i:=5) cA.nd rfl lc (al vI (aH (mX rfl) rfl T.vP uM (aa ad (aa (al pS (aH (lenE K rfl) rfl T.cq bK (aa (qv 2) ae)) (qv 3)) ae))) ad))
   (ag (aq (i:=6) cA.nd rfl lc (aL ae))
   (ag (bw PassesOwn.never rfl (bV rfl T.cO (aH (mX rfl) rfl T.vP uM (aa (am (ar T) hr.m rfl (aa (qv 0) (aa (qv 1) (aa (al ak ad (qv 5)) ae)))) (aa (am (ar T) hr.m rfl (aa (qv 0) (aa (al ak (qv 1) ad) (aa (al ak ad (qv 5)) ae)))) ae)))) (aj (i:=7) cA.nd rfl lc) (ag (aq (i:=8) cA.nd rfl lc (m4 (qv 4) (am (ar T) hr.m rfl (aa (qv 0) (aa (al ak (al ak (qv 1) (al bM ad (qv 7))) ad) (aa (aH (lenE K rfl) rfl T.cq bK (aa (qv 4) ae)) ae))))))
   (ah (aw (aY (qv 6) (ay (aa (qv 8) (aa (m4 (qv 4) (am (ar T) hr.m rfl (aa (qv 0) (aa (al ak (al ak (qv 1) (al bM ad (qv 7))) ad) (aa (aH (lenE K rfl) rfl T.cq bK (aa (qv 4) ae)) ae))))) ae))))))))
   (ah (ax (qv 6))))))),?_⟩
 rename_i a k p z0;obtain ⟨ns,sp,hS,hk0,hk1,rfl,⟨vs,e0,pr⟩,hnd,hl1,hl,q⟩:=h;have hvl:=pr.length;walk_at "rd";refine ⟨_,.inl (SqL.of e0),fun P hP=>?_⟩;have s1:=af hP (.lst vs);refine ⟨_,.inl (SqL.of (s1 _ _ e0)),?_⟩;refine ⟨Nat.zero_le _,fun c hc=>?_⟩;have s2:=s1.trans (af hc (.lst []));have eP:=af hc (.lst []) _ _ (show upd H P (.lst vs) P=some (.lst vs) from ab);have ncP:c≠P:=fun z=>by rw [z,ab] at hc; cases hc
 have hc0:=s1.free hc;obtain ⟨hm,ehm⟩:∃ x:Nat,(if (0:Int) < (vs.length:Int) - 0 then (vs.length:Int) - 0 else 0) / 2=(x:Int):=⟨vs.length / 2,by split <;> lia⟩;have hm2:2*hm<=vs.length:=by
  split at ehm <;> lia
 rw [ehm];refine br (s2.seq hS) (by lia) (by lia) (by lia) (by lia) fun r1 hr1=>?_
 refine br (s2.seq hS) (by lia) (by lia) (by lia) (by lia) fun r2 hr2=>?_
 walk_at "rd";obtain ⟨z,ez,hz⟩:∃ z:Nat,(if (r1:Int) < (r2:Int) then (r2:Int) else (r1:Int))=(z:Int)/\2*z<=vs.length:=by
  split
  ·exact ⟨r2,rfl,by lia⟩
  ·exact ⟨r1,rfl,by lia⟩
 rw [ez,Int.toNat_natCast];refine ⟨by lia,by lia,?_⟩;have nPc:P≠c:=Ne.symm ncP;refine fP (lo:=0) (n:=z) (fun i σ H'=>Ex6 fun (rest:List Way) (pv:List V) (ls:List Line) (cv:List V) (u5 u6:Option V)=>σ = [some (.ref a),some (.int k),some (.ref p),some (.int 0),some (.ref P),some (nV hm),some (.ref c),u5,u6]/\Same H H'/\H' P=some (.lst pv)/\Paired (WayAt H') rest pv/\H' c=some (.lst cv)/\Paired (LineAt H') ls cv/\(endsOf ls++rest).Perm sp/\rest.length+2*i=sp.length/\ls.length=i)
  ⟨sp,vs,[],[],none,none,rfl,s2,eP,aD (fun t us z=>s2 _ _ z) pr,ab,.nil,List.Perm.refl _,by lia,rfl⟩ ?_ ?_
 ·rintro i σ H1 hi ⟨rest,pv,ls,cv,u5,u6,rfl,s3,e3,p3,e4,p4,hperm,hrl,hll⟩;have l3:=p3.length;have l4:=p4.length;have mul2:CMul 2 (i:Int):=.inl ⟨by decide,by decide⟩;walk_at "rd";refine ⟨⟨_,e3⟩,mul2,_,.inl (SqL.of e3),br (s3.seq hS) (by lia) (by lia) (by lia) (by lia) fun r3 hr3=>?_⟩;have h3:r3 < pv.length:=by lia
  have h3r:r3 < rest.length:=by lia
  refine ⟨pv,r3,pv[r3],rfl,e3,by lia,List.getElem?_eq_getElem h3,?_⟩;obtain ⟨y1,hy1,w1⟩:=aA p3 (List.getElem?_eq_getElem h3r);rw [List.getElem?_eq_getElem h3] at hy1;cases hy1;have p5:=fL r3 p3;have le1:(pv.eraseIdx r3).length=pv.length - 1:=List.length_eraseIdx_of_lt h3;have le2:(rest.eraseIdx r3).length=rest.length - 1:=List.length_eraseIdx_of_lt h3r;have s4:Same H (upd H1 P (.lst (pv.eraseIdx r3))):=aG s3 hP;have e5:upd H1 P (.lst (pv.eraseIdx r3)) P=some (.lst (pv.eraseIdx r3)):=ab;have e6:upd H1 P (.lst (pv.eraseIdx r3)) c=some (.lst cv):=by rw [au ncP]; exact e4
  have k4:∀ t us,H1 t=some (.tup us)->upd H1 P (.lst (pv.eraseIdx r3)) t=some (.tup us):=aK e3;generalize upd H1 P (.lst (pv.eraseIdx r3))=H2 at s4 e5 e6 k4 ⊢;walk_at "rd";refine ⟨⟨_,e6⟩,⟨_,e5⟩,mul2,_,.inl (SqL.of e5),br (s4.seq hS) (by lia) (by lia) (by lia) (by lia) fun r4 hr4=>?_⟩;have h4:r4 < (pv.eraseIdx r3).length:=by lia
  have h4r:r4 < (rest.eraseIdx r3).length:=by lia
  refine ⟨_,r4,(pv.eraseIdx r3)[r4],rfl,e5,by lia,List.getElem?_eq_getElem h4,by decide,fun t5 ht5=>?_⟩;obtain ⟨y2,hy2,w2⟩:=aA p5 (List.getElem?_eq_getElem h4r);rw [List.getElem?_eq_getElem h4] at hy2;cases hy2;have p6:=fL r4 p5;have s5:Same H (upd H2 P (.lst ((pv.eraseIdx r3).eraseIdx r4))):=aG s4 hP;have e7:upd H2 P (.lst ((pv.eraseIdx r3).eraseIdx r4)) P=some (.lst ((pv.eraseIdx r3).eraseIdx r4)):=ab;have e8:upd H2 P (.lst ((pv.eraseIdx r3).eraseIdx r4)) c=some (.lst cv):=by rw [au ncP]; exact e6
  have k5:∀ t us,H2 t=some (.tup us)->upd H2 P (.lst ((pv.eraseIdx r3).eraseIdx r4)) t=some (.tup us):=aK e5;generalize upd H2 P (.lst ((pv.eraseIdx r3).eraseIdx r4))=H3 at s5 e7 e8 k5 ht5 ⊢;have s6:=af ht5 (.tup [pv[r3],(pv.eraseIdx r3)[r4]]);have e9:=s6 _ _ e8;have kk:∀ t us,H1 t=some (.tup us)->upd (upd H3 t5 (.tup [pv[r3],(pv.eraseIdx r3)[r4]])) c (.lst (cv++[.ref t5])) t=some (.tup us):=fun t us z=>aK e9 _ _ (s6 _ _ (k5 _ _ (k4 _ _ z)))
  have nc5:c≠t5:=fun z=>by rw [<- z,e8] at ht5; cases ht5
  refine ⟨cv,e9,sizeBig (by lia),(rest.eraseIdx r3).eraseIdx r4,(pv.eraseIdx r3).eraseIdx r4,ls++[(rest[r3],(rest.eraseIdx r3)[r4])],cv++[.ref t5],_,_,rfl,aG (s5.trans s6) hc0,?_,aD kk p6,ab,?_,?_,?_,by rw [List.length_append,hll]; rfl⟩
  ·rw [au nPc];exact s6 _ _ e7
  ·refine aO (L2.Paired.mapP p4 fun _ _ y=>bi kk y) ⟨t5,_,_,rfl,aK e9 _ _ ab,?_,?_⟩
   ·obtain ⟨ta,ea,ha⟩:=w1;exact ⟨ta,ea,kk _ _ ha⟩
   ·obtain ⟨ta,ea,ha⟩:=w2;exact ⟨ta,ea,kk _ _ ha⟩
  ·refine List.Perm.trans ?_ hperm;unfold endsOf;rw [List.flatMap_append,List.append_assoc];refine List.Perm.append_left _ ?_;show (rest[r3]::(rest.eraseIdx r3)[r4]::(rest.eraseIdx r3).eraseIdx r4).Perm rest;exact ((ir h4r).cons _).trans (ir h3r)
  ·have:((rest.eraseIdx r3).eraseIdx r4).length=(rest.eraseIdx r3).length - 1:=List.length_eraseIdx_of_lt h4r
   lia
 ·rintro σ H1 ⟨rest,pv,ls,cv,u5,u6,rfl,s3,e3,p3,e4,p4,hperm,hrl,hll⟩;walk_at "rd";refine q c H1 ls hc0 s3 ⟨cv,e4,p4⟩ (List.nodup_append.mp (hperm.nodup_iff.mpr hnd)).1 (fun s hs=>hperm.mem_iff.mp (List.mem_append_left _ hs)) (by lia)
def NamedF (A B:Addr) (H:Hp) (x:Named) (v:V):Prop:=Ex4 fun t q g w=>v=.ref t/\H t=some (.tup [tx x.1,.ref q])/\HouseN (fun r=>r≠A/\r≠B) H q g w x.2/\(g≠A/\g≠B)/\w≠A/\w≠B
theorem gy {A B:Addr} {H H':Hp} (kt:∀ t vs,H t=some (.tup vs)->H' t=some (.tup vs)) (kl:∀ r vs,r≠A->r≠B->H r=some (.lst vs)->H' r=some (.lst vs)) {hs:List Named} {vs:List V} (h:Paired (NamedF A B H) hs vs):Paired (NamedF A B H') hs vs:=by
 refine L2.Paired.mapP h ?_;rintro x v ⟨t,q,g,w,e,et,hN,ng,nw⟩;obtain ⟨gv,eg,pg⟩:=hN.gates;obtain ⟨wv,ew,pw⟩:=hN.ways;refine ⟨t,q,g,w,e,kt _ _ et,⟨kt _ _ hN.tup,hN.ne,⟨gv,kl _ _ ng.1 ng.2 eg,L2.Paired.mapP pg ?_⟩,⟨wv,kl _ _ nw.1 nw.2 ew,aD kt pw⟩⟩,ng,nw⟩;rintro y u ⟨t2,r,e2,n2,h1,⟨rv,er,pr⟩⟩;exact ⟨t2,r,e2,n2,kt _ _ h1,⟨rv,kl _ _ n2.2.2.1 n2.2.2.2 er,aI kt pr⟩⟩
theorem tK {A B:Addr} {H:Hp} {hs:List Named} {vs:List V} (h:Paired (NamedF A B H) hs vs):Paired (NamedAt H) hs vs:=L2.Paired.mapP h fun _ _ ⟨t,q,_,_,e,et,hN,_⟩=>⟨t,q,e,et,hN.at⟩
theorem kg {F G:Addr->Prop} {H:Hp} {q g w:Addr} {hs:House} (h:HouseN F H q g w hs) (k:∀ r,F r->G r):HouseN G H q g w hs:=by
 obtain ⟨gv,eg,pg⟩:=h.gates;exact ⟨h.tup,h.ne,⟨gv,eg,L2.Paired.mapP pg fun _ _ ⟨t,r,e,n,h1,h2⟩=>⟨t,r,e,⟨n.1,n.2.1,k _ n.2.2⟩,h1,h2⟩⟩,h.ways⟩
structure NetB (N:Net):Prop where
 h4:N.2.1.length<=4
 house:∀ x ∈ N.2.1,HouseB x.2
structure NetK (W S j:Nat) (N:Net):Prop where
 nd:(N.2.1.map (·.1)).Nodup
 h1:1<=N.2.1.length
 h4:N.2.1.length<=4
 low:∀ x ∈ N.2.1,Low x.1/\x.1.length<=8
 house:∀ x ∈ N.2.1,HouseK W S j x.2
 door:∀ x ∈ N.2.1,∀ g ∈ x.2.1,Low g.1/\g.1.length<=8
 ends:(endsOf N.2.2).Nodup
 spots:∀ s ∈ endsOf N.2.2,s ∈ spotsOf N.2.1
 l6:N.2.2.length<=6+j
theorem NetK.b {W S j:Nat} {N:Net} (h:NetK W S j N) (hj:j<=24):NetB N:=⟨h.h4,fun x hx=>⟨(h.house x hx).g3,fun y hy=>by have:=(h.house x hx).rl y hy; lia,by have:=(h.house x hx).w5; lia⟩⟩
noncomputable def jm (K:Frag):Sp:=av fun a=>be fun k=>be fun m=>be fun z=>aE fun H Q _=>∃ (ns:List Int),SqL K H a (ns.map V.int)/\0<=k/\k<=10000/\1<=m/\m<=4/\z=0 /\
   ∀ q H' N Z,H q=none->Same H H'->NetAt H' q N->LayB N.1->N.1.length<=3->(∀ x ∈ N.1,FldK x)->widthL N.1<=6->(toB,Z) ∈ N.1->NetK (widthL N.1) Z 0 N->Q (.ref q) H'
theorem qz (T:Top K mg):Callee P w K mg base 5 "_law_net" ["_law_script", "_law_k", "_law_most", "_law_spare"] (jm K):=by
 refine T.nN.cal cm (by unfold jm; exact LenSp.h) (fun _ _ _ _ _ _ us hl=>match us,hl with | [_,_,_,_],_=>rfl) (fun f cdv A outer s H vs Q E hr h=>?_);unfold jm at h;walk_at "el";refine ⟨_,(ag (aq (i:=4) cm.nd rfl lc (am (mY T) hr.m rfl (aa (qv 0) (aa (qv 1) ae))))
   (ag (aq (i:=5) cm.nd rfl lc (am (jV T) hr.m rfl (aa (qv 0) (aa (al ak (qv 1) ad) (aa (al ak ad (am (ar T) hr.m rfl (aa (qv 0) (aa (al ak (qv 1) ad) (aa (qv 2) ae))))) ae)))))
   (ag (aq (i:=6) cm.nd rfl lc (am (jV T) hr.m rfl (aa (qv 0) (aa (al ak (qv 1) ad) (aa ad ae)))))
   (ag (aq (i:=7) cm.nd rfl lc (aL ae))
   (ag (aq (i:=8) cm.nd rfl lc (aL ae))
   (ag (bw PassesOwn.never rfl (bV rfl T.cO (aH (lenE K rfl) rfl T.cq bK (aa (qv 5) ae))) (aj (i:=9) cm.nd rfl lc) (ag (aq (i:=10) cm.nd rfl lc (bp (slE K rfl) (qv 6) bT (bG (al ak ad (am (ar T) hr.m rfl (aa (qv 0) (aa (al ak (al ak (qv 1) ad) (qv 9)) (aa ad ae))))))))
   (ag (aw (aY (qv 7) (ay (aa (ai (ixE K rfl) (qv 5) (qv 9) (fun _ _=>rfl)) (aa (am (nZ T) hr.m rfl (aa (qv 0) (aa (al ak (al ak (qv 1) ad) (al bM ad (qv 9))) (aa (qv 4) (aa (qv 10) (aa (am (ar T) hr.m rfl (aa (qv 0) (aa (al ak (qv 1) ad) (aa ad ae)))) ae)))))) ae)))))
   (ah (aw (lJ (qv 8) (aJ (nt:=1) (fi:=[5,9]) (N':=["_law_door", "_law_names_here", "_law_j"]) rfl (cscope rfl (by decide +kernel)) (cnames (N:=["_law_script", "_law_k", "_law_most", "_law_spare", "_law_layout_here", "_law_names_here", "_law_doors", "_law_houses", "_law_spots_here", "_law_j", "_law_own"]) (sc:=defScope iT) rfl rfl (by decide +kernel)) (aQ (by decide)) (iterE K rfl (qv 10)) (fun _ _ _ _ _=>(aj (i:=0) (by show (["_law_door", "_law_names_here", "_law_j"]:List Str).Nodup; decide +kernel) rfl lc)) (fun _ _ _ _ _=>bd) (fun _ _ _ _ _=>(ay (aa (ai (ixE K rfl) (qv 1) (qv 2) (fun _ _=>rfl)) (aa (qv 0) ae)))))))))))
   (ah (ax (ay (aa (qv 4) (aa (qv 7) (aa (am (n4 T) hr.m rfl (aa (qv 0) (aa (al ak (qv 1) ad) (aa (qv 8) (aa (qv 3) ae))))) ae)))))))))))),?_⟩
 rename_i a k m z;obtain ⟨ns,hS,hk0,hk1,hm1,hm4,rfl,q⟩:=h;walk_at "rd";refine ⟨ns,hS,hk0,by lia,fun l H1 ls hl s1 hL lok hl3 hsz hwd=>?_⟩;obtain ⟨Z,hZ⟩:=lok.to;walk_at "rd";refine br (s1.seq hS) (by lia) (by lia) (by lia) (by lia) fun r1 hr1=>?_
 walk_at "rd";refine ⟨ns,1+r1,s1.seq hS,by lia,by lia,by lia,by lia,by lia,fun np H2 nm hnp s2 e2 NB=>?_⟩;have s12:=s1.trans s2;walk_at "rd";refine ⟨ns,3,s12.seq hS,by lia,by lia,rfl,by decide,by decide,fun dp H3 dl hdp s3 e3 DB=>?_⟩;have s13:=s12.trans s3;have hnl:=NB.len;have hdl:=DB.len;walk_at "rd";refine ⟨Nat.zero_le _,fun A hA=>⟨Nat.zero_le _,fun B hB=>⟨_,.inl (SqL.of (((s3.trans (af hA (.lst []))).trans (af hB (.lst []))) _ _ e2)),?_⟩⟩⟩;rw [List.length_map];refine ⟨by lia,by lia,?_⟩;rw [Int.toNat_natCast];have nAB:A≠B:=fun z=>by rw [<- z,ab] at hB; cases hB
 have sA:=af hA (.lst []);have sB:=af hB (.lst []);have hB3:H3 B=none:=sA.free hB;refine fP (lo:=0) (n:=nm.length) (fun i σ H'=>Ex6 fun (hs:List Named) (hv:List V) (ss:List Way) (sv:List V) (u9 u10:Option V)=>σ = [some (.ref a),some (.int k),some (.int m),some (.int 0),some (.ref l),some (.ref np),some (.ref dp),some (.ref A),some (.ref B),u9,u10]/\Same H3 H'/\H' A=some (.lst hv)/\Paired (NamedF A B H') hs hv/\H' B=some (.lst sv)/\Paired (WayAt H') ss sv /\
   hs.map (·.1)=nm.take i/\(∀ x ∈ hs,HouseK (widthL ls) Z 0 x.2/\∀ g ∈ x.2.1,Low g.1/\g.1.length<=8)/\spotsOf hs=ss/\ss.Nodup/\(∀ x ∈ ss,x.1 ∈ nm.take i)/\ss.length<=3*i/\i<=ss.length)
  ⟨[],[],[],[],none,none,rfl,sA.trans sB,sB _ _ ab,.nil,ab,.nil,by simp,fun x hx=>by simp at hx,rfl,List.nodup_nil,fun x hx=>by simp at hx,Nat.le_refl _,Nat.le_refl _⟩ ?_ ?_
 ·rintro i σ H4 hi ⟨hs,hv,ss,sv,u9,u10,rfl,s4,eA,pA,eB,pB,hnm,hok,hsp,snd,sin,ssl,ssl2⟩;have hlv:=pA.length;have hls:=pB.length;have hhl:hs.length=i:=by
   have:=congrArg List.length hnm;rw [List.length_map,List.length_take] at this
   lia
  have s14:=s13.trans s4;walk_at "rd";refine br (s14.seq hS) (by lia) (by lia) (by decide) (by decide) fun r2 hr2=>?_
  walk_at "rd";have ed4:=s4 _ _ e3;refine ⟨_,SqL.of ed4,fun op hop=>?_⟩;rw [show ((1:Int)+(r2:Int))=((1+r2:Nat):Int) by lia,iD _ _ (by rw [List.length_map]; lia),<- List.map_take];have s5:=af hop (.lst ((dl.take (1+r2)).map tx));have e5:upd H4 op (.lst ((dl.take (1+r2)).map tx)) op=some (.lst ((dl.take (1+r2)).map tx)):=ab;have nop:op≠B:=fun z=>by rw [z,eB] at hop; cases hop
  have hol:(dl.take (1+r2)).length=1+r2:=by rw [List.length_take]; lia
  have hond:(dl.take (1+r2)).Nodup:=List.Sublist.nodup (List.take_sublist _ _) DB.nd;have holo:∀ x ∈ dl.take (1+r2),Low x/\x.length<=8:=fun x hx=>⟨DB.low x (List.mem_of_mem_take hx),(DB.short x (List.mem_of_mem_take hx)).2⟩
  generalize dl.take (1+r2)=ol at s5 e5 hol hond holo ⊢;have eA5:=s5 _ _ eA;have s15:=s14.trans s5;have en5:=s5 _ _ (s4 _ _ (s3 _ _ e2));have mul:CMul 300 (i:Int):=.inl ⟨by decide,by decide⟩;have hnv:atI (nm.map tx) (i:Int)=some (tx nm[i]):=bC (by rw [List.getElem?_map,List.getElem?_eq_getElem hi]; rfl);refine ⟨⟨_,eA5⟩,_,tx nm[i],.inl (SqL.of en5),hnv,mul,?_⟩;refine br (s15.seq hS) (by lia) (by lia) (by decide) (by decide) fun r3 hr3=>?_
  refine ⟨ns,ls,ol,s15.seq hS,by lia,by lia,((hL.same (s2.trans s3)).same s4).same s5,lok,fun x hx=>(hsz x hx).h3,e5,hond,by lia,by lia,by lia,by lia,fun hq g w H6 h6 hhq hg hw s6 hN6 hok6 hd6=>⟨by decide,fun t ht=>?_⟩⟩;have s7:=af ht (.tup [tx nm[i],.ref hq]);have eA7:=s7 _ _ (s6 _ _ eA5);have eB7:=s7 _ _ (s6 _ _ (s5 _ _ eB));have eo7:=s7 _ _ (s6 _ _ e5);have en7:=s7 _ _ (s6 _ _ en5);have s47:=s5.trans (s6.trans s7);have fA:∀ r,upd H4 op (.lst (ol.map tx)) r=none->r≠A/\r≠B:=fun r hr=>⟨fun z=>(by rw [z,eA5] at hr; cases hr),fun z=>(by rw [z,s5 _ _ eB] at hr; cases hr)⟩
  have npA:np≠A:=fun z=>by rw [z] at e2; have:=s3 _ _ e2; rw [hA] at this; cases this
  have opA:op≠A:=fun z=>by rw [z,eA] at hop; cases hop
  refine ⟨hv,eA7,sizeBig (by lia),?_⟩;have kt8:∀ t' vs',upd H6 t (.tup [tx nm[i],.ref hq]) t'=some (.tup vs')->upd (upd H6 t (.tup [tx nm[i],.ref hq])) A (.lst (hv++[.ref t])) t'=some (.tup vs'):=aK eA7;have kl8:∀ r vs',r≠A->upd H6 t (.tup [tx nm[i],.ref hq]) r=some (.lst vs')->upd (upd H6 t (.tup [tx nm[i],.ref hq])) A (.lst (hv++[.ref t])) r=some (.lst vs'):=fun r vs' n e=>by rw [au n]; exact e
  have eA8:upd (upd H6 t (.tup [tx nm[i],.ref hq])) A (.lst (hv++[.ref t])) A=some (.lst (hv++[.ref t])):=ab;have s38:Same H3 (upd (upd H6 t (.tup [tx nm[i],.ref hq])) A (.lst (hv++[.ref t]))):=aG (s4.trans s47) hA;have pA8:Paired (NamedF A B (upd (upd H6 t (.tup [tx nm[i],.ref hq])) A (.lst (hv++[.ref t])))) (hs++[(nm[i],h6)]) (hv++[.ref t]):=by
   refine aO (gy kt8 (fun r vs' n1 n2 e=>kl8 r vs' n1 e) (gy (fun t' vs' e=>s47 _ _ e) (fun r vs' _ _ e=>s47 _ _ e) pA)) ?_;have hN7:=(kg hN6 fA).same s7;have one:Paired (NamedF A B (upd H6 t (.tup [tx nm[i],.ref hq]))) [(nm[i],h6)] [V.ref t]:=.cons ⟨t,hq,g,w,rfl,ab,hN7,fA g hg,fA w hw⟩ .nil;have one:=gy kt8 (fun r vs' n1 n2 e=>kl8 r vs' n1 e) one;cases one with
   | cons r _=>exact r
  have eB8:=kl8 _ _ (Ne.symm nAB) eB7;have eo8:=kl8 _ _ opA eo7;have en8:=kl8 _ _ npA en7;have pB8:=aD kt8 (aD (fun t' vs' e=>s47 _ _ e) pB);generalize upd (upd H6 t (.tup [tx nm[i],.ref hq])) A (.lst (hv++[.ref t]))=H8 at eA8 s38 pA8 eB8 eo8 en8 pB8 ⊢;walk_at "rd";refine ⟨⟨_,eB8⟩,.inl ⟨⟨_,SqL.of eo8⟩,fun D hD=>?_⟩⟩;refine bR (K:=K) tx ol (fun _=>true) (fun x v H'=>WayAt H' (nm[i],x) v) hD (SqL.of eo8) (by lia) ?_ ?_ ?_
  ·rintro x v H9 H10 acc hd' k' ⟨t',rfl,et⟩;exact ⟨t',rfl,k' t' _ (fun z=>by rw [z,hd'] at et; cases et) et⟩
  ·rintro x H9 out non hx s9 ho _;walk_at "rd";exact ⟨_,tx nm[i],.inl (SqL.of (s9 _ _ en8)),hnv,by decide,fun t9 ht9=>ho _ _ rfl (af ht9 _) ⟨t9,rfl,ab⟩⟩
  intro H9 us s9 e9 p9;rw [List.filter_eq_self.mpr fun _ _=>rfl] at p9;have p9:Paired (WayAt H9) (ol.map fun x=>(nm[i],x)) us:=aS p9;have hul:=p9.length;rw [List.length_map] at hul;have eB9:=s9 _ _ eB8;have kt9:∀ t' vs',H9 t'=some (.tup vs')->upd H9 B (.lst (sv++us)) t'=some (.tup vs'):=aK eB9;have hni:nm[i] ∉ nm.take i:=fun z=>by
   obtain ⟨j,hj,e⟩:=List.mem_take_iff_getElem.mp z;have:=(List.getElem_inj NB.nd).mp e
   lia
  refine ⟨sv,us,eB9,e9,by rw [sizeLine_eq]; lia,hs++[(nm[i],h6)],hv++[.ref t],ss++ol.map (fun x=>(nm[i],x)),sv++us,_,_,rfl,aG (s38.trans s9) hB3,by rw [au nAB]; exact s9 _ _ eA8,?_,ab,?_,?_,fun x hx=>?_,?_,?_,fun x hx=>?_,?_,?_⟩
  ·exact gy (fun t' vs' e=>kt9 _ _ (s9 _ _ e)) (fun r vs' _ n2 e=>by rw [au n2]; exact s9 _ _ e) pA8
  ·exact bI (aD (fun t' vs' e=>kt9 _ _ (s9 _ _ e)) pB8) (aD kt9 p9)
  ·rw [List.map_append,hnm,List.take_add_one,List.getElem?_eq_getElem hi];rfl
  ·rcases List.mem_append.mp hx with z | z
   ·exact hok x z
   ·rw [List.mem_singleton.mp z];refine ⟨hok6 Z hZ,fun g hg=>holo g.1 ?_⟩;rw [<- hd6];exact List.mem_map.mpr ⟨g,hg,rfl⟩
  ·have:spotsOf (hs++[(nm[i],h6)])=spotsOf hs++h6.1.map fun g=>(nm[i],g.1):=by
    unfold spotsOf;rw [List.flatMap_append];simp
   rw [this,hsp,<- hd6,List.map_map];rfl
  ·refine List.nodup_append.mpr ⟨snd,List.pairwise_map.mpr (hond.imp fun n e=>n (by cases e; rfl)),fun x hx y hy e=>?_⟩;obtain ⟨z,_,rfl⟩:=List.mem_map.mp hy;rw [e] at hx;exact hni (sin _ hx)
  ·rw [List.take_add_one,List.getElem?_eq_getElem hi];rcases List.mem_append.mp hx with z | z
   ·exact List.mem_append_left _ (sin x z)
   ·obtain ⟨y,_,rfl⟩:=List.mem_map.mp z;exact List.mem_append_right _ (by simp)
  ·rw [List.length_append,List.length_map]
   lia
  ·rw [List.length_append,List.length_map]
   lia
 ·rintro σ H4 ⟨hs,hv,ss,sv,u9,u10,rfl,s4,eA,pA,eB,pB,hnm,hok,hsp,snd,sin,ssl,ssl2⟩;rw [List.take_length] at hnm sin;have s14:=s13.trans s4;walk_at "rd";refine ⟨ns,ss,s14.seq hS,by lia,by lia,rfl,⟨sv,eB,pB⟩,snd,by lia,by lia,fun lq H5 lns hlq s5 hLn hap hsub hl6=>⟨by decide,fun t ht=>?_⟩⟩;have s6:=af ht (.tup [V.ref l,V.ref A,V.ref lq]);have s56:=s5.trans s6;have hhl:hs.length=nm.length:=by rw [<- hnm,List.length_map]
  refine q t _ (ls,hs,lns) Z ((s14.trans s5).free ht) (s14.trans s56) ⟨l,A,lq,ab,(((hL.same (s2.trans s3)).same s4).same s56),⟨hv,s56 _ _ eA,?_⟩,hLn.same s6⟩ lok hl3 hsz hwd hZ ⟨?_,by show 1<=hs.length; lia,by show hs.length<=4; lia,fun x hx=>?_,fun x hx=>(hok x hx).1,fun x hx=>(hok x hx).2,hap,by show ∀ s ∈ endsOf lns,s ∈ spotsOf hs; rw [hsp]; exact hsub,hl6⟩
  ·exact L2.Paired.mapP (tK pA) fun _ _ ⟨t',q',e,h1,h2⟩=>⟨t',q',e,s56 _ _ h1,h2.same s56⟩
  ·show (hs.map (·.1)).Nodup;rw [hnm];exact NB.nd
  ·have:x.1 ∈ nm:=by rw [<- hnm]; exact List.mem_map.mpr ⟨x,hx,rfl⟩
   exact ⟨NB.low _ this,(NB.short _ this).2⟩
noncomputable def hole (g:Addr) (H:Hp):Hp:=fun b=>if b=g then none else H b
theorem kO {g:Addr} {H:Hp}:hole g H g=none:=if_pos rfl
theorem c9 {g b:Addr} {H:Hp} (n:b≠g):hole g H b=H b:=if_neg n
theorem oP {g:Addr} {H:Hp}:Same (hole g H) H:=fun b o e=>by
 by_cases n:b=g
 ·rw [n,kO] at e; cases e
 ·rw [c9 n] at e; exact e
theorem dP {g:Addr} {H H':Hp} (s:Same H H'):Same (hole g H) (hole g H'):=fun b o e=>by
 by_cases n:b=g
 ·rw [n,kO] at e; cases e
 ·rw [c9 n] at e ⊢; exact s _ _ e
theorem qr {g:Addr} {H:Hp} {o:HO}:hole g (upd H g o)=hole g H:=by
 funext b;by_cases n:b=g
 ·rw [n,kO,kO]
 ·rw [c9 n,c9 n,au n]
theorem h9 {g:Addr} {H:Hp} {us:List V} (hg:H g=some (.lst us)) {t:Addr} {vs:List V} (h:H t=some (.tup vs)):hole g H t=some (.tup vs):=by
 rw [c9 (fun z=>by rw [z,hg] at h; cases h)];exact h
theorem nE {g r:Addr} {H:Hp} {us:List V} {rs:List Rule} (hg:H g=some (.lst us)) (n:r≠g) (h:Rules H r rs):Rules (hole g H) r rs:=by
 obtain ⟨vs,e,pr⟩:=h;exact ⟨vs,by rw [c9 n]; exact e,aI (fun _ _=>h9 hg) pr⟩
noncomputable def gm:Sp:=aZ fun r=>aZ fun p=>jR fun b=>aE fun H Q _=>r.cps.toList.length<=1000/\p.cps.toList.length<=1000/\Q (tx (if b=true then p.cps.toList++r.cps.toList else r.cps.toList++p.cps.toList)) H
theorem i5 (T:Top K mg):Callee P w K mg base 1 "_law_padded" ["_law_row_here", "_law_pad", "_law_front"] gm:=by
 refine T.jY.cal mV (by unfold gm; exact LenSp.h) (fun _ _ _ _ _ _ us hl=>match us,hl with | [_,_,_],_=>rfl) (fun f cdv A outer s H vs Q E hr h=>?_);unfold gm at h;walk_at "el";refine ⟨_,(ag (aW (eE (qv 2)) (ah (ax (al ak (qv 1) (qv 0)))) aC)
   (ah (ax (al ak (qv 0) (qv 1))))),?_⟩
 rename_i r p b;obtain ⟨r,rfl⟩:∃ x,r=st x:=⟨_,(bf r).symm⟩;obtain ⟨p,rfl⟩:∃ x,p=st x:=⟨_,(bf p).symm⟩;obtain ⟨h1,h2,q⟩:=h;simp only [az] at h1 h2 q;walk_at "rd";cases b with
 | true=>exact ⟨by lia,q⟩
 | false=>exact ⟨by lia,q⟩
noncomputable def padR (S:Nat) (b:Bool) (r:List Nat):List Nat:=if b=true then List.replicate S 45++r else r++List.replicate S 45
noncomputable def padRule (S:Nat) (b:Bool) (r:Rule):Rule:=(padR S b r.1,r.2.1,padR S b r.2.2)
theorem re (S:Nat) (b:Bool) (r:List Nat):(padR S b r).length=r.length+S:=by
 unfold padR;split
 ·rw [List.length_append,List.length_replicate]; lia
 ·rw [List.length_append,List.length_replicate]
theorem qX {S:Nat} {b:Bool} {r:List Nat} (h:RowL r):RowL (padR S b r):=fun c hc=>by
 have hz:c=45\/c ∈ r:=by
  unfold padR at hc;split at hc
  ·rcases List.mem_append.mp hc with z | z
   ·exact .inl (List.eq_of_mem_replicate z)
   ·exact .inr z
  ·rcases List.mem_append.mp hc with z | z
   ·exact .inr z
   ·exact .inl (List.eq_of_mem_replicate z)
 rcases hz with rfl | z
 ·exact .inr (.inr rfl)
 ·exact h c z
theorem vF {W S:Nat} {b:Bool} {r:Rule} (h:RuleOk W r):RuleOk (W+S) (padRule S b r):=
 ⟨qX h.row,by show (padR S b r.1).length=_; rw [re,h.rowN],h.word,qX h.over,by show (padR S b r.2.2).length=_; rw [re,h.overN]⟩
noncomputable def cU (K:Frag):Sp:=av fun t=>be fun z=>jR fun b=>aE fun H Q _=>Ex2 fun (r:Rule) (S:Nat)=>H t=some (.tup [tx r.1,tx r.2.1,tx r.2.2])/\(r.1.length<=100/\r.2.1.length<=4/\r.2.2.length<=100)/\z=(S:Int)/\S<=42 /\
   ∀ t' H' (r':Rule),H t'=none->Same H H'->H' t'=some (.tup [tx r'.1,tx r'.2.1,tx r'.2.2])->r'=padRule S b r->Q (.ref t') H'
theorem eV (T:Top K mg):Callee P w K mg base 2 "_law_rule_padded" ["_law_rule_here", "_law_size", "_law_front"] (cU K):=by
 refine T.gx.cal jG (by unfold cU; exact LenSp.h) (fun _ _ _ _ _ _ us hl=>match us,hl with | [_,_,_],_=>rfl) (fun f cdv A outer s H vs Q E hr h=>?_);unfold cU at h;walk_at "el";refine ⟨_,(ah (ax (ay (aa (am (i5 T) hr.m rfl (aa (ai (ixE K rfl) (qv 0) ad (fun _ _=>rfl)) (aa (al bM (qs [45]) (qv 1)) (aa (qv 2) ae)))) (aa (ai (ixE K rfl) (qv 0) ad (fun _ _=>rfl)) (aa (am (i5 T) hr.m rfl (aa (ai (ixE K rfl) (qv 0) ad (fun _ _=>rfl)) (aa (al bM (qs [45]) (qv 1)) (aa (qv 2) ae)))) ae)))))),?_⟩;rename_i t z b;obtain ⟨r,S,et,hr,rfl,hS,q⟩:=h;walk_at "rd";refine ⟨_,_,.inr (SqT.of et),rfl,by lia,by lia,?_⟩;refine ⟨by simp only [az]; lia,by simp; lia,?_⟩;refine ⟨_,tx r.2.1,.inr (SqT.of et),rfl,_,tx r.2.2,.inr (SqT.of et),rfl,by lia,by lia,by simp only [az]; lia,by simp; lia,by decide,fun t' ht'=>?_⟩;simp only [az,Int.toNat_natCast];exact q t' _ (padRule S b r) ht' (af ht' _) ab rfl
noncomputable def doorsOf (hs:List Named):List (List Nat × List (List Nat)):=hs.map fun x=>(x.1,x.2.1.map (·.1))
noncomputable def padL (ls:List Fld) (S:Nat) (b:Bool):List Fld:=if S=0 then ls else if b=true then (padB,S)::ls else ls++[(padB,S)]
theorem xh {ls:List Fld} {S:Nat} {b:Bool} (ok:LayB ls) (h3:ls.length<=3) (hS:S<=42) (np:∀ x ∈ ls,x.1≠padB):LayB (padL ls S b):=by
 unfold padL;have nin:padB ∉ ls.map (·.1):=fun z=>by
  obtain ⟨x,hx,e⟩:=List.mem_map.mp z;exact np x hx e
 obtain ⟨n,hn⟩:=ok.to;split
 ·exact ok
 ·split
  ·refine ⟨by have:=ok.two; rw [List.length_cons]; lia,by rw [List.length_cons]; lia,List.nodup_cons.mpr ⟨nin,ok.nd⟩,⟨n,List.mem_cons_of_mem _ hn⟩,fun x hx=>?_⟩;rcases List.mem_cons.mp hx with rfl | hx
   ·show S<=100
    lia
   ·exact ok.sz x hx
  ·refine ⟨by have:=ok.two; rw [List.length_append]; lia,by rw [List.length_append]; simp only [List.length_cons,List.length_nil]; lia,?_,⟨n,List.mem_append_left _ hn⟩,fun x hx=>?_⟩
   ·rw [List.map_append];exact List.nodup_append.mpr ⟨ok.nd,List.nodup_cons.mpr ⟨by simp,List.nodup_nil⟩,fun x hx y hy e=>nin (by have e2:x=padB:=e.trans (List.mem_singleton.mp hy); rw [<- e2]; exact hx)⟩
   ·rcases List.mem_append.mp hx with hx | hx
    ·exact ok.sz x hx
    ·rw [List.mem_singleton.mp hx];show S<=100
     lia
theorem mR (ls:List Fld) (S:Nat) (b:Bool):widthL (padL ls S b)=widthL ls+S:=by
 unfold padL widthL;split
 ·lia
 ·split
  ·rw [List.map_cons,List.sum_cons];exact Nat.add_comm _ _
  ·rw [List.map_append,List.sum_append];rfl
theorem kM:∀ (ls:List Fld) (n:List Nat) (Z s:Nat),(ls.map (·.1)).Nodup->(n,Z) ∈ ls->∃ a,spanF ls n s=some (a,a+Z)/\a+Z<=s+widthL ls
 | [],_,_,_,_,h=>by cases h
 | (f,z)::r,n,Z,s,nd,h=>by
  rw [List.map_cons,List.nodup_cons] at nd;have e:widthL ((f,z)::r)=z+widthL r:=by simp [widthL]
  rcases List.mem_cons.mp h with h | h
  ·cases h;exact ⟨s,by rw [spanF,if_pos rfl],by lia⟩
  ·have hn:f≠n:=fun y=>nd.1 (List.mem_map.mpr ⟨_,h,y.symm⟩)
   obtain ⟨a,h1,h2⟩:=kM r n Z (s+z) nd.2 h;exact ⟨a,by rw [spanF,if_neg hn]; exact h1,by lia⟩
theorem sS {ls:List Fld} {S Z:Nat} {b:Bool} (h:(toB,Z) ∈ ls):(toB,Z) ∈ padL ls S b:=by
 unfold padL;split
 ·exact h
 ·split
  ·exact List.mem_cons_of_mem _ h
  ·exact List.mem_append_left _ h
theorem qu {ls:List Fld} {S:Nat} {b:Bool} {P:Fld->Prop} (h:∀ x ∈ ls,P x) (hp:S≠0->P (padB,S)):∀ x ∈ padL ls S b,P x:=by
 unfold padL;split
 ·exact h
 ·rename_i hS;split
  ·intro x hx;rcases List.mem_cons.mp hx with rfl | hx
   ·exact hp hS
   ·exact h x hx
  ·intro x hx;rcases List.mem_append.mp hx with hx | hx
   ·exact h x hx
   ·rw [List.mem_singleton.mp hx];exact hp hS
theorem xN {ls:List Fld} {S Z:Nat} {b:Bool} (ok:LayB ls) (h3:ls.length<=3) (hS:S<=42) (hf:∀ x ∈ ls,FldK x) (hw:widthL ls<=6) (hZ:(toB,Z) ∈ ls):LayOk (padL ls S b):=by
 have pk:=xh (b:=b) ok h3 hS fun x hx=>(hf x hx).np
 obtain ⟨a,h1,h2⟩:=kM (padL ls S b) toT Z 0 pk.nd (sS hZ);have hz1:=(hf _ hZ).h1;have hz1:1<=Z:=hz1;have e:=mR ls S b;have few:=pk.few;have lowP:Low padB/\1<=padB.length/\padB.length<=8:=⟨fun c hc=>by
  have:c=112\/c=97\/c=100:=by simpa [padB] using hc
  lia,by decide,by decide⟩
 exact ⟨⟨a,a+Z,h1,by lia,by lia⟩,by lia,by lia,by lia,qu (P:=fun x=>1<=x.2) (fun x hx=>(hf x hx).h1) (fun h=>by show 1<=S; lia),pk.nd,qu (P:=fun x=>Low x.1/\1<=x.1.length/\x.1.length<=8) (fun x hx=>(hf x hx).low) fun _=>lowP⟩
theorem md {hs ks:List Named} (h:doorsOf hs=doorsOf ks):spotsOf hs=spotsOf ks:=by
 have e:∀ l:List Named,spotsOf l=(doorsOf l).flatMap fun p=>p.2.map fun d=>(p.1,d):=fun l=>by
  unfold spotsOf doorsOf;rw [List.flatMap_map];congr 1;funext x;rw [List.map_map];rfl
 rw [e,e,h]
noncomputable def gN (K:Frag):Sp:=av fun q=>be fun z=>jR fun b=>aE fun H Q _=>Ex3 fun (N:Net) (S Z:Nat)=>NetAt H q N/\LayB N.1/\N.1.length<=3/\(∀ x ∈ N.1,FldK x)/\widthL N.1<=6/\(toB,Z) ∈ N.1/\NetK (widthL N.1) Z 0 N/\z=(S:Int)/\S<=42 /\
   ∀ q' H' N',Same H H'->NetAt H' q' N'->LayOk N'.1->(toB,Z) ∈ N'.1->widthL N'.1=widthL N.1+S->NetK (widthL N'.1) Z 0 N'->Q (.ref q') H'
theorem oh (T:Top K mg):Callee P w K mg base 3 "_law_wider" ["_law_net_here", "_law_size", "_law_front"] (gN K):=by
 refine T.li.cal bD (by unfold gN; exact LenSp.h) (fun _ _ _ _ _ _ us hl=>match us,hl with | [_,_,_],_=>rfl) (fun f cdv A outer s H vs Q E hr h=>?_);unfold gN at h;walk_at "el";refine ⟨_,(ag (aW (aB bn (qv 1) ad) (ah (ax (qv 0))) aC)
   (ag (aq (i:=3) bD.nd rfl lc (al ak (ai (ixE K rfl) (qv 0) ad (fun _ _=>rfl)) (aL (aa (ay (aa (qs [112,97,100]) (aa (qv 1) ae))) ae))))
   (cg (aW (eE (qv 2)) (ah (aq (i:=3) bD.nd rfl lc (al ak (aL (aa (ay (aa (qs [112,97,100]) (aa (qv 1) ae))) ae)) (ai (ixE K rfl) (qv 0) ad (fun _ _=>rfl))))) aC)
   (ag (aq (i:=4) bD.nd rfl lc (aL ae))
   (ag (bw PassesOwn.never rfl (iterE K rfl (ai (ixE K rfl) (qv 0) ad (fun _ _=>rfl))) (tupE K rfl rfl (n:=2) (ao (aj (i:=5) bD.nd rfl lc) (ao (aj (i:=6) bD.nd rfl lc) aM))) (ag (aq (i:=7) bD.nd rfl lc (aL ae))
   (ag (bw PassesOwn.never rfl (iterE K rfl (ai (ixE K rfl) (qv 6) ad (fun _ _=>rfl))) (tupE K rfl rfl (n:=2) (ao (aj (i:=8) bD.nd rfl lc) (ao (aj (i:=9) bD.nd rfl lc) aM))) (ah (aw (aY (qv 7) (ay (aa (qv 8) (aa (aJ (nt:=1) (fi:=[1,2]) (N':=["_law_rule_here", "_law_size", "_law_front"]) rfl (cscope rfl (by decide +kernel)) (cnames (N:=["_law_net_here", "_law_size", "_law_front", "_law_layout_here", "_law_houses", "_law_name", "_law_house_here", "_law_gates", "_law_door", "_law_rules"]) (sc:=defScope fF) rfl rfl (by decide +kernel)) (aQ (by decide)) (iterE K rfl (qv 9)) (fun _ _ _ _ _=>(aj (i:=0) (by show (["_law_rule_here", "_law_size", "_law_front"]:List Str).Nodup; decide +kernel) rfl lc)) (fun _ _ _ _ _=>bd) (fun _ _ _ _ _=>(am (eV T) hr.m rfl (aa (qv 0) (aa (qv 1) (aa (qv 2) ae)))))) ae)))))))
   (ah (aw (aY (qv 4) (ay (aa (qv 5) (aa (ay (aa (qv 7) (aa (ai (ixE K rfl) (qv 6) ad (fun _ _=>rfl)) ae))) ae)))))))))
   (ah (ax (ay (aa (qv 3) (aa (qv 4) (aa (ai (ixE K rfl) (qv 0) ad (fun _ _=>rfl)) ae))))))))))),?_⟩
 rename_i q z b;obtain ⟨N,S,Z,hN,lb,hl3,hfk,hw6,hZ,nk,rfl,hS,q'⟩:=h;walk_at "rd";have eP:=mR N.1 S b;refine ite2 (fun g=>?_) fun g=>?_
 ·obtain rfl:S=0:=by lia
  have:=xN (b:=b) (S:=0) lb hl3 (by lia) hfk hw6 hZ;exact q' q H N (Same.refl _) hN this hZ rfl nk
 obtain ⟨la,ha,ca,et,hL,hH,hC⟩:=id hN;refine ⟨_,_,.inr (SqT.of et),rfl,?_⟩;walk_at "rd";obtain ⟨lv,el,pl⟩:=id hL;have hll:=pl.length;refine ⟨by decide,fun t1 ht1=>⟨by decide,fun l1 hl1=>?_⟩⟩;have k1:=af ht1 (.tup [V.str (st [112,97,100]),V.int (S:Int)]);have k2:=af hl1 (.lst [V.ref t1]);have k12:=k1.trans k2;refine ⟨lv,_,k12 _ _ el,ab,by rw [sizeLine_eq]; simp only [List.length_cons,List.length_nil]; lia,fun l2 hl2=>?_⟩;have k3:=af hl2 (.lst (lv++[V.ref t1]));have s3:=k12.trans k3;have L3:Lay (upd (upd (upd H t1 (.tup [V.str (st [112,97,100]),V.int (S:Int)])) l1 (.lst [V.ref t1])) l2 (.lst (lv++[V.ref t1]))) l2 (N.1++[(padB,S)]):=⟨_,ab,aO (cb (fun t vs z=>s3 _ _ z) pl) ⟨t1,rfl,k3 _ _ (k2 _ _ ab)⟩⟩;generalize upd (upd (upd H t1 (.tup [V.str (st [112,97,100]),V.int (S:Int)])) l1 (.lst [V.ref t1])) l2 (.lst (lv++[V.ref t1]))=H3 at s3 L3 ⊢;refine ⟨fun σ' H'=>∃ lp:Addr,σ'=[some (.ref q),some (nV S),some (.bl b),some (.ref lp),none,none,none,none,none,none]/\Same H H'/\Lay H' lp (padL N.1 S b),?_,?_⟩
 ·cases b with
  | false=>
   rw [if_neg (by decide)];refine ⟨l2,rfl,s3,?_⟩;unfold padL;rw [if_neg (by lia),if_neg (by decide)];exact L3
  | true=>
   rw [if_pos rfl];refine ⟨by decide,fun t4 ht4=>⟨by decide,fun l4 hl4=>?_⟩⟩;have k4:=af ht4 (.tup [V.str (st [112,97,100]),V.int (S:Int)]);have k5:=af hl4 (.lst [V.ref t4]);have s5:=s3.trans (k4.trans k5);refine ⟨_,V.ref la,.inr (SqT.of (s5 _ _ et)),rfl,?_⟩;walk_at "rd";refine ⟨_,lv,ab,s5 _ _ el,by rw [sizeLine_eq]; simp only [List.length_cons,List.length_nil]; lia,fun l5 hl5=>?_⟩;have k6:=af hl5 (.lst ([V.ref t4]++lv));refine ⟨l5,rfl,s5.trans k6,?_⟩;unfold padL;rw [if_neg (by lia),if_pos rfl];exact ⟨_,ab,.cons ⟨t4,rfl,k6 _ _ (k5 _ _ ab)⟩ (cb (fun t vs z=>(s5.trans k6) _ _ z) pl)⟩
 rintro σ' H4 ⟨lp,rfl,s4,L4⟩;obtain ⟨hv,eh,ph⟩:=id hH;have hhl:=ph.length;have h4:=nk.h4;walk_at "rd";refine ⟨Nat.zero_le _,fun A hA=>?_⟩;have sA:=af hA (.lst []);refine ⟨_,V.ref ha,.inr (SqT.of ((s4.trans sA) _ _ et)),rfl,?_⟩;walk_at "rd";refine .inl ⟨⟨_,SqL.of ((s4.trans sA) _ _ eh)⟩,?_⟩;refine aN (xs:=hv) (fun i σ H'=>Ex7 fun (hs:List Named) (vs:List V) (u5 u6 u7 u8 u9:Option V)=>σ = [some (.ref q),some (nV S),some (.bl b),some (.ref lp),some (.ref A),u5,u6,u7,u8,u9]/\Same H4 H'/\H' A=some (.lst vs)/\Paired (NamedAt (hole A H')) hs vs/\doorsOf hs=doorsOf (N.2.1.take i)/\∀ x ∈ hs,HouseK (widthL N.1+S) Z 0 x.2)
  ⟨[],[],none,none,none,none,none,rfl,sA,ab,.nil,by simp [doorsOf],fun x hx=>by simp at hx⟩ (fun i σ H' _ ⟨_,_,_,_,_,_,_,_,z,_⟩=>SqL.of (z _ _ (s4 _ _ eh))) ?_ ?_
 ·rintro i x σ H5 hx ⟨hs,vs,u5,u6,u7,u8,u9,rfl,s5,eA,pA,hdo,hhb⟩;have hi:i < hv.length:=(List.getElem?_eq_some_iff.mp hx).1;have hil:i < N.2.1.length:=by lia
  obtain ⟨y,hy,t,hq,ey,ett,hHq⟩:=aA ph (List.getElem?_eq_getElem hil);obtain rfl:x=.ref t:=by rw [hy] at hx; rw [<- Option.some.inj hx,ey]
  have hmem:=List.getElem_mem hil;have hb5:=nk.house _ hmem;obtain ⟨gp,wp,eq1,⟨gv,eg,pg⟩,hW⟩:=hHq;have hgl:=pg.length;have s05:=s4.trans s5;refine ⟨t,[_,_],rfl,SqT.of (s05 _ _ ett),rfl,_,[_],rfl,_,[],rfl,rfl,?_⟩;walk_at "rd";refine ⟨Nat.zero_le _,fun B hB=>?_⟩;have sB:=af hB (.lst []);have nAB:A≠B:=fun z=>by rw [<- z,eA] at hB; cases hB
  refine ⟨_,V.ref gp,.inr (SqT.of ((s05.trans sB) _ _ eq1)),rfl,?_⟩;walk_at "rd";refine .inl ⟨⟨_,SqL.of ((s05.trans sB) _ _ eg)⟩,?_⟩;refine aN (xs:=gv) (fun j σ H'=>Ex4 fun (gs:List Gate) (us:List V) (u8 u9:Option V)=>σ = [some (.ref q),some (nV S),some (.bl b),some (.ref lp),some (.ref A),some (tx N.2.1[i].1),some (.ref hq),some (.ref B),u8,u9]/\Same H5 H'/\H' B=some (.lst us)/\Paired (GateAt (hole A (hole B H'))) gs us/\gs.map (·.1)=(N.2.1[i].2.1.map (·.1)).take j/\∀ x ∈ gs,x.2.length<=3/\∀ r ∈ x.2,RuleOk (widthL N.1+S) r)
   ⟨[],[],_,_,rfl,sB,ab,.nil,by simp,fun x hx=>by simp at hx⟩ (fun j σ H' _ ⟨_,_,_,_,_,z,_⟩=>SqL.of (z _ _ (s05 _ _ eg))) ?_ ?_
  ·rintro j x σ H6 hx ⟨gs,us,u8,u9,rfl,s6,eB,pB,hgn,hg3⟩;have hj:j < gv.length:=(List.getElem?_eq_some_iff.mp hx).1;have hjl:j < N.2.1[i].2.1.length:=by lia
   obtain ⟨y,hy,tg,rp,ey,etg,hR⟩:=aA pg (List.getElem?_eq_getElem hjl);obtain rfl:x=.ref tg:=by rw [hy] at hx; rw [<- Option.some.inj hx,ey]
   have s06:=s05.trans s6;have hgm:=List.getElem_mem hjl;have hr3:=hb5.rl _ hgm;have g3:=hb5.g3;obtain ⟨rv,er,pr⟩:=hR.same s06;have hrl:=pr.length;obtain ⟨z1,z2⟩:=aF pr;refine ⟨tg,[_,_],rfl,SqT.of (s06 _ _ etg),rfl,_,[_],rfl,_,[],rfl,rfl,?_⟩;walk_at "rd";refine ⟨⟨_,eB⟩,.inl ⟨⟨_,SqL.of er⟩,fun R hR6=>?_⟩⟩;refine bR (K:=K) (fun x:Rule × V=>x.2) (N.2.1[i].2.1[j].2.zip rv) (fun _=>true) (fun _ v H'=>∃ r:Rule,RuleOk (widthL N.1+S) r/\RuleAt H' r v) hR6 (by rw [z1]; exact SqL.of er) (by rw [List.length_zip]; lia) ?_ ?_ ?_
   ·rintro x v H7 H8 acc hd' k' ⟨r,hro,t',rfl,et'⟩;exact ⟨r,hro,t',rfl,k' t' _ (fun z=>by rw [z,hd'] at et'; cases et') et'⟩
   ·rintro x H7 out non hx s7 ho _;obtain ⟨tr,exr,etr⟩:=z2 x hx;rw [exr];walk_at "rd";have hrw:=hb5.rules _ hgm _ (List.of_mem_zip hx).1;have hwd4:x.1.2.1.length<=4:=by rcases hrw.word with z | z <;> rw [z] <;> decide
    exact ⟨x.1,S,s7 _ _ etr,⟨by rw [hrw.rowN]; lia,hwd4,by rw [hrw.overN]; lia⟩,rfl,hS,fun t' H8 r' ht' s8 e8 er=>ho _ _ rfl s8 ⟨r',by rw [er]; exact vF hrw,t',rfl,e8⟩⟩
   intro H7 ws s7 e7 p7;rw [List.filter_eq_self.mpr fun _ _=>rfl] at p7;obtain ⟨rs,pr7,hrs,hrok⟩:=g7 p7;rw [List.length_zip] at hrs;refine ⟨by decide,fun t8 ht8=>?_⟩;have s8:=af ht8 (.tup [tx N.2.1[i].2.1[j].1,.ref R]);have s68:=s7.trans s8;have eB8:=s68 _ _ eB;have eA8:=s68 _ _ (s6 _ _ eA);have nRB:R≠B:=fun z=>by rw [z,eB] at hR6; cases hR6
   have nRA:R≠A:=fun z=>by rw [z,s6 _ _ eA] at hR6; cases hR6
   have hul:=pB.length;have hgs:gs.length=j:=by
    have:=congrArg List.length hgn;rw [List.length_map,List.length_take,List.length_map] at this
    lia
   refine ⟨us,eB8,sizeBig (by lia),gs++[(N.2.1[i].2.1[j].1,rs)],us++[.ref t8],_,_,rfl,aG (s6.trans s68) hB,ab,?_,?_,fun x hx=>?_⟩
   ·rw [qr];have R8:Rules (upd H7 t8 (.tup [tx N.2.1[i].2.1[j].1,.ref R])) R rs:=Rules.same ⟨ws,e7,pr7⟩ s8;have R9:=nE (g:=A) (by rw [c9 nAB]; exact eA8) nRA (nE eB8 nRB R8);refine aO (L2.Paired.mapP pB fun _ _ ⟨t',r',e,h1,h2⟩=>⟨t',r',e,dP (dP s68) _ _ h1,h2.same (dP (dP s68))⟩) ⟨t8,R,rfl,?_,R9⟩;exact h9 (us:=vs) (by rw [c9 nAB]; exact eA8) (h9 eB8 ab)
   ·rw [List.map_append,hgn,List.take_add_one,List.getElem?_map,List.getElem?_eq_getElem hjl];rfl
   ·rcases List.mem_append.mp hx with z | z
    ·exact hg3 x z
    ·rw [List.mem_singleton.mp z];exact ⟨by show rs.length<=3; lia,hrok⟩
  ·rintro σ H6 ⟨gs,us,u8,u9,rfl,s6,eB,pB,hgn,hg3⟩;have s06:=s05.trans s6;rw [List.take_of_length_le (by rw [List.length_map]; lia)] at hgn;have hgs:gs.length=N.2.1[i].2.1.length:=by
    have:=congrArg List.length hgn;rw [List.length_map,List.length_map] at this;exact this
   have eA6:=s6 _ _ eA;walk_at "rd";refine ⟨⟨_,eA6⟩,_,V.ref wp,.inr (SqT.of (s06 _ _ eq1)),rfl,by decide,fun t7 ht7=>⟨by decide,fun t8 ht8=>?_⟩⟩;have k7:=af ht7 (.tup [V.ref B,V.ref wp]);have k8:=af ht8 (.tup [tx N.2.1[i].1,V.ref t7]);have k78:=k7.trans k8;have eA8:=k78 _ _ eA6;have hvl:=pA.length;have hhs:hs.length=i:=by
    have:=congrArg List.length hdo;unfold doorsOf at this;rw [List.length_map,List.length_map,List.length_take] at this
    lia
   have nwA:wp≠A:=fun z=>by
    obtain ⟨wv,ew,_⟩:=hW;have:=s4 _ _ ew;rw [z,hA] at this;cases this
   refine ⟨vs,eA8,sizeBig (by lia),hs++[(N.2.1[i].1,(gs,N.2.1[i].2.2))],vs++[.ref t8],_,_,_,_,_,rfl,aG (s5.trans (s6.trans k78)) hA,ab,?_,?_,fun x hx=>?_⟩
   ·rw [qr];have s68:=s6.trans k78;refine aO (L2.Paired.mapP pA fun _ _ ⟨t',q',e,h1,h2⟩=>⟨t',q',e,dP s68 _ _ h1,h2.same (dP s68)⟩) ⟨t8,t7,rfl,h9 eA8 ab,B,wp,h9 eA8 (k8 _ _ ab),⟨us,?_,?_⟩,?_⟩
    ·rw [c9 (Ne.symm nAB)];exact k78 _ _ eB
    ·have sm:Same (hole A (hole B H6)) (hole A (upd (upd H6 t7 (.tup [V.ref B,V.ref wp])) t8 (.tup [tx N.2.1[i].1,V.ref t7]))):=dP (oP.trans k78);exact L2.Paired.mapP pB fun _ _ ⟨t',r',e,h1,h2⟩=>⟨t',r',e,sm _ _ h1,h2.same sm⟩
    ·obtain ⟨wv,ew,pw⟩:=hW.same (s06.trans k78);exact ⟨wv,by rw [c9 nwA]; exact ew,aD (fun _ _=>h9 eA8) pw⟩
   ·unfold doorsOf at hdo ⊢;rw [List.map_append,hdo,List.take_add_one,List.getElem?_eq_getElem hil,Option.toList_some,List.map_append,List.map_cons,List.map_nil,List.map_cons,List.map_nil];dsimp only;rw [hgn]
   ·rcases List.mem_append.mp hx with z | z
    ·exact hhb x z
    ·rw [List.mem_singleton.mp z];refine ⟨?_,?_,?_,fun x hx=>(hg3 x hx).2,fun x hx=>(hg3 x hx).1,?_,hb5.w5⟩
     ·show (gs.map (·.1)).Nodup;rw [hgn];exact hb5.nd
     ·show 1<=gs.length;have:=hb5.g1
      lia
     ·show gs.length<=3;have:=hb5.g3
      lia
     ·show WaysOk Z (gs.map (·.1)) _;rw [hgn];exact hb5.ways
 ·rintro σ H5 ⟨hs,vs,u5,u6,u7,u8,u9,rfl,s5,eA,pA,hdo,hhb⟩;rw [<- hhl,List.take_length] at hdo;have s05:=s4.trans s5;walk_at "rd";refine ⟨_,V.ref ca,.inr (SqT.of (s05 _ _ et)),rfl,by decide,fun t6 ht6=>?_⟩;have k6:=af ht6 (.tup [V.ref lp,V.ref A,V.ref ca]);have s6:=s05.trans k6;have names:hs.map (·.1)=N.2.1.map (·.1):=by
   have:=congrArg (List.map (·.1)) hdo;unfold doorsOf at this;rw [List.map_map,List.map_map] at this;exact this
  have hlen:hs.length=N.2.1.length:=by
   have:=congrArg List.length names;rw [List.length_map,List.length_map] at this;exact this
  have sp:=md hdo;refine q' t6 _ (padL N.1 S b,hs,N.2.2) s6 ⟨lp,A,ca,ab,L4.same (s5.trans k6),⟨vs,k6 _ _ eA,?_⟩,hC.same s6⟩ (xN lb hl3 hS hfk hw6 hZ) (sS hZ) eP ⟨?_,by show 1<=hs.length; have:=nk.h1; lia,by show hs.length<=4; lia,fun x hx=>?_,fun x hx=>?_,fun x hx g hg=>?_,nk.ends,by show ∀ s ∈ endsOf N.2.2,s ∈ spotsOf hs; rw [sp]; exact nk.spots,nk.l6⟩
  ·have sm:=(oP (g:=A) (H:=H5)).trans k6;exact L2.Paired.mapP pA fun _ _ ⟨t',q'',e,h1,h2⟩=>⟨t',q'',e,sm _ _ h1,h2.same sm⟩
  ·show (hs.map (·.1)).Nodup;rw [names];exact nk.nd
  ·have:x.1 ∈ N.2.1.map (·.1):=by rw [<- names]; exact List.mem_map.mpr ⟨x,hx,rfl⟩
   obtain ⟨y,hy,e⟩:=List.mem_map.mp this;rw [<- e];exact nk.low y hy
  ·show HouseK (widthL (padL N.1 S b)) _ _ _;rw [eP];exact hhb x hx
  ·have:(x.1,x.2.1.map (·.1)) ∈ doorsOf N.2.1:=by rw [<- hdo]; exact List.mem_map.mpr ⟨x,hx,rfl⟩
   obtain ⟨y,hy,e⟩:=List.mem_map.mp this;have e2:y.2.1.map (·.1)=x.2.1.map (·.1):=(Prod.ext_iff.mp e).2;have:g.1 ∈ y.2.1.map (·.1):=by rw [e2]; exact List.mem_map.mpr ⟨g,hg,rfl⟩
   obtain ⟨g',hg',e3⟩:=List.mem_map.mp this;rw [<- e3];exact nk.door y hy g' hg'
noncomputable def eT (K:Frag):Sp:=av fun q=>aE fun H Q _=>∃ h:House,HouseAt H q h/\h.1.length<=100/\h.2.length<=100/\(∀ x ∈ h.1,x.2.length<=1000)/\∀ (q' g w:Addr) (H':Hp),H q'=none->H g=none->H w=none->Same H H'->HouseN (fun r=>H r=none) H' q' g w h->Q (.ref q') H'
theorem mI (T:Top K mg):Callee P w K mg base 1 "house_copied" ["house"] (eT K):=by
 refine T.jr.cal mD (by unfold eT; exact LenSp.h) (fun _ _ _ _ _ _ us hl=>match us,hl with | [_],_=>rfl) (fun f cdv A outer s H vs Q E hr h=>?_);unfold eT at h;walk_at "el";refine ⟨_,(ah (ax (ay (aa (aJ (nt:=2) (fi:=[]) (N':=["door", "rules"]) rfl (cscope rfl (by decide +kernel)) (cnames (N:=["house"]) (sc:=defScope dA) rfl rfl (by decide +kernel)) (fq (by decide) (by decide)) (iterE K rfl (ai (ixE K rfl) (qv 0) ad (fun _ _=>rfl))) (fun _ _ _ _ _=>(tupE K rfl rfl (n:=2) (ao (aj (i:=0) (by show (["door", "rules"]:List Str).Nodup; decide +kernel) rfl lc) (ao (aj (i:=1) (by show (["door", "rules"]:List Str).Nodup; decide +kernel) rfl lc) aM)))) (fun _ _ _ _ _=>bd) (fun _ _ _ _ _=>(ay (aa (qv 0) (aa (bP (b8 K rfl rfl) rfl T.eU dz (aa (qv 1) ae)) ae))))) (aa (bP (b8 K rfl rfl) rfl T.eU dz (aa (ai (ixE K rfl) (qv 0) ad (fun _ _=>rfl)) ae)) ae))))),?_⟩;rename_i p;obtain ⟨h,⟨g0,w0,e0,⟨gv,eg,pg⟩,⟨wv,ew,pw⟩⟩,h1,h2,h3,q⟩:=h;have hgl:=pg.length;have hwl:=pw.length;obtain ⟨z1,z2⟩:=aF pg;walk_at "rd";refine ⟨_,_,.inr (SqT.of e0),rfl,?_⟩;walk_at "rd";refine .inl ⟨⟨_,SqL.of eg⟩,fun g hg=>?_⟩;refine lP (h.1.zip gv) (fun x v H'=>GateN (fun r=>r≠g/\H r=none) H' x.1 v) hg (by rw [List.length_zip]; lia) (fun i H1 hi s1=>⟨gv,gv[i]'(by rw [List.length_zip] at hi; lia),SqL.of (s1 _ _ eg),List.getElem?_eq_getElem _⟩) (fun H1 s1=>⟨gv,SqL.of (s1 _ _ eg),by rw [List.length_zip]; lia⟩) ?_ ?_ ?_ ?_
 ·rintro i H1 v H2 _ ⟨rfl,_⟩;exact Same.refl _
 ·rintro x v H1 H2 acc hd k ⟨t',r,rfl,nr,et,⟨rv,er,pr⟩⟩;have tp:∀ t ts,H1 t=some (.tup ts)->H2 t=some (.tup ts):=fun t ts z=>k _ _ (fun y=>by rw [y,hd] at z; cases z) z
  exact ⟨t',r,rfl,nr,tp _ _ et,⟨rv,k _ _ nr.1 er,aI tp pr⟩⟩
 ·rintro i x v H1 H2 out non hx s1 nD ⟨rfl,a1⟩ ho;obtain ⟨y1,y2⟩:=List.getElem?_zip_eq_some.mp hx;have y3:=a1 gv (SqL.of (s1 _ _ eg));rw [y2] at y3;have y4:=Option.some.inj y3;obtain ⟨t,r,ex,et,⟨rv,er,pr⟩⟩:=z2 x (List.mem_of_getElem? hx);rw [<- y4,ex];refine ⟨t,[_,_],rfl,SqT.of (s1 _ _ et),rfl,_,[_],rfl,_,[],rfl,rfl,?_⟩;walk_at "rd";refine ⟨rv,.inl (SqL.of (s1 _ _ er)),fun r2 hr2=>⟨by decide,fun t2 ht2=>?_⟩⟩;have s2:=af hr2 (.lst rv);have s3:=af ht2 (.tup [tx x.1.1,V.ref r2]);have s13:=s1.trans (s2.trans s3);exact ho _ _ (s2.trans s3) ⟨t2,r2,rfl,⟨nD r2 hr2,s1.free hr2⟩,ab,⟨rv,s3 _ _ ab,aI (fun _ _ z=>s13 _ _ z) pr⟩⟩
 ·intro H1 vs s1 e1 p1;walk_at "rd";refine ⟨_,_,.inr (SqT.of (s1 _ _ e0)),rfl,?_⟩;walk_at "rd";refine ⟨wv,.inl (SqL.of (s1 _ _ ew)),fun w hw=>⟨by decide,fun q' hq'=>?_⟩⟩;have s2:=af hw (.lst wv);have s3:=af hq' (.tup [V.ref g,V.ref w]);have s23:=s2.trans s3;have s13:=s1.trans s23;have hz:(h.1.zip gv).map Prod.fst=h.1:=bj hgl;have p2:Paired (GateN (fun r=>r≠g/\H r=none) H1) h.1 vs:=by
   rw [<- hz];exact aS p1
  refine q q' g w _ ((s1.trans s2).free hq') hg (s1.free hw) s13 ⟨ab,fun z=>(by rw [<- z,e1] at hw; cases hw),⟨vs,s23 _ _ e1,L2.Paired.mapP p2 ?_⟩,⟨wv,s3 _ _ ab,aD (fun _ _ z=>s13 _ _ z) pw⟩⟩;rintro x v ⟨t,r,rfl,n,h1,⟨rv,er,pr⟩⟩;exact ⟨t,r,rfl,⟨n.1,fun z=>(by rw [z,hw] at er; cases er),n.2⟩,s23 _ _ h1,⟨rv,s23 _ _ er,aI (fun _ _ z=>s23 _ _ z) pr⟩⟩
def NamedC (b:Addr) (F:Addr->Prop) (H:Hp) (x:Named) (v:V):Prop:=Ex4 fun t q g w=>v=.ref t/\H t=some (.tup [tx x.1,.ref q])/\HouseN (fun r=>r≠b/\F r) H q g w x.2/\(g≠b/\F g)/\w≠b/\F w
structure NetC (F:Addr->Prop) (H:Hp) (q a b c:Addr) (N:Net):Prop where
 tup:H q=some (.tup [.ref a,.ref b,.ref c])
 lay:Lay H a N.1
 houses:∃ vs,H b=some (.lst vs)/\Paired (NamedC b F H) N.2.1 vs
 lines:Lines H c N.2.2
 fa:F a
 fb:F b
 fc:F c
theorem NetC.at {F:Addr->Prop} {H:Hp} {q a b c:Addr} {N:Net} (h:NetC F H q a b c N):NetAt H q N:=by
 obtain ⟨vs,e,p⟩:=h.houses;exact ⟨a,b,c,h.tup,h.lay,⟨vs,e,L2.Paired.mapP p fun _ _ ⟨t,q,_,_,e,et,hN,_⟩=>⟨t,q,e,et,hN.at⟩⟩,h.lines⟩
noncomputable def gX (K:Frag):Sp:=av fun q=>aE fun H Q _=>∃ N:Net,NetAt H q N/\NetB N/\∀ (q' a b c:Addr) (H':Hp),H q'=none->Same H H'->NetC (fun r=>H r=none) H' q' a b c N->Q (.ref q') H'
theorem jL (T:Top K mg):Callee P w K mg base 2 "net_copied" ["net"] (gX K):=by
 refine T.kW.cal n8 (by unfold gX; exact LenSp.h) (fun _ _ _ _ _ _ us hl=>match us,hl with | [_],_=>rfl) (fun f cdv A outer s H vs Q E hr h=>?_);unfold gX at h;walk_at "el";refine ⟨_,(ah (ax (ay (aa (bP (b8 K rfl rfl) rfl T.eU dz (aa (ai (ixE K rfl) (qv 0) ad (fun _ _=>rfl)) ae)) (aa (aJ (nt:=2) (fi:=[]) (N':=["name", "house"]) rfl (cscope rfl (by decide +kernel)) (cnames (N:=["net"]) (sc:=defScope fG) rfl rfl (by decide +kernel)) (fq (by decide) (by decide)) (iterE K rfl (ai (ixE K rfl) (qv 0) ad (fun _ _=>rfl))) (fun _ _ _ _ _=>(tupE K rfl rfl (n:=2) (ao (aj (i:=0) (by show (["name", "house"]:List Str).Nodup; decide +kernel) rfl lc) (ao (aj (i:=1) (by show (["name", "house"]:List Str).Nodup; decide +kernel) rfl lc) aM)))) (fun _ _ _ _ _=>bd) (fun _ _ _ _ _=>(ay (aa (qv 0) (aa (am (mI T) hr.m rfl (aa (qv 1) ae)) ae))))) (aa (bP (b8 K rfl rfl) rfl T.eU dz (aa (ai (ixE K rfl) (qv 0) ad (fun _ _=>rfl)) ae)) ae)))))),?_⟩;rename_i q;obtain ⟨N,⟨la,ha,ca,et,hL,hH,hC⟩,nb,q'⟩:=h;obtain ⟨lv,el,pl⟩:=id hL;obtain ⟨hv,eh,ph⟩:=id hH;obtain ⟨cv,ec,pc⟩:=id hC;have hhl:=ph.length;have h4:=nb.h4;obtain ⟨z1,z2⟩:=aF ph;walk_at "rd";refine ⟨_,_,.inr (SqT.of et),rfl,?_⟩;walk_at "rd";refine ⟨lv,.inl (SqL.of el),fun a ha0=>?_⟩;have s1:=af ha0 (.lst lv);refine ⟨_,V.ref ha,.inr (SqT.of (s1 _ _ et)),rfl,?_⟩;walk_at "rd";refine .inl ⟨⟨_,SqL.of (s1 _ _ eh)⟩,fun b hb=>?_⟩;refine lP (N.2.1.zip hv) (fun x v H'=>NamedC b (fun r=>H r=none) H' x.1 v) hb (by rw [List.length_zip]; lia) (fun i H1 hi s2=>⟨hv,hv[i]'(by rw [List.length_zip] at hi; lia),SqL.of (s2 _ _ (s1 _ _ eh)),List.getElem?_eq_getElem _⟩) (fun H1 s2=>⟨hv,SqL.of (s2 _ _ (s1 _ _ eh)),by rw [List.length_zip]; lia⟩) ?_ ?_ ?_ ?_
 ·rintro i H1 v H2 _ ⟨rfl,_⟩;exact Same.refl _
 ·rintro x v H1 H2 acc hd k ⟨t,q2,g,w,rfl,e1,hN,ng,nw⟩;have tp:∀ t ts,H1 t=some (.tup ts)->H2 t=some (.tup ts):=fun t ts z=>k _ _ (fun y=>by rw [y,hd] at z; cases z) z
  obtain ⟨gv,eg,pg⟩:=hN.gates;obtain ⟨wv,ew,pw⟩:=hN.ways;refine ⟨t,q2,g,w,rfl,tp _ _ e1,⟨tp _ _ hN.tup,hN.ne,⟨gv,k _ _ ng.1 eg,L2.Paired.mapP pg ?_⟩,⟨wv,k _ _ nw.1 ew,aD tp pw⟩⟩,ng,nw⟩;rintro y u ⟨t2,r,e2,n2,h1,⟨rv,er,pr⟩⟩;exact ⟨t2,r,e2,n2,tp _ _ h1,⟨rv,k _ _ n2.2.2.1 er,aI tp pr⟩⟩
 ·rintro i x v H1 H2 out non hx s2 nD ⟨rfl,a1⟩ ho;obtain ⟨y1,y2⟩:=List.getElem?_zip_eq_some.mp hx;have y3:=a1 hv (SqL.of (s2 _ _ (s1 _ _ eh)));rw [y2] at y3;have y4:=Option.some.inj y3;obtain ⟨t,q2,ex,e1,hHq⟩:=z2 x (List.mem_of_getElem? hx);have hok:=nb.house x.1 (List.of_mem_zip (List.mem_of_getElem? hx)).1;have g3:=hok.g3;have w5:=hok.w5;rw [<- y4,ex];have s12:=s1.trans s2;refine ⟨t,[_,_],rfl,SqT.of (s12 _ _ e1),rfl,_,[_],rfl,_,[],rfl,rfl,?_⟩;walk_at "rd";refine ⟨x.1.2,hHq.same s12,by lia,by lia,fun y hy=>Nat.le_trans (hok.rl y hy) (by decide),fun q3 g w H3 hq3 hg hw s3 hN3=>⟨by decide,fun t2 ht2=>?_⟩⟩;have s4:=af ht2 (.tup [tx x.1.1,V.ref q3]);exact ho _ _ (s3.trans s4) ⟨t2,q3,g,w,rfl,ab,kg (hN3.same s4) (fun r hr=>⟨nD r hr,s12.free hr⟩),⟨nD g hg,s12.free hg⟩,nD w hw,s12.free hw⟩
 ·intro H1 vs s2 e1 p1;have s12:=s1.trans s2;walk_at "rd";refine ⟨_,V.ref ca,.inr (SqT.of (s12 _ _ et)),rfl,?_⟩;walk_at "rd";refine ⟨cv,.inl (SqL.of (s12 _ _ ec)),fun c hc=>⟨by decide,fun t ht=>?_⟩⟩;have s3:=af hc (.lst cv);have s4:=af ht (.tup [V.ref a,V.ref b,V.ref c]);have s34:=s3.trans s4;have s14:=s12.trans s34;have hz:(N.2.1.zip hv).map Prod.fst=N.2.1:=bj hhl;have p2:Paired (NamedC b (fun r=>H r=none) H1) N.2.1 vs:=by
   rw [<- hz];exact aS p1
  refine q' t a b c _ ((s12.trans s3).free ht) s14 ⟨ab,⟨lv,(s2.trans s34) _ _ ab,cb (fun _ _ z=>s14 _ _ z) pl⟩,⟨vs,s34 _ _ e1,L2.Paired.mapP p2 ?_⟩,⟨cv,s4 _ _ ab,L2.Paired.mapP pc fun _ _ y=>bi (fun _ _ z=>s14 _ _ z) y⟩,ha0,s1.free hb,s12.free hc⟩;rintro x v ⟨t',q2,g,w,e,e2,hN,ng,nw⟩;exact ⟨t',q2,g,w,e,s34 _ _ e2,hN.same s34,ng,nw⟩
theorem jl {b:Addr} {F:Addr->Prop} {H H':Hp} (kt:∀ t ts,H t=some (.tup ts)->H' t=some (.tup ts)) (kl:∀ r vs,r≠b->H r=some (.lst vs)->H' r=some (.lst vs)) {hs:List Named} {vs:List V} (h:Paired (NamedC b F H) hs vs):Paired (NamedC b F H') hs vs:=by
 refine L2.Paired.mapP h ?_;rintro x v ⟨t,q,g,w,e,et,hN,ng,nw⟩;obtain ⟨gv,eg,pg⟩:=hN.gates;obtain ⟨wv,ew,pw⟩:=hN.ways;refine ⟨t,q,g,w,e,kt _ _ et,⟨kt _ _ hN.tup,hN.ne,⟨gv,kl _ _ ng.1 eg,L2.Paired.mapP pg ?_⟩,⟨wv,kl _ _ nw.1 ew,aD kt pw⟩⟩,ng,nw⟩;rintro y u ⟨t2,r,e2,n2,h1,⟨rv,er,pr⟩⟩;exact ⟨t2,r,e2,n2,kt _ _ h1,⟨rv,kl _ _ n2.2.2.1 er,aI kt pr⟩⟩
noncomputable def fW (K:Frag):Sp:=av fun q=>aE fun H Q _=>∃ N:Net,NetAt H q N/\NetB N/\∀ (q' a b c:Addr) (H':Hp),H q'=none->Same H H'->NetC (fun r=>H r=none) H' q' a b c N->Q (.ref q') H'
theorem ji (T:Top K mg):Callee P w K mg base 1 "_law_copied" ["_law_net_here"] (fW K):=by
 refine T.jZ.cal dC (by unfold fW; exact LenSp.h) (fun _ _ _ _ _ _ us hl=>match us,hl with | [_],_=>rfl) (fun f cdv A outer s H vs Q E hr h=>?_);unfold fW at h;walk_at "el";refine ⟨_,(ag (aq (i:=1) dC.nd rfl lc (aL ae))
   (ag (bw PassesOwn.never rfl (iterE K rfl (ai (ixE K rfl) (qv 0) ad (fun _ _=>rfl))) (tupE K rfl rfl (n:=2) (ao (aj (i:=2) dC.nd rfl lc) (ao (aj (i:=3) dC.nd rfl lc) aM))) (ah (aw (aY (qv 1) (ay (aa (qv 2) (aa (ay (aa (aJ (nt:=2) (fi:=[]) (N':=["_law_door", "_law_rules"]) rfl (cscope rfl (by decide +kernel)) (cnames (N:=["_law_net_here", "_law_houses", "_law_name", "_law_house_here"]) (sc:=defScope d0) rfl rfl (by decide +kernel)) (fq (by decide) (by decide)) (iterE K rfl (ai (ixE K rfl) (qv 3) ad (fun _ _=>rfl))) (fun _ _ _ _ _=>(tupE K rfl rfl (n:=2) (ao (aj (i:=0) (by show (["_law_door", "_law_rules"]:List Str).Nodup; decide +kernel) rfl lc) (ao (aj (i:=1) (by show (["_law_door", "_law_rules"]:List Str).Nodup; decide +kernel) rfl lc) aM)))) (fun _ _ _ _ _=>bd) (fun _ _ _ _ _=>(ay (aa (qv 0) (aa (bP (b8 K rfl rfl) rfl T.eU dz (aa (qv 1) ae)) ae))))) (aa (bP (b8 K rfl rfl) rfl T.eU dz (aa (ai (ixE K rfl) (qv 3) ad (fun _ _=>rfl)) ae)) ae))) ae)))))))
   (ah (ax (ay (aa (bP (b8 K rfl rfl) rfl T.eU dz (aa (ai (ixE K rfl) (qv 0) ad (fun _ _=>rfl)) ae)) (aa (qv 1) (aa (bP (b8 K rfl rfl) rfl T.eU dz (aa (ai (ixE K rfl) (qv 0) ad (fun _ _=>rfl)) ae)) ae)))))))),?_⟩
 rename_i q;obtain ⟨N,⟨la,ha,ca,et,hL,hH,hC⟩,nb,q'⟩:=h;obtain ⟨lv,el,pl⟩:=id hL;obtain ⟨hv,eh,ph⟩:=id hH;obtain ⟨cv,ec,pc⟩:=id hC;have hhl:=ph.length;have h4:=nb.h4;walk_at "rd";refine ⟨Nat.zero_le _,fun A hA=>?_⟩;have sA:=af hA (.lst []);refine ⟨_,V.ref ha,.inr (SqT.of (sA _ _ et)),rfl,?_⟩;walk_at "rd";refine .inl ⟨⟨_,SqL.of (sA _ _ eh)⟩,?_⟩;refine aN (xs:=hv) (fun i σ H'=>Ex3 fun (vs:List V) (u2 u3:Option V)=>σ = [some (.ref q),some (.ref A),u2,u3]/\Same H H'/\H' A=some (.lst vs)/\Paired (NamedC A (fun r=>H r=none) H') (N.2.1.take i) vs)
  ⟨[],none,none,rfl,sA,ab,.nil⟩ (fun i σ H' _ ⟨_,_,_,_,z,_⟩=>SqL.of (z _ _ eh)) ?_ ?_
 ·rintro i x σ H5 hx ⟨vs,u2,u3,rfl,s5,eA,pA⟩;have hi:i < hv.length:=(List.getElem?_eq_some_iff.mp hx).1;have hil:i < N.2.1.length:=by lia
  obtain ⟨y,hy,t,hq,ey,ett,hHq⟩:=aA ph (List.getElem?_eq_getElem hil);obtain rfl:x=.ref t:=by rw [hy] at hx; rw [<- Option.some.inj hx,ey]
  have hb5:=nb.house _ (List.getElem_mem hil);obtain ⟨gp,wp,eq1,⟨gv,eg,pg⟩,⟨wv,ew,pw⟩⟩:=hHq;have hgl:=pg.length;have g3:=hb5.g3;obtain ⟨z1,z2⟩:=aF pg;refine ⟨t,[_,_],rfl,SqT.of (s5 _ _ ett),rfl,_,[_],rfl,_,[],rfl,rfl,?_⟩;walk_at "rd";refine ⟨⟨_,eA⟩,_,V.ref gp,.inr (SqT.of (s5 _ _ eq1)),rfl,?_⟩;walk_at "rd";refine .inl ⟨⟨_,SqL.of (s5 _ _ eg)⟩,fun B hB=>?_⟩;have nAB:A≠B:=fun z=>by rw [<- z,eA] at hB; cases hB
  refine lP (N.2.1[i].2.1.zip gv) (fun x v H'=>GateN (fun r=>r≠B/\r≠A/\H r=none) H' x.1 v) hB (by rw [List.length_zip]; lia) (fun j H1 hj s2=>⟨gv,gv[j]'(by rw [List.length_zip] at hj; lia),SqL.of (s2 _ _ (s5 _ _ eg)),List.getElem?_eq_getElem _⟩) (fun H1 s2=>⟨gv,SqL.of (s2 _ _ (s5 _ _ eg)),by rw [List.length_zip]; lia⟩) ?_ ?_ ?_ ?_
  ·rintro j H1 v H2 _ ⟨rfl,_⟩;exact Same.refl _
  ·rintro x v H1 H2 acc hd k ⟨t',r,rfl,nr,et',⟨rv,er,pr⟩⟩;have tp:∀ t ts,H1 t=some (.tup ts)->H2 t=some (.tup ts):=fun t ts z=>k _ _ (fun y=>by rw [y,hd] at z; cases z) z
   exact ⟨t',r,rfl,nr,tp _ _ et',⟨rv,k _ _ nr.1 er,aI tp pr⟩⟩
  ·rintro j x v H1 H2 out non hx s2 nD ⟨rfl,a1⟩ ho;obtain ⟨y1,y2⟩:=List.getElem?_zip_eq_some.mp hx;have y3:=a1 gv (SqL.of (s2 _ _ (s5 _ _ eg)));rw [y2] at y3;have y4:=Option.some.inj y3;obtain ⟨tg,r,ex,etg,⟨rv,er,pr⟩⟩:=z2 x (List.mem_of_getElem? hx);rw [<- y4,ex];have s52:=s5.trans s2;refine ⟨tg,[_,_],rfl,SqT.of (s52 _ _ etg),rfl,_,[_],rfl,_,[],rfl,rfl,?_⟩;walk_at "rd";refine ⟨rv,.inl (SqL.of (s52 _ _ er)),fun r2 hr2=>⟨by decide,fun t2 ht2=>?_⟩⟩;have k2:=af hr2 (.lst rv);have k3:=af ht2 (.tup [tx x.1.1,V.ref r2]);have k23:=k2.trans k3;exact ho _ _ k23 ⟨t2,r2,rfl,⟨nD r2 hr2,fun z=>(by rw [z,s2 _ _ eA] at hr2; cases hr2),s52.free hr2⟩,ab,⟨rv,k3 _ _ ab,aI (fun _ _ z=>(s52.trans k23) _ _ z) pr⟩⟩
  intro H6 us s6 e6 p6;have s56:=s5.trans s6;have eA6:=s6 _ _ eA;have hz:(N.2.1[i].2.1.zip gv).map Prod.fst=N.2.1[i].2.1:=bj hgl;have p6:Paired (GateN (fun r=>r≠B/\r≠A/\H r=none) H6) N.2.1[i].2.1 us:=by
   rw [<- hz];exact aS p6
  refine ⟨_,V.ref wp,.inr (SqT.of (s56 _ _ eq1)),rfl,?_⟩;walk_at "rd";refine ⟨wv,.inl (SqL.of (s56 _ _ ew)),fun w hw=>⟨by decide,fun t7 ht7=>⟨by decide,fun t8 ht8=>?_⟩⟩⟩;have k6:=af hw (.lst wv);have k7:=af ht7 (.tup [V.ref B,V.ref w]);have k8:=af ht8 (.tup [tx N.2.1[i].1,V.ref t7]);have k68:=k6.trans (k7.trans k8);have eA8:=k68 _ _ eA6;have nwA:w≠A:=fun z=>by rw [z,eA6] at hw; cases hw
  have hvl:=pA.length;rw [List.length_take] at hvl;refine ⟨vs,eA8,sizeBig (by lia),vs++[.ref t8],_,_,rfl,aG (s56.trans k68) hA,ab,?_⟩;rw [List.take_add_one,List.getElem?_eq_getElem hil,Option.toList_some];have s68:=s6.trans k68;have kt:∀ t ts,upd (upd (upd H6 w (.lst wv)) t7 (.tup [V.ref B,V.ref w])) t8 (.tup [tx N.2.1[i].1,V.ref t7]) t=some (.tup ts)->upd (upd (upd (upd H6 w (.lst wv)) t7 (.tup [V.ref B,V.ref w])) t8 (.tup [tx N.2.1[i].1,V.ref t7])) A (.lst (vs++[.ref t8])) t=some (.tup ts):=aK eA8;refine aO (jl kt (fun r vs' n e=>by rw [au n]; exact e) (jl (fun _ _ z=>s68 _ _ z) (fun _ _ _ z=>s68 _ _ z) pA)) ⟨t8,t7,B,w,rfl,kt _ _ ab,⟨kt _ _ (k8 _ _ ab),fun z=>(by rw [<- z,e6] at hw; cases hw),⟨us,by rw [au (Ne.symm nAB)]; exact k68 _ _ e6,?_⟩,⟨wv,by rw [au nwA]; exact (k7.trans k8) _ _ ab,aD (fun _ _ z=>kt _ _ ((s56.trans k68) _ _ z)) pw⟩⟩,⟨Ne.symm nAB,s5.free hB⟩,nwA,s56.free hw⟩;refine L2.Paired.mapP p6 ?_;rintro x v ⟨t',r,e,n,h1,⟨rv,er,prr⟩⟩;exact ⟨t',r,e,⟨n.1,fun z=>(by rw [z,hw] at er; cases er),n.2.1,n.2.2⟩,kt _ _ (k68 _ _ h1),⟨rv,by rw [au n.2.1]; exact k68 _ _ er,aI (fun _ _ z=>kt _ _ (k68 _ _ z)) prr⟩⟩
 ·rintro σ H5 ⟨vs,u2,u3,rfl,s5,eA,pA⟩;rw [<- hhl,List.take_length] at pA;walk_at "rd";refine ⟨_,V.ref la,.inr (SqT.of (s5 _ _ et)),rfl,?_⟩;walk_at "rd";refine ⟨lv,.inl (SqL.of (s5 _ _ el)),fun l6 hl6=>?_⟩;have k6:=af hl6 (.lst lv);refine ⟨_,V.ref ca,.inr (SqT.of ((s5.trans k6) _ _ et)),rfl,?_⟩;walk_at "rd";refine ⟨cv,.inl (SqL.of ((s5.trans k6) _ _ ec)),fun c7 hc7=>⟨by decide,fun t8 ht8=>?_⟩⟩;have k7:=af hc7 (.lst cv);have k8:=af ht8 (.tup [V.ref l6,V.ref A,V.ref c7]);have k68:=k6.trans (k7.trans k8);have s8:=s5.trans k68;exact q' t8 l6 A c7 _ ((s5.trans (k6.trans k7)).free ht8) s8 ⟨ab,⟨lv,(k7.trans k8) _ _ ab,cb (fun _ _ z=>s8 _ _ z) pl⟩,⟨vs,k68 _ _ eA,jl (fun _ _ z=>k68 _ _ z) (fun _ _ _ z=>k68 _ _ z) pA⟩,⟨cv,k8 _ _ ab,L2.Paired.mapP pc fun _ _ y=>bi (fun _ _ z=>s8 _ _ z) y⟩,s5.free hl6,hA,(s5.trans k6).free hc7⟩
def Fr (F:Addr->Prop) (H H':Hp):Prop:=∀ x o,H x=some o->((∃ vs,o=.lst vs)->¬ F x)->H' x=some o
theorem Fr.tup {F:Addr->Prop} {H H':Hp} (h:Fr F H H') {t:Addr} {vs:List V} (e:H t=some (.tup vs)):H' t=some (.tup vs):=h _ _ e fun ⟨_,z⟩=>nomatch z
theorem Fr.put {F:Addr->Prop} {H H':Hp} (h:Fr F H H') {r:Addr} {xs ys:List V} (hF:F r) (e:H' r=some (.lst xs)):Fr F H (upd H' r (.lst ys)):=fun x o hx c=>by
 have h1:=h x o hx c;by_cases z:x=r
 ·rw [z,e] at h1;exact absurd (z ▸ hF) (c ⟨xs,(Option.some.inj h1).symm⟩)
 ·rw [au z];exact h1
theorem Fr.new {F:Addr->Prop} {H H':Hp} (h:Fr F H H') {p:Addr} {o':HO} (e:H' p=none):Fr F H (upd H' p o'):=fun x o hx c=>af e o' _ _ (h x o hx c)
def GoodG (b:Addr) (F:Addr->Prop) (H:Hp) (gv:List V):Prop:=gv≠[]/\∀ u ∈ gv,Ex4 fun t d r rv=>u=.ref t/\H t=some (.tup [tx d,.ref r])/\F r/\r≠b/\H r=some (.lst rv)/\rv.length<=1000
structure Spoilt (b:Addr) (F:Addr->Prop) (H:Hp) (hv:List V) (m:Nat) (H':Hp):Prop where
 fr:Fr F H H'
 hb:H' b=some (.lst hv)
 gl:∀ g gv,H g=some (.lst gv)->GoodG b F H gv->H' g=some (.lst [])\/H' g=some (.lst gv)
 ll:∀ x vs,H x=some (.lst vs)->vs.length<=1000->∃ vs',H' x=some (.lst vs')/\vs'.length<=1000+m
section
variable {b:Addr} {F:Addr->Prop} {H:Hp} {hv:List V} {m:Nat} {H':Hp}
theorem Spoilt.new (s:Spoilt b F H hv m H') {p:Addr} {o:HO} (e:H' p=none):Spoilt b F H hv m (upd H' p o):=by
 have k:=af e o;refine ⟨s.fr.new e,k _ _ s.hb,fun g gv h1 h2=>(s.gl g gv h1 h2).imp (k _ _) (k _ _),fun x vs h1 h2=>?_⟩;obtain ⟨vs',e1,e2⟩:=s.ll x vs h1 h2;exact ⟨vs',k _ _ e1,e2⟩
theorem Spoilt.clear (s:Spoilt b F H hv m H') {r:Addr} {xs:List V} (hF:F r) (n:r≠b) (e:H' r=some (.lst xs)):Spoilt b F H hv m (upd H' r (.lst [])):=by
 refine ⟨s.fr.put hF e,by rw [au (Ne.symm n)]; exact s.hb,fun g gv h1 h2=>?_,fun x vs h1 h2=>?_⟩
 ·by_cases z:g=r
  ·rw [z]; exact .inl ab
  ·rw [au z]; exact s.gl g gv h1 h2
 ·by_cases z:x=r
  ·rw [z]; exact ⟨[],ab,Nat.zero_le _⟩
  ·rw [au z]; exact s.ll x vs h1 h2
theorem Spoilt.app (s:Spoilt b F H hv m H') {r:Addr} {xs us:List V} {v:V} (hF:F r) (n:r≠b) (h0:H r=some (.lst us)) (ng:¬ GoodG b F H us) (e:H' r=some (.lst xs)) (hx:xs.length<=1000+m):Spoilt b F H hv (m+1) (upd H' r (.lst (xs++[v]))):=by
 refine ⟨s.fr.put hF e,by rw [au (Ne.symm n)]; exact s.hb,fun g gv h1 h2=>?_,fun x vs h1 h2=>?_⟩
 ·have z:g≠r:=fun z=>ng (by rw [z,h0] at h1; cases h1; exact h2)
  rw [au z]; exact s.gl g gv h1 h2
 ·by_cases z:x=r
  ·rw [z]; exact ⟨_,ab,by rw [List.length_append]; exact Nat.add_le_add_right hx 1⟩
  ·rw [au z];obtain ⟨vs',e1,e2⟩:=s.ll x vs h1 h2;exact ⟨vs',e1,Nat.le_succ_of_le e2⟩
end
theorem tR {b:Addr} {F:Addr->Prop} {H:Hp} {ws:List Way} {wv:List V} (p:Paired (WayAt H) ws wv):¬ GoodG b F H wv:=by
 rintro ⟨h1,h2⟩;cases p with
 | nil=>exact h1 rfl
 | cons r _=>
  obtain ⟨t,d,r',rv,e,et,_⟩:=h2 _ List.mem_cons_self;obtain ⟨t',e',et'⟩:=r;rw [e'] at e;cases e;rw [et] at et';simp [tx] at et'
theorem ri {b g w:Addr} {F:Addr->Prop} {H:Hp} {gs:List Gate} {gv:List V} (p:Paired (GateN (fun r=>r≠g/\r≠w/\r≠b/\F r) H) gs gv) (h1:1<=gs.length) (h2:∀ x ∈ gs,x.2.length<=1000):GoodG b F H gv:=by
 have hl:=p.length;refine ⟨fun z=>by rw [z,List.length_nil] at hl; lia,fun u hu=>?_⟩;obtain ⟨i,hi,rfl⟩:=List.getElem_of_mem hu;obtain ⟨y,hy,t,r,e,n,et,⟨rv,er,pr⟩⟩:=aA p (List.getElem?_eq_getElem (show i < gs.length by lia));have hu':gv[i]=y:=Option.some.inj ((List.getElem?_eq_getElem hi).symm.trans hy);have:=h2 _ (List.getElem_mem (show i < gs.length by lia));have hr:=pr.length;exact ⟨t,_,r,rv,hu'.trans e,et,n.2.2.2,n.2.2.1,er,by lia⟩
noncomputable def gQ (K:Frag):Sp:=av fun q=>aE fun H Q _=>Ex5 fun (F:Addr->Prop) (a b c:Addr) (N:Net)=>NetC F H q a b c N/\N.1.length<=1000/\N.2.1.length<=100/\N.2.2.length<=1000/\(∀ x ∈ N.2.1,1<=x.2.1.length/\x.2.1.length<=100/\x.2.2.length<=1000/\∀ g ∈ x.2.1,g.2.length<=1000)/\∀ H',Fr F H H'->Q .non H'
theorem jT (T:Top K mg):Callee P w K mg base 1 "_law_spoil" ["_law_net_here"] (gQ K):=by
 refine T.kP.cal cX (by unfold gQ; exact LenSp.h) (fun _ _ _ _ _ _ us hl=>match us,hl with | [_],_=>rfl) (fun f cdv A outer s H vs Q E hr h=>?_);unfold gQ at h;walk_at "el";refine ⟨_,(ag (bw PassesOwn.never rfl (iterE K rfl (ai (ixE K rfl) (qv 0) ad (fun _ _=>rfl))) (tupE K rfl rfl (n:=2) (ao (aj (i:=1) cX.nd rfl lc) (ao (aj (i:=2) cX.nd rfl lc) aM))) (ag (bw PassesOwn.never rfl (iterE K rfl (bP (b8 K rfl rfl) rfl T.eU dz (aa (ai (ixE K rfl) (qv 2) ad (fun _ _=>rfl)) ae))) (tupE K rfl rfl (n:=2) (ao (aj (i:=3) cX.nd rfl lc) (ao (aj (i:=4) cX.nd rfl lc) aM))) (ah (aw (mS (qv 4)))))
   (ag (aw (mS (ai (ixE K rfl) (qv 2) ad (fun _ _=>rfl))))
   (ah (aw (aY (ai (ixE K rfl) (qv 2) ad (fun _ _=>rfl)) (ay (aa (qs []) (aa (qs [115,112,111,105,108,116]) ae)))))))))
   (ag (aw (aY (ai (ixE K rfl) (qv 0) ad (fun _ _=>rfl)) (ay (aa (qs [115,112,111,105,108,116]) (aa ad ae)))))
   (ag (aw (mS (ai (ixE K rfl) (qv 0) ad (fun _ _=>rfl))))
   (ah (aw (aY (ai (ixE K rfl) (qv 0) ad (fun _ _=>rfl)) (ay (aa (ay (aa (qs [115,112,111,105,108,116]) (aa (qs [115,112,111,105,108,116]) ae))) (aa (ay (aa (qs [115,112,111,105,108,116]) (aa (qs [115,112,111,105,108,101,100]) ae))) ae))))))))),?_⟩
 rename_i q;obtain ⟨F,a,b,c,N,nc,ha,hb,hc,hh,q'⟩:=h;obtain ⟨hv,eb,pb⟩:=nc.houses;obtain ⟨lv,el,pl⟩:=nc.lay;obtain ⟨cv,ec,pc⟩:=nc.lines;have hl:=pb.length;have hll:=pl.length;have hcl:=pc.length;walk_at "rd";refine ⟨_,_,.inr (SqT.of nc.tup),rfl,?_⟩;walk_at "rd";refine .inl ⟨⟨_,SqL.of eb⟩,?_⟩;refine aN (xs:=hv) (fun i σ H'=>Ex4 fun u1 u2 u3 u4=>σ = [some (.ref q),u1,u2,u3,u4]/\Spoilt b F H hv i H') ⟨none,none,none,none,rfl,fun _ _ e _=>e,eb,fun _ _ e _=>.inr e,fun x vs e h=>⟨vs,e,h⟩⟩ (fun i σ H' _ ⟨_,_,_,_,_,z⟩=>SqL.of z.hb) ?_ ?_
 ·rintro i x σ H1 hx ⟨u1,u2,u3,u4,rfl,s1⟩;have hi:i < hv.length:=(List.getElem?_eq_some_iff.mp hx).1;have hil:i < N.2.1.length:=by lia
  obtain ⟨y,hy,t,hq,g,w,ey,et,hN,ng,nw⟩:=aA pb (List.getElem?_eq_getElem hil);obtain rfl:x=.ref t:=by rw [hy] at hx; rw [<- Option.some.inj hx,ey]
  obtain ⟨k1,k2,k3,k4⟩:=hh _ (List.getElem_mem hil);obtain ⟨gv,eg,pg⟩:=hN.gates;obtain ⟨wv,ew,pw⟩:=hN.ways;have lw:=pw.length;have good:=ri pg k1 k4;refine ⟨t,[_,_],rfl,SqT.of (s1.fr.tup et),rfl,_,[_],rfl,_,[],rfl,rfl,?_⟩;walk_at "rd";refine ⟨_,_,.inr (SqT.of (s1.fr.tup hN.tup)),rfl,?_⟩;walk_at "rd";obtain ⟨us,e1,hu⟩:∃ us,H1 g=some (.lst us)/\∀ u ∈ us,Ex4 fun t d r rv=>u=.ref t/\H t=some (.tup [tx d,.ref r])/\F r/\r≠b/\H r=some (.lst rv)/\rv.length<=1000:=by
   rcases s1.gl g gv eg good with e1 | e1
   ·exact ⟨_,e1,fun u hu=>by simp at hu⟩
   ·exact ⟨_,e1,good.2⟩
  refine ⟨_,.inl (SqL.of e1),fun p hp=>.inl ⟨⟨_,SqL.of ab⟩,?_⟩⟩;refine aN (xs:=us) (fun j σ H'=>Ex2 fun u3 u4=>σ = [some (.ref q),some (tx N.2.1[i].1),some (.ref hq),u3,u4]/\Spoilt b F H hv i H'/\H' p=some (.lst us)) ⟨_,_,rfl,s1.new hp,ab⟩ (fun j σ H' _ ⟨_,_,_,_,z⟩=>SqL.of z) ?_ ?_
  ·rintro j x σ H2 hx2 ⟨u3',u4',rfl,s2,ep⟩;obtain ⟨t2,d,r,rv,rfl,et2,hFr,nrb,er,hrv⟩:=hu x (List.mem_of_getElem? hx2);have npr:p≠r:=fun z=>by
    obtain ⟨_,e,_⟩:=s1.ll r rv er hrv;rw [<- z,hp] at e;cases e
   obtain ⟨rv',er',_⟩:=s2.ll r rv er hrv;refine ⟨t2,[_,_],rfl,SqT.of (s2.fr.tup et2),rfl,_,[_],rfl,_,[],rfl,rfl,?_⟩;walk_at "rd";exact ⟨⟨_,er'⟩,_,_,rfl,s2.clear hFr nrb er',by rw [au npr]; exact ep⟩
  ·rintro σ H2 ⟨u3',u4',rfl,s2,ep⟩;walk_at "rd";refine ⟨_,V.ref g,.inr (SqT.of (s2.fr.tup hN.tup)),rfl,?_⟩;walk_at "rd";obtain ⟨gs',eg',_⟩:∃ gs',H2 g=some (.lst gs')/\True:=by
    rcases s2.gl g gv eg good with e | e <;> exact ⟨_,e,trivial⟩
   refine ⟨⟨_,eg'⟩,?_⟩;have s3:=s2.clear ng.2 ng.1 eg';refine ⟨_,V.ref w,.inr (SqT.of (s3.fr.tup hN.tup)),rfl,?_⟩;walk_at "rd";have lwv:wv.length<=1000:=by lia
   obtain ⟨wv',ew',hw'⟩:=s3.ll w wv ew lwv;refine ⟨⟨_,ew'⟩,by decide,fun p2 hp2=>?_⟩;have s4:=s3.new (o:=.tup [V.str (st []),V.str (st [115,112,111,105,108,116])]) hp2;have ew4:=af hp2 (.tup [V.str (st []),V.str (st [115,112,111,105,108,116])]) _ _ ew';exact ⟨wv',ew4,sizeBig (by lia),_,_,_,_,rfl,s4.app nw.2 nw.1 ew (tR pw) ew4 hw'⟩
 ·rintro σ H1 ⟨u1,u2,u3,u4,rfl,s1⟩;walk_at "rd";refine ⟨_,V.ref a,.inr (SqT.of (s1.fr.tup nc.tup)),rfl,?_⟩;walk_at "rd";obtain ⟨lv',ea',hla⟩:=s1.ll a lv el (by lia);refine ⟨⟨_,ea'⟩,by decide,fun p hp=>?_⟩;have k1:=af hp (.tup [V.str (st [115,112,111,105,108,116]),V.int 1]);refine ⟨lv',k1 _ _ ea',sizeBig (by lia),?_⟩;have f1:=(s1.fr.new (o':=.tup [V.str (st [115,112,111,105,108,116]),V.int 1]) hp).put (ys:=lv'++[.ref p]) nc.fa (k1 _ _ ea');have eb1:∃ xs,upd (upd H1 p (.tup [V.str (st [115,112,111,105,108,116]),V.int 1])) a (.lst (lv'++[.ref p])) b=some (.lst xs):=by
   by_cases z:b=a
   ·rw [z]; exact ⟨_,ab⟩
   ·rw [au z]; exact ⟨_,k1 _ _ s1.hb⟩
  obtain ⟨cv',ec',hlc⟩:=s1.ll c cv ec (by lia);have ec1:∃ xs,upd (upd H1 p (.tup [V.str (st [115,112,111,105,108,116]),V.int 1])) a (.lst (lv'++[.ref p])) c=some (.lst xs)/\xs.length<=2000:=by
   by_cases z:c=a
   ·rw [z]; exact ⟨_,ab,by rw [List.length_append]; simp only [List.length_cons,List.length_nil]; lia⟩
   ·rw [au z]; exact ⟨_,k1 _ _ ec',by lia⟩
  generalize upd (upd H1 p (.tup [V.str (st [115,112,111,105,108,116]),V.int 1])) a (.lst (lv'++[.ref p]))=H2 at f1 eb1 ec1 ⊢;obtain ⟨bs,eb1⟩:=eb1;obtain ⟨cs,ec1,hcs⟩:=ec1;refine ⟨_,V.ref b,.inr (SqT.of (f1.tup nc.tup)),rfl,⟨_,eb1⟩,?_⟩;have f2:=f1.put (ys:=[]) nc.fb eb1;have ec2:∃ xs,upd H2 b (.lst []) c=some (.lst xs)/\xs.length<=2000:=by
   by_cases z:c=b
   ·rw [z]; exact ⟨_,ab,Nat.zero_le _⟩
   ·rw [au z]; exact ⟨_,ec1,hcs⟩
  generalize upd H2 b (.lst [])=H3 at f2 ec2 ⊢;obtain ⟨cs,ec2,hcs⟩:=ec2;refine ⟨_,V.ref c,.inr (SqT.of (f2.tup nc.tup)),rfl,⟨_,ec2⟩,by decide,fun p3 hp3=>⟨by decide,fun p4 hp4=>⟨by decide,fun p5 hp5=>?_⟩⟩⟩;have k3:=((af hp3 (.tup [V.str (st [115,112,111,105,108,116]),V.str (st [115,112,111,105,108,116])])).trans (af hp4 (.tup [V.str (st [115,112,111,105,108,116]),V.str (st [115,112,111,105,108,101,100])]))).trans (af hp5 (.tup [V.ref p3,V.ref p4]));exact ⟨cs,k3 _ _ ec2,sizeBig (by lia),q' _ (((((f2.new hp3).new hp4).new hp5).put nc.fc (k3 _ _ ec2)))⟩
noncomputable def keyW (x:Way):List Key:=[.inr (st x.1),.inr (st x.2)]
theorem qQ {x y:Way} (h:keyW x=keyW y):x=y:=by
 obtain ⟨a,b⟩:=x;obtain ⟨c,d⟩:=y;have h1:st a=st c:=by injection h with h1 _; injection h1
 have h2:st b=st d:=by injection h with _ h2; injection h2 with h2 _; injection h2
 rw [km.mp h1,km.mp h2]
noncomputable def beyondL:List Line->Way->Option Way
 | [],_=>none
 | (a,b)::ls,x=>if a=x then some b else if b=x then some a else beyondL ls x
theorem jc:∀ {ls:List Line} {x:Way},x ∉ endsOf ls->beyondL ls x=none
 | [],_,_=>rfl
 | (a,b)::ls,x,h=>by
  have e:endsOf ((a,b)::ls)=a::b::endsOf ls:=by unfold endsOf; rw [List.flatMap_cons]; rfl
  rw [e] at h;simp only [List.mem_cons,not_or] at h;unfold beyondL;rw [if_neg (fun z=>h.1 z.symm),if_neg (fun z=>h.2.1 z.symm)];exact jc h.2.2
theorem lW:∀ (ls:List Line) (a b x:Way),beyondL (ls++[(a,b)]) x=(beyondL ls x).or (if a=x then some b else if b=x then some a else none)
 | [],a,b,x=>by simp [beyondL]
 | (c,d)::ls,a,b,x=>by
  have ih:=lW ls a b x;show beyondL ((c,d)::(ls++[(a,b)])) x=_;unfold beyondL;by_cases h1:c=x
  ·rw [if_pos h1,if_pos h1]; rfl
  ·rw [if_neg h1,if_neg h1];by_cases h2:d=x
   ·rw [if_pos h2,if_pos h2]; rfl
   ·rw [if_neg h2,if_neg h2];exact ih
def OptW (H:Hp) (o:Option Way) (v:Option V):Prop:=match o with
 | none=>v=none
 | some y=>∃ u,v=some u/\WayAt H y u
theorem OptW.keep {H H':Hp} (k:∀ t vs,H t=some (.tup vs)->H' t=some (.tup vs)) {o:Option Way} {v:Option V} (h:OptW H o v):OptW H' o v:=by
 cases o with
 | none=>exact h
 | some y=>
  obtain ⟨u,e,t,e2,h2⟩:=h;exact ⟨u,e,t,e2,k _ _ h2⟩
def EndsAt (H:Hp) (d:Addr) (ls:List Line):Prop:=∃ kvs:List (List Key × V),H d=some (.dT kvs)/\∀ x,OptW H (beyondL ls x) (valV kvs (keyW x))
noncomputable def iq (K:Frag):Sp:=av fun p=>aE fun H Q _=>∃ N:Net,NetAt H p N/\N.2.2.length<=500/\(endsOf N.2.2).Nodup/\∀ d H',H d=none->Same H H'->EndsAt H' d N.2.2->Q (.ref d) H'
theorem kz (T:Top K mg):Callee P w K mg base 1 "line_ends" ["net"] (iq K):=by
 refine T.mw.cal fB (by unfold iq; exact LenSp.h) (fun _ _ _ _ _ _ us hl=>match us,hl with | [_],_=>rfl) (fun f cdv A outer s H vs Q E hr h=>?_);unfold iq at h;walk_at "el";refine ⟨_,(ag (aq (i:=1) fB.nd rfl lc nC)
   (ag (bw PassesOwn.never rfl (iterE K rfl (ai (ixE K rfl) (qv 0) ad (fun _ _=>rfl))) (tupE K rfl rfl (n:=2) (ao (aj (i:=2) fB.nd rfl lc) (ao (aj (i:=3) fB.nd rfl lc) aM))) (ag (jC (jS hr) (qv 1) (qv 2) (qv 3))
   (ah (jC (jS hr) (qv 1) (qv 3) (qv 2)))))
   (ah (ax (qv 1))))),?_⟩
 rename_i p;obtain ⟨⟨ls,hs,lns⟩,⟨pa,pb,pc,eN,_,_,⟨vs,e0,pr⟩⟩,hn,hnd,q⟩:=h;dsimp only at pr hn hnd q;have hl:=pr.length;walk_at "rd";intro d hd;have s1:=af hd (.dT []);refine ⟨_,_,.inr (SqT.of (s1 _ _ eN)),rfl,?_⟩;walk_at "rd";refine .inl ⟨⟨_,SqL.of (s1 _ _ e0)⟩,?_⟩;refine aN (xs:=vs) (fun i σ H'=>Ex3 fun u v kvs=>σ = [some (.ref p),some (.ref d),u,v]/\Same H H'/\H' d=some (.dT kvs)/\kvs.length<=2*i/\∀ x,OptW H' (beyondL (lns.take i) x) (valV kvs (keyW x))) ⟨none,none,[],rfl,s1,ab,Nat.le_refl _,fun x=>rfl⟩ (fun i σ H' _ ⟨_,_,_,_,z,_⟩=>SqL.of (z _ _ e0)) ?_ ?_
 ·rintro i x σ H1 hx ⟨u,v,kvs,rfl,s2,ed,hk,hv⟩;have hi:i < vs.length:=(List.getElem?_eq_some_iff.mp hx).1;have hil:i < lns.length:=by lia
  obtain ⟨y,hy,t,u1,u2,ey,et,⟨t1,rfl,h1⟩,⟨t2,rfl,h2⟩⟩:=aA pr (List.getElem?_eq_getElem hil);obtain rfl:x=.ref t:=by rw [hy] at hx; rw [<- Option.some.inj hx,ey]
  refine ⟨t,[_,_],rfl,SqT.of (s2 _ _ et),rfl,_,[_],rfl,_,[],rfl,rfl,?_⟩;walk_at "rd";have h1':=s2 _ _ h1;have h2':=s2 _ _ h2;generalize ea:lns[i].1=a at *;generalize eb:lns[i].2=b at *;have kd:∀ {H:Hp} {k k':List (List Key × V)},H d=some (.dT k)->∀ t ts,H t=some (.tup ts)->upd H d (.dT k') t=some (.tup ts):=fun e t ts z=>by
   rw [au (fun y=>by rw [y,e] at z; cases z)];exact z
  have g1:DPut H1 d (.ref t1) (.ref t2) (upd H1 d (.dT (putK kvs (keyW a) (.ref t2)))):=DPut.t (k:=keyW a) ed h1' (sizeBig (by lia));have lp1:=cp kvs (keyW a) (.ref t2);have ed2:upd H1 d (.dT (putK kvs (keyW a) (.ref t2))) d=some (.dT (putK kvs (keyW a) (.ref t2))):=ab;have g2:=DPut.t (v:=.ref t1) (k:=keyW b) ed2 (kd ed _ _ h2') (sizeBig (by lia));have lp2:=cp (putK kvs (keyW a) (.ref t2)) (keyW b) (.ref t1);refine ⟨_,g1,_,g2,_,_,putK (putK kvs (keyW a) (.ref t2)) (keyW b) (.ref t1),rfl,aG (aG s2 hd) hd,ab,by lia,fun x=>?_⟩;have kk:∀ t ts,H1 t=some (.tup ts)->upd (upd H1 d (.dT (putK kvs (keyW a) (.ref t2)))) d (.dT (putK (putK kvs (keyW a) (.ref t2)) (keyW b) (.ref t1))) t=some (.tup ts):=fun t ts z=>kd ed2 _ _ (kd ed _ _ z)
  have hends:=qB hil;rw [hends,ea,eb] at hnd;obtain ⟨_,n2,n3⟩:=List.nodup_append.mp hnd;have na:a ∉ endsOf (lns.take i):=fun z=>n3 a z a (by simp) rfl
  have nb:b ∉ endsOf (lns.take i):=fun z=>n3 b z b (by simp) rfl
  have nab:a≠b:=fun z=>by
   have:=List.nodup_cons.mp n2;exact this.1 (by rw [z]; simp)
  rw [cW,cW,List.take_add_one,List.getElem?_eq_getElem hil,Option.toList_some,show lns[i]=(a,b) by rw [<- ea,<- eb],lW];by_cases c1:x=b
  ·subst c1;rw [if_pos rfl,jc nb,if_neg nab,if_pos rfl];exact ⟨_,rfl,t1,rfl,kk _ _ h1'⟩
  ·rw [if_neg (fun z=>c1 (qQ z))];by_cases c2:x=a
   ·subst c2;rw [if_pos rfl,jc na,if_pos rfl];exact ⟨_,rfl,t2,rfl,kk _ _ h2'⟩
   ·rw [if_neg (fun z=>c2 (qQ z)),if_neg (fun z=>c2 z.symm),if_neg (fun z=>c1 z.symm),Option.or_none];exact (hv x).keep kk
 ·rintro σ H1 ⟨u,v,kvs,rfl,s2,ed,hk,hv⟩;walk_at "rd";rw [<- hl,List.take_length] at hv;exact q d H1 hd s2 ⟨kvs,ed,hv⟩
def SortedOf (l ws:List Way):Prop:=ws.Perm l/\ws.Pairwise fun x y=>enc x < enc y
noncomputable def iz (K:Frag):Sp:=av fun p=>aE fun H Q _=>∃ N:Net,NetAt H p N/\N.2.1.length<=100/\(∀ x ∈ N.2.1,x.2.1.length<=100)/\(spotsOf N.2.1).Nodup/\(spotsOf N.2.1).length < 64/\∀ q H' ws,H q=none->Same H H'->Ways H' q ws->SortedOf (spotsOf N.2.1) ws->Q (.ref q) H'
theorem qa (T:Top K mg):Callee P w K mg base 1 "net_spots" ["net"] (iz K):=by
 refine T.mt.cal fH (by unfold iz; exact LenSp.h) (fun _ _ _ _ _ _ us hl=>match us,hl with | [_],_=>rfl) (fun f cdv A outer s H vs Q E hr h=>?_);unfold iz at h;walk_at "el";refine ⟨_,(ag (aq (i:=1) fH.nd rfl lc (aL ae))
   (ag (bw PassesOwn.never rfl (iterE K rfl (ai (ixE K rfl) (qv 0) ad (fun _ _=>rfl))) (tupE K rfl rfl (n:=2) (ao (aj (i:=2) fH.nd rfl lc) (ao (aj (i:=3) fH.nd rfl lc) aM))) (ah (aw (lJ (qv 1) (aJ (nt:=2) (fi:=[2]) (N':=["door", "rules", "name"]) rfl (cscope rfl (by decide +kernel)) (cnames (N:=["net", "spots", "name", "house"]) (sc:=defScope gC) rfl rfl (by decide +kernel)) (fq (by decide) (by decide)) (iterE K rfl (ai (ixE K rfl) (qv 3) ad (fun _ _=>rfl))) (fun _ _ _ _ _=>(tupE K rfl rfl (n:=2) (ao (aj (i:=0) (by show (["door", "rules", "name"]:List Str).Nodup; decide +kernel) rfl lc) (ao (aj (i:=1) (by show (["door", "rules", "name"]:List Str).Nodup; decide +kernel) rfl lc) aM)))) (fun _ _ _ _ _=>bd) (fun _ _ _ _ _=>(ay (aa (qv 2) (aa (qv 0) ae)))))))))
   (ah (ax (aH (kr K rfl) rfl T.nP ou (aa (qv 1) ae)))))),?_⟩
 rename_i p;obtain ⟨⟨ls,hs,lns⟩,⟨pa,pb,pc,eN,_,⟨vs,e0,pr⟩,_⟩,hn,hg,hnd,h64,q⟩:=h;dsimp only at pr hn hg hnd h64 q;have hl:=pr.length;walk_at "rd";refine ⟨Nat.zero_le _,fun g hg0=>?_⟩;have s1:=af hg0 (.lst []);refine ⟨_,_,.inr (SqT.of (s1 _ _ eN)),rfl,?_⟩;walk_at "rd";refine .inl ⟨⟨_,SqL.of (s1 _ _ e0)⟩,?_⟩;refine aN (xs:=vs) (fun i σ H'=>Ex2 fun u v=>σ = [some (.ref p),some (.ref g),u,v]/\Same H H'/\Ways H' g (spotsOf (hs.take i))) ⟨none,none,rfl,s1,⟨[],ab,.nil⟩⟩ (fun i σ H' _ ⟨_,_,_,z,_⟩=>SqL.of (z _ _ e0)) ?_ ?_
 ·rintro i x σ H1 hx ⟨u,v,rfl,s2,⟨us,eu,pu⟩⟩;have hi:i < vs.length:=(List.getElem?_eq_some_iff.mp hx).1;have hil:i < hs.length:=by lia
  obtain ⟨y,hy,t,hq,ey,et,hH⟩:=aA pr (List.getElem?_eq_getElem hil);obtain rfl:x=.ref t:=by rw [hy] at hx; rw [<- Option.some.inj hx,ey]
  obtain ⟨ga,wa,eh,⟨gv,eg,pg⟩,_⟩:=hH.same s2;have hgl:=pg.length;obtain ⟨z1,z2⟩:=aF pg;have hgi:=hg hs[i] (List.getElem_mem hil);refine ⟨t,[_,_],rfl,SqT.of (s2 _ _ et),rfl,_,[_],rfl,_,[],rfl,rfl,?_⟩;walk_at "rd";refine ⟨⟨_,eu⟩,_,_,.inr (SqT.of eh),rfl,?_⟩;walk_at "rd";refine .inl ⟨⟨_,SqL.of eg⟩,fun D hD=>?_⟩;refine bR (item:=fun x:Gate × V=>x.2) (hs[i].2.1.zip gv) (fun _=>true) (fun x v H'=>WayAt H' (hs[i].1,x.1.1) v) hD (by rw [z1]; exact SqL.of eg) (by rw [List.length_zip]; lia) ?_ ?_ ?_
  ·rintro x v H2 H3 acc hd k ⟨t',rfl,et'⟩;exact ⟨t',rfl,k t' _ (fun z=>by rw [z,hd] at et'; cases et') et'⟩
  ·intro x H2 out non hx2 s3 ho _;obtain ⟨t',r',ex,et',_⟩:=z2 x hx2;rw [ex];refine ⟨t',[_,_],rfl,SqT.of (s3 _ _ et'),rfl,_,[_],rfl,_,[],rfl,rfl,?_⟩;walk_at "rd";refine ⟨by decide,fun t2 ht2=>?_⟩;exact ho _ _ rfl (af ht2 _) ⟨t2,rfl,ab⟩
  ·intro H2 ws s3 e3 p3;have p4:Paired (WayAt H2) (hs[i].2.1.map fun g=>(hs[i].1,g.1)) ws:=by
    have hf:(hs[i].2.1.zip gv).filter (fun _=>true)=hs[i].2.1.zip gv:=List.filter_eq_self.mpr fun _ _=>rfl
    rw [hf] at p3;have:hs[i].2.1.map (fun g=>((hs[i].1,g.1):Way))=(hs[i].2.1.zip gv).map fun x=>(hs[i].1,x.1.1):=by
     conv=>lhs; rw [<- bj (l:=hs[i].2.1) (m:=gv) hgl,List.map_map]
     rfl
    rw [this];exact aS p3
   have eu3:=s3 _ _ eu;have ngD:g≠D:=fun z=>by rw [<- z,eu] at hD; cases hD
   have l1:=pu.length;have l2:=p4.length;have l3:=lN (hs:=hs.take i) (c:=100) fun x hx=>hg x (List.mem_of_mem_take hx)
   rw [List.length_take] at l3;rw [List.length_map] at l2;refine ⟨us,ws,eu3,e3,Nat.le_of_lt (sizeBig ?_),some (tx hs[i].1),some (.ref hq),rfl,aG (s2.trans s3) hg0,⟨_,ab,?_⟩⟩
   ·have:min i hs.length*100<=100*100:=Nat.mul_le_mul_right _ (by lia)
    lia
   ·rw [nF hs i hil];refine bI (L2.Paired.mapP pu ?_) (L2.Paired.mapP p4 ?_)
    ·rintro x v ⟨t',rfl,et'⟩;exact ⟨t',rfl,aK eu3 _ _ (s3 _ _ et')⟩
    ·rintro x v ⟨t',rfl,et'⟩;exact ⟨t',rfl,aK eu3 _ _ et'⟩
 ·rintro σ H1 ⟨u,v,rfl,s2,hW⟩;walk_at "rd";rw [<- hl,List.take_length] at hW;obtain ⟨wv,ew,pw⟩:=hW;refine ⟨spotsOf hs,wv,SqL.of ew,pw,hnd,h64,fun q' ws' vs' hq' hp hs' pp=>?_⟩;have s3:=af hq' (.lst vs');exact q q' _ ws' (s2.free hq') (s2.trans s3) ⟨vs',ab,aD (fun _ _ z=>s3 _ _ z) pp⟩ ⟨hp,hs'⟩
noncomputable def jj (K:Frag):Sp:=av fun t=>aZ fun n=>aZ fun d=>aE fun H Q E=>∃ N:Net,NetAt H t N/\(∀ c ∈ n.cps.toList,c < 16 ^ 8)/\n.cps.toList.length<=1000/\(∀ c ∈ d.cps.toList,c < 16 ^ 8)/\d.cps.toList.length<=1000/\N.2.2.length<=500/\(endsOf N.2.2).Nodup /\
   (∀ h,houseOf N.2.1 n.cps.toList=some h->(∀ rs,gateOf h.1 d.cps.toList=some rs->∀ v H',Same H H'->OptW H' (beyondL N.2.2 (n.cps.toList,d.cps.toList)) (some v)\/(beyondL N.2.2 (n.cps.toList,d.cps.toList)=none/\v=.non)->Q v H')/\(gateOf h.1 d.cps.toList=none->False)) /\
   (houseOf N.2.1 n.cps.toList=none->False)
theorem qw (T:Top K mg):Callee P w K mg base 3 "net_tied" ["net", "house", "door"] (jj K):=by
 refine T.nQ.cal qO (by unfold jj; exact LenSp.h) (fun _ _ _ _ _ _ us hl=>match us,hl with | [_,_,_],_=>rfl) (fun f cdv A outer s H vs Q E hr h=>?_);unfold jj at h;walk_at "el";refine ⟨_,(ag (aw (am (jM T) hr.m rfl (aa (qv 0) (aa (qv 1) (aa (qv 2) ae)))))
   (ah (ax (uO (jS hr) (am (kz T) hr.m rfl (aa (qv 0) ae)) (ay (aa (qv 1) (aa (qv 2) ae))) ⟨rfl,rfl,rfl,rfl⟩)))),?_⟩
 rename_i t n d;obtain ⟨N,hN,h1,h2,h3,h4,h5,h6,q1,q2⟩:=h;walk_at "rd";refine ⟨N,hN,h1,h2,h3,h4,fun h eh=>⟨fun rs er H1 s1=>?_,(q1 h eh).2⟩,q2⟩;walk_at "rd";refine ⟨N,hN.same s1,h5,h6,fun e H2 he s2 hE=>?_⟩;walk_at "rd";obtain ⟨kvs,ed,hv⟩:=id hE;refine ⟨.inr ⟨kvs,.inl ed⟩,by decide,fun p hp=>?_⟩;have s3:=af hp (.tup [V.str n,V.str d]);have ek:upd H2 p (.tup [V.str n,V.str d]) p=some (.tup ((keyW (n.cps.toList,d.cps.toList)).map kV)):=by
  rw [ab];unfold keyW kV;simp only [List.map_cons,List.map_nil,bf]
 refine ⟨_,DGet.t (s3 _ _ ed) ek,?_⟩;have hvx:=hv (n.cps.toList,d.cps.toList);refine (q1 h eh).1 rs er _ _ (s1.trans (s2.trans s3)) ?_;cases eb:beyondL N.2.2 (n.cps.toList,d.cps.toList) with
 | none=>
  rw [eb] at hvx;have hvx:valV kvs (keyW (n.cps.toList,d.cps.toList))=none:=hvx;rw [hvx];exact .inr ⟨rfl,rfl⟩
 | some y=>
  rw [eb] at hvx;obtain ⟨u,hu,hw⟩:=hvx;rw [hu];obtain ⟨t',e',h'⟩:=hw;exact .inl ⟨u,rfl,t',e',s3 _ _ h'⟩
noncomputable def eI:Sp:=be fun n=>be fun c=>aE fun H Q _=>0<=n/\n < c/\Q .non H
theorem iX (T:Top K mg):Callee P w K mg base 1 "check_number" ["number", "count"] eI:=by
 refine T.jv.cal mz (by unfold eI; exact LenSp.h) (fun _ _ _ _ _ _ us hl=>match us,hl with | [_,_],_=>rfl) (fun f cdv A outer s H vs Q E hr h=>?_);unfold eI at h;walk_at "el";refine ⟨_,(ah (aW (PW.pt (qM (aB si (qv 0) ad) (ni (aB yF (qv 0) (qv 1))))) (ah bO) aC)),?_⟩;rename_i n c;obtain ⟨h1,h2,q⟩:=h;walk_at "rd";rw [if_neg (by lia),if_neg (by lia)];exact q
noncomputable def dZ (K:Frag):Sp:=av fun p=>be fun n=>aE fun H Q _=>Ex2 fun (rs:List Rule) (j:Nat)=>Rules H p rs/\n=(j:Int)/\j < rs.length/\rs.length<=90/\∀ q H',H q=none->Same H H'->Rules H' q (rs.take j++rs.drop (j+1))->Q (.ref q) H'
theorem lO (T:Top K mg):Callee P w K mg base 1 "rules_without" ["rules", "number"] (dZ K):=by
 refine T.i0.cal lM (by unfold dZ; exact LenSp.h) (fun _ _ _ _ _ _ us hl=>match us,hl with | [_,_],_=>rfl) (fun f cdv A outer s H vs Q E hr h=>?_);unfold dZ at h;walk_at "el";refine ⟨_,(ah (ax (al ak (bp (slE K rfl) (qv 0) bT (bG (qv 1))) (bp (slE K rfl) (qv 0) (bG (al ak (qv 1) ad)) bT)))),?_⟩;rename_i p n;obtain ⟨rs,j,⟨vs,e0,pr⟩,rfl,hj,hl,q⟩:=h;have hlv:=pr.length;walk_at "rd";refine ⟨vs,SqL.of e0,fun a1 h1=>?_⟩;rw [iD vs j (by lia)];refine ⟨vs,SqL.of (af h1 _ _ _ e0),fun a2 h2=>?_⟩;rw [show (j:Int)+1=((j+1:Nat):Int) from rfl,gb vs (j+1) (by lia)];refine ⟨vs.take j,vs.drop (j+1),af h2 _ _ _ ab,ab,by rw [List.length_take,List.length_drop,sizeLine_eq]; lia,fun oa hoa=>?_⟩;have s2:Same H (upd (upd H a1 (.lst (vs.take j))) a2 (.lst (vs.drop (j+1)))):=(af h1 _).trans (af h2 _);have s3:=s2.trans (af hoa (.lst (vs.take j++vs.drop (j+1))));exact q oa _ (s2.free hoa) s3 ⟨_,ab,aI (fun t us q=>s3 _ _ q) (bI (cG j pr) (dq (j+1) pr))⟩
noncomputable def putH (hs:List Named) (n:List Nat) (h:House):List Named:=hs.map fun x=>(x.1,if x.1=n then h else x.2)
noncomputable def dB (K:Frag):Sp:=av fun t=>aZ fun n=>av fun hq=>aE fun H Q _=>Ex2 fun (N:Net) (h:House)=>NetAt H t N/\N.2.1.length<=100/\HouseAt H hq h/\∀ q H',H q=none->Same H H'->NetAt H' q (N.1,putH N.2.1 n.cps.toList h,N.2.2)->Q (.ref q) H'
theorem gE (T:Top K mg):Callee P w K mg base 1 "net_with_house" ["net", "name", "house"] (dB K):=by
 refine T.im.cal kB (by unfold dB; exact LenSp.h) (fun _ _ _ _ _ _ us hl=>match us,hl with | [_,_,_],_=>rfl) (fun f cdv A outer s H vs Q E hr h=>?_);unfold dB at h;walk_at "el";refine ⟨_,(ah (ax (ay (aa (ai (ixE K rfl) (qv 0) ad (fun _ _=>rfl)) (aa (aJ (nt:=2) (fi:=[2,1]) (N':=["its", "other", "house", "name"]) rfl (cscope rfl (by decide +kernel)) (cnames (N:=["net", "name", "house"]) (sc:=defScope cL) rfl rfl (by decide +kernel)) (fq (by decide) (by decide)) (iterE K rfl (ai (ixE K rfl) (qv 0) ad (fun _ _=>rfl))) (fun _ _ _ _ _=>(tupE K rfl rfl (n:=2) (ao (aj (i:=0) (by show (["its", "other", "house", "name"]:List Str).Nodup; decide +kernel) rfl lc) (ao (aj (i:=1) (by show (["its", "other", "house", "name"]:List Str).Nodup; decide +kernel) rfl lc) aM)))) (fun _ _ _ _ _=>bd) (fun _ _ _ _ _=>(ay (aa (qv 0) (aa (m9 (aB bn (qv 0) (qv 3)) (qv 2) (qv 1)) ae))))) (aa (ai (ixE K rfl) (qv 0) ad (fun _ _=>rfl)) ae)))))),?_⟩;rename_i t n hq;obtain ⟨n,rfl⟩:∃ x,n=st x:=⟨_,(bf n).symm⟩;obtain ⟨N,h,⟨la,ha,ca,et,hL,⟨hv,eh,ph⟩,hC⟩,hn,hH,q⟩:=h;simp only [az] at q;have hl:=ph.length;obtain ⟨z1,z2⟩:=aF ph;walk_at "rd";refine ⟨_,V.ref la,.inr (SqT.of et),rfl,_,V.ref ha,.inr (SqT.of et),rfl,?_⟩;walk_at "rd";refine .inl ⟨⟨_,SqL.of eh⟩,fun D hD=>?_⟩;refine bR (item:=fun x:Named × V=>x.2) (N.2.1.zip hv) (fun _=>true) (fun x v H'=>Ex2 fun t q'=>v=.ref t/\H' t=some (.tup [tx x.1.1,.ref q'])/\HouseAt H q' (if x.1.1=n then h else x.1.2)) hD (by rw [z1]; exact SqL.of eh) (by rw [List.length_zip]; lia) ?_ ?_ ?_
 ·rintro x v H1 H2 acc hd k ⟨t',q',e,h1,h2⟩;exact ⟨t',q',e,k _ _ (fun z=>by rw [z,hd] at h1; cases h1) h1,h2⟩
 ·intro x H1 out non hx s1 ho _;obtain ⟨t',q',ex,et',hHq⟩:=z2 x hx;rw [ex];refine ⟨t',[_,_],rfl,SqT.of (s1 _ _ et'),rfl,_,[_],rfl,_,[],rfl,rfl,?_⟩;walk_at "rd";refine ite2 (fun g=>⟨by decide,fun p hp=>ho _ _ rfl (af hp _) ⟨p,hq,rfl,ab,?_⟩⟩) fun g=>⟨by decide,fun p hp=>ho _ _ rfl (af hp _) ⟨p,q',rfl,ab,?_⟩⟩
  ·rw [if_pos g]; exact hH
  ·rw [if_neg g]; exact hHq
 ·intro H1 vs s1 e1 p1;rw [List.filter_eq_self.mpr fun _ _=>rfl] at p1;refine ⟨_,V.ref ca,.inr (SqT.of (s1 _ _ et)),rfl,by decide,fun q' hq'=>?_⟩;have s2:=af hq' (.tup [V.ref la,V.ref D,V.ref ca]);have s12:=s1.trans s2;refine q q' _ (s1.free hq') s12 ⟨la,D,ca,ab,hL.same s12,⟨vs,s2 _ _ e1,?_⟩,hC.same s12⟩;have e2:putH N.2.1 n h=(N.2.1.zip hv).map fun x=>(x.1.1,if x.1.1=n then h else x.1.2):=by
   unfold putH
   conv=>lhs; rw [<- bj (l:=N.2.1) (m:=hv) hl,List.map_map]
   rfl
  show Paired (NamedAt _) (putH N.2.1 n h) vs;rw [e2];exact aS (L2.Paired.mapP p1 fun _ _ ⟨t',q'',e,h1,h2⟩=>⟨t',q'',e,s2 _ _ h1,h2.same s12⟩)
noncomputable def putG (gs:List Gate) (d:List Nat) (rs:List Rule):List Gate:=gs.map fun x=>(x.1,if x.1=d then rs else x.2)
noncomputable def dG (K:Frag):Sp:=av fun t=>aZ fun n=>aZ fun d=>av fun rp=>aE fun H Q _=>Ex3 fun (N:Net) (h:House) (rs:List Rule)=>NetAt H t N/\N.2.1.length<=100/\(∀ c ∈ n.cps.toList,c < 16 ^ 8)/\n.cps.toList.length<=1000/\houseOf N.2.1 n.cps.toList=some h/\h.1.length<=100/\Rules H rp rs/\∀ q H',H q=none->Same H H'->NetAt H' q (N.1,putH N.2.1 n.cps.toList (putG h.1 d.cps.toList rs,h.2),N.2.2)->Q (.ref q) H'
theorem kJ (T:Top K mg):Callee P w K mg base 2 "net_with_rules" ["net", "name", "door", "rules"] (dG K):=by
 refine T.ik.cal dL (by unfold dG; exact LenSp.h) (fun _ _ _ _ _ _ us hl=>match us,hl with | [_,_,_,_],_=>rfl) (fun f cdv A outer s H vs Q E hr h=>?_);unfold dG at h;walk_at "el";refine ⟨_,(ag (aq (i:=4) dL.nd rfl lc (am (ck T) hr.m rfl (aa (qv 0) (aa (qv 1) ae))))
   (ag (jE (i:=5) (nt:=2) (fi:=[3,2]) (N':=["its", "others", "rules", "door"]) dL.nd rfl lc rfl (cscope rfl (by decide +kernel)) (cnames (N:=["net", "name", "door", "rules", "house", "gates"]) (sc:=defScope cK) rfl rfl (by decide +kernel)) (fq (by decide) (by decide)) (iterE K rfl (ai (ixE K rfl) (qv 4) ad (fun _ _=>rfl))) (fun _ _ _ _ _=>(tupE K rfl rfl (n:=2) (ao (aj (i:=0) (by show (["its", "others", "rules", "door"]:List Str).Nodup; decide +kernel) rfl lc) (ao (aj (i:=1) (by show (["its", "others", "rules", "door"]:List Str).Nodup; decide +kernel) rfl lc) aM)))) (fun _ _ _ _ _=>bd) (fun _ _ _ _ _=>(ay (aa (qv 0) (aa (m9 (aB bn (qv 0) (qv 3)) (qv 2) (qv 1)) ae)))))
   (ah (ax (am (gE T) hr.m rfl (aa (qv 0) (aa (qv 1) (aa (ay (aa (qv 5) (aa (ai (ixE K rfl) (qv 4) ad (fun _ _=>rfl)) ae))) ae)))))))),?_⟩
 rename_i t n d rp;obtain ⟨d,rfl⟩:∃ x,d=st x:=⟨_,(bf d).symm⟩;obtain ⟨N,h,rs,hN,hn,hc,hcl,eh,hg,hR,q⟩:=h;simp only [az] at q;walk_at "rd";refine ⟨N,hN,hc,hcl,fun h' eh' q1 H1 s1 hH=>?_,fun e=>by rw [eh] at e; cases e⟩;rw [eh] at eh';cases eh';walk_at "rd";obtain ⟨ga,wa,e1,⟨gv,eg,pg⟩,hW⟩:=id hH;have hl:=pg.length;obtain ⟨z1,z2⟩:=aF pg;refine ⟨_,V.ref ga,.inr (SqT.of e1),rfl,?_⟩;walk_at "rd";refine .inl ⟨⟨_,SqL.of eg⟩,fun D hD=>?_⟩;refine bR (item:=fun x:Gate × V=>x.2) (h.1.zip gv) (fun _=>true) (fun x v H'=>Ex2 fun t r'=>v=.ref t/\H' t=some (.tup [tx x.1.1,.ref r'])/\Rules H1 r' (if x.1.1=d then rs else x.1.2)) hD (by rw [z1]; exact SqL.of eg) (by rw [List.length_zip]; lia) ?_ ?_ ?_
 ·rintro x v H2 H3 acc hd k ⟨t',q',e,h1,h2⟩;exact ⟨t',q',e,k _ _ (fun z=>by rw [z,hd] at h1; cases h1) h1,h2⟩
 ·intro x H2 out non hx s2 ho _;obtain ⟨t',r',ex,et',hRr⟩:=z2 x hx;rw [ex];refine ⟨t',[_,_],rfl,SqT.of (s2 _ _ et'),rfl,_,[_],rfl,_,[],rfl,rfl,?_⟩;walk_at "rd";refine ite2 (fun g=>⟨by decide,fun p hp=>ho _ _ rfl (af hp _) ⟨p,rp,rfl,ab,?_⟩⟩) fun g=>⟨by decide,fun p hp=>ho _ _ rfl (af hp _) ⟨p,r',rfl,ab,?_⟩⟩
  ·rw [if_pos g]; exact hR.same s1
  ·rw [if_neg g]; exact hRr
 ·intro H2 vs s2 e2 p2;rw [List.filter_eq_self.mpr fun _ _=>rfl] at p2;have s12:=s1.trans s2;walk_at "rd";refine ⟨_,V.ref wa,.inr (SqT.of (s2 _ _ e1)),rfl,by decide,fun hp hhp=>?_⟩;have s3:=af hhp (.tup [V.ref D,V.ref wa]);have s23:=s2.trans s3;refine ⟨N,(putG h.1 d rs,h.2),hN.same (s1.trans s23),hn,⟨D,wa,ab,⟨vs,s3 _ _ e2,?_⟩,hW.same s23⟩,fun q' H4 hq' s4 hN4=>q q' H4 ((s12.trans s3).free hq') ((s12.trans s3).trans s4) hN4⟩;have e3:putG h.1 d rs=(h.1.zip gv).map fun x=>(x.1.1,if x.1.1=d then rs else x.1.2):=by
   unfold putG
   conv=>lhs; rw [<- bj (l:=h.1) (m:=gv) hl,List.map_map]
   rfl
  show Paired (GateAt _) (putG h.1 d rs) vs;rw [e3];exact aS (L2.Paired.mapP p2 fun _ _ ⟨t',q'',e,h1,h2⟩=>⟨t',q'',e,s3 _ _ h1,h2.same s23⟩)
@[elab_as_elim]
theorem lS {G:Hp} {ca:Addr} {motive:Hp->Prop} (H:Hp) (o:HO) (s:Same G H) (h:G ca=none) (k:∀ H',Same G H'->H' ca=some o->motive H'):motive (upd H ca o):=k _ (aG s h) ab
@[elab_as_elim]
theorem rz {p:Addr} {motive:Hp->Prop} (H:Hp) (o:HO) (h:H p=none) (k:∀ H',Same H H'->H' p=some o->motive H'):motive (upd H p o):=k _ (af h o) ab
theorem nu {H:Hp}:∀ {hs:List Named} {vs:List V},Paired (NamedAt H) hs vs->∃ kvs:List (Key × V),kvs.map (·.1)=hs.map (fun x=>Sum.inr (st x.1))/\Paired (fun (kv:Key × V) v=>∃ t,v=.ref t/\H t=some (.tup [kV kv.1,kv.2])) kvs vs
 | _,_,.nil=>⟨[],rfl,.nil⟩
 | x::hs,v::vs,.cons r p=>by
  obtain ⟨kvs,h1,h2⟩:=nu p;obtain ⟨t,q,e,et,_⟩:=r;exact ⟨(.inr (st x.1),.ref q)::kvs,by rw [List.map_cons,List.map_cons,h1],.cons ⟨t,e,et⟩ h2⟩
noncomputable abbrev clsC (K:Frag):Addr:=xA K "Crowd"
noncomputable def dg (K:Frag):Sp:=av fun ca=>av fun p=>av fun g=>jR fun b=>aE fun H Q _=>Ex3 fun (G:Hp) (dx:Addr) (N:Net)=>Same G H/\G ca=none/\H ca=some (.ins (clsC K) dx [])/\NetAt G p N/\N.2.1.length<=100/\(N.2.1.map (·.1)).Nodup/\N.2.2.length<=500/\(endsOf N.2.2).Nodup/\∀ H' fs,Same G H'->H' ca=some (.ins (clsC K) dx fs)->fs.lookup (Str.ofString "gates")=some (V.ref g)->Q .non H'
theorem fU (T:Top K mg):KCalD P w K mg base 2 "Crowd" ["self", "net", "gates", "by_rules"] [Value.bool false] (dg K):=by
 refine T.gF.cal kj (by unfold dg; exact LenSp.h) (fun _ _ _ _ _ _ _ us hl=>(fun (hl:us.length=3)=>match us,hl with | [_,_,_],_=>⟨_,rfl,rfl⟩) (by simpa using hl)) (fun f cdv A outer s H vs Q E hr h=>?_);unfold dg at h;walk_at "el";refine ⟨_,(ag (dQ (qv 0) (ai (ixE K rfl) (qv 1) ad (fun _ _=>rfl)) rfl)
   (ag (dQ (qv 0) (bP (nv rfl) rfl T.su sP (aa (ai (ixE K rfl) (qv 1) ad (fun _ _=>rfl)) ae)) rfl)
   (ag (dQ (qv 0) (am (kz T) hr.m rfl (aa (qv 1) ae)) rfl)
   (ag (dQ (qv 0) (qv 2) rfl)
   (ag (dQ (qv 0) (qv 3) rfl)
   (ag (dQ (qv 0) mW rfl)
   (ah (dQ (qv 0) mW rfl)))))))),?_⟩
 rename_i ca p g b;obtain ⟨G,dx,N,sG,hca,ec,hN,h1,h2,h3,hne,q⟩:=h;obtain ⟨la,ha,ca2,et,hL,⟨hv,eh,ph⟩,hC⟩:=id hN;walk_at "rd";refine ⟨_,V.ref la,.inr (SqT.of (sG _ _ et)),rfl,ca,_,dx,[],rfl,ec,T.c_Crowd.c,T.a_Crowd_layout,by decide,?_⟩;refine lS H _ sG hca fun H1 s1 e1=>?_
 refine ⟨_,V.ref ha,.inr (SqT.of (s1 _ _ et)),rfl,?_⟩;obtain ⟨kvs,k1,k2⟩:=nu ph;have kl:=k2.length;have hl:=ph.length;refine ⟨hv,kvs,s1 _ _ eh,by lia,?_,Paired.mapP k2 fun _ _ ⟨t,e,z⟩=>⟨t,e,s1 _ _ z⟩,fun d hd=>?_⟩
 ·rw [k1];refine List.pairwise_map.mpr ((List.pairwise_map.mp h2).imp fun {a b} z e=>z ?_);have:st a.1=st b.1:=by injection e
  exact km.mp this
 refine rz H1 _ hd fun H2 s12 _=>?_
 have s2:=s1.trans s12;have e2:=s12 _ _ e1;refine ⟨ca,_,dx,_,rfl,e2,T.c_Crowd.c,T.a_Crowd_houses,by show 1 < 1000; decide,?_⟩;refine lS H2 _ s2 hca fun H3 s3 e3=>?_
 refine ⟨N,hN.same s3,h3,hne,fun d2 H4 _ s4 _=>?_⟩;have s04:=s3.trans s4;have e4:=s4 _ _ e3;clear s3 s4;refine ⟨ca,_,dx,_,rfl,e4,T.c_Crowd.c,T.a_Crowd_ends,by show 2 < 1000; decide,?_⟩;refine lS H4 _ s04 hca fun H5 s5 e5=>⟨ca,_,dx,_,rfl,e5,T.c_Crowd.c,T.a_Crowd_gates,by show 3 < 1000; decide,?_⟩
 refine lS H5 _ s5 hca fun H6 s6 e6=>⟨ca,_,dx,_,rfl,e6,T.c_Crowd.c,T.a_Crowd_by_rules,by show 4 < 1000; decide,?_⟩
 refine lS H6 _ s6 hca fun H7 s7 e7 d5 hd5=>?_
 refine rz H7 _ hd5 fun H8 s8 _=>⟨ca,_,dx,_,rfl,s8 _ _ e7,T.c_Crowd.c,T.a_Crowd_shares,by show 5 < 1000; decide,?_⟩
 refine lS H8 _ (s7.trans s8) hca fun H9 s9 e9 d6 hd6=>?_
 refine rz H9 _ hd6 fun H10 s10 _=>⟨ca,_,dx,_,rfl,s10 _ _ e9,T.c_Crowd.c,T.a_Crowd_known,by show 6 < 1000; decide,q _ _ (aG (s9.trans s10) hca) ab rfl⟩
noncomputable abbrev clsP (K:Frag):Addr:=xA K "Keeper"
noncomputable def stayB (kp x:Addr):HO->Bool
 | .lst _=>true
 | .tup _=>true
 | .frz _ (.lst _)=>true
 | .ins _ _ _=>decide (x≠kp)
 | _=>false
noncomputable def imm (kp:Addr) (H:Hp):Hp:=fun x=>(H x).filter (stayB kp x)
theorem bm {kp x:Addr} {H:Hp} {o:HO} (e:H x=some o) (h:stayB kp x o=true):imm kp H x=some o:=by
 unfold imm;rw [e,Option.filter_some,if_pos h]
theorem rB {kp x:Addr} {H:Hp} {o:HO} (e:imm kp H x=some o):H x=some o/\stayB kp x o=true:=by
 unfold imm at e;exact Option.filter_eq_some_iff.mp e
theorem mT {kp:Addr} {H:Hp}:Same (imm kp H) H:=fun _ _ e=>(rB e).1
theorem x3 {kp:Addr} {H H':Hp} (s:Same (imm kp H) H'):Same (imm kp H) (imm kp H'):=fun x o e=>bm (s x o e) (rB e).2
theorem aP {kp:Addr} {H H' H'':Hp} (s:Same (imm kp H) H') (s':Same (imm kp H') H''):Same (imm kp H) H'':=(x3 s).trans s'
theorem iV {kp:Addr} {H H':Hp} (s:Same H H'):Same (imm kp H) H':=mT.trans s
theorem dw {kp a:Addr} {H:Hp} {o o':HO} (e:H a=some o) (h:stayB kp a o=false):Same (imm kp H) (upd H a o'):=fun x u q=>by
 obtain ⟨q1,q2⟩:=rB q;have n:x≠a:=fun z=>by rw [z,e] at q1; cases q1; rw [z,h] at q2; cases q2
 rw [au n];exact q1
theorem NetAt.imm {kp q:Addr} {H:Hp} {N:Net} (h:NetAt H q N):NetAt (imm kp H) q N:=by
 have kt:∀ t ts,H t=some (.tup ts)->Law.imm kp H t=some (.tup ts):=fun t ts e=>bm e rfl
 have kl:∀ t ts,H t=some (.lst ts)->Law.imm kp H t=some (.lst ts):=fun t ts e=>bm e rfl
 obtain ⟨a,b,c,e,⟨lv,el,pl⟩,⟨hv,eh,ph⟩,⟨cv,ec,pc⟩⟩:=h;refine ⟨a,b,c,kt _ _ e,⟨lv,kl _ _ el,cb kt pl⟩,⟨hv,kl _ _ eh,L2.Paired.mapP ph ?_⟩,⟨cv,kl _ _ ec,L2.Paired.mapP pc fun _ _ y=>bi kt y⟩⟩;rintro x v ⟨t,q',e1,e2,⟨g,w,e3,⟨gv,eg,pg⟩,⟨wv,ew,pw⟩⟩⟩;refine ⟨t,q',e1,kt _ _ e2,⟨g,w,kt _ _ e3,⟨gv,kl _ _ eg,L2.Paired.mapP pg ?_⟩,⟨wv,kl _ _ ew,aD kt pw⟩⟩⟩;rintro y u ⟨t2,r,e4,e5,⟨rv,er,pr⟩⟩;exact ⟨t2,r,e4,kt _ _ e5,⟨rv,kl _ _ er,aI kt pr⟩⟩
theorem SqL.imm {kp a:Addr} {H:Hp} {xs:List V} (h:SqL K H a xs):SqL K (imm kp H) a xs:=by
 rcases h with (h | ⟨o,h⟩) | h
 ·exact .inl (.inl (bm h rfl))
 ·exact .inl (.inr ⟨o,bm h rfl⟩)
 ·exact .inr h
noncomputable abbrev kFs (n cr st fa:Addr):List (Str × V):=putF "fallen" (.ref fa) (putF "standing" (.ref st) (putF "crowd" (.ref cr) (putF "net" (.ref n) [])))
structure KeepO (K:Frag) (H:Hp) (kp dx n cr cdx g st fa:Addr) (cfs:List (Str × V)) (sk fk:List (List Key × V)):Prop where
 self:H kp=some (.ins (clsP K) dx (kFs n cr st fa))
 crowd:H cr=some (.ins (clsC K) cdx cfs)
 gates:cfs.lookup (Str.ofString "gates")=some (V.ref g)
 emp:H g=some (.dK [])
 stand:H st=some (.dT sk)
 fall:H fa=some (.dT fk)
 ne:st≠fa
 nk:cr≠kp
 sv:∀ k v,valV sk k=some v->∃ p,v=.ref p/\H p=some (.lst [])
 fv:∀ k,valV sk k≠none->Ex2 fun p u=>valV fk k=some (.ref p)/\H p=some (.lst [V.str u])
 sl:sk.length<=100
 fl:fk.length<=100
theorem qg {kvs:List (List Key × V)} {k:List Key} {v:V} (h:valV kvs k≠none):(putK kvs k v).length=kvs.length:=by
 unfold putK;rw [ie,Option.isSome_iff_ne_none.mpr h,if_pos rfl,List.length_map]
theorem bh {H:Hp} {a b:Addr} {o o' o'':HO} (e:H a=some o) (e':H b=some o') (n:o≠o'):upd H a o'' b=some o':=by
 rw [au (fun z=>n (by rw [z,e] at e'; exact Option.some.inj e'))];exact e'
section
variable {H:Hp} {kp dx n cr cdx g st fa:Addr} {cfs:List (Str × V)} {sk fk:List (List Key × V)}
theorem KeepO.same {H':Hp} (B:KeepO K H kp dx n cr cdx g st fa cfs sk fk) (s:Same H H'):KeepO K H' kp dx n cr cdx g st fa cfs sk fk:=
 ⟨s _ _ B.self,s _ _ B.crowd,B.gates,s _ _ B.emp,s _ _ B.stand,s _ _ B.fall,B.ne,B.nk,fun k v h=>by
  obtain ⟨p,e,h'⟩:=B.sv k v h;exact ⟨p,e,s _ _ h'⟩,fun k h=>by
  obtain ⟨p,u,e,h'⟩:=B.fv k h;exact ⟨p,u,e,s _ _ h'⟩,B.sl,B.fl⟩
theorem KeepO.putFa (B:KeepO K H kp dx n cr cdx g st fa cfs sk fk) {k:List Key} {p:Addr} {u:Str} (h:valV fk k≠none) (e:H p=some (.lst [V.str u])):KeepO K (upd H fa (.dT (putK fk k (.ref p)))) kp dx n cr cdx g st fa cfs sk (putK fk k (.ref p)):=by
 have f:=B.fall;refine ⟨bh f B.self (fun z=>nomatch z),bh f B.crowd (fun z=>nomatch z),B.gates,bh f B.emp (fun z=>nomatch z),by rw [au B.ne]; exact B.stand,ab,B.ne,B.nk,fun k' v h'=>?_,fun k' h'=>?_,B.sl,by rw [qg h]; exact B.fl⟩
 ·obtain ⟨p',e1,e2⟩:=B.sv k' v h';exact ⟨p',e1,bh f e2 (fun z=>nomatch z)⟩
 ·rw [cW];by_cases z:k'=k
  ·exact ⟨p,u,if_pos z,bh f e (fun z=>nomatch z)⟩
  ·obtain ⟨p',u',e1,e2⟩:=B.fv k' h';exact ⟨p',u',by rw [if_neg z]; exact e1,bh f e2 (fun z=>nomatch z)⟩
theorem KeepO.putSt (B:KeepO K H kp dx n cr cdx g st fa cfs sk fk) {k:List Key} {p:Addr} (h:valV sk k≠none) (e:H p=some (.lst [])):KeepO K (upd H st (.dT (putK sk k (.ref p)))) kp dx n cr cdx g st fa cfs (putK sk k (.ref p)) fk:=by
 have f:=B.stand;refine ⟨bh f B.self (fun z=>nomatch z),bh f B.crowd (fun z=>nomatch z),B.gates,bh f B.emp (fun z=>nomatch z),ab,by rw [au (Ne.symm B.ne)]; exact B.fall,B.ne,B.nk,fun k' v h'=>?_,fun k' h'=>?_,by rw [qg h]; exact B.sl,B.fl⟩
 ·rw [cW] at h';by_cases z:k'=k
  ·rw [if_pos z] at h';exact ⟨p,(Option.some.inj h').symm,bh f e (fun z=>nomatch z)⟩
  ·rw [if_neg z] at h';obtain ⟨p',e1,e2⟩:=B.sv k' v h';exact ⟨p',e1,bh f e2 (fun z=>nomatch z)⟩
 ·have:valV sk k'≠none:=fun z=>h' (by
   rw [cW];by_cases y:k'=k
   ·exact absurd (y ▸ z) h
   ·rw [if_neg y]; exact z)
  obtain ⟨p',u',e1,e2⟩:=B.fv k' this;exact ⟨p',u',e1,bh f e2 (fun z=>nomatch z)⟩
end
noncomputable def dJ (K:Frag):Sp:=av fun kp=>av fun n'=>av fun _=>aE fun H Q _=>Ex7 fun (dx n cr cdx g st fa:Addr)=>Ex4 fun (cfs:List (Str × V)) (sk fk:List (List Key × V)) (N:Net)=>KeepO K H kp dx n cr cdx g st fa cfs sk fk/\NetAt H n' N/\N.2.1.length<=100/\(N.2.1.map (·.1)).Nodup/\N.2.2.length<=500/\(endsOf N.2.2).Nodup /\
   ∀ (H':Hp) (cr' cdx' g':Addr) (cfs':List (Str × V)) (sk' fk':List (List Key × V)),Same (imm kp H) H'->KeepO K H' kp dx n' cr' cdx' g' st fa cfs' sk' fk'->Q .non H'
theorem cE (T:Top K mg):MCal P w K mg base 4 "Keeper" "change" ["self", "net", "houses"] (dJ K):=by
 refine T.ij.cal cD (by unfold dJ; exact LenSp.h) (fun _ _ _ _ _ _ us hl=>match us,hl with | [_,_,_],_=>rfl) (fun f cdv A outer s H vs Q E hr h=>?_);unfold dJ at h;walk_at "el";refine ⟨_,(ag (dQ (qv 0) (qv 1) rfl)
   (ag (aq (i:=3) cD.nd rfl lc (bE (bE (qv 0) rfl) rfl))
   (ag (dQ (qv 0) (ut (dvs:=[V.bl false]) T.c_Crowd (fU T) (.cons rfl .nil) hr.m rfl (aa (qv 1) (aa (bP (nv rfl) rfl T.su sP (aa (aJ (nt:=1) (fi:=[3,2]) (N':=["spot", "gates", "houses"]) rfl (cscope rfl (by decide +kernel)) (cnames (N:=["self", "net", "houses", "gates", "spot", "classes"]) (sc:=defScope aV) rfl rfl (by decide +kernel)) (aQ (by decide)) (wu (yX (qv 3))) (fun _ _ _ _ _=>(aj (i:=0) (by show (["spot", "gates", "houses"]:List Str).Nodup; decide +kernel) rfl lc)) (fun _ _ _ _ _=>(cN (aB (notinE K rfl) (ai (ixE K rfl) (qv 0) ad (fun _ _=>rfl)) (qv 2)))) (fun _ _ _ _ _=>(ay (aa (qv 0) (aa (pE (jS hr) (qv 1) (qv 0) (fun _ _=>rfl)) ae))))) ae)) ae))) rfl)
   (ah (bw PassesOwn.never rfl (iterE K rfl (bP (sn rfl) rfl T.eU dz (aa (bE (qv 0) rfl) ae))) (aj (i:=4) cD.nd rfl lc) (ag (aq (i:=5) cD.nd rfl lc (pE (jS hr) (bE (qv 0) rfl) (qv 4) (fun _ _=>rfl)))
   (ag (jC (jS hr) (bE (qv 0) rfl) (qv 4) (al ak (pE (jS hr) (bE (qv 0) rfl) (qv 4) (fun _ _=>rfl)) (aJ (nt:=3) (fi:=[2]) (N':=["row", "end", "met", "houses"]) rfl (cscope rfl (by decide +kernel)) (cnames (N:=["self", "net", "houses", "gates", "spot", "classes"]) (sc:=defScope aV) rfl rfl (by decide +kernel)) (vY (by decide) (by decide) (by decide)) (iterE K rfl (qv 5)) (fun _ _ _ _ _=>(tupE K rfl rfl (n:=3) (ao (aj (i:=0) (by show (["row", "end", "met", "houses"]:List Str).Nodup; decide +kernel) rfl lc) (ao (aj (i:=1) (by show (["row", "end", "met", "houses"]:List Str).Nodup; decide +kernel) rfl lc) (ao (aj (i:=2) (by show (["row", "end", "met", "houses"]:List Str).Nodup; decide +kernel) rfl lc) aM))))) (fun _ _ _ _ _=>(cN (eE xL))) (fun _ _ _ _ _=>(qv 0)))))
   (ah (jC (jS hr) (bE (qv 0) rfl) (qv 4) (aJ (nt:=1) (fi:=[2]) (N':=["one", "houses"]) rfl (cscope rfl (by decide +kernel)) (cnames (N:=["self", "net", "houses", "gates", "spot", "classes"]) (sc:=defScope aV) rfl rfl (by decide +kernel)) (aQ (by decide)) (iterE K rfl (qv 5)) (fun _ _ _ _ _=>(aj (i:=0) (by show (["one", "houses"]:List Str).Nodup; decide +kernel) rfl lc)) (fun _ _ _ _ _=>(cN (ix (eE xL)))) (fun _ _ _ _ _=>(qv 0)))))))))))),?_⟩
 rename_i kp n' hl;obtain ⟨dx,n,cr,cdx,g,st,fa,cfs,sk,fk,N,A,hN,h1,h2,h3,h4,q⟩:=h;walk_at "rd";refine ⟨kp,_,dx,_,rfl,A.self,T.c_Keeper.c,T.a_Keeper_net,by show 4 < 1000; decide,?_⟩;have e1:upd H kp (.ins (clsP K) dx (putF (Str.ofString "net") (V.ref n') (kFs n cr st fa))) kp=some (.ins (clsP K) dx (kFs n' cr st fa)):=ab;have s1:=dw (kp:=kp) (o':=.ins (clsP K) dx (putF (Str.ofString "net") (V.ref n') (kFs n cr st fa))) A.self (by simp [stayB]);have g1:=bh (o'':=.ins (clsP K) dx (putF (Str.ofString "net") (V.ref n') (kFs n cr st fa))) A.self A.emp (fun z=>nomatch z);have t1:=bh (o'':=.ins (clsP K) dx (putF (Str.ofString "net") (V.ref n') (kFs n cr st fa))) A.self A.stand (fun z=>nomatch z);have f1:=bh (o'':=.ins (clsP K) dx (putF (Str.ofString "net") (V.ref n') (kFs n cr st fa))) A.self A.fall (fun z=>nomatch z);generalize upd H kp (.ins (clsP K) dx (putF (Str.ofString "net") (V.ref n') (kFs n cr st fa)))=H1 at e1 s1 g1 t1 f1 ⊢;have c1:=s1 _ _ (bm A.crowd (by simp [stayB,A.nk]));refine ⟨kp,_,dx,_,_,rfl,e1,T.c_Keeper.c,T.a_Keeper_crowd,rfl,cr,_,cdx,cfs,_,rfl,c1,T.c_Crowd.c,T.a_Crowd_gates,A.gates,[],g1,fun ob=>⟨ob,ab,fun D hD=>?_⟩⟩;have e2:=bh (o'':=.frz ob (.dK [])) g1 e1 (fun z=>nomatch z);have t2:=bh (o'':=.frz ob (.dK [])) g1 t1 (fun z=>nomatch z);have f2:=bh (o'':=.frz ob (.dK [])) g1 f1 (fun z=>nomatch z);have s2:=aP s1 (dw (kp:=kp) (o':=.frz ob (.dK [])) g1 rfl);have z2:upd H1 g (.frz ob (.dK [])) g=some (.frz ob (.dK [])):=ab;generalize upd H1 g (.frz ob (.dK []))=H2 at e2 t2 f2 s2 z2 hD ⊢;refine vh (J:=Ito g ob) ([]:List V) (fun _=>true) (fun _ _ _=>True) hD (by simp) (fun i _ hi=>by simp at hi) (fun H3 s=>⟨s _ _ z2,rfl⟩) (fun i _ _ _ hi=>by simp at hi) (fun _ _ _ _ _ _ _ _=>trivial) (fun i x _ _ _ _ _ hx=>by simp at hx) fun H3 vs s3 e3 p3=>?_
 cases p3;refine ⟨[],[],e3,by simp,by simp,.nil,fun d hd=>?_⟩;have s4:=s3.trans (af hd (.dK []));have d4:upd H3 d (.dK []) d=some (.dK []):=ab;generalize upd H3 d (.dK [])=H4 at s4 d4 ⊢;intro x xd hx hxd nx;have k5:Same H4 (upd (upd H4 xd (.own x)) x (.ins (clsC K) xd [])):=(af hxd _).trans (af (by rw [au (Ne.symm nx)]; exact hx) _);have s04:=s2.trans s4;refine ⟨H4,xd,N,k5,hx,ab,(NetAt.imm hN).same s04,h1,h2,h3,h4,fun H5 fs s5 e5 eg5=>⟨rfl,?_⟩⟩;have s05:=s04.trans s5;have s25:=s4.trans s5;have e5k:=s25 _ _ e2;have nxk:x≠kp:=fun z=>by rw [z,s4 _ _ e2] at hx; cases hx
 refine ⟨kp,_,dx,_,rfl,e5k,T.c_Keeper.c,T.a_Keeper_crowd,by show 4 < 1000; decide,?_⟩;have e6:upd H5 kp (.ins (clsP K) dx (putF (Str.ofString "crowd") (V.ref x) (kFs n' cr st fa))) kp=some (.ins (clsP K) dx (kFs n' x st fa)):=ab;have s6:=aP s05 (dw (kp:=kp) (o':=.ins (clsP K) dx (putF (Str.ofString "crowd") (V.ref x) (kFs n' cr st fa))) e5k (by simp [stayB]));have c6:upd H5 kp (.ins (clsP K) dx (putF (Str.ofString "crowd") (V.ref x) (kFs n' cr st fa))) x=some (.ins (clsC K) xd fs):=by rw [au nxk]; exact e5
 have d6:=bh (o'':=.ins (clsP K) dx (putF (Str.ofString "crowd") (V.ref x) (kFs n' cr st fa))) e5k (s5 _ _ d4) (fun z=>nomatch z);have t6:=bh (o'':=.ins (clsP K) dx (putF (Str.ofString "crowd") (V.ref x) (kFs n' cr st fa))) e5k (s25 _ _ t2) (fun z=>nomatch z);have f6:=bh (o'':=.ins (clsP K) dx (putF (Str.ofString "crowd") (V.ref x) (kFs n' cr st fa))) e5k (s25 _ _ f2) (fun z=>nomatch z);generalize upd H5 kp (.ins (clsP K) dx (putF (Str.ofString "crowd") (V.ref x) (kFs n' cr st fa)))=H6 at e6 s6 c6 d6 t6 f6 ⊢;refine ⟨kp,_,dx,_,_,rfl,e6,T.c_Keeper.c,T.a_Keeper_standing,rfl,?_⟩;walk_at "rd";refine ⟨sk,t6,fun p vs hp pv=>.inl ⟨⟨_,SqL.of ab⟩,?_⟩⟩;have k7:=af hp (.lst vs);have B7:KeepO K (upd H6 p (.lst vs)) kp dx n' x xd d st fa fs sk fk:=⟨k7 _ _ e6,k7 _ _ c6,eg5,k7 _ _ d6,k7 _ _ t6,k7 _ _ f6,A.ne,nxk,fun k v h=>by
  obtain ⟨p',e,h'⟩:=A.sv k v h;exact ⟨p',e,k7 _ _ (s6 _ _ (bm h' rfl))⟩,fun k h=>by
  obtain ⟨p',u,e,h'⟩:=A.fv k h;exact ⟨p',u,e,k7 _ _ (s6 _ _ (bm h' rfl))⟩,A.sl,A.fl⟩
 have s7:=s6.trans k7;have e7:upd H6 p (.lst vs) p=some (.lst vs):=ab;have pv7:Paired (fun (kv:List Key × V) v=>∃ b,v=.ref b/\upd H6 p (.lst vs) b=some (.tup (kv.1.map kV))) sk vs:=L2.Paired.mapP pv fun _ _ ⟨b,h1,h2⟩=>⟨b,h1,k7 _ _ h2⟩
 generalize upd H6 p (.lst vs)=H7 at B7 s7 e7 pv7 ⊢;have lv:=pv7.length;refine aN (xs:=vs) (fun j σ H'=>Ex4 fun (sk' fk':List (List Key × V)) (u4 u5:Option V)=>σ = [some (.ref kp),some (.ref n'),some (.ref hl),some (.ref g),u4,u5]/\KeepO K H' kp dx n' x xd d st fa fs sk' fk'/\Same (imm kp H7) H'/\∀ k,valV sk k≠none->valV sk' k≠none) ⟨sk,fk,none,none,rfl,B7,mT,fun _ h=>h⟩ (fun j σ H' _ ⟨_,_,_,_,_,_,z,_⟩=>SqL.of (z _ _ (bm e7 rfl))) ?_ ?_
 ·rintro j y σ H8 hy ⟨sk',fk',u4,u5,rfl,B,s8,hk⟩;have hj:j < vs.length:=(List.getElem?_eq_some_iff.mp hy).1;obtain ⟨v,hv,b,rfl,eb⟩:=aA pv7 (List.getElem?_eq_getElem (show j < sk.length by lia));obtain rfl:y=.ref b:=by rw [hv] at hy; exact (Option.some.inj hy).symm
  have eb8:=s8 _ _ (bm (kp:=kp) eb rfl);have hin:valV sk' sk[j].1≠none:=hk _ fun z=>vL z (List.mem_map.mpr ⟨_,List.getElem_mem (show j < sk.length by lia),rfl⟩)
  generalize sk[j].1=k at eb8 hin;obtain ⟨v1,ev1⟩:=Option.ne_none_iff_exists'.mp hin;obtain ⟨p1,rfl,ep1⟩:=B.sv k v1 ev1;obtain ⟨p2,u,ev2,ep2⟩:=B.fv k hin;walk_at "rd";refine ⟨kp,_,dx,_,_,rfl,B.self,T.c_Keeper.c,T.a_Keeper_standing,rfl,V.ref p1,ev1 ▸ DGet.t B.stand eb8,kp,_,dx,_,_,rfl,B.self,T.c_Keeper.c,T.a_Keeper_fallen,rfl,V.ref p2,ev2 ▸ DGet.t B.fall eb8,.inl ⟨⟨_,SqL.of ep1⟩,fun D hD=>?_⟩⟩;refine bU (item:=fun x:V=>x) (xs:=[]) (h:=fun _=>[]) hD (SqL.of ep1) (by simp) (fun _=>by simp) (fun x H6 out non hx=>by cases hx) fun H9 s9 e9=>?_
  have e9:H9 D=some (.lst []):=e9;walk_at "rd";refine ⟨_,_,s9 _ _ ep2,e9,Nat.le_of_lt (sizeBig (by simp)),fun p3 hp3=>?_⟩;have k10:=s9.trans (af hp3 (.lst ([V.str u]++[])));have B10:=B.same k10;have e10:upd H9 p3 (.lst ([V.str u]++[])) p3=some (.lst [V.str u]):=ab;generalize upd H9 p3 (.lst ([V.str u]++[]))=H10 at k10 B10 e10 ⊢;have b10:=k10 _ _ eb8;have hf:valV fk' k≠none:=by rw [ev2]; exact fun z=>nomatch z
  refine ⟨kp,_,dx,_,_,rfl,B10.self,T.c_Keeper.c,T.a_Keeper_fallen,rfl,_,DPut.t (k:=k) B10.fall b10 (sizeBig (by have:=B10.fl; lia)),?_⟩;have B11:=B10.putFa hf e10;have s11:=dw (kp:=kp) (o':=.dT (putK fk' k (.ref p3))) B10.fall rfl;have b11:=s11 _ _ (bm b10 rfl);have p11:=s11 _ _ (bm (k10 _ _ ep1) rfl);generalize upd H10 fa (.dT (putK fk' k (.ref p3)))=H11 at B11 s11 b11 p11 ⊢;refine .inl ⟨⟨_,SqL.of p11⟩,fun D2 hD2=>?_⟩;refine bU (item:=fun x:V=>x) (xs:=[]) (h:=fun _=>[]) hD2 (SqL.of p11) (by simp) (fun _=>by simp) (fun x H6 out non hx=>by cases hx) fun H12 s12 e12=>?_
  have e12:H12 D2=some (.lst []):=e12;have B12:=B11.same s12;refine ⟨kp,_,dx,_,_,rfl,B12.self,T.c_Keeper.c,T.a_Keeper_standing,rfl,_,DPut.t (k:=k) B12.stand (s12 _ _ b11) (sizeBig (by have:=B12.sl; lia)),_,_,_,_,rfl,B12.putSt hin e12,?_,fun k' h'=>?_⟩
  ·exact aP (aP s8 (iV k10)) (aP s11 (aP (iV s12) (dw B12.stand rfl)))
  ·rw [cW];split
   ·exact fun z=>nomatch z
   ·exact hk k' h'
 ·rintro σ H8 ⟨sk',fk',u4,u5,rfl,B,s8,hk⟩;exact q H8 x xd d fs sk' fk' (aP s7 s8) B
def KeepAt (K:Frag) (H:Hp) (kp:Addr) (N:Net):Prop:=Ex7 fun (dx n cr cdx g st fa:Addr)=>Ex3 fun (cfs:List (Str × V)) (sk fk:List (List Key × V))=>KeepO K H kp dx n cr cdx g st fa cfs sk fk/\NetAt H n N
theorem KeepAt.same {H H':Hp} {kp:Addr} {N:Net} (h:KeepAt K H kp N) (s:Same H H'):KeepAt K H' kp N:=by
 obtain ⟨dx,n,cr,cdx,g,st,fa,cfs,sk,fk,B,hN⟩:=h;exact ⟨dx,n,cr,cdx,g,st,fa,cfs,sk,fk,B.same s,hN.same s⟩
def KNet (K:Frag) (H:Hp) (kp:Addr) (N:Net):Prop:=Ex5 fun dx n cr st fa=>H kp=some (.ins (clsP K) dx (kFs n cr st fa))/\NetAt H n N
theorem KeepAt.net {H:Hp} {kp:Addr} {N:Net} (h:KeepAt K H kp N):KNet K H kp N:=by
 obtain ⟨dx,n,cr,cdx,g,st,fa,cfs,sk,fk,B,hN⟩:=h;exact ⟨dx,n,cr,st,fa,B.self,hN⟩
structure NOk (N:Net):Prop where
 h:N.2.1.length<=100
 nd:(N.2.1.map (·.1)).Nodup
 l:N.2.2.length<=500
 e:(endsOf N.2.2).Nodup
def NameOk (n:Str):Prop:=(∀ c ∈ n.cps.toList,c < 16 ^ 8)/\n.cps.toList.length<=1000
def Done (K:Frag) (H:Hp) (kp:Addr) (N:Net) (Q:VK):Prop:=∀ H',Same (imm kp H) H'->KeepAt K H' kp N->Q .non H'
theorem Done.up {H H':Hp} {kp:Addr} {N:Net} {Q:VK} (d:Done K H kp N Q) (s:Same H H'):Done K H' kp N Q:=fun H'' s' k=>d H'' (aP (iV s) s') k
noncomputable def df (K:Frag):Sp:=av fun kp=>aE fun H Q _=>∃ N:Net,KNet K H kp N/\NetB N/\∀ (q' a b c:Addr) (H':Hp),H q'=none->Same H H'->NetC (fun r=>H r=none) H' q' a b c N->Q (.ref q') H'
theorem bQ (T:Top K mg):MCal P w K mg base 3 "Keeper" "net_now" ["self"] (df K):=by
 refine T.gH.cal kb (by unfold df; exact LenSp.h) (fun _ _ _ _ _ _ us hl=>match us,hl with | [_],_=>rfl) (fun f cdv A outer s H vs Q E hr h=>?_);unfold df at h;walk_at "el";refine ⟨_,(ah (ax (am (jL T) hr.m rfl (aa (bE (qv 0) rfl) ae)))),?_⟩;rename_i kp;obtain ⟨N,⟨dx,n,cr,st,fa,es,hN⟩,nb,q⟩:=h;walk_at "rd";exact ⟨kp,_,dx,_,_,rfl,es,T.c_Keeper.c,T.a_Keeper_net,rfl,N,hN,nb,q⟩
noncomputable def cT (K:Frag):Sp:=av fun kp=>aZ fun h=>aZ fun d=>aE fun H Q _=>Ex3 fun (N:Net) (hs:House) (rs:List Rule)=>KNet K H kp N/\NameOk h/\NameOk d/\houseOf N.2.1 h.cps.toList=some hs/\gateOf hs.1 d.cps.toList=some rs/\∀ p H',Same H H'->Rules H' p rs->Q (.ref p) H'
theorem eZ (T:Top K mg):MCal P w K mg base 2 "Keeper" "rules_at" ["self", "house", "door"] (cT K):=by
 refine T.gq.cal jI (by unfold cT; exact LenSp.h) (fun _ _ _ _ _ _ us hl=>match us,hl with | [_,_,_],_=>rfl) (fun f cdv A outer s H vs Q E hr h=>?_);unfold cT at h;walk_at "el";refine ⟨_,(ah (ax (am (gP T) hr.m rfl (aa (am (ck T) hr.m rfl (aa (bE (qv 0) rfl) (aa (qv 1) ae))) (aa (qv 2) ae))))),?_⟩;rename_i kp h d;obtain ⟨N,hs,rs,⟨dx,n,cr,st,fa,es,hN⟩,⟨h1,h2⟩,⟨h3,h4⟩,eh,eg,q⟩:=h;walk_at "rd";refine ⟨kp,_,dx,_,_,rfl,es,T.c_Keeper.c,T.a_Keeper_net,rfl,N,hN,h1,h2,fun h' eh' q1 H1 s1 hH=>?_,fun e=>by rw [eh] at e; cases e⟩;rw [eh] at eh';cases eh';walk_at "rd";refine ⟨hs,hH,h3,h4,fun rs' er p H2 s2 hR=>?_,fun e=>by rw [eg] at e; cases e⟩;rw [eg] at er;cases er;exact q p H2 (s1.trans s2) hR
noncomputable def cF (K:Frag):Sp:=av fun kp=>aZ fun h=>aZ fun d=>av fun rp=>aE fun H Q _=>Ex3 fun (N:Net) (hs:House) (rs:List Rule)=>KeepAt K H kp N/\NameOk h/\houseOf N.2.1 h.cps.toList=some hs/\hs.1.length<=100/\Rules H rp rs/\NOk N/\Done K H kp (N.1,putH N.2.1 h.cps.toList (putG hs.1 d.cps.toList rs,hs.2),N.2.2) Q
theorem sK {N:Net} (ok:NOk N) (n:List Nat) (h:House):NOk (N.1,putH N.2.1 n h,N.2.2):=
 ⟨by show (putH _ _ _).length<=100; unfold putH; rw [List.length_map]; exact ok.h,by show ((putH _ _ _).map (·.1)).Nodup; unfold putH; rw [List.map_map]; exact ok.nd,ok.l,ok.e⟩
theorem eo (T:Top K mg):MCal P w K mg base 5 "Keeper" "put_rules" ["self", "house", "door", "rules"] (cF K):=by
 refine T.fm.cal jp (by unfold cF; exact LenSp.h) (fun _ _ _ _ _ _ us hl=>match us,hl with | [_,_,_,_],_=>rfl) (fun f cdv A outer s H vs Q E hr h=>?_);unfold cF at h;walk_at "el";refine ⟨_,(ah (aw (b9 T.c_Keeper (cE T) hr.m (qv 0) (aa (am (kJ T) hr.m rfl (aa (bE (qv 0) rfl) (aa (qv 1) (aa (qv 2) (aa (qv 3) ae))))) (aa (aL (aa (qv 1) ae)) ae))))),?_⟩;rename_i kp h d rp;obtain ⟨N,hs,rs,⟨dx,n,cr,cdx,g,st,fa,cfs,sk,fk,B,hN⟩,⟨h1,h2⟩,eh,hg,hR,ok,q⟩:=h;walk_at "rd";refine ⟨kp,dx,_,rfl,B.self,rfl,kp,_,dx,_,_,rfl,B.self,T.c_Keeper.c,T.a_Keeper_net,rfl,N,hs,rs,hN,ok.h,h1,h2,eh,hg,hR,fun q1 H1 hq1 s1 hN1=>⟨by decide,fun p hp=>?_⟩⟩;have s2:=af hp (.lst [V.str h]);have ok':=sK ok h.cps.toList (putG hs.1 d.cps.toList rs,hs.2);exact ⟨dx,n,cr,cdx,g,st,fa,cfs,sk,fk,_,B.same (s1.trans s2),hN1.same s2,ok'.h,ok'.nd,ok'.l,ok'.e,fun H' cr' cdx' g' cfs' sk' fk' s3 B3=>q H' (aP (iV (s1.trans s2)) s3) ⟨dx,q1,cr',cdx',g',st,fa,cfs',sk',fk',B3,(NetAt.imm (hN1.same s2)).same s3⟩⟩
noncomputable def cS (K:Frag):Sp:=av fun kp=>aZ fun h=>av fun wp=>aE fun H Q _=>Ex3 fun (N:Net) (hs:House) (ws:List Way)=>KeepAt K H kp N/\NameOk h/\houseOf N.2.1 h.cps.toList=some hs/\Ways H wp ws/\NOk N/\Done K H kp (N.1,putH N.2.1 h.cps.toList (hs.1,ws),N.2.2) Q
theorem fe (T:Top K mg):MCal P w K mg base 5 "Keeper" "put_ways" ["self", "house", "ways"] (cS K):=by
 refine T.gr.cal ff (by unfold cS; exact LenSp.h) (fun _ _ _ _ _ _ us hl=>match us,hl with | [_,_,_],_=>rfl) (fun f cdv A outer s H vs Q E hr h=>?_);unfold cS at h;walk_at "el";refine ⟨_,(ag (aq (i:=3) ff.nd rfl lc (ai (ixE K rfl) (am (ck T) hr.m rfl (aa (bE (qv 0) rfl) (aa (qv 1) ae))) ad (fun _ _=>rfl)))
   (ah (aw (b9 T.c_Keeper (cE T) hr.m (qv 0) (aa (am (gE T) hr.m rfl (aa (bE (qv 0) rfl) (aa (qv 1) (aa (ay (aa (qv 3) (aa (qv 2) ae))) ae)))) (aa (aL (aa (qv 1) ae)) ae)))))),?_⟩
 rename_i kp h wp;obtain ⟨N,hs,ws,⟨dx,n,cr,cdx,g,st,fa,cfs,sk,fk,B,hN⟩,⟨h1,h2⟩,eh,hW,ok,q⟩:=h;walk_at "rd";refine ⟨kp,_,dx,_,_,rfl,B.self,T.c_Keeper.c,T.a_Keeper_net,rfl,N,hN,h1,h2,fun h' eh' q1 H1 s1 hH=>?_,fun e=>by rw [eh] at e; cases e⟩;rw [eh] at eh';cases eh';obtain ⟨ga,wa,e1,hG,_⟩:=hH;walk_at "rd";have B1:=B.same s1;refine ⟨_,V.ref ga,.inr (SqT.of e1),rfl,kp,dx,_,rfl,B1.self,rfl,kp,_,dx,_,_,rfl,B1.self,T.c_Keeper.c,T.a_Keeper_net,rfl,by decide,fun hp hhp=>?_⟩;have s2:=af hhp (.tup [V.ref ga,V.ref wp]);have s12:=s1.trans s2;refine ⟨N,(hs.1,ws),hN.same s12,ok.h,⟨ga,wp,ab,hG.same s2,hW.same s12⟩,fun q2 H2 hq2 s3 hN2=>⟨by decide,fun p hp=>?_⟩⟩;have s4:=af hp (.lst [V.str h]);have s14:=s12.trans (s3.trans s4);have ok':=sK ok h.cps.toList (hs.1,ws);exact ⟨dx,n,cr,cdx,g,st,fa,cfs,sk,fk,_,B.same s14,hN2.same s4,ok'.h,ok'.nd,ok'.l,ok'.e,fun H' cr' cdx' g' cfs' sk' fk' s5 B5=>q H' (aP (iV s14) s5) ⟨dx,q2,cr',cdx',g',st,fa,cfs',sk',fk',B5,(NetAt.imm (hN2.same s4)).same s5⟩⟩
mutual
noncomputable def gdD:D->Bool
 | .f (.str _)=>true
 | .f (.int _)=>true
 | .f _=>false
 | .l xs=>gdDs xs
 | .t xs=>gdDs xs
noncomputable def gdDs:List D->Bool
 | []=>true
 | x::xs=>gdD x && gdDs xs
end
mutual
theorem mN:∀ (d e:D),gdD d=true->gdD e=true->(eqD d e=true ↔ d=e)
 | .f x,.f y,h1,h2=>by
  cases x <;> cases y <;> simp_all [gdD,eqD,eqV]
 | .l xs,.l ys,h1,h2=>by
  rw [eqD,eqDs_iff xs ys (by rw [gdD] at h1; exact h1) (by rw [gdD] at h2; exact h2)];simp
 | .t xs,.t ys,h1,h2=>by
  rw [eqD,eqDs_iff xs ys (by rw [gdD] at h1; exact h1) (by rw [gdD] at h2; exact h2)];simp
 | .f _,.l _,_,_=>by simp [eqD]
 | .f _,.t _,_,_=>by simp [eqD]
 | .l _,.f _,_,_=>by simp [eqD]
 | .l _,.t _,_,_=>by simp [eqD]
 | .t _,.f _,_,_=>by simp [eqD]
 | .t _,.l _,_,_=>by simp [eqD]
theorem eqDs_iff:∀ (ds es:List D),gdDs ds=true->gdDs es=true->(eqDs ds es=true ↔ ds=es)
 | [],[],_,_=>by simp [eqDs]
 | [],_::_,_,_=>by simp [eqDs]
 | _::_,[],_,_=>by simp [eqDs]
 | x::xs,y::ys,h1,h2=>by
  rw [gdDs,Bool.and_eq_true] at h1 h2;rw [eqDs,Bool.and_eq_true,mN x y h1.1 h2.1,eqDs_iff xs ys h1.2 h2.2];simp
end
theorem fI {α:Type} {f:α -> D}:∀ l:List α,(∀ x ∈ l,gdD (f x)=true)->gdDs (l.map f)=true
 | [],_=>by simp [gdDs]
 | x::l,h=>by rw [List.map_cons,gdDs,h x List.mem_cons_self,fI l fun y hy=>h y (List.mem_cons_of_mem _ hy)]; rfl
theorem sJ {α β:Type} {f:α -> β} (inj:∀ x y,f x=f y->x=y):∀ {l m:List α},l.map f=m.map f->l=m
 | [],[],_=>rfl
 | [],_::_,h=>by simp at h
 | _::_,[],h=>by simp at h
 | x::l,y::m,h=>by
  rw [List.map_cons,List.map_cons,List.cons.injEq] at h;rw [inj x y h.1,sJ inj h.2]
theorem uA {a b:List Nat} (h:tx a=tx b):a=b:=by
 have:st a=st b:=by injection h
 exact km.mp this
noncomputable def layD (ls:List Fld):D:=.l (ls.map fldD)
noncomputable def lineD (x:Line):D:=.t [wayD x.1,wayD x.2]
noncomputable def linesD (ls:List Line):D:=.l (ls.map lineD)
theorem qE (x y:Way) (h:wayD x=wayD y):x=y:=by
 unfold wayD at h;simp only [D.t.injEq,List.cons.injEq,D.f.injEq,and_true] at h;exact Prod.ext (uA h.1) (uA h.2)
theorem ud {H:Hp} {p:Addr} {ls:List Fld} (h:Lay H p ls):Deep K H 4 (.ref p) (layD ls):=by
 obtain ⟨vs,e,pr⟩:=h;refine .inr (.inl ⟨p,vs,ls.map fldD,rfl,rfl,SqL.of e,?_⟩);clear e
 induction pr with
 | nil=>exact .nil
 | cons r _ ih=>
  obtain ⟨t,rfl,q⟩:=r;exact .cons (.inr (.inr ⟨t,_,_,rfl,rfl,SqT.of q,.cons (ce 2 rfl) (.cons (ce 2 rfl) .nil)⟩)) ih
theorem dR {H:Hp} {x:Way} {v:V} (n:Nat) (h:WayAt H x v):Deep K H (n+1) v (wayD x):=by
 obtain ⟨t,rfl,q⟩:=h;exact .inr (.inr ⟨t,_,_,rfl,rfl,SqT.of q,.cons (ce n rfl) (.cons (ce n rfl) .nil)⟩)
theorem qD {H:Hp} {p:Addr} {ls:List Line} (h:Lines H p ls):Deep K H 4 (.ref p) (linesD ls):=by
 obtain ⟨vs,e,pr⟩:=h;refine .inr (.inl ⟨p,vs,ls.map lineD,rfl,rfl,SqL.of e,?_⟩);clear e
 induction pr with
 | nil=>exact .nil
 | cons r _ ih=>
  obtain ⟨t,u1,u2,rfl,q,w1,w2⟩:=r;exact .cons (.inr (.inr ⟨t,_,_,rfl,rfl,SqT.of q,.cons (dR 1 w1) (.cons (dR 1 w2) .nil)⟩)) ih
theorem pi {H:Hp}:∀ (n:Nat) (v:V) (d:D),Deep K H n v d->Deep K H (n+1) v d
 | 0,_,_,h=>.inl h
 | n+1,v,d,h=>by
  rcases h with h | ⟨a,vs,ds,e1,e2,h,p⟩ | ⟨a,vs,ds,e1,e2,h,p⟩
  ·exact .inl h
  ·exact .inr (.inl ⟨a,vs,ds,e1,e2,h,L2.Paired.mapP p fun _ _ z=>pi n _ _ z⟩)
  ·exact .inr (.inr ⟨a,vs,ds,e1,e2,h,L2.Paired.mapP p fun _ _ z=>pi n _ _ z⟩)
theorem sU {H:Hp} {n m:Nat} (h:n<=m) {v:V} {d:D} (k:Deep K H n v d):Deep K H m v d:=by
 induction h with
 | refl=>exact k
 | step _ ih=>exact pi _ _ _ ih
theorem jD {α:Type} {f:α -> D} {H:Hp} {n:Nat} {p:Addr} {xs:List α} {vs:List V} (e:H p=some (.lst vs)) (h:Paired (fun x v=>Deep K H n v (f x)) xs vs):Deep K H (n+1) (.ref p) (.l (xs.map f)):=by
 refine .inr (.inl ⟨p,vs,_,rfl,rfl,SqL.of e,?_⟩);clear e
 induction h with
 | nil=>exact .nil
 | cons r _ ih=>exact .cons r ih
noncomputable def gateD (g:Gate):D:=.t [.f (tx g.1),.l (g.2.map ruleD)]
noncomputable def houseD (h:House):D:=.t [.l (h.1.map gateD),.l (h.2.map wayD)]
noncomputable def namedD (x:Named):D:=.t [.f (tx x.1),houseD x.2]
noncomputable def netD (N:Net):D:=.t [layD N.1,.l (N.2.1.map namedD),linesD N.2.2]
theorem rP {H:Hp} {x:Rule} {v:V} (h:RuleAt H x v):Deep K H 1 v (ruleD x):=by
 obtain ⟨t,rfl,q⟩:=h;exact .inr (.inr ⟨t,_,_,rfl,rfl,SqT.of q,.cons (ce 0 rfl) (.cons (ce 0 rfl) (.cons (ce 0 rfl) .nil))⟩)
theorem rK {H:Hp} {x:Gate} {v:V} (h:GateAt H x v):Deep K H 3 v (gateD x):=by
 obtain ⟨t,r,rfl,q,⟨vs,e,p⟩⟩:=h;exact .inr (.inr ⟨t,_,_,rfl,rfl,SqT.of q,.cons (ce 2 rfl) (.cons (jD e (L2.Paired.mapP p fun _ _ z=>rP z)) .nil)⟩)
theorem qK {H:Hp} {x:Named} {v:V} (h:NamedAt H x v):Deep K H 6 v (namedD x):=by
 obtain ⟨t,q,rfl,e,⟨g,w,e1,⟨gv,eg,pg⟩,⟨wv,ew,pw⟩⟩⟩:=h;exact .inr (.inr ⟨t,_,_,rfl,rfl,SqT.of e,.cons (ce 5 rfl) (.cons (.inr (.inr ⟨q,_,_,rfl,rfl,SqT.of e1,.cons (jD eg (L2.Paired.mapP pg fun _ _ z=>rK z)) (.cons (jD ew (L2.Paired.mapP pw fun _ _ z=>dR 2 z)) .nil)⟩)) .nil)⟩)
theorem oT {H:Hp} {q:Addr} {N:Net} (h:NetAt H q N):Deep K H 8 (.ref q) (netD N):=by
 obtain ⟨a,b,c,e,hl,⟨hv,eh,ph⟩,hc⟩:=h;exact .inr (.inr ⟨q,_,_,rfl,rfl,SqT.of e,.cons (sU (by decide) (ud hl)) (.cons (jD eh (L2.Paired.mapP ph fun _ _ z=>qK z)) (.cons (sU (by decide) (qD hc)) .nil))⟩)
theorem x8 (l:List Fld):gdD (layD l)=true:=by
 unfold layD;rw [gdD];exact fI _ fun x _=>by simp [fldD,gdD,gdDs,tx]
theorem xD (x:Rule):gdD (ruleD x)=true:=by simp [ruleD,gdD,gdDs,tx]
theorem lF (x:Way):gdD (wayD x)=true:=by simp [wayD,gdD,gdDs,tx]
theorem uZ (N:Net):gdD (netD N)=true:=by
 have h1:gdD (linesD N.2.2)=true:=by
  unfold linesD;rw [gdD];exact fI _ fun x _=>by simp [lineD,gdD,gdDs,lF]
 have h2:gdDs (N.2.1.map namedD)=true:=fI _ fun x _=>by
  have a1:gdDs (x.2.1.map gateD)=true:=fI _ fun g _=>by
   have:=fI (f:=ruleD) g.2 fun r _=>xD r
   simp [gateD,gdD,gdDs,tx,this]
  have a2:gdDs (x.2.2.map wayD)=true:=fI _ fun w _=>lF w
  simp [namedD,houseD,gdD,gdDs,tx,a1,a2]
 simp [netD,gdD,gdDs,x8,h1,h2]
theorem uL (N:Net):eqD (netD N) (netD N)=true:=(mN _ _ (uZ N) (uZ N)).mpr rfl
structure NWide (N:Net):Prop where
 lay:LayOk N.1
 ok:NOk N
noncomputable def cP (K:Frag):Sp:=av fun kp=>aZ fun h=>aZ fun d=>be fun k=>av fun rt=>aE fun H Q _=>Ex5 fun (N:Net) (hs:House) (rs:List Rule) (j:Nat) (r:Rule)=>KeepAt K H kp N/\NWide N/\NameOk h/\NameOk d/\houseOf N.2.1 h.cps.toList=some hs/\hs.1.length<=100/\gateOf hs.1 d.cps.toList=some rs/\k=(j:Int)/\j<=rs.length/\rs.length<=90/\H rt=some (.tup [tx r.1,tx r.2.1,tx r.2.2])/\RuleOk (widthL N.1) r /\
   Done K H kp (N.1,putH N.2.1 h.cps.toList (putG hs.1 d.cps.toList (rs.take j++[r]++rs.drop j),hs.2),N.2.2) Q
theorem jH (T:Top K mg):MCal P w K mg base 6 "Keeper" "put_rule" ["self", "house", "door", "number", "rule"] (cP K):=by
 refine T.gu.cal eY (by unfold cP; exact LenSp.h) (fun _ _ _ _ _ _ us hl=>match us,hl with | [_,_,_,_,_],_=>rfl) (fun f cdv A outer s H vs Q E hr h=>?_);unfold cP at h;walk_at "el";refine ⟨_,(ag (aq (i:=5) eY.nd rfl lc (b9 T.c_Keeper (eZ T) hr.m (qv 0) (aa (qv 1) (aa (qv 2) ae))))
   (ag (aw (am (iX T) hr.m rfl (aa (qv 3) (aa (al ak (aH (lenE K rfl) rfl T.cq bK (aa (qv 5) ae)) ad) ae))))
   (ag (aw (am (jN T) hr.m rfl (aa (ai (ixE K rfl) (bE (qv 0) rfl) ad (fun _ _=>rfl)) (aa (ai (ixE K rfl) (qv 4) ad (fun _ _=>rfl)) (aa (ai (ixE K rfl) (qv 4) ad (fun _ _=>rfl)) (aa (ai (ixE K rfl) (qv 4) ad (fun _ _=>rfl)) ae))))))
   (ah (aw (b9 T.c_Keeper (eo T) hr.m (qv 0) (aa (qv 1) (aa (qv 2) (aa (al ak (al ak (bp (slE K rfl) (qv 5) bT (bG (qv 3))) (aL (aa (qv 4) ae))) (bp (slE K rfl) (qv 5) (bG (qv 3)) bT)) ae))))))))),?_⟩
 rename_i kp h d k rt;obtain ⟨N,hs,rs,j,r,A,nw,hn,dn,eh,hg,eg,rfl,hj,hl,er,rok,q⟩:=h;have kn:=A.net;obtain ⟨dx,n,cr,cdx,g,st,fa,cfs,sk,fk,B,hN⟩:=id A;walk_at "rd";refine ⟨kp,dx,_,rfl,B.self,rfl,N,hs,rs,kn,hn,dn,eh,eg,fun rp H1 s1 hR=>?_⟩;obtain ⟨rv,e1,pr⟩:=id hR;have lv:=pr.length;walk_at "rd";refine ⟨rv,.inl (SqL.of e1),by lia,by lia,?_⟩;have B1:=B.same s1;obtain ⟨la,ha,ca,et,hL,_,_⟩:=hN.same s1;have l3:=nw.lay.len;have w2:=nw.lay.w2;refine ⟨kp,_,dx,_,_,rfl,B1.self,T.c_Keeper.c,T.a_Keeper_net,rfl,_,V.ref la,.inr (SqT.of et),rfl,?_⟩;walk_at "rd";have er1:=s1 _ _ er;refine ⟨_,tx r.1,.inr (SqT.of er1),rfl,_,tx r.2.1,.inr (SqT.of er1),rfl,_,tx r.2.2,.inr (SqT.of er1),rfl,N.1,hL,by lia,by lia,by simp only [az]; exact rok,fun H2 s2=>?_⟩;have s12:=s1.trans s2;have e2:=s2 _ _ e1;refine ⟨kp,dx,_,rfl,s12 _ _ B.self,rfl,rv,SqL.of e2,fun a1 h1=>?_⟩;rw [iD rv j (by lia)];refine ⟨by decide,fun a2 h2=>?_⟩;have k1:=af h1 (.lst (rv.take j));have k2:=af h2 (.lst [V.ref rt]);have l1:(rv.take j).length=j:=by rw [List.length_take]; lia
 refine ⟨rv.take j,[V.ref rt],k2 _ _ ab,ab,by rw [l1,sizeLine_eq]; simp only [List.length_cons,List.length_nil]; lia,fun a3 h3=>?_⟩;have k3:=af h3 (.lst (rv.take j++[V.ref rt]));refine ⟨rv,SqL.of (k3 _ _ (k2 _ _ (k1 _ _ e2))),fun a4 h4=>?_⟩;rw [gb rv j (by lia)];have k4:=af h4 (.lst (rv.drop j));refine ⟨rv.take j++[V.ref rt],rv.drop j,k4 _ _ ab,ab,by rw [List.length_append,l1,List.length_drop,sizeLine_eq]; simp only [List.length_cons,List.length_nil]; lia,fun a5 h5=>?_⟩;have k5:=af h5 (.lst (rv.take j++[V.ref rt]++rv.drop j));have s25:=s2.trans (k1.trans (k2.trans (k3.trans (k4.trans k5))));have s15:=s1.trans s25;exact ⟨N,hs,rs.take j++[r]++rs.drop j,A.same s15,hn,eh,hg,⟨_,ab,aI (fun _ _ z=>s25 _ _ z) (bI (bI (cG j pr) (.cons ⟨rt,rfl,er1⟩ .nil)) (dq j pr))⟩,nw.ok,q.up s15⟩
noncomputable def cx (K:Frag):Sp:=av fun kp=>aZ fun h=>aZ fun d=>be fun k=>aE fun H Q _=>Ex4 fun (N:Net) (hs:House) (rs:List Rule) (j:Nat)=>KeepAt K H kp N/\NOk N/\NameOk h/\NameOk d/\houseOf N.2.1 h.cps.toList=some hs/\hs.1.length<=100/\gateOf hs.1 d.cps.toList=some rs/\k=(j:Int)/\j < rs.length/\rs.length<=90 /\
   Done K H kp (N.1,putH N.2.1 h.cps.toList (putG hs.1 d.cps.toList (rs.take j++rs.drop (j+1)),hs.2),N.2.2) Q
theorem iB (T:Top K mg):MCal P w K mg base 6 "Keeper" "strike_rule" ["self", "house", "door", "number"] (cx K):=by
 refine T.dO.cal dI (by unfold cx; exact LenSp.h) (fun _ _ _ _ _ _ us hl=>match us,hl with | [_,_,_,_],_=>rfl) (fun f cdv A outer s H vs Q E hr h=>?_);unfold cx at h;walk_at "el";refine ⟨_,(ag (aq (i:=4) dI.nd rfl lc (b9 T.c_Keeper (eZ T) hr.m (qv 0) (aa (qv 1) (aa (qv 2) ae))))
   (ag (aw (am (iX T) hr.m rfl (aa (qv 3) (aa (aH (lenE K rfl) rfl T.cq bK (aa (qv 4) ae)) ae))))
   (ah (aw (b9 T.c_Keeper (eo T) hr.m (qv 0) (aa (qv 1) (aa (qv 2) (aa (am (lO T) hr.m rfl (aa (qv 4) (aa (qv 3) ae))) ae)))))))),?_⟩
 rename_i kp h d k;obtain ⟨N,hs,rs,j,A,ok,hn,dn,eh,hg,eg,rfl,hj,hl,q⟩:=h;have kn:=A.net;obtain ⟨dx,n,cr,cdx,g,st,fa,cfs,sk,fk,B,hN⟩:=id A;walk_at "rd";refine ⟨kp,dx,_,rfl,B.self,rfl,N,hs,rs,kn,hn,dn,eh,eg,fun rp H1 s1 hR=>?_⟩;obtain ⟨rv,e1,pr⟩:=id hR;have lv:=pr.length;walk_at "rd";refine ⟨rv,.inl (SqL.of e1),by lia,by lia,?_⟩;refine ⟨kp,dx,_,rfl,s1 _ _ B.self,rfl,rs,j,hR,rfl,hj,hl,fun q2 H2 hq2 s2 hR2=>?_⟩;exact ⟨N,hs,_,A.same (s1.trans s2),hn,eh,hg,hR2,ok,q.up (s1.trans s2)⟩
noncomputable def dh (K:Frag):Sp:=av fun kp=>aZ fun h=>aZ fun b=>aZ fun d=>aE fun H Q _=>Ex4 fun (N:Net) (hs:House) (fa fb:Nat)=>KeepAt K H kp N/\NOk N/\NameOk h/\houseOf N.2.1 h.cps.toList=some hs/\hs.2.length<=90/\spanF N.1 toT 0=some (fa,fb)/\fb<=1000/\b.cps.toList.length<=fb - fa/\(∀ c ∈ b.cps.toList,c=48\/c=49)/\b.cps.toList ∉ hs.2.map (·.1)/\d.cps.toList ∈ hs.1.map (·.1)/\Low d.cps.toList/\d.cps.toList.length<=1000 /\
   Done K H kp (N.1,putH N.2.1 h.cps.toList (hs.1,hs.2++[(b.cps.toList,d.cps.toList)]),N.2.2) Q
theorem kh (T:Top K mg):MCal P w K mg base 6 "Keeper" "put_way" ["self", "house", "beginning", "door"] (dh K):=by
 refine T.gG.cal fQ (by unfold dh; exact LenSp.h) (fun _ _ _ _ _ _ us hl=>match us,hl with | [_,_,_,_],_=>rfl) (fun f cdv A outer s H vs Q E hr h=>?_);unfold dh at h;walk_at "el";refine ⟨_,(ag (aq (i:=4) fQ.nd rfl lc (am (ck T) hr.m rfl (aa (bE (qv 0) rfl) (aa (qv 1) ae))))
   (ag (aw (am (kD T) hr.m rfl (aa (ai (ixE K rfl) (bE (qv 0) rfl) ad (fun _ _=>rfl)) (aa (qv 4) (aa (qv 2) (aa (qv 3) (aa (aJ (nt:=1) (fi:=[]) (N':=["way"]) rfl (cscope rfl (by decide +kernel)) (cnames (N:=["self", "house", "beginning", "door", "its"]) (sc:=defScope bq) rfl rfl (by decide +kernel)) (aQ (by decide)) (iterE K rfl (ai (ixE K rfl) (qv 4) ad (fun _ _=>rfl))) (fun _ _ _ _ _=>(aj (i:=0) (by show (["way"]:List Str).Nodup; decide +kernel) rfl lc)) (fun _ _ _ _ _=>bd) (fun _ _ _ _ _=>(ai (ixE K rfl) (qv 0) ad (fun _ _=>rfl)))) ae)))))))
   (ah (aw (b9 T.c_Keeper (fe T) hr.m (qv 0) (aa (qv 1) (aa (al ak (ai (ixE K rfl) (qv 4) ad (fun _ _=>rfl)) (aL (aa (ay (aa (qv 2) (aa (qv 3) ae))) ae))) ae))))))),?_⟩
 rename_i kp h b d;obtain ⟨N,hs,f1,f2,A,ok,hn,eh,hl,esp,hf,hb,hbb,hni,hd,hdl,hdn,q⟩:=h;obtain ⟨dx,n,cr,cdx,g,st,fa,cfs,sk,fk,B,hN⟩:=id A;walk_at "rd";refine ⟨kp,_,dx,_,_,rfl,B.self,T.c_Keeper.c,T.a_Keeper_net,rfl,N,hN,hn.1,hn.2,fun h' eh' q1 H1 s1 hH=>?_,fun e=>by rw [eh] at e; cases e⟩;rw [eh] at eh';cases eh';walk_at "rd";have B1:=B.same s1;obtain ⟨la,ha,ca,et,hL,_,_⟩:=hN.same s1;obtain ⟨ga,wa,e1,hG,hW⟩:=id hH;obtain ⟨wv,ew,pw⟩:=id hW;have lw:=pw.length;obtain ⟨z1,z2⟩:=aF pw;refine ⟨kp,_,dx,_,_,rfl,B1.self,T.c_Keeper.c,T.a_Keeper_net,rfl,?_⟩;walk_at "rd";refine ⟨_,V.ref la,.inr (SqT.of et),rfl,_,V.ref wa,.inr (SqT.of e1),rfl,.inl ⟨⟨_,SqL.of ew⟩,fun D hD=>?_⟩⟩;refine bU (item:=fun x:Way × V=>x.2) (xs:=hs.2.zip wv) (h:=fun x=>[tx x.1.1]) hD (by rw [z1]; exact SqL.of ew) (by rw [List.length_zip]; lia) (fun _=>by simp) ?_ ?_
 ·intro x H3 out non hx s3 ho _;obtain ⟨t,ex,et3⟩:=z2 x hx;rw [ex];walk_at "rd";exact ⟨_,_,.inr (SqT.of (s3 _ _ et3)),rfl,ho _ _ rfl (Same.refl _)⟩
 intro H2 s2 e2;rw [show (hs.2.zip wv).flatMap (fun x=>[tx x.1.1])=(hs.2.map (·.1)).map tx by
  rw [dr (fun x:Way × V=>tx x.1.1)]
  conv=>rhs; rw [<- bj (l:=hs.2) (m:=wv) lw,List.map_map,List.map_map]
  rfl] at e2
 refine ⟨N.1,hs,hs.2.map (·.1),f1,f2,hL.same s2,esp,hf,hH.same s2,hb,hbb,e2,hni,hd,hdl,hdn,fun H3 s3=>?_⟩;have s23:=s2.trans s3;have s13:=s1.trans s23;walk_at "rd";refine ⟨kp,dx,_,rfl,s13 _ _ B.self,rfl,_,V.ref wa,.inr (SqT.of (s23 _ _ e1)),rfl,by decide,fun t ht=>⟨by decide,fun l hl'=>?_⟩⟩;have k1:=af ht (.tup [V.str b,V.str d]);have k2:=af hl' (.lst [V.ref t]);walk_at "rd";refine ⟨wv,_,k2 _ _ (k1 _ _ (s23 _ _ ew)),ab,by rw [sizeLine_eq]; simp only [List.length_cons,List.length_nil]; lia,fun l2 hl2=>?_⟩;have k3:=af hl2 (.lst (wv++[V.ref t]));have s03:=s13.trans (k1.trans (k2.trans k3));refine ⟨N,hs,hs.2++[(b.cps.toList,d.cps.toList)],A.same s03,hn,eh,⟨_,ab,aO (aD (fun _ _ z=>(s23.trans (k1.trans (k2.trans k3))) _ _ z) pw) ⟨t,rfl,?_⟩⟩,ok,q.up s03⟩;rw [(k2.trans k3) _ _ ab]
noncomputable def cC (K:Frag):Sp:=av fun kp=>aZ fun h=>aZ fun b=>aE fun H Q _=>Ex2 fun (N:Net) (hs:House)=>KeepAt K H kp N/\NOk N/\NameOk h/\houseOf N.2.1 h.cps.toList=some hs/\hs.2.length<=90/\b.cps.toList ∈ hs.2.map (·.1) /\
   Done K H kp (N.1,putH N.2.1 h.cps.toList (hs.1,hs.2.filter fun w=>!decide (w.1=b.cps.toList)),N.2.2) Q
theorem i4 (T:Top K mg):MCal P w K mg base 6 "Keeper" "strike_way" ["self", "house", "beginning"] (cC K):=by
 refine T.eD.cal cB (by unfold cC; exact LenSp.h) (fun _ _ _ _ _ _ us hl=>match us,hl with | [_,_,_],_=>rfl) (fun f cdv A outer s H vs Q E hr h=>?_);unfold cC at h;walk_at "el";refine ⟨_,(ag (aq (i:=3) cB.nd rfl lc (ai (ixE K rfl) (am (ck T) hr.m rfl (aa (bE (qv 0) rfl) (aa (qv 1) ae))) ad (fun _ _=>rfl)))
   (ag (jE (i:=4) (nt:=1) (fi:=[2]) (N':=["way", "beginning"]) cB.nd rfl lc rfl (cscope rfl (by decide +kernel)) (cnames (N:=["self", "house", "beginning", "ways", "left"]) (sc:=defScope aR) rfl rfl (by decide +kernel)) (aQ (by decide)) (iterE K rfl (qv 3)) (fun _ _ _ _ _=>(aj (i:=0) (by show (["way", "beginning"]:List Str).Nodup; decide +kernel) rfl lc)) (fun _ _ _ _ _=>(cN (aB rD (ai (ixE K rfl) (qv 0) ad (fun _ _=>rfl)) (qv 1)))) (fun _ _ _ _ _=>(qv 0)))
   (ag (aW (aB (eqDE K rfl hr) (qv 4) (qv 3)) (ah bO) aC)
   (ah (aw (b9 T.c_Keeper (fe T) hr.m (qv 0) (aa (qv 1) (aa (qv 4) ae)))))))),?_⟩
 rename_i kp h b;obtain ⟨b,rfl⟩:∃ x,b=st x:=⟨_,(bf b).symm⟩;obtain ⟨N,hs,A,ok,hn,eh,hl,hbi,q⟩:=h;simp only [az] at hbi q;obtain ⟨dx,n,cr,cdx,g,st',fa,cfs,sk,fk,B,hN⟩:=id A;walk_at "rd";refine ⟨kp,_,dx,_,_,rfl,B.self,T.c_Keeper.c,T.a_Keeper_net,rfl,N,hN,hn.1,hn.2,fun h' eh' q1 H1 s1 hH=>?_,fun e=>by rw [eh] at e; cases e⟩;rw [eh] at eh';cases eh';obtain ⟨ga,wa,e1,hG,hW⟩:=id hH;obtain ⟨wv,ew,pw⟩:=id hW;have lw:=pw.length;obtain ⟨z1,z2⟩:=aF pw;walk_at "rd";refine ⟨_,V.ref wa,.inr (SqT.of e1),rfl,?_⟩;walk_at "rd";refine .inl ⟨⟨_,SqL.of ew⟩,fun D hD=>?_⟩;refine bR (item:=fun x:Way × V=>x.2) (hs.2.zip wv) (fun x=>!decide (x.1.1=b)) (fun x v H'=>WayAt H' x.1 v) hD (by rw [z1]; exact SqL.of ew) (by rw [List.length_zip]; lia) ?_ ?_ ?_
 ·rintro x v H3 H4 acc hd k ⟨t',rfl,et'⟩;exact ⟨t',rfl,k t' _ (fun z=>by rw [z,hd] at et'; cases et') et'⟩
 ·intro x H3 out non hx s3 ho hno;obtain ⟨t',ex,et'⟩:=z2 x hx;rw [ex];walk_at "rd";refine ⟨_,_,.inr (SqT.of (s3 _ _ et')),rfl,?_⟩;walk_at "rd";exact ite2 (fun g=>hno _ (by simp [g]) (Same.refl _)) fun g=>ho _ _ (by simp [g]) (Same.refl _) ⟨t',rfl,s3 _ _ et'⟩
 ·intro H2 us s2 e2 p2;have p2':Paired (WayAt H2) (hs.2.filter fun w=>!decide (w.1=b)) us:=by
   have:hs.2.filter (fun w=>!decide (w.1=b))=((hs.2.zip wv).filter fun x=>!decide (x.1.1=b)).map Prod.fst:=by
    conv=>lhs; rw [<- bj (l:=hs.2) (m:=wv) lw]
    rw [List.filter_map];rfl
   rw [this];exact aS p2
  walk_at "rd";have hW2:Ways H2 D (hs.2.filter fun w=>!decide (w.1=b)):=⟨us,e2,p2'⟩;refine ⟨2,_,_,by decide,oY hW2,oY (hW.same s2),?_⟩;have ne:¬ eqD (.l ((hs.2.filter fun w=>!decide (w.1=b)).map wayD)) (.l (hs.2.map wayD))=true:=fun z=>by
   have g1:=fI (f:=wayD) hs.2 fun w _=>lF w
   have g2:=fI (f:=wayD) (hs.2.filter fun w=>!decide (w.1=b)) fun w _=>lF w
   have z2:=(mN _ _ (by rw [gdD]; exact g2) (by rw [gdD]; exact g1)).mp z;have z3:(hs.2.filter fun w=>!decide (w.1=b))=hs.2:=sJ qE (by injection z2);obtain ⟨w,hw,ew⟩:=List.mem_map.mp hbi;rw [<- z3] at hw;have:=(List.mem_filter.mp hw).2;simp [ew] at this
  rw [if_neg ne];have s12:=s1.trans s2;exact ⟨kp,dx,_,rfl,s12 _ _ B.self,rfl,N,hs,_,A.same s12,hn,eh,hW2,ok,q.up s12⟩
theorem NetOk.n {N:Net} (h:NetOk N):NOk N:=⟨h.h100,h.nd,h.l500,h.ends⟩
noncomputable def gh (K:Frag):Sp:=av fun kp=>av fun a1=>av fun a2=>aE fun H Q _=>Ex3 fun (N:Net) (s1 s2:Way)=>KeepAt K H kp N/\H a1=some (.tup [tx s1.1,tx s1.2])/\H a2=some (.tup [tx s2.1,tx s2.2])/\N.2.2.length<=100/\NetOk (N.1,N.2.1,N.2.2++[(s1,s2)])/\Done K H kp (N.1,N.2.1,N.2.2++[(s1,s2)]) Q
theorem ny (T:Top K mg):MCal P w K mg base 5 "Keeper" "tie" ["self", "one", "other"] (gh K):=by
 refine T.j4.cal jf (by unfold gh; exact LenSp.h) (fun _ _ _ _ _ _ us hl=>match us,hl with | [_,_,_],_=>rfl) (fun f cdv A outer s H vs Q E hr h=>?_);unfold gh at h;walk_at "el";refine ⟨_,(ag (aq (i:=3) jf.nd rfl lc (ay (aa (ai (ixE K rfl) (bE (qv 0) rfl) ad (fun _ _=>rfl)) (aa (ai (ixE K rfl) (bE (qv 0) rfl) ad (fun _ _=>rfl)) (aa (al ak (ai (ixE K rfl) (bE (qv 0) rfl) ad (fun _ _=>rfl)) (aL (aa (ay (aa (qv 1) (aa (qv 2) ae))) ae))) ae)))))
   (ag (aw (am (jk T) hr.m rfl (aa (qv 3) ae)))
   (ah (aw (b9 T.c_Keeper (cE T) hr.m (qv 0) (aa (qv 3) (aa (aL (aa (ai (ixE K rfl) (qv 1) ad (fun _ _=>rfl)) (aa (ai (ixE K rfl) (qv 2) ad (fun _ _=>rfl)) ae))) ae))))))),?_⟩
 rename_i kp a1 a2;obtain ⟨N,s1,s2,A,w1,w2,hl,ok,q⟩:=h;obtain ⟨dx,n,cr,cdx,g,st,fa,cfs,sk,fk,B,hN⟩:=id A;obtain ⟨la,ha,ca,et,hL,hH,⟨cv,ec,pc⟩⟩:=id hN;have lc:=pc.length;walk_at "rd";refine ⟨kp,_,dx,_,_,rfl,B.self,T.c_Keeper.c,T.a_Keeper_net,rfl,?_⟩;walk_at "rd";refine ⟨_,V.ref la,.inr (SqT.of et),rfl,kp,_,dx,_,_,rfl,B.self,T.c_Keeper.c,T.a_Keeper_net,rfl,?_⟩;walk_at "rd";refine ⟨_,V.ref ha,.inr (SqT.of et),rfl,kp,_,dx,_,_,rfl,B.self,T.c_Keeper.c,T.a_Keeper_net,rfl,?_⟩;walk_at "rd";refine ⟨_,V.ref ca,.inr (SqT.of et),rfl,by decide,fun t ht=>⟨by decide,fun l hl'=>?_⟩⟩;have k1:=af ht (.tup [V.ref a1,V.ref a2]);have k2:=af hl' (.lst [V.ref t]);have k12:=k1.trans k2;walk_at "rd";refine ⟨cv,_,k12 _ _ ec,ab,by rw [sizeLine_eq]; simp only [List.length_cons,List.length_nil]; lia,fun l2 hl2=>⟨by decide,fun n' hn'=>?_⟩⟩;have k3:=af hl2 (.lst (cv++[V.ref t]));have k4:=af hn' (.tup [V.ref la,V.ref ha,V.ref l2]);have s4:=k12.trans (k3.trans k4);have hN4:NetAt (upd (upd (upd (upd H t (.tup [V.ref a1,V.ref a2])) l (.lst [V.ref t])) l2 (.lst (cv++[V.ref t]))) n' (.tup [V.ref la,V.ref ha,V.ref l2])) n' (N.1,N.2.1,N.2.2++[(s1,s2)]):=
  ⟨la,ha,l2,ab,hL.same s4,hH.same s4,⟨_,k4 _ _ ab,aO (L2.Paired.mapP pc fun _ _ y=>bi (fun _ _ z=>s4 _ _ z) y) ⟨t,_,_,rfl,(k2.trans (k3.trans k4)) _ _ ab,⟨a1,rfl,s4 _ _ w1⟩,⟨a2,rfl,s4 _ _ w2⟩⟩⟩⟩
 generalize upd (upd (upd (upd H t (.tup [V.ref a1,V.ref a2])) l (.lst [V.ref t])) l2 (.lst (cv++[V.ref t]))) n' (.tup [V.ref la,V.ref ha,V.ref l2])=H4 at s4 hN4 ⊢;refine ⟨_,hN4,ok,fun H5 s5=>?_⟩;have s05:=s4.trans s5;refine ⟨kp,dx,_,rfl,s05 _ _ B.self,rfl,_,tx s1.1,.inr (SqT.of (s05 _ _ w1)),rfl,_,tx s2.1,.inr (SqT.of (s05 _ _ w2)),rfl,by decide,fun p hp=>?_⟩;have k6:=af hp (.lst [tx s1.1,tx s2.1]);have s06:=s05.trans k6;have ok':=ok.n;exact ⟨dx,n,cr,cdx,g,st,fa,cfs,sk,fk,_,B.same s06,hN4.same (s5.trans k6),ok'.h,ok'.nd,ok'.l,ok'.e,fun H' cr' cdx' g' cfs' sk' fk' s7 B7=>q H' (aP (iV s06) s7) ⟨dx,n',cr',cdx',g',st,fa,cfs',sk',fk',B7,(NetAt.imm (hN4.same (s5.trans k6))).same s7⟩⟩
theorem i9 (p:Line->Bool):∀ ls:List Line,(endsOf (ls.filter p)).Sublist (endsOf ls)
 | []=>List.Sublist.refl _
 | x::ls=>by
  have ih:=i9 p ls;have e:endsOf (x::ls)=x.1::x.2::endsOf ls:=rfl;rw [List.filter_cons,e];split
  ·exact (ih.cons₂ _).cons₂ _
  ·exact (ih.cons _).cons _
noncomputable def offL (ls:List Line) (x:Way):List Line:=ls.filter fun l=>!decide (x ∈ [l.1,l.2])
noncomputable def dS (K:Frag):Sp:=av fun kp=>aZ fun h=>aZ fun d=>aE fun H Q _=>Ex4 fun (N:Net) (hs:House) (rs:List Rule) (y:Way)=>KeepAt K H kp N/\NOk N/\NameOk h/\NameOk d/\houseOf N.2.1 h.cps.toList=some hs/\gateOf hs.1 d.cps.toList=some rs/\beyondL N.2.2 (h.cps.toList,d.cps.toList)=some y/\Done K H kp (N.1,N.2.1,offL N.2.2 (h.cps.toList,d.cps.toList)) Q
theorem lz (T:Top K mg):MCal P w K mg base 5 "Keeper" "untie" ["self", "house", "door"] (dS K):=by
 refine T.i3.cal dY (by unfold dS; exact LenSp.h) (fun _ _ _ _ _ _ us hl=>match us,hl with | [_,_,_],_=>rfl) (fun f cdv A outer s H vs Q E hr h=>?_);unfold dS at h;walk_at "el";refine ⟨_,(ag (aq (i:=3) dY.nd rfl lc (am (qw T) hr.m rfl (aa (bE (qv 0) rfl) (aa (qv 1) (aa (qv 2) ae)))))
   (ag (aW (aB vA (qv 3) pM) (ah bO) aC)
   (ag (jE (i:=4) (nt:=1) (fi:=[1,2]) (N':=["line", "house", "door"]) dY.nd rfl lc rfl (cscope rfl (by decide +kernel)) (cnames (N:=["self", "house", "door", "end", "lines"]) (sc:=defScope bJ) rfl rfl (by decide +kernel)) (aQ (by decide)) (iterE K rfl (ai (ixE K rfl) (bE (qv 0) rfl) ad (fun _ _=>rfl))) (fun _ _ _ _ _=>(aj (i:=0) (by show (["line", "house", "door"]:List Str).Nodup; decide +kernel) rfl lc)) (fun _ _ _ _ _=>(cN (aB (oG K rfl hr) (ay (aa (qv 1) (aa (qv 2) ae))) (qv 0)))) (fun _ _ _ _ _=>(qv 0)))
   (ah (aw (b9 T.c_Keeper (cE T) hr.m (qv 0) (aa (ay (aa (ai (ixE K rfl) (bE (qv 0) rfl) ad (fun _ _=>rfl)) (aa (ai (ixE K rfl) (bE (qv 0) rfl) ad (fun _ _=>rfl)) (aa (qv 4) ae)))) (aa (aL (aa (qv 1) (aa (ai (ixE K rfl) (qv 3) ad (fun _ _=>rfl)) ae))) ae)))))))),?_⟩
 rename_i kp nh d;obtain ⟨nh,rfl⟩:∃ x,nh=st x:=⟨_,(bf nh).symm⟩;obtain ⟨d,rfl⟩:∃ x,d=st x:=⟨_,(bf d).symm⟩;obtain ⟨N,hs,rs,y,A,ok,hn,dn,eh,eg,ey,q⟩:=h;simp only [az] at eh eg ey q;obtain ⟨dx,n,cr,cdx,g,st',fa,cfs,sk,fk,B,hN⟩:=id A;walk_at "rd";refine ⟨kp,_,dx,_,_,rfl,B.self,T.c_Keeper.c,T.a_Keeper_net,rfl,N,hN,hn.1,hn.2,dn.1,dn.2,ok.l,ok.e,fun h' eh'=>?_,fun e=>?_⟩
 rotate_left
 ·simp only [az] at e; rw [eh] at e; cases e
 simp only [az] at eh' ⊢;rw [eh] at eh';cases eh';refine ⟨fun rs' er v H1 s1 hv=>?_,fun e=>by rw [eg] at e; cases e⟩;rw [ey] at hv;obtain ⟨u,eu,tu,rfl,hu⟩:∃ u,some v=some u/\WayAt H1 y u:=by
  rcases hv with hv | ⟨hv,_⟩
  ·exact hv
  ·cases hv
 cases eu;walk_at "rd";rw [if_neg (fun z=>nomatch z)];have B1:=B.same s1;obtain ⟨la,ha,ca,et,hL,hH,⟨cv,ec,pc⟩⟩:=hN.same s1;have lc:=pc.length;have l5:=ok.l;obtain ⟨z1,z2⟩:=aF pc;refine ⟨kp,_,dx,_,_,rfl,B1.self,T.c_Keeper.c,T.a_Keeper_net,rfl,?_⟩;walk_at "rd";refine ⟨_,V.ref ca,.inr (SqT.of et),rfl,.inl ⟨⟨_,SqL.of ec⟩,fun D hD=>?_⟩⟩;refine bR (item:=fun x:Line × V=>x.2) (N.2.2.zip cv) (fun x=>!decide ((nh,d) ∈ [x.1.1,x.1.2])) (fun x v H'=>LineAt H' x.1 v) hD (by rw [z1]; exact SqL.of ec) (by rw [List.length_zip]; lia) ?_ ?_ ?_
 ·rintro x v H3 H4 acc hd k hx;exact bi (fun t ts z=>k t _ (fun w=>by rw [w,hd] at z; cases z) z) hx
 ·intro x H3 out non hx s3 ho hno;have hx3:=bi (fun _ _ z=>s3 _ _ z) (z2 x hx);obtain ⟨t',u1,u2,ex,et',w1,w2⟩:=id hx3;rw [ex];walk_at "rd";refine ⟨by decide,fun p hp=>?_⟩;have k4:=af hp (.tup [V.str (st nh),V.str (st d)]);have pw:Paired (WayAt (upd H3 p (.tup [V.str (st nh),V.str (st d)]))) [x.1.1,x.1.2] [u1,u2]:=aD (fun _ _ z=>k4 _ _ z) (.cons w1 (.cons w2 .nil));refine ⟨_,_,SqT.of (k4 _ _ et'),ab,rfl,jy pw,?_⟩;rw [show [V.str (st nh),V.str (st d)]=[tx (nh,d).1,tx (nh,d).2] from rfl,mK pw];walk_at "rd";exact ite2 (fun g=>hno _ (by rw [decide_eq_true g]; rfl) k4) fun g=>ho _ _ (by rw [decide_eq_false g]; rfl) k4 (by rw [<- ex]; exact bi (fun _ _ z=>k4 _ _ z) hx3)
 ·intro H2 us s2 e2 p2;have p2':Paired (LineAt H2) (offL N.2.2 (nh,d)) us:=by
   have:offL N.2.2 (nh,d)=((N.2.2.zip cv).filter fun x=>!decide ((nh,d) ∈ [x.1.1,x.1.2])).map Prod.fst:=by
    unfold offL
    conv=>lhs; rw [<- bj (l:=N.2.2) (m:=cv) lc]
    rw [List.filter_map];rfl
   rw [this];exact aS p2
  have s12:=s1.trans s2;have B2:=B.same s12;walk_at "rd";refine ⟨kp,dx,_,rfl,B2.self,rfl,kp,_,dx,_,_,rfl,B2.self,T.c_Keeper.c,T.a_Keeper_net,rfl,?_⟩;walk_at "rd";refine ⟨_,V.ref la,.inr (SqT.of (s2 _ _ et)),rfl,kp,_,dx,_,_,rfl,B2.self,T.c_Keeper.c,T.a_Keeper_net,rfl,?_⟩;walk_at "rd";refine ⟨_,V.ref ha,.inr (SqT.of (s2 _ _ et)),rfl,by decide,fun n' hn'=>?_⟩;have k3:=af hn' (.tup [V.ref la,V.ref ha,V.ref D]);refine ⟨_,tx y.1,.inr (SqT.of ((s2.trans k3) _ _ hu)),rfl,by decide,fun p hp=>?_⟩;have k4:=af hp (.lst [V.str (st nh),tx y.1]);have k34:=k3.trans k4;have s24:=s2.trans k34;have s04:=s12.trans k34;have hN4:NetAt (upd (upd H2 n' (.tup [V.ref la,V.ref ha,V.ref D])) p (.lst [V.str (st nh),tx y.1])) n' (N.1,N.2.1,offL N.2.2 (nh,d)):=
   ⟨la,ha,D,k4 _ _ ab,hL.same s24,hH.same s24,⟨us,k34 _ _ e2,L2.Paired.mapP p2' fun _ _ z=>bi (fun _ _ z=>k34 _ _ z) z⟩⟩
  have lf:(offL N.2.2 (nh,d)).length<=N.2.2.length:=List.length_filter_le _ _;exact ⟨dx,n,cr,cdx,g,st',fa,cfs,sk,fk,_,B.same s04,hN4,ok.h,ok.nd,Nat.le_trans lf ok.l,List.Sublist.nodup (i9 _ _) ok.e,fun H' cr' cdx' g' cfs' sk' fk' s7 B7=>q H' (aP (iV s04) s7) ⟨dx,n',cr',cdx',g',st',fa,cfs',sk',fk',B7,(NetAt.imm hN4).same s7⟩⟩
theorem NetC.keep {F:Addr->Prop} {H H':Hp} {q a b c:Addr} {N:Net} (kt:∀ t ts,H t=some (.tup ts)->H' t=some (.tup ts)) (kl:∀ r vs,F r->H r=some (.lst vs)->H' r=some (.lst vs)) (h:NetC F H q a b c N):NetC F H' q a b c N:=by
 obtain ⟨lv,el,pl⟩:=h.lay;obtain ⟨hv,eh,ph⟩:=h.houses;obtain ⟨cv,ec,pc⟩:=h.lines;refine ⟨kt _ _ h.tup,⟨lv,kl _ _ h.fa el,cb kt pl⟩,⟨hv,kl _ _ h.fb eh,L2.Paired.mapP ph ?_⟩,⟨cv,kl _ _ h.fc ec,L2.Paired.mapP pc fun _ _ y=>bi kt y⟩,h.fa,h.fb,h.fc⟩;rintro x v ⟨t,q,g,w,e,et,hN,ng,nw⟩;obtain ⟨gv,eg,pg⟩:=hN.gates;obtain ⟨wv,ew,pw⟩:=hN.ways;refine ⟨t,q,g,w,e,kt _ _ et,⟨kt _ _ hN.tup,hN.ne,⟨gv,kl _ _ ng.2 eg,L2.Paired.mapP pg ?_⟩,⟨wv,kl _ _ nw.2 ew,aD kt pw⟩⟩,ng,nw⟩;rintro y u ⟨t2,r,e2,n2,h1,⟨rv,er,pr⟩⟩;exact ⟨t2,r,e2,n2,kt _ _ h1,⟨rv,kl _ _ n2.2.2.2 er,aI kt pr⟩⟩
theorem NetC.imp {F G:Addr->Prop} {H:Hp} {q a b c:Addr} {N:Net} (h:NetC F H q a b c N) (k:∀ r,F r->G r):NetC G H q a b c N:=by
 obtain ⟨hv,eh,ph⟩:=h.houses;refine ⟨h.tup,h.lay,⟨hv,eh,L2.Paired.mapP ph ?_⟩,h.lines,k _ h.fa,k _ h.fb,k _ h.fc⟩;rintro x v ⟨t,q,g,w,e,et,hN,ng,nw⟩;exact ⟨t,q,g,w,e,et,kg hN fun r hr=>⟨hr.1,k r hr.2⟩,⟨ng.1,k _ ng.2⟩,nw.1,k _ nw.2⟩
theorem KeepO.put2 {H H2:Hp} {kp dx n cr cdx g st fa:Addr} {cfs:List (Str × V)} {sk fk:List (List Key × V)} (B:KeepO K H kp dx n cr cdx g st fa cfs sk fk) {k:List Key} {p1 p2:Addr} {u:Str} (e1:H p1=some (.lst [])) (s:Same (upd H st (.dT (putK sk k (.ref p1)))) H2) (e2:H2 p2=some (.lst [V.str u])) (hs:sk.length < 100) (hf:fk.length < 100):
  KeepO K (upd H2 fa (.dT (putK fk k (.ref p2)))) kp dx n cr cdx g st fa cfs (putK sk k (.ref p1)) (putK fk k (.ref p2)):=by
 have f:=B.stand;have f2:H2 fa=some (.dT fk):=s _ _ (by rw [au (Ne.symm B.ne)]; exact B.fall);have up:∀ x o,H x=some o->(∀ l,HO.dT l≠o)->upd H2 fa (.dT (putK fk k (.ref p2))) x=some o:=fun x o e n1=>bh f2 (s _ _ (bh f e (n1 _))) (n1 _)
 have l1:=cp sk k (.ref p1);have l2:=cp fk k (.ref p2);refine ⟨up _ _ B.self (fun _ z=>nomatch z),up _ _ B.crowd (fun _ z=>nomatch z),B.gates,up _ _ B.emp (fun _ z=>nomatch z),by rw [au B.ne]; exact s _ _ ab,ab,B.ne,B.nk,fun k' v h'=>?_,fun k' h'=>?_,by lia,by lia⟩
 ·rw [cW] at h';by_cases z:k'=k
  ·rw [if_pos z] at h';exact ⟨p1,(Option.some.inj h').symm,up _ _ e1 (fun _ z=>nomatch z)⟩
  ·rw [if_neg z] at h';obtain ⟨p',h1,h2⟩:=B.sv k' v h';exact ⟨p',h1,up _ _ h2 (fun _ z=>nomatch z)⟩
 ·rw [cW] at h' ⊢;by_cases z:k'=k
  ·exact ⟨p2,u,if_pos z,bh f2 e2 (fun z=>nomatch z)⟩
  ·rw [if_neg z] at h' ⊢;obtain ⟨p',u',h1,h2⟩:=B.fv k' h';exact ⟨p',u',h1,up _ _ h2 (fun _ z=>nomatch z)⟩
noncomputable def cR (K:Frag):Sp:=av fun kp=>av fun p=>aE fun H Q _=>Ex3 fun (G:Hp) (dx:Addr) (N:Net)=>Same G H/\G kp=none/\H kp=some (.ins (clsP K) dx [])/\NetAt G p N/\NetOk N/\NetB N/\(spotsOf N.2.1).Nodup/\(spotsOf N.2.1).length < 64 /\
   ∀ (H':Hp) (n a b c cr cdx g st fa:Addr) (cfs:List (Str × V)) (sk fk:List (List Key × V)),Same G H'->KeepO K H' kp dx n cr cdx g st fa cfs sk fk->NetC (fun r=>G r=none) H' n a b c N->(∀ k v,valV sk k=some v->∃ p,v=.ref p/\G p=none)->(∀ k v,valV fk k=some v->∃ p,v=.ref p/\G p=none)->Q .non H'
theorem eX (T:Top K mg):KCal P w K mg base 8 "Keeper" ["self", "net"] (cR K):=by
 refine T.gn.cal fh (by unfold cR; exact LenSp.h) (fun _ _ _ _ _ _ us hl=>match us,hl with | [_,_],_=>rfl) (fun f cdv A outer s H vs Q E hr h=>?_);unfold cR at h;walk_at "el";refine ⟨_,(ag (aw (am (m5 T) hr.m rfl (aa (qv 1) ae)))
   (ag (dQ (qv 0) (am (jL T) hr.m rfl (aa (qv 1) ae)) rfl)
   (ag (dQ (qv 0) (ut (dvs:=[V.bl false]) T.c_Crowd (fU T) (.cons rfl .nil) hr.m rfl (aa (bE (qv 0) rfl) (aa mW ae))) rfl)
   (ag (dQ (qv 0) nC rfl)
   (ag (dQ (qv 0) nC rfl)
   (ah (bw PassesOwn.never rfl (iterE K rfl (am (qa T) hr.m rfl (aa (qv 1) ae))) (aj (i:=2) fh.nd rfl lc) (ag (jC (jS hr) (bE (qv 0) rfl) (qv 2) (aL ae))
   (ah (jC (jS hr) (bE (qv 0) rfl) (qv 2) (aL (aa (al bM (qs [45]) (am (iZ T) hr.m rfl (aa (ai (ixE K rfl) (qv 1) ad (fun _ _=>rfl)) ae))) ae)))))))))))),?_⟩
 rename_i kp p;obtain ⟨G,dx,N,sG,hk,ek,hN,ok,nb,hsn,hs6,q⟩:=h;have okn:=ok.n;walk_at "rd";refine ⟨N,hN.same sG,ok,fun H1 s1=>?_⟩;walk_at "rd";have s01:=sG.trans s1;refine ⟨N,hN.same s01,nb,fun n a b c H2 hn s2 nc=>?_⟩;walk_at "rd";have s02:=s01.trans s2;have e2:=s2 _ _ (s1 _ _ ek);refine ⟨kp,_,dx,[],rfl,e2,T.c_Keeper.c,T.a_Keeper_net,by decide,?_⟩;have g3:Same G (upd H2 kp (.ins (clsP K) dx (putF (Str.ofString "net") (V.ref n) []))):=aG s02 hk;have m3:=dw (kp:=kp) (o':=.ins (clsP K) dx (putF (Str.ofString "net") (V.ref n) [])) e2 (by simp [stayB]);have e3:upd H2 kp (.ins (clsP K) dx (putF (Str.ofString "net") (V.ref n) [])) kp=some (.ins (clsP K) dx (putF (Str.ofString "net") (V.ref n) [])):=ab;generalize upd H2 kp (.ins (clsP K) dx (putF (Str.ofString "net") (V.ref n) []))=H3 at g3 m3 e3 ⊢;refine ⟨kp,_,dx,_,_,rfl,e3,T.c_Keeper.c,T.a_Keeper_net,rfl,fun d hd x xd hx hxd nx=>?_⟩;have k4:=af hd (.dK []);have d4:upd H3 d (.dK []) d=some (.dK []):=ab;generalize upd H3 d (.dK [])=H4 at k4 d4 hx hxd ⊢;have k5:Same H4 (upd (upd H4 xd (.own x)) x (.ins (clsC K) xd [])):=(af hxd _).trans (af (by rw [au (Ne.symm nx)]; exact hx) _);have hN2:=NetAt.imm (kp:=kp) nc.at;refine ⟨H4,xd,N,k5,hx,ab,hN2.same (m3.trans k4),okn.h,okn.nd,okn.l,okn.e,fun H5 fs s5 e5 eg5=>⟨rfl,?_⟩⟩;have k35:=k4.trans s5;have e5k:=k35 _ _ e3;have nxk:x≠kp:=fun z=>by rw [z,k4 _ _ e3] at hx; cases hx
 refine ⟨kp,_,dx,_,rfl,e5k,T.c_Keeper.c,T.a_Keeper_crowd,by show 1 < 1000; decide,?_⟩;have g6:Same G (upd H5 kp (.ins (clsP K) dx (putF (Str.ofString "crowd") (V.ref x) (putF (Str.ofString "net") (V.ref n) [])))):=aG (g3.trans k35) hk;have m6:=aP (m3.trans k35) (dw (kp:=kp) (o':=.ins (clsP K) dx (putF (Str.ofString "crowd") (V.ref x) (putF (Str.ofString "net") (V.ref n) []))) e5k (by simp [stayB]));have e6:upd H5 kp (.ins (clsP K) dx (putF (Str.ofString "crowd") (V.ref x) (putF (Str.ofString "net") (V.ref n) []))) kp=some (.ins (clsP K) dx (putF (Str.ofString "crowd") (V.ref x) (putF (Str.ofString "net") (V.ref n) []))):=ab;have c6:upd H5 kp (.ins (clsP K) dx (putF (Str.ofString "crowd") (V.ref x) (putF (Str.ofString "net") (V.ref n) []))) x=some (.ins (clsC K) xd fs):=by rw [au nxk]; exact e5
 have d6:=bh (o'':=.ins (clsP K) dx (putF (Str.ofString "crowd") (V.ref x) (putF (Str.ofString "net") (V.ref n) []))) e5k (s5 _ _ d4) (fun z=>nomatch z);generalize upd H5 kp (.ins (clsP K) dx (putF (Str.ofString "crowd") (V.ref x) (putF (Str.ofString "net") (V.ref n) [])))=H6 at g6 m6 e6 c6 d6 ⊢;intro st hst;have k7:=af hst (.dT []);have t7:upd H6 st (.dT []) st=some (.dT []):=ab;have ng:∀ {b},H6 b=none->G b=none:=fun h=>g6.free h
 have gst:=ng hst;generalize upd H6 st (.dT [])=H7 at k7 t7 ⊢;have e7:=k7 _ _ e6;refine ⟨kp,_,dx,_,rfl,e7,T.c_Keeper.c,T.a_Keeper_standing,by show 2 < 1000; decide,?_⟩;generalize eF:putF (Str.ofString "standing") (V.ref st) (putF (Str.ofString "crowd") (V.ref x) (putF (Str.ofString "net") (V.ref n) []))=F8;have g8:Same G (upd H7 kp (.ins (clsP K) dx F8)):=aG (g6.trans k7) hk;have m8:=aP (m6.trans k7) (dw (kp:=kp) (o':=.ins (clsP K) dx F8) e7 (by simp [stayB]));have e8:upd H7 kp (.ins (clsP K) dx F8) kp=some (.ins (clsP K) dx F8):=ab;have c8:upd H7 kp (.ins (clsP K) dx F8) x=some (.ins (clsC K) xd fs):=by rw [au nxk]; exact k7 _ _ c6
 have d8:=bh (o'':=.ins (clsP K) dx F8) e7 (k7 _ _ d6) (fun z=>nomatch z);have t8:=bh (o'':=.ins (clsP K) dx F8) e7 t7 (fun z=>nomatch z);generalize upd H7 kp (.ins (clsP K) dx F8)=H8 at g8 m8 e8 c8 d8 t8 ⊢;intro fa hfa;have k9:=af hfa (.dT []);have f9:upd H8 fa (.dT []) fa=some (.dT []):=ab;have gfa:=g8.free hfa;have nsf:st≠fa:=fun z=>by rw [<- z,t8] at hfa; cases hfa
 generalize upd H8 fa (.dT [])=H9 at k9 f9 ⊢;have e9:=k9 _ _ e8;refine ⟨kp,_,dx,_,rfl,e9,T.c_Keeper.c,T.a_Keeper_fallen,by rw [<- eF]; show 3 < 1000; decide,?_⟩;have g10:Same G (upd H9 kp (.ins (clsP K) dx (putF (Str.ofString "fallen") (V.ref fa) F8))):=aG (g8.trans k9) hk;have m10:=aP (m8.trans k9) (dw (kp:=kp) (o':=.ins (clsP K) dx (putF (Str.ofString "fallen") (V.ref fa) F8)) e9 (by simp [stayB]));have B10:KeepO K (upd H9 kp (.ins (clsP K) dx (putF (Str.ofString "fallen") (V.ref fa) F8))) kp dx n x xd d st fa fs [] []:=
  ⟨by rw [ab,<- eF],by rw [au nxk]; exact k9 _ _ c8,eg5,bh e9 (k9 _ _ d8) (fun z=>nomatch z),bh e9 (k9 _ _ t8) (fun z=>nomatch z),bh e9 f9 (fun z=>nomatch z),nsf,nxk,fun k v h=>(by cases h),fun k h=>absurd rfl h,by simp,by simp⟩
 generalize upd H9 kp (.ins (clsP K) dx (putF (Str.ofString "fallen") (V.ref fa) F8))=H10 at g10 m10 B10 ⊢;refine ⟨N,hN.same g10,okn.h,fun y hy=>Nat.le_trans (nb.house y hy).g3 (by decide),hsn,hs6,fun sq H11 ws hsq s11 hW hso=>?_⟩;obtain ⟨wv,ew,pw⟩:=hW;have lw:=pw.length;have lws:=hso.1.length_eq;walk_at "rd";refine .inl ⟨⟨_,SqL.of ew⟩,?_⟩;refine aN (xs:=wv) (fun i σ H'=>Ex3 fun (sk fk:List (List Key × V)) (u2:Option V)=>σ = [some (.ref kp),some (.ref p),u2]/\KeepO K H' kp dx n x xd d st fa fs sk fk/\Same G H'/\Same (imm kp H11) H'/\sk.length<=i/\fk.length<=i/\(∀ k v,valV sk k=some v->∃ p,v=.ref p/\G p=none)/\(∀ k v,valV fk k=some v->∃ p,v=.ref p/\G p=none)) ⟨[],[],none,rfl,B10.same s11,g10.trans s11,mT,Nat.le_refl _,Nat.le_refl _,fun k v h=>(by cases h),fun k v h=>(by cases h)⟩ (fun i σ H' _ ⟨_,_,_,_,_,_,z,_⟩=>SqL.of (z _ _ (bm ew rfl))) ?_ ?_
 ·rintro i y σ H12 hy ⟨sk,fk,u2,rfl,B,sg,sm,hsl,hfl,hsv,hfv⟩;have hi:i < wv.length:=(List.getElem?_eq_some_iff.mp hy).1;obtain ⟨v,hv,b',rfl,eb⟩:=aA pw (List.getElem?_eq_getElem (show i < ws.length by lia));obtain rfl:y=.ref b':=by rw [hv] at hy; exact (Option.some.inj hy).symm
  have eb12:H12 b'=some (.tup ((keyW (ws[i]'(by lia))).map kV)):=sm _ _ (bm (kp:=kp) eb rfl);generalize keyW (ws[i]'(by lia))=k at eb12;walk_at "rd";refine ⟨Nat.zero_le _,fun p1 hp1=>?_⟩;have k13:=af hp1 (.lst []);have B13:=B.same k13;have e13:upd H12 p1 (.lst []) p1=some (.lst []):=ab;have sg13:=sg.trans k13;have gp1:=sg.free hp1;have eb13:=k13 _ _ eb12;generalize upd H12 p1 (.lst [])=H13 at k13 B13 e13 sg13 eb13 ⊢;refine ⟨kp,_,dx,_,_,rfl,B13.self,T.c_Keeper.c,T.a_Keeper_standing,rfl,_,DPut.t (k:=k) B13.stand eb13 (sizeBig (by lia)),?_⟩;have sg14:Same G (upd H13 st (.dT (putK sk k (.ref p1)))):=aG sg13 gst;have m14:=dw (kp:=kp) (o':=.dT (putK sk k (.ref p1))) B13.stand rfl;obtain ⟨la,ha,ca,et,hL,_,_⟩:=hN.same sg14;have l8:=ok.lay.len;have w100:=ok.lay.w2;refine ⟨_,V.ref la,.inr (SqT.of et),rfl,N.1,hL,by lia,fun H15 s15=>?_⟩;walk_at "rd";refine ⟨by lia,by lia,?_⟩;refine ⟨by decide,fun p2 hp2=>?_⟩;generalize L2.st (List.replicate ((widthL N.1:Int)).toNat 45)=u;have k16:=s15.trans (af hp2 (.lst [V.str u]));have e16:upd H15 p2 (.lst [V.str u]) p2=some (.lst [V.str u]):=ab;have gp2:=(sg14.trans s15).free hp2;generalize upd H15 p2 (.lst [V.str u])=H16 at k16 e16 ⊢;have sg16:=sg14.trans k16;have self16:=k16 _ _ (bh (o'':=.dT (putK sk k (.ref p1))) B13.stand B13.self (fun z=>nomatch z));have fall16:H16 fa=some (.dT fk):=k16 _ _ (by rw [au (Ne.symm nsf)]; exact B13.fall);have eb16:=k16 _ _ (m14 _ _ (bm eb13 rfl));have l1:=cp sk k (.ref p1);have l2:=cp fk k (.ref p2);refine ⟨kp,_,dx,_,_,rfl,self16,T.c_Keeper.c,T.a_Keeper_fallen,rfl,_,DPut.t (k:=k) fall16 eb16 (sizeBig (by lia)),_,_,_,rfl,B13.put2 e13 k16 e16 (by lia) (by lia),aG sg16 gfa,aP (sm.trans k13) (aP m14 (aP (iV k16) (dw fall16 rfl))),by lia,by lia,fun k' v h'=>?_,fun k' v h'=>?_⟩
  ·rw [cW] at h';split at h'
   ·exact ⟨p1,(Option.some.inj h').symm,gp1⟩
   ·exact hsv k' v h'
  ·rw [cW] at h';split at h'
   ·exact ⟨p2,(Option.some.inj h').symm,gp2⟩
   ·exact hfv k' v h'
 ·rintro σ H12 ⟨sk,fk,u2,rfl,B,sg,sm,hsl,hfl,hsv,hfv⟩;have mm:=aP (m10.trans s11) sm;exact q H12 n a b c x xd d st fa fs sk fk sg B ((NetC.keep (fun _ _ e=>mm _ _ (bm e rfl)) (fun _ _ _ e=>mm _ _ (bm e rfl)) nc).imp fun r h=>s01.free h) hsv hfv
inductive Deed where
 | put (h d:List Nat) (j:Nat) (r:Rule)
 | strike (h d:List Nat) (j:Nat)
 | way (h b d:List Nat)
 | unway (h b:List Nat)
 | tie (s1 s2:Way)
 | untie (h d:List Nat)
noncomputable def afterH (hs:House):Deed->House
 | .put _ d j r=>(hs.1.map fun g=>(g.1,if g.1=d then g.2.take j++[r]++g.2.drop j else g.2),hs.2)
 | .strike _ d j=>(hs.1.map fun g=>(g.1,if g.1=d then g.2.take j++g.2.drop (j+1) else g.2),hs.2)
 | .way _ b d=>(hs.1,hs.2++[(b,d)])
 | .unway _ b=>(hs.1,hs.2.filter fun w=>!decide (w.1=b))
 | _=>hs
noncomputable def mapH (hs:List Named) (n:List Nat) (f:House->House):List Named:=hs.map fun x=>(x.1,if x.1=n then f x.2 else x.2)
noncomputable def afterN (N:Net) (D:Deed):Net:=match D with
 | .tie s1 s2=>(N.1,N.2.1,N.2.2++[(s1,s2)])
 | .untie h d=>(N.1,N.2.1,offL N.2.2 (h,d))
 | .put h _ _ _=>(N.1,mapH N.2.1 h (afterH · D),N.2.2)
 | .strike h _ _=>(N.1,mapH N.2.1 h (afterH · D),N.2.2)
 | .way h _ _=>(N.1,mapH N.2.1 h (afterH · D),N.2.2)
 | .unway h _=>(N.1,mapH N.2.1 h (afterH · D),N.2.2)
noncomputable def HouseD (W S:Nat) (hs:House):Deed->Prop
 | .put _ d j r=>∃ rs,gateOf hs.1 d=some rs/\j<=rs.length/\RuleOk W r
 | .strike _ d j=>∃ rs,gateOf hs.1 d=some rs/\j < rs.length
 | .way _ b d=>b.length<=S/\(∀ c ∈ b,c=48\/c=49)/\b ∉ hs.2.map (·.1)/\d ∈ hs.1.map (·.1)
 | .unway _ b=>b ∈ hs.2.map (·.1)
 | _=>False
def DeedOk (W S:Nat) (N:Net) (D:Deed):Prop:=match D with
 | .put h _ _ _=>∃ hs,houseOf N.2.1 h=some hs/\HouseD W S hs D
 | .strike h _ _=>∃ hs,houseOf N.2.1 h=some hs/\HouseD W S hs D
 | .way h _ _=>∃ hs,houseOf N.2.1 h=some hs/\HouseD W S hs D
 | .unway h _=>∃ hs,houseOf N.2.1 h=some hs/\HouseD W S hs D
 | .tie s1 s2=>(s1 ∈ spotsOf N.2.1/\s1 ∉ endsOf N.2.2)/\(s2 ∈ spotsOf N.2.1/\s2 ∉ endsOf N.2.2)/\s1≠s2
 | .untie h d=>(h,d) ∈ endsOf N.2.2
theorem dm {hs:List Named} {n:List Nat} {h:House} (e:houseOf hs n=some h):∃ x ∈ hs,x.1=n/\x.2=h:=by
 unfold houseOf at e;obtain ⟨g,hg,rfl⟩:=Option.map_eq_some_iff.mp e;have:=List.find?_some hg;exact ⟨g,List.mem_of_find?_eq_some hg,of_decide_eq_true this,rfl⟩
theorem je {α β:Type} {l:List (α × β)} (nd:(l.map (·.1)).Nodup) {x y:α × β} (hx:x ∈ l) (hy:y ∈ l) (e:x.1=y.1):x=y:=by
 induction l with
 | nil=>cases hx
 | cons z l ih=>
  rw [List.map_cons,List.nodup_cons] at nd;rcases List.mem_cons.mp hx with e1 | e1 <;> rcases List.mem_cons.mp hy with e2 | e2
  ·rw [e1,e2]
  ·exact absurd (List.mem_map.mpr ⟨y,e2,by rw [<- e,e1]⟩) nd.1
  ·exact absurd (List.mem_map.mpr ⟨x,e1,by rw [e,e2]⟩) nd.1
  ·exact ih nd.2 e1 e2
theorem kG {hs:List Named} {n:List Nat} {h:House} (nd:(hs.map (·.1)).Nodup) (e:houseOf hs n=some h) (f:House->House):putH hs n (f h)=mapH hs n f:=by
 obtain ⟨y,hy,e1,e2⟩:=dm e;refine List.map_congr_left fun x hx=>?_
 by_cases g:x.1=n
 ·rw [if_pos g,if_pos g,je nd hx hy (g.trans e1.symm),e2]
 ·rw [if_neg g,if_neg g]
theorem qN {gs:List Gate} {d:List Nat} {rs:List Rule} (nd:(gs.map (·.1)).Nodup) (e:gateOf gs d=some rs) (f:List Rule->List Rule):putG gs d (f rs)=gs.map fun g=>(g.1,if g.1=d then f g.2 else g.2):=by
 obtain ⟨y,hy,e1,e2⟩:=dU e;refine List.map_congr_left fun x hx=>?_
 by_cases g:x.1=d
 ·rw [if_pos g,if_pos g,je nd hx hy (g.trans e1.symm),e2]
 ·rw [if_neg g,if_neg g]
theorem HouseK.up {W S j:Nat} {hs:House} (h:HouseK W S j hs):HouseK W S (j+1) hs:=⟨h.nd,h.g1,h.g3,h.rules,fun x hx=>Nat.le_succ_of_le (h.rl x hx),h.ways,Nat.le_succ_of_le h.w5⟩
theorem sF {W S j:Nat} {hs:House} (h:HouseK W S j hs) {d:List Nat} {f:List Rule->List Rule} (h1:∀ rs r,r ∈ f rs->r ∈ rs\/RuleOk W r) (h2:∀ rs,(f rs).length<=rs.length+1):HouseK W S (j+1) (hs.1.map fun g=>(g.1,if g.1=d then f g.2 else g.2),hs.2):=by
 have e:(hs.1.map fun g=>(g.1,if g.1=d then f g.2 else g.2)).map (·.1)=hs.1.map (·.1):=by rw [List.map_map]; rfl
 refine ⟨by rw [e]; exact h.nd,by show 1<=(List.map _ _).length; rw [List.length_map]; exact h.g1,by show (List.map _ _).length<=3; rw [List.length_map]; exact h.g3,fun x hx r hr=>?_,fun x hx=>?_,by rw [e]; exact h.ways,Nat.le_succ_of_le h.w5⟩
 all_goals obtain ⟨g,hg,rfl⟩:=List.mem_map.mp hx
 ·by_cases z:g.1=d
  ·have hr':r ∈ f g.2:=by simpa [z] using hr
   rcases h1 _ r hr' with y | y
   ·exact h.rules g hg r y
   ·exact y
  ·have hr':r ∈ g.2:=by simpa [z] using hr
   exact h.rules g hg r hr'
 ·have:=h.rl g hg;have:=h2 g.2;show (if g.1=d then f g.2 else g.2).length<=_;split <;> lia
theorem v4 {W S j:Nat} {hs:House} (h:HouseK W S j hs) {D:Deed} (d:HouseD W S hs D):HouseK W S (j+1) (afterH hs D):=by
 cases D with
 | put n dd i r=>
  obtain ⟨rs,e,_,ok⟩:=d;refine sF h (f:=fun l=>l.take i++[r]++l.drop i) (fun rs x hx=>?_) fun rs=>?_
  ·rcases List.mem_append.mp hx with hx | hx
   ·rcases List.mem_append.mp hx with hx | hx
    ·exact .inl (List.mem_of_mem_take hx)
    ·rw [List.mem_singleton.mp hx]; exact .inr ok
   ·exact .inl (List.mem_of_mem_drop hx)
  ·simp only [List.length_append,List.length_take,List.length_drop,List.length_cons,List.length_nil]
   lia
 | strike n dd i=>
  refine sF h (f:=fun l=>l.take i++l.drop (i+1)) (fun rs x hx=>?_) fun rs=>?_
  ·rcases List.mem_append.mp hx with hx | hx
   ·exact .inl (List.mem_of_mem_take hx)
   ·exact .inl (List.mem_of_mem_drop hx)
  ·simp only [List.length_append,List.length_take,List.length_drop]
   lia
 | way n b dd=>
  obtain ⟨h1,h2,h3,h4⟩:=d;exact ⟨h.nd,h.g1,h.g3,h.rules,fun x hx=>Nat.le_succ_of_le (h.rl x hx),oX h.ways h1 h2 h4 h3,by show (hs.2++_).length<=_; rw [List.length_append]; have:=h.w5; simp only [List.length_cons,List.length_nil]; lia⟩
 | unway n b=>
  have sb:∀ x ∈ hs.2.filter (fun w=>!decide (w.1=b)),x ∈ hs.2:=fun x hx=>(List.mem_filter.mp hx).1
  exact ⟨h.nd,h.g1,h.g3,h.rules,fun x hx=>Nat.le_succ_of_le (h.rl x hx),⟨fun x hx=>h.ways.n x (sb x hx),fun x hx=>h.ways.bits x (sb x hx),fun x hx=>h.ways.door x (sb x hx),List.Sublist.nodup ((List.filter_sublist).map _) h.ways.nd⟩,by have:=h.w5; have:=List.length_filter_le (fun w:Way=>!decide (w.1=b)) hs.2; show (List.filter _ _).length<=_; lia⟩
 | tie _ _=>exact d.elim
 | untie _ _=>exact d.elim
theorem kE (hs:House) (D:Deed):(afterH hs D).1.map (·.1)=hs.1.map (·.1):=by
 cases D <;> first | rfl | (show (List.map _ (List.map _ _))=_; rw [List.map_map]; rfl)
theorem rW (hs:List Named) (n:List Nat) (D:Deed):doorsOf (mapH hs n (afterH · D))=doorsOf hs:=by
 unfold doorsOf mapH;rw [List.map_map];refine List.map_congr_left fun x _=>?_
 show (x.1,(if x.1=n then afterH x.2 D else x.2).1.map (·.1))=_;split
 ·rw [kE]
 ·rfl
theorem sQ {W S j:Nat} {N:Net} (h:NetK W S j N) {n:List Nat} {D:Deed} {hs:House} (e:houseOf N.2.1 n=some hs) (d:HouseD W S hs D):NetK W S (j+1) (N.1,mapH N.2.1 n (afterH · D),N.2.2):=by
 have en:(mapH N.2.1 n (afterH · D)).map (·.1)=N.2.1.map (·.1):=by unfold mapH; rw [List.map_map]; rfl
 have el:(mapH N.2.1 n (afterH · D)).length=N.2.1.length:=by unfold mapH; rw [List.length_map]
 have ed:=rW N.2.1 n D;obtain ⟨y,hy,e1,e2⟩:=dm e;have h1:=h.h1;have h4:=h.h4;have l6:=h.l6;refine ⟨by rw [en]; exact h.nd,by show 1<=(mapH N.2.1 n (afterH · D)).length; lia,by show (mapH N.2.1 n (afterH · D)).length<=4; lia,fun x hx=>?_,fun x hx=>?_,fun x hx g hg=>?_,h.ends,by show ∀ s ∈ endsOf N.2.2,s ∈ spotsOf (mapH N.2.1 n (afterH · D)); rw [md ed]; exact h.spots,by show N.2.2.length<=_; lia⟩
 all_goals obtain ⟨z,hz,rfl⟩:=List.mem_map.mp hx
 ·exact h.low z hz
 ·show HouseK W S (j+1) (if z.1=n then afterH z.2 D else z.2);split
  ·rename_i g;rw [je h.nd hz hy (g.trans e1.symm),e2];rw [<- e2] at d ⊢;exact v4 (h.house y hy) d
  ·exact (h.house z hz).up
 ·have hg:g ∈ (if z.1=n then afterH z.2 D else z.2).1:=hg;have:g.1 ∈ z.2.1.map (·.1):=by
   split at hg
   ·rw [<- kE z.2 D]; exact List.mem_map.mpr ⟨g,hg,rfl⟩
   ·exact List.mem_map.mpr ⟨g,hg,rfl⟩
  obtain ⟨g',hg',e3⟩:=List.mem_map.mp this;rw [<- e3];exact h.door z hz g' hg'
theorem qo (ls:List Line) (s1 s2:Way):endsOf (ls++[(s1,s2)])=endsOf ls++[s1,s2]:=by
 unfold endsOf;rw [List.flatMap_append];rfl
theorem zb {W S j:Nat} {N:Net} (h:NetK W S j N) {D:Deed} (d:DeedOk W S N D):NetK W S (j+1) (afterN N D):=by
 cases D with
 | put n _ _ _=>obtain ⟨hs,e,d⟩:=d; exact sQ h e d
 | strike n _ _=>obtain ⟨hs,e,d⟩:=d; exact sQ h e d
 | way n _ _=>obtain ⟨hs,e,d⟩:=d; exact sQ h e d
 | unway n _=>obtain ⟨hs,e,d⟩:=d; exact sQ h e d
 | tie s1 s2=>
  obtain ⟨⟨a1,a2⟩,⟨b1,b2⟩,ne⟩:=d;refine ⟨h.nd,h.h1,h.h4,h.low,fun x hx=>(h.house x hx).up,h.door,?_,?_,?_⟩
  ·show (endsOf (N.2.2++[(s1,s2)])).Nodup;rw [qo];refine List.nodup_append.mpr ⟨h.ends,by simp [ne],fun x hx y hy e=>?_⟩;rcases List.mem_cons.mp hy with rfl | hy
   ·exact a2 (e ▸ hx)
   ·rw [List.mem_singleton.mp hy] at e;exact b2 (e ▸ hx)
  ·show ∀ s ∈ endsOf (N.2.2++[(s1,s2)]),s ∈ spotsOf N.2.1;rw [qo];intro s hs;rcases List.mem_append.mp hs with hs | hs
   ·exact h.spots s hs
   ·rcases List.mem_cons.mp hs with rfl | hs
    ·exact a1
    ·rw [List.mem_singleton.mp hs]; exact b1
  ·show (N.2.2++[(s1,s2)]).length<=_;have:=h.l6;rw [List.length_append];simp only [List.length_cons,List.length_nil]
   lia
 | untie n dd=>
  have sb:(endsOf (offL N.2.2 (n,dd))).Sublist (endsOf N.2.2):=i9 _ _;refine ⟨h.nd,h.h1,h.h4,h.low,fun x hx=>(h.house x hx).up,h.door,List.Sublist.nodup sb h.ends,fun s hs=>h.spots s (sb.subset hs),?_⟩;have:=h.l6;have:(offL N.2.2 (n,dd)).length<=N.2.2.length:=List.length_filter_le _ _;show (offL N.2.2 (n,dd)).length<=_
  lia
theorem kq {n:List Nat} (h:Low n) (hl:n.length<=8):NameOk (st n):=by
 unfold NameOk;rw [az];exact ⟨fun c hc=>by have:=h c hc; lia,by lia⟩
structure NetF (S j:Nat) (N:Net):Prop where
 lay:LayOk N.1
 to:(toB,S) ∈ N.1
 k:NetK (widthL N.1) S j N
theorem NetF.ok {S j:Nat} {N:Net} (h:NetF S j N) (hj:j<=24):NetOk N:=by
 obtain ⟨a,h1,h2⟩:=kM N.1 toT S 0 h.lay.nd h.to;have e:(spanG N.1).2 - (spanG N.1).1=S:=by unfold spanG; rw [h1]; show a+S - a=S; lia
 have h4:=h.k.h4;have l6:=h.k.l6;refine ⟨h.lay,h.k.nd,fun x hx=>⟨(h.k.low x hx).1,by have:=(h.k.low x hx).2; lia⟩,fun x hx=>?_,fun x hx g hg=>⟨(h.k.door x hx g hg).1,by have:=(h.k.door x hx g hg).2; lia⟩,by lia,h.k.ends,h.k.spots,by lia⟩;have hk:=h.k.house x hx;have g3:=hk.g3;have w5:=hk.w5;rw [e];exact ⟨hk.nd,by lia,hk.rules,fun y hy=>by have:=hk.rl y hy; lia,hk.ways,by lia⟩
theorem NetF.after {S j:Nat} {N:Net} (h:NetF S j N) {D:Deed} (d:DeedOk (widthL N.1) S N D):NetF S (j+1) (afterN N D):=by
 have e:(afterN N D).1=N.1:=by cases D <;> rfl
 exact ⟨by rw [e]; exact h.lay,by rw [e]; exact h.to,by rw [e]; exact zb h.k d⟩
theorem vm {hs:List Named} (nd:(hs.map (·.1)).Nodup) (h:∀ x ∈ hs,(x.2.1.map (·.1)).Nodup):(spotsOf hs).Nodup:=by
 induction hs with
 | nil=>exact List.nodup_nil
 | cons x hs ih=>
  rw [List.map_cons,List.nodup_cons] at nd;have e:spotsOf (x::hs)=x.2.1.map (fun g=>(x.1,g.1))++spotsOf hs:=rfl;rw [e];refine List.nodup_append.mpr ⟨?_,ih nd.2 fun y hy=>h y (List.mem_cons_of_mem _ hy),fun a ha b hb e=>?_⟩
  ·have:=h x List.mem_cons_self;exact List.pairwise_map.mpr ((List.pairwise_map.mp this).imp fun n e=>n (Prod.ext_iff.mp e).2)
  ·obtain ⟨g,_,rfl⟩:=List.mem_map.mp ha;rw [<- e] at hb;unfold spotsOf at hb;obtain ⟨y,hy,hb⟩:=List.mem_flatMap.mp hb;obtain ⟨g',_,e2⟩:=List.mem_map.mp hb;have:y.1=x.1:=(Prod.ext_iff.mp e2).1;exact nd.1 (List.mem_map.mpr ⟨y,hy,this⟩)
theorem NetF.spots {S j:Nat} {N:Net} (h:NetF S j N):(spotsOf N.2.1).Nodup/\(spotsOf N.2.1).length<=12:=by
 refine ⟨vm h.k.nd fun x hx=>(h.k.house x hx).nd,?_⟩;have:=lN (hs:=N.2.1) (c:=3) fun x hx=>(h.k.house x hx).g3
 have:=h.k.h4
 lia
noncomputable abbrev putW:List Nat:=[112,117,116]
noncomputable abbrev strikeW:List Nat:=[115,116,114,105,107,101]
noncomputable abbrev wayW:List Nat:=[119,97,121]
noncomputable abbrev unwayW:List Nat:=[117,110,119,97,121]
noncomputable abbrev tieW:List Nat:=[116,105,101]
noncomputable abbrev untieW:List Nat:=[117,110,116,105,101]
noncomputable def DeedAt (H:Hp) (t:Addr):Deed->Prop
 | .put h d j r=>∃ rt,H t=some (.tup [tx putW,tx h,tx d,.int (j:Nat),.ref rt])/\H rt=some (.tup [tx r.1,tx r.2.1,tx r.2.2])
 | .strike h d j=>H t=some (.tup [tx strikeW,tx h,tx d,.int (j:Nat)])
 | .way h b d=>H t=some (.tup [tx wayW,tx h,tx b,tx d])
 | .unway h b=>H t=some (.tup [tx unwayW,tx h,tx b])
 | .tie s1 s2=>Ex2 fun a1 a2=>H t=some (.tup [tx tieW,.ref a1,.ref a2])/\H a1=some (.tup [tx s1.1,tx s1.2])/\H a2=some (.tup [tx s2.1,tx s2.2])
 | .untie h d=>H t=some (.tup [tx untieW,tx h,tx d])
theorem DeedAt.same {H H':Hp} {t:Addr} {D:Deed} (h:DeedAt H t D) (s:Same H H'):DeedAt H' t D:=by
 cases D with
 | put _ _ _ _=>obtain ⟨rt,h1,h2⟩:=h; exact ⟨rt,s _ _ h1,s _ _ h2⟩
 | tie _ _=>obtain ⟨a1,a2,h1,h2,h3⟩:=h; exact ⟨a1,a2,s _ _ h1,s _ _ h2,s _ _ h3⟩
 | strike _ _ _=>exact s _ _ h
 | way _ _ _=>exact s _ _ h
 | unway _ _=>exact s _ _ h
 | untie _ _=>exact s _ _ h
theorem lX:∀ {ls:List Line} {x:Way},x ∈ endsOf ls->∃ y,beyondL ls x=some y
 | [],_,h=>by cases h
 | (a,b)::ls,x,h=>by
  have e:endsOf ((a,b)::ls)=a::b::endsOf ls:=rfl;rw [e] at h;unfold beyondL;by_cases g1:a=x
  ·exact ⟨b,if_pos g1⟩
  ·rw [if_neg g1];by_cases g2:b=x
   ·exact ⟨a,if_pos g2⟩
   ·rw [if_neg g2];rcases List.mem_cons.mp h with z | z
    ·exact absurd z.symm g1
    ·rcases List.mem_cons.mp z with z | z
     ·exact absurd z.symm g2
     ·exact lX z
noncomputable def ki (K:Frag):Sp:=av fun kp=>av fun t=>aE fun H Q _=>Ex4 fun (N:Net) (D:Deed) (S j:Nat)=>KeepAt K H kp N/\NetF S j N/\j < 24/\DeedAt H t D/\DeedOk (widthL N.1) S N D/\Done K H kp (afterN N D) Q
theorem rU (T:Top K mg):Callee P w K mg base 7 "_law_do" ["_law_keeper", "_law_deed_here"] (ki K):=by
 refine T.o8.cal ro (by unfold ki; exact LenSp.h) (fun _ _ _ _ _ _ us hl=>match us,hl with | [_,_],_=>rfl) (fun f cdv A outer s H vs Q E hr h=>?_);unfold ki at h;walk_at "el";refine ⟨_,(ag (aW (aB bn (ai (ixE K rfl) (qv 1) ad (fun _ _=>rfl)) (qs [112,117,116])) (ah (ax (b9 T.c_Keeper (jH T) hr.m (qv 0) (aa (ai (ixE K rfl) (qv 1) ad (fun _ _=>rfl)) (aa (ai (ixE K rfl) (qv 1) ad (fun _ _=>rfl)) (aa (ai (ixE K rfl) (qv 1) ad (fun _ _=>rfl)) (aa (ai (ixE K rfl) (qv 1) ad (fun _ _=>rfl)) ae))))))) aC)
   (ag (aW (aB bn (ai (ixE K rfl) (qv 1) ad (fun _ _=>rfl)) (qs [115,116,114,105,107,101])) (ah (ax (b9 T.c_Keeper (iB T) hr.m (qv 0) (aa (ai (ixE K rfl) (qv 1) ad (fun _ _=>rfl)) (aa (ai (ixE K rfl) (qv 1) ad (fun _ _=>rfl)) (aa (ai (ixE K rfl) (qv 1) ad (fun _ _=>rfl)) ae)))))) aC)
   (ag (aW (aB bn (ai (ixE K rfl) (qv 1) ad (fun _ _=>rfl)) (qs [119,97,121])) (ah (ax (b9 T.c_Keeper (kh T) hr.m (qv 0) (aa (ai (ixE K rfl) (qv 1) ad (fun _ _=>rfl)) (aa (ai (ixE K rfl) (qv 1) ad (fun _ _=>rfl)) (aa (ai (ixE K rfl) (qv 1) ad (fun _ _=>rfl)) ae)))))) aC)
   (ag (aW (aB bn (ai (ixE K rfl) (qv 1) ad (fun _ _=>rfl)) (qs [117,110,119,97,121])) (ah (ax (b9 T.c_Keeper (i4 T) hr.m (qv 0) (aa (ai (ixE K rfl) (qv 1) ad (fun _ _=>rfl)) (aa (ai (ixE K rfl) (qv 1) ad (fun _ _=>rfl)) ae))))) aC)
   (ag (aW (aB bn (ai (ixE K rfl) (qv 1) ad (fun _ _=>rfl)) (qs [116,105,101])) (ah (ax (b9 T.c_Keeper (ny T) hr.m (qv 0) (aa (ai (ixE K rfl) (qv 1) ad (fun _ _=>rfl)) (aa (ai (ixE K rfl) (qv 1) ad (fun _ _=>rfl)) ae))))) aC)
   (ah (ax (b9 T.c_Keeper (lz T) hr.m (qv 0) (aa (ai (ixE K rfl) (qv 1) ad (fun _ _=>rfl)) (aa (ai (ixE K rfl) (qv 1) ad (fun _ _=>rfl)) ae)))))))))),?_⟩
 rename_i kp t;obtain ⟨N,D,S,j,A,nf,hj,dt,dok,q⟩:=h;have nok:=nf.ok (by lia);obtain ⟨dx,n,cr,cdx,g,st',fa,cfs,sk,fk,B,hN⟩:=id A;have nk:=nf.k;have names:∀ {h:List Nat} {hs:House},houseOf N.2.1 h=some hs->NameOk (st h)/\HouseK (widthL N.1) S j hs/\∀ g ∈ hs.1,Low g.1/\g.1.length<=8:=fun {h hs} eh=>by
  obtain ⟨y,hy,rfl,rfl⟩:=dm eh;exact ⟨kq (nk.low y hy).1 (nk.low y hy).2,nk.house y hy,nk.door y hy⟩
 cases D with
 | put h d i r=>
  obtain ⟨rt,e,er⟩:=dt;obtain ⟨hs,eh,rs,eg,hi,rok⟩:=dok;obtain ⟨hn,hk,hd⟩:=names eh;obtain ⟨gg,hgg,rfl,rfl⟩:=dU eg;have dn:=kq (hd gg hgg).1 (hd gg hgg).2;have g3:=hk.g3;have rl:=hk.rl gg hgg;walk_at "rd";refine ⟨_,tx putW,.inr (SqT.of e),rfl,?_⟩;walk_at "rd";refine ⟨kp,dx,_,rfl,B.self,rfl,_,tx h,.inr (SqT.of e),rfl,_,tx gg.1,.inr (SqT.of e),rfl,_,V.int (i:Nat),.inr (SqT.of e),rfl,_,V.ref rt,.inr (SqT.of e),rfl,N,hs,gg.2,i,r,A,⟨nf.lay,nok.n⟩,hn,dn,by simp only [az]; exact eh,by lia,by simp only [az]; exact eg,rfl,hi,by lia,er,rok,?_⟩;simp only [az];have e3:(putG hs.1 gg.1 (gg.2.take i++[r]++gg.2.drop i),hs.2)=afterH hs (.put h gg.1 i r):=by
   show (_,_)=(_,_);rw [qN hk.nd eg fun l=>l.take i++[r]++l.drop i]
  rw [e3,kG nk.nd eh (afterH · (.put h gg.1 i r))];exact q
 | strike h d i=>
  have e:H t=some (.tup [tx strikeW,tx h,tx d,.int (i:Nat)]):=dt;obtain ⟨hs,eh,rs,eg,hi⟩:=dok;obtain ⟨hn,hk,hd⟩:=names eh;obtain ⟨gg,hgg,rfl,rfl⟩:=dU eg;have dn:=kq (hd gg hgg).1 (hd gg hgg).2;have g3:=hk.g3;have rl:=hk.rl gg hgg;walk_at "rd";refine ⟨_,tx strikeW,.inr (SqT.of e),rfl,?_⟩;walk_at "rd";refine ⟨_,tx strikeW,.inr (SqT.of e),rfl,?_⟩;walk_at "rd";refine ⟨kp,dx,_,rfl,B.self,rfl,_,tx h,.inr (SqT.of e),rfl,_,tx gg.1,.inr (SqT.of e),rfl,_,V.int (i:Nat),.inr (SqT.of e),rfl,N,hs,gg.2,i,A,nok.n,hn,dn,by simp only [az]; exact eh,by lia,by simp only [az]; exact eg,rfl,hi,by lia,?_⟩;simp only [az];have e3:(putG hs.1 gg.1 (gg.2.take i++gg.2.drop (i+1)),hs.2)=afterH hs (.strike h gg.1 i):=by
   show (_,_)=(_,_);rw [qN hk.nd eg fun l=>l.take i++l.drop (i+1)]
  rw [e3,kG nk.nd eh (afterH · (.strike h gg.1 i))];exact q
 | way h b d=>
  have e:H t=some (.tup [tx wayW,tx h,tx b,tx d]):=dt;obtain ⟨hs,eh,d1,d2,d3,d4⟩:=dok;obtain ⟨hn,hk,hd⟩:=names eh;obtain ⟨gg,hgg,rfl⟩:=List.mem_map.mp d4;have dl:=hd gg hgg;have w5:=hk.w5;obtain ⟨f1,e1,e2⟩:=kM N.1 toT S 0 nf.lay.nd nf.to;have w2:=nf.lay.w2;walk_at "rd";refine ⟨_,tx wayW,.inr (SqT.of e),rfl,?_⟩;walk_at "rd";refine ⟨_,tx wayW,.inr (SqT.of e),rfl,?_⟩;walk_at "rd";refine ⟨_,tx wayW,.inr (SqT.of e),rfl,?_⟩;walk_at "rd";refine ⟨kp,dx,_,rfl,B.self,rfl,_,tx h,.inr (SqT.of e),rfl,_,tx b,.inr (SqT.of e),rfl,_,tx gg.1,.inr (SqT.of e),rfl,N,hs,f1,f1+S,A,nok.n,hn,by simp only [az]; exact eh,by lia,e1,by lia,by simp only [az]; lia,by simp only [az]; exact d2,by simp only [az]; exact d3,by simp only [az]; exact d4,by simp only [az]; exact dl.1,by simp only [az]; lia,?_⟩;simp only [az];have e3:=kG nk.nd eh (afterH · (.way h b gg.1));have e4:putH N.2.1 h (hs.1,hs.2++[(b,gg.1)])=_:=e3;rw [e4];exact q
 | unway h b=>
  have e:H t=some (.tup [tx unwayW,tx h,tx b]):=dt;obtain ⟨hs,eh,d1⟩:=dok;obtain ⟨hn,hk,hd⟩:=names eh;have w5:=hk.w5;walk_at "rd";refine ⟨_,tx unwayW,.inr (SqT.of e),rfl,?_⟩;walk_at "rd";refine ⟨_,tx unwayW,.inr (SqT.of e),rfl,?_⟩;walk_at "rd";refine ⟨_,tx unwayW,.inr (SqT.of e),rfl,?_⟩;walk_at "rd";refine ⟨_,tx unwayW,.inr (SqT.of e),rfl,?_⟩;walk_at "rd";refine ⟨kp,dx,_,rfl,B.self,rfl,_,tx h,.inr (SqT.of e),rfl,_,tx b,.inr (SqT.of e),rfl,N,hs,A,nok.n,hn,by simp only [az]; exact eh,by lia,by simp only [az]; exact d1,?_⟩;simp only [az];have e3:=kG nk.nd eh (afterH · (.unway h b));have e4:putH N.2.1 h (hs.1,hs.2.filter fun w=>!decide (w.1=b))=_:=e3;rw [e4];exact q
 | tie s1 s2=>
  obtain ⟨a1,a2,e,ea1,ea2⟩:=dt;have l6:=nk.l6;have ok2:=(nf.after (D:=.tie s1 s2) dok).ok (by lia);walk_at "rd";refine ⟨_,tx tieW,.inr (SqT.of e),rfl,?_⟩;walk_at "rd";refine ⟨_,tx tieW,.inr (SqT.of e),rfl,?_⟩;walk_at "rd";refine ⟨_,tx tieW,.inr (SqT.of e),rfl,?_⟩;walk_at "rd";refine ⟨_,tx tieW,.inr (SqT.of e),rfl,?_⟩;walk_at "rd";refine ⟨_,tx tieW,.inr (SqT.of e),rfl,?_⟩;walk_at "rd";exact ⟨kp,dx,_,rfl,B.self,rfl,_,V.ref a1,.inr (SqT.of e),rfl,_,V.ref a2,.inr (SqT.of e),rfl,N,s1,s2,A,ea1,ea2,by lia,ok2,q⟩
 | untie h d=>
  have e:H t=some (.tup [tx untieW,tx h,tx d]):=dt;have hin:(h,d) ∈ endsOf N.2.2:=dok;obtain ⟨hs,rs,eh,eg⟩:=pT nk.nd (nk.spots _ hin);obtain ⟨y,ey⟩:=lX hin;obtain ⟨hn,hk,hd⟩:=names eh;obtain ⟨gg,hgg,e1,e2⟩:=dU eg;have dn:=kq (hd gg hgg).1 (hd gg hgg).2;rw [e1] at dn;walk_at "rd";refine ⟨_,tx untieW,.inr (SqT.of e),rfl,?_⟩;walk_at "rd";refine ⟨_,tx untieW,.inr (SqT.of e),rfl,?_⟩;walk_at "rd";refine ⟨_,tx untieW,.inr (SqT.of e),rfl,?_⟩;walk_at "rd";refine ⟨_,tx untieW,.inr (SqT.of e),rfl,?_⟩;walk_at "rd";refine ⟨_,tx untieW,.inr (SqT.of e),rfl,?_⟩;walk_at "rd";refine ⟨kp,dx,_,rfl,B.self,rfl,_,tx h,.inr (SqT.of e),rfl,_,tx d,.inr (SqT.of e),rfl,N,hs,rs,y,A,nok.n,hn,dn,?_⟩;simp only [az];exact ⟨eh,eg,ey,q⟩
def GatesL (F:Addr->Prop) (H:Hp) (g:Addr) (gs:List Gate):Prop:=∃ gv,H g=some (.lst gv)/\Paired (GateN F H) gs gv
def HouseL (F:Addr->Prop) (H:Hp) (q:Addr) (hs:House):Prop:=Ex2 fun g w=>H q=some (.tup [.ref g,.ref w])/\(F g/\F w)/\GatesL F H g hs.1/\Ways H w hs.2
theorem GatesL.same {F:Addr->Prop} {H H':Hp} {g:Addr} {gs:List Gate} (h:GatesL F H g gs) (s:Same H H'):GatesL F H' g gs:=by
 obtain ⟨gv,e,p⟩:=h;exact ⟨gv,s _ _ e,L2.Paired.mapP p fun _ _ ⟨t,r,e,n,h1,h2⟩=>⟨t,r,e,n,s _ _ h1,h2.same s⟩⟩
noncomputable def cQ (K:Frag):Sp:=av fun q=>av fun t=>aE fun H Q _=>Ex6 fun (Fq:Addr->Prop) (hs:House) (D:Deed) (W S j:Nat)=>HouseL Fq H q hs/\(∀ r,H r=none->Fq r)/\HouseK W S j hs/\j < 24/\DeedAt H t D/\HouseD W S hs D/\∀ q' H',H q'=none->Same H H'->HouseL Fq H' q' (afterH hs D)->Q (.ref q') H'
noncomputable def gatesF (gs:List Gate) (d:List Nat) (F:List Rule->List Rule):List Gate:=gs.map fun g=>(g.1,if g.1=d then F g.2 else g.2)
def GateU (A:Addr) (F:Addr->Prop) (H:Hp) (x:Gate) (v:V):Prop:=Ex2 fun t r=>v=.ref t/\H t=some (.tup [tx x.1,.ref r])/\(r≠A/\F r)/\Rules H r x.2
theorem qi {A:Addr} {F:Addr->Prop} {H H':Hp} (kt:∀ t ts,H t=some (.tup ts)->H' t=some (.tup ts)) (kl:∀ r vs,r≠A->H r=some (.lst vs)->H' r=some (.lst vs)) {gs:List Gate} {vs:List V} (p:Paired (GateU A F H) gs vs):Paired (GateU A F H') gs vs:=by
 refine L2.Paired.mapP p ?_;rintro x v ⟨t,r,e,h1,n,⟨rv,er,pr⟩⟩;exact ⟨t,r,e,kt _ _ h1,n,⟨rv,kl _ _ n.1 er,aI kt pr⟩⟩
theorem at0 {l:List V} {v:V} (h:l[0]? = some v):atI l 0=some v:=show atI l ((0:Nat):Int)=_ from bC h
theorem at2 {l:List V} {v:V} (h:l[2]? = some v):atI l 2=some v:=show atI l ((2:Nat):Int)=_ from bC h
theorem at3 {l:List V} {v:V} (h:l[3]? = some v):atI l 3=some v:=show atI l ((3:Nat):Int)=_ from bC h
theorem at4 {l:List V} {v:V} (h:l[4]? = some v):atI l 4=some v:=show atI l ((4:Nat):Int)=_ from bC h
theorem jJ (T:Top K mg):Callee P w K mg base 1 "_law_house_after" ["_law_house_here", "_law_deed_here"] (cQ K):=by
 refine T.gt.cal bu (by unfold cQ; exact LenSp.h) (fun _ _ _ _ _ _ us hl=>match us,hl with | [_,_],_=>rfl) (fun f cdv A outer s H vs Q E hr h=>?_);unfold cQ at h;walk_at "el";refine ⟨_,(ag (aW (aB bn (ai (ixE K rfl) (qv 1) ad (fun _ _=>rfl)) (qs [119,97,121])) (ah (ax (ay (aa (ai (ixE K rfl) (qv 0) ad (fun _ _=>rfl)) (aa (al ak (ai (ixE K rfl) (qv 0) ad (fun _ _=>rfl)) (aL (aa (ay (aa (ai (ixE K rfl) (qv 1) ad (fun _ _=>rfl)) (aa (ai (ixE K rfl) (qv 1) ad (fun _ _=>rfl)) ae))) ae))) ae))))) aC)
   (ag (aW (aB bn (ai (ixE K rfl) (qv 1) ad (fun _ _=>rfl)) (qs [117,110,119,97,121])) (ah (ax (ay (aa (ai (ixE K rfl) (qv 0) ad (fun _ _=>rfl)) (aa (aJ (nt:=1) (fi:=[1]) (N':=["_law_way", "_law_deed_here"]) rfl (cscope rfl (by decide +kernel)) (cnames (N:=["_law_house_here", "_law_deed_here", "_law_gates", "_law_door", "_law_rules"]) (sc:=defScope cu) rfl rfl (by decide +kernel)) (aQ (by decide)) (iterE K rfl (ai (ixE K rfl) (qv 0) ad (fun _ _=>rfl))) (fun _ _ _ _ _=>(aj (i:=0) (by show (["_law_way", "_law_deed_here"]:List Str).Nodup; decide +kernel) rfl lc)) (fun _ _ _ _ _=>(cN (aB rD (ai (ixE K rfl) (qv 0) ad (fun _ _=>rfl)) (ai (ixE K rfl) (qv 1) ad (fun _ _=>rfl))))) (fun _ _ _ _ _=>(qv 0))) ae))))) aC)
   (ag (aq (i:=2) bu.nd rfl lc (aL ae))
   (ag (bw PassesOwn.never rfl (iterE K rfl (ai (ixE K rfl) (qv 0) ad (fun _ _=>rfl))) (tupE K rfl rfl (n:=2) (ao (aj (i:=3) bu.nd rfl lc) (ao (aj (i:=4) bu.nd rfl lc) aM))) (cg (aW (PW.pt (m7 (aB bn (qv 3) (ai (ixE K rfl) (qv 1) ad (fun _ _=>rfl))) (kK (aB bn (ai (ixE K rfl) (qv 1) ad (fun _ _=>rfl)) (qs [112,117,116]))))) (ah (aq (i:=4) bu.nd rfl lc (al ak (al ak (bp (slE K rfl) (qv 4) bT (bG (ai (ixE K rfl) (qv 1) ad (fun _ _=>rfl)))) (aL (aa (ai (ixE K rfl) (qv 1) ad (fun _ _=>rfl)) ae))) (bp (slE K rfl) (qv 4) (bG (ai (ixE K rfl) (qv 1) ad (fun _ _=>rfl))) bT)))) aC)
   (cg (aW (PW.pt (m7 (aB bn (qv 3) (ai (ixE K rfl) (qv 1) ad (fun _ _=>rfl))) (kK (aB bn (ai (ixE K rfl) (qv 1) ad (fun _ _=>rfl)) (qs [115,116,114,105,107,101]))))) (ah (aq (i:=4) bu.nd rfl lc (al ak (bp (slE K rfl) (qv 4) bT (bG (ai (ixE K rfl) (qv 1) ad (fun _ _=>rfl)))) (bp (slE K rfl) (qv 4) (bG (al ak (ai (ixE K rfl) (qv 1) ad (fun _ _=>rfl)) ad)) bT)))) aC)
   (ah (aw (aY (qv 2) (ay (aa (qv 3) (aa (qv 4) ae)))))))))
   (ah (ax (ay (aa (qv 2) (aa (ai (ixE K rfl) (qv 0) ad (fun _ _=>rfl)) ae))))))))),?_⟩
 rename_i q t;obtain ⟨Fq,hs,D,W,S,j,hH,hF,hk,hj,dt,dok,k⟩:=h;obtain ⟨ga,wa,eh,⟨fga,fwa⟩,hG,hW⟩:=id hH;obtain ⟨gv,eg,pg⟩:=id hG;obtain ⟨wv,ew,pw⟩:=id hW;have lg:=pg.length;have lw:=pw.length;have g3:=hk.g3;have w5:=hk.w5;have hD:(Ex3 fun h b d=>D=.way h b d)\/(Ex2 fun h b=>D=.unway h b)\/Ex6 fun (w:List Nat) (rest:List V) (h d:List Nat) (i:Nat) (F:List Rule->List Rule)=>H t=some (.tup (tx w::tx h::tx d::V.int (i:Nat)::rest))/\((w=putW/\Ex2 fun r rt=>rest=[.ref rt]/\RuleAt H r (.ref rt)/\F=fun l=>l.take i++[r]++l.drop i)\/(w=strikeW/\F=fun l=>l.take i++l.drop (i+1)))/\afterH hs D=(gatesF hs.1 d F,hs.2)/\∀ g ∈ hs.1,g.1=d->i<=g.2.length/\(w=strikeW->i < g.2.length):=by
  have uni:∀ {d:List Nat} {rs:List Rule},gateOf hs.1 d=some rs->∀ g ∈ hs.1,g.1=d->g.2=rs:=fun e g hg hd=>by
   obtain ⟨y,hy,e1,e2⟩:=dU e;rw [je hk.nd hg hy (hd.trans e1.symm),e2]
  cases D with
  | tie _ _=>exact dok.elim
  | untie _ _=>exact dok.elim
  | way h b d=>exact .inl ⟨h,b,d,rfl⟩
  | unway h b=>exact .inr (.inl ⟨h,b,rfl⟩)
  | put h d i r=>
   obtain ⟨rt,e,er⟩:=dt;obtain ⟨rs,eg,hi,_⟩:=dok;exact .inr (.inr ⟨putW,[.ref rt],h,d,i,_,e,.inl ⟨rfl,r,rt,rfl,⟨rt,rfl,er⟩,rfl⟩,rfl,fun g hg hd=>by rw [uni eg g hg hd]; exact ⟨hi,fun z=>by cases z⟩⟩)
  | strike h d i=>
   obtain ⟨rs,eg,hi⟩:=dok;exact .inr (.inr ⟨strikeW,[],h,d,i,_,dt,.inr ⟨rfl,rfl⟩,rfl,fun g hg hd=>by rw [uni eg g hg hd]; exact ⟨by lia,fun _=>hi⟩⟩)
 rcases hD with ⟨h,b,d,rfl⟩ | ⟨h,b,rfl⟩ | ⟨w,rest,h,d,i,F,e,hw,eA,hlen⟩
 ·have e:H t=some (.tup [tx wayW,tx h,tx b,tx d]):=dt;walk_at "rd";refine ⟨_,tx wayW,.inr (SqT.of e),rfl,?_⟩;walk_at "rd";refine ⟨_,V.ref ga,.inr (SqT.of eh),rfl,_,V.ref wa,.inr (SqT.of eh),rfl,_,tx b,.inr (SqT.of e),rfl,_,tx d,.inr (SqT.of e),rfl,by decide,fun t1 ht1=>⟨by decide,fun l1 hl1=>?_⟩⟩;have k1:=af ht1 (.tup [tx b,tx d]);have k2:=af hl1 (.lst [V.ref t1]);walk_at "rd";refine ⟨wv,_,k2 _ _ (k1 _ _ ew),ab,by rw [sizeLine_eq]; simp only [List.length_cons,List.length_nil]; lia,fun l2 hl2=>⟨by decide,fun q' hq'=>?_⟩⟩;have k3:=af hl2 (.lst (wv++[V.ref t1]));have k4:=af hq' (.tup [V.ref ga,V.ref l2]);have s3:=k1.trans (k2.trans k3);have s4:=s3.trans k4;exact k q' _ (s3.free hq') s4 ⟨ga,l2,ab,⟨fga,hF _ ((k1.trans k2).free hl2)⟩,hG.same s4,⟨_,k4 _ _ ab,aO (aD (fun _ _ z=>s4 _ _ z) pw) ⟨t1,rfl,(k2.trans (k3.trans k4)) _ _ ab⟩⟩⟩
 ·have e:H t=some (.tup [tx unwayW,tx h,tx b]):=dt;obtain ⟨z1,z2⟩:=aF pw;walk_at "rd";refine ⟨_,tx unwayW,.inr (SqT.of e),rfl,?_⟩;walk_at "rd";refine ⟨_,tx unwayW,.inr (SqT.of e),rfl,?_⟩;walk_at "rd";refine ⟨_,V.ref ga,.inr (SqT.of eh),rfl,_,V.ref wa,.inr (SqT.of eh),rfl,.inl ⟨⟨_,SqL.of ew⟩,fun D hD=>?_⟩⟩;refine bR (item:=fun x:Way × V=>x.2) (hs.2.zip wv) (fun x=>!decide (x.1.1=b)) (fun x v H'=>WayAt H' x.1 v) hD (by rw [z1]; exact SqL.of ew) (by rw [List.length_zip]; lia) ?_ ?_ ?_
  ·rintro x v H3 H4 acc hd k ⟨t',rfl,et'⟩;exact ⟨t',rfl,k t' _ (fun z=>by rw [z,hd] at et'; cases et') et'⟩
  ·intro x H3 out non hx s3 ho hno;obtain ⟨t',ex,et'⟩:=z2 x hx;rw [ex];walk_at "rd";refine ⟨_,_,.inr (SqT.of (s3 _ _ et')),rfl,_,tx b,.inr (SqT.of (s3 _ _ e)),rfl,?_⟩;walk_at "rd";exact ite2 (fun g=>hno _ (by simp [g]) (Same.refl _)) fun g=>ho _ _ (by simp [g]) (Same.refl _) ⟨t',rfl,s3 _ _ et'⟩
  ·intro H2 us s2 e2 p2;have p2':Paired (WayAt H2) (hs.2.filter fun w=>!decide (w.1=b)) us:=by
    have:hs.2.filter (fun w=>!decide (w.1=b))=((hs.2.zip wv).filter fun x=>!decide (x.1.1=b)).map Prod.fst:=by
     conv=>lhs; rw [<- bj (l:=hs.2) (m:=wv) lw]
     rw [List.filter_map];rfl
    rw [this];exact aS p2
   refine ⟨by decide,fun q' hq'=>?_⟩;have k4:=af hq' (.tup [V.ref ga,V.ref D]);have s4:=s2.trans k4;exact k q' _ (s2.free hq') s4 ⟨ga,D,ab,⟨fga,hF _ hD⟩,hG.same s4,⟨us,k4 _ _ e2,aD (fun _ _ z=>k4 _ _ z) p2'⟩⟩
 ·have n1:¬ w=[119,97,121]:=by rcases hw with ⟨rfl,_⟩ | ⟨rfl,_⟩ <;> decide
  have n2:¬ w=[117,110,119,97,121]:=by rcases hw with ⟨rfl,_⟩ | ⟨rfl,_⟩ <;> decide
  walk_at "rd";refine ⟨_,tx w,.inr (SqT.of e),at0 rfl,?_⟩;walk_at "rd";rw [if_neg n1];refine ⟨_,tx w,.inr (SqT.of e),at0 rfl,?_⟩;walk_at "rd";rw [if_neg n2];refine ⟨Nat.zero_le _,fun A hA=>?_⟩;have sA:=af hA (.lst []);refine ⟨_,V.ref ga,.inr (SqT.of (sA _ _ eh)),rfl,.inl ⟨⟨_,SqL.of (sA _ _ eg)⟩,?_⟩⟩;refine aN (xs:=gv) (fun m σ H'=>Ex3 fun vs u3 u4=>σ = [some (.ref q),some (.ref t),some (.ref A),u3,u4]/\Same H H'/\H' A=some (.lst vs)/\Paired (GateU A Fq H') ((gatesF hs.1 d F).take m) vs) ⟨[],none,none,rfl,sA,ab,.nil⟩ (fun m σ H' _ ⟨_,_,_,_,z,_⟩=>SqL.of (z _ _ eg)) ?_ ?_
  ·rintro m x σ H5 hx ⟨vs,u3,u4,rfl,s5,eA5,p5⟩;have hm:m < gv.length:=(List.getElem?_eq_some_iff.mp hx).1;have hml:m < hs.1.length:=by lia
   obtain ⟨y,hy,tg,rp,ey,fr,etg,hR⟩:=aA pg (List.getElem?_eq_getElem hml);obtain rfl:x=.ref tg:=by rw [hy] at hx; rw [<- Option.some.inj hx,ey]
   have rl:=hk.rl _ (List.getElem_mem hml);have hln:=hlen _ (List.getElem_mem hml);have e5:=s5 _ _ e;have lv:=p5.length;rw [List.length_take] at lv;have es:(gatesF hs.1 d F).take (m+1)=(gatesF hs.1 d F).take m++[(hs.1[m].1,if hs.1[m].1=d then F hs.1[m].2 else hs.1[m].2)]:=by
    unfold gatesF;rw [List.take_add_one,List.getElem?_map,List.getElem?_eq_getElem hml];rfl
   rw [es];generalize hs.1[m]=gg at etg hR rl hln ⊢;have nrA:rp≠A/\Fq rp:=by
    refine ⟨fun z=>?_,fr⟩;obtain ⟨rv,er,_⟩:=hR;rw [z,hA] at er;cases er
   have hR5:=hR.same s5;obtain ⟨rv,er,pr⟩:=id hR5;have lr:=pr.length;refine ⟨tg,[_,_],rfl,SqT.of (s5 _ _ etg),rfl,_,[_],rfl,_,[],rfl,rfl,?_⟩;walk_at "rd";refine ⟨fun σ' H'=>∃ r1,σ'=[some (.ref q),some (.ref t),some (.ref A),some (tx gg.1),some (.ref r1)]/\Same H5 H'/\(r1≠A/\Fq r1)/\Rules H' r1 (if gg.1=d/\w=putW then F gg.2 else gg.2),?_,?_⟩
   ·refine ⟨_,tx d,.inr (SqT.of e5),at2 rfl,?_⟩;walk_at "rd";refine ite2 (fun g1=>⟨_,tx w,.inr (SqT.of e5),at0 rfl,?_⟩) fun g1=>⟨rp,rfl,Same.refl _,nrA,by rw [if_neg fun z=>g1 z.1]; exact hR5⟩
    walk_at "rd";refine ite2 (fun g2=>?_) fun g2=>⟨rp,rfl,Same.refl _,nrA,by rw [if_neg fun z=>g2 z.2]; exact hR5⟩
    rw [if_pos ⟨g1,g2⟩];rcases hw with ⟨_,r,rt,rfl,⟨_,hrt,ert⟩,rfl⟩ | ⟨hw,_⟩
    ·cases hrt;obtain ⟨hi,_⟩:=hln g1;refine ⟨_,V.int (i:Nat),.inr (SqT.of e5),at3 rfl,rv,SqL.of er,fun a1 h1=>?_⟩;rw [iD rv i (by lia)];have k1:=af h1 (.lst (rv.take i));refine ⟨_,V.ref rt,.inr (SqT.of (k1 _ _ e5)),at4 rfl,by decide,fun a2 h2=>?_⟩;have k2:=af h2 (.lst [V.ref rt]);have l1:(rv.take i).length=i:=by rw [List.length_take]; lia
     refine ⟨rv.take i,[V.ref rt],k2 _ _ ab,ab,by rw [l1,sizeLine_eq]; simp only [List.length_cons,List.length_nil]; lia,fun a3 h3=>?_⟩;have k3:=af h3 (.lst (rv.take i++[V.ref rt]));have k13:=k1.trans (k2.trans k3);refine ⟨_,V.int (i:Nat),.inr (SqT.of (k13 _ _ e5)),at3 rfl,rv,SqL.of (k13 _ _ er),fun a4 h4=>?_⟩;rw [gb rv i (by lia)];have k4:=af h4 (.lst (rv.drop i));refine ⟨rv.take i++[V.ref rt],rv.drop i,k4 _ _ ab,ab,by rw [List.length_append,l1,List.length_drop,sizeLine_eq]; simp only [List.length_cons,List.length_nil]; lia,fun a5 h5=>?_⟩;have k15:=k13.trans (k4.trans (af h5 (.lst (rv.take i++[V.ref rt]++rv.drop i))));exact ⟨a5,rfl,k15,⟨fun z=>(by rw [z,(k13.trans k4) _ _ eA5] at h5; cases h5),hF _ ((s5.trans (k13.trans k4)).free h5)⟩,⟨_,ab,aI (fun _ _ z=>k15 _ _ z) (bI (bI (cG i pr) (.cons ⟨rt,rfl,s5 _ _ ert⟩ .nil)) (dq i pr))⟩⟩
    ·rw [g2] at hw; cases hw
   ·rintro σ' H6 ⟨r1,rfl,s6,n6,R6⟩;have e6:=s6 _ _ e5;walk_at "rd";refine ⟨fun σ' H'=>∃ r2,σ'=[some (.ref q),some (.ref t),some (.ref A),some (tx gg.1),some (.ref r2)]/\Same H6 H'/\(r2≠A/\Fq r2)/\Rules H' r2 (if gg.1=d then F gg.2 else gg.2),?_,?_⟩
    ·refine ⟨_,tx d,.inr (SqT.of e6),at2 rfl,?_⟩;walk_at "rd";refine ite2 (fun g1=>⟨_,tx w,.inr (SqT.of e6),at0 rfl,?_⟩) fun g1=>⟨r1,rfl,Same.refl _,n6,by rw [if_neg g1]; rw [if_neg (fun z=>g1 z.1)] at R6; exact R6⟩
     walk_at "rd";rw [if_pos g1];rcases hw with ⟨rfl,_⟩ | ⟨rfl,rfl⟩
     ·rw [if_neg (by decide)];rw [if_pos ⟨g1,rfl⟩] at R6;exact ⟨r1,rfl,Same.refl _,n6,R6⟩
     ·rw [if_neg (fun z=>by cases z.2)] at R6;rw [if_pos rfl];obtain ⟨_,hi⟩:=hln g1;have hi:=hi rfl;obtain ⟨rv6,er6,pr6⟩:=R6;have lr6:=pr6.length;refine ⟨_,V.int (i:Nat),.inr (SqT.of e6),at3 rfl,rv6,SqL.of er6,fun a1 h1=>?_⟩;rw [iD rv6 i (by lia)];have k1:=af h1 (.lst (rv6.take i));refine ⟨_,V.int (i:Nat),.inr (SqT.of (k1 _ _ e6)),at3 rfl,?_⟩;walk_at "rd";refine ⟨rv6,SqL.of (k1 _ _ er6),fun a2 h2=>?_⟩;rw [show (i:Int)+1=((i+1:Nat):Int) from rfl,gb rv6 (i+1) (by lia)];have k2:=af h2 (.lst (rv6.drop (i+1)));refine ⟨rv6.take i,rv6.drop (i+1),k2 _ _ ab,ab,by rw [List.length_take,List.length_drop,sizeLine_eq]; lia,fun a3 h3=>?_⟩;have k13:=k1.trans (k2.trans (af h3 (.lst (rv6.take i++rv6.drop (i+1)))));exact ⟨a3,rfl,k13,⟨fun z=>(by rw [z,(k1.trans k2) _ _ (s6 _ _ eA5)] at h3; cases h3),hF _ ((s5.trans (s6.trans (k1.trans k2))).free h3)⟩,⟨_,ab,aI (fun _ _ z=>k13 _ _ z) (bI (cG i pr6) (dq (i+1) pr6))⟩⟩
    ·rintro σ' H7 ⟨r2,rfl,s7,n7,R7⟩;have s57:=s6.trans s7;have eA7:=s57 _ _ eA5;walk_at "rd";refine ⟨⟨_,eA7⟩,by decide,fun t8 ht8=>?_⟩;have k8:=af ht8 (.tup [tx gg.1,V.ref r2]);have eA8:=k8 _ _ eA7;have s58:=s57.trans k8;obtain ⟨rv7,er7,pr7⟩:=R7;refine ⟨vs,eA8,sizeBig (by lia),vs++[.ref t8],_,_,rfl,aG (s5.trans s58) hA,ab,?_⟩;exact aO (qi (aK eA8) (fun r vs n e=>by rw [au n]; exact e) (qi (fun _ _ z=>s58 _ _ z) (fun _ _ _ z=>s58 _ _ z) p5)) ⟨t8,r2,rfl,aK eA8 _ _ ab,n7,⟨rv7,by rw [au n7.1]; exact k8 _ _ er7,aI (fun _ _ z=>aK eA8 _ _ (k8 _ _ z)) pr7⟩⟩
  ·rintro σ H5 ⟨vs,u3,u4,rfl,s5,eA5,p5⟩;rw [List.take_of_length_le (by unfold gatesF; rw [List.length_map]; lia)] at p5;walk_at "rd";refine ⟨_,V.ref wa,.inr (SqT.of (s5 _ _ eh)),rfl,by decide,fun q' hq'=>?_⟩;have k4:=af hq' (.tup [V.ref A,V.ref wa]);have s4:=s5.trans k4;refine k q' _ (s5.free hq') s4 ?_;rw [eA];exact ⟨A,wa,ab,⟨hF _ hA,fwa⟩,⟨vs,k4 _ _ eA5,L2.Paired.mapP p5 fun _ _ ⟨t',r',e1,h1,n,h2⟩=>⟨t',r',e1,n.2,k4 _ _ h1,h2.same k4⟩⟩,hW.same s4⟩
noncomputable def hV (K:Frag):Sp:=av fun q=>av fun t=>aE fun H Q _=>Ex4 fun (N:Net) (D:Deed) (S j:Nat)=>NetAt H q N/\NetF S j N/\j < 24/\DeedAt H t D/\DeedOk (widthL N.1) S N D/\∀ q' H',H q'=none->Same H H'->NetAt H' q' (afterN N D)->Q (.ref q') H'
theorem HouseL.at {F:Addr->Prop} {H:Hp} {q:Addr} {hs:House} (h:HouseL F H q hs):HouseAt H q hs:=by
 obtain ⟨g,w,e,_,⟨gv,eg,pg⟩,hW⟩:=h;exact ⟨g,w,e,⟨gv,eg,L2.Paired.mapP pg fun _ _ ⟨t,r,e,_,h1,h2⟩=>⟨t,r,e,h1,h2⟩⟩,hW⟩
theorem HouseL.up {F:Addr->Prop} {H H':Hp} {q:Addr} {hs:House} (kt:∀ t ts,H t=some (.tup ts)->H' t=some (.tup ts)) (kl:∀ r vs,F r->H r=some (.lst vs)->H' r=some (.lst vs)) (h:HouseL F H q hs):HouseL F H' q hs:=by
 obtain ⟨g,w,e,⟨fg,fw⟩,⟨gv,eg,pg⟩,⟨wv,ew,pw⟩⟩:=h;refine ⟨g,w,kt _ _ e,⟨fg,fw⟩,⟨gv,kl _ _ fg eg,L2.Paired.mapP pg ?_⟩,⟨wv,kl _ _ fw ew,aD kt pw⟩⟩;rintro y u ⟨t2,r,e2,n2,h1,⟨rv,er,pr⟩⟩;exact ⟨t2,r,e2,n2,kt _ _ h1,⟨rv,kl _ _ n2 er,aI kt pr⟩⟩
theorem HouseAt.l {A:Addr} {H:Hp} {q:Addr} {hs:House} (h:HouseAt H q hs) (hA:H A=none):HouseL (· ≠ A) H q hs:=by
 have n:∀ {r o},H r=some o->r≠A:=fun e z=>by rw [z,hA] at e; cases e
 obtain ⟨g,w,e,⟨gv,eg,pg⟩,⟨wv,ew,pw⟩⟩:=h;refine ⟨g,w,e,⟨n eg,n ew⟩,⟨gv,eg,L2.Paired.mapP pg ?_⟩,⟨wv,ew,pw⟩⟩;rintro y u ⟨t2,r,e2,h1,⟨rv,er,pr⟩⟩;exact ⟨t2,r,e2,n er,h1,⟨rv,er,pr⟩⟩
def NamedU (A:Addr) (H:Hp) (x:Named) (v:V):Prop:=Ex2 fun t q=>v=.ref t/\H t=some (.tup [tx x.1,.ref q])/\HouseL (· ≠ A) H q x.2
theorem o0 {A:Addr} {H H':Hp} (kt:∀ t ts,H t=some (.tup ts)->H' t=some (.tup ts)) (kl:∀ r vs,r≠A->H r=some (.lst vs)->H' r=some (.lst vs)) {hs:List Named} {vs:List V} (p:Paired (NamedU A H) hs vs):Paired (NamedU A H') hs vs:=by
 refine L2.Paired.mapP p ?_;rintro x v ⟨t,q,e,h1,h2⟩;exact ⟨t,q,e,kt _ _ h1,h2.up kt kl⟩
theorem at1 {l:List V} {v:V} (h:l[1]? = some v):atI l 1=some v:=show atI l ((1:Nat):Int)=_ from bC h
theorem om (T:Top K mg):Callee P w K mg base 2 "_law_after" ["_law_net_here", "_law_deed_here"] (hV K):=by
 refine T.kY.cal cV (by unfold hV; exact LenSp.h) (fun _ _ _ _ _ _ us hl=>match us,hl with | [_,_],_=>rfl) (fun f cdv A outer s H vs Q E hr h=>?_);unfold hV at h;walk_at "el";refine ⟨_,(ag (aW (aB bn (ai (ixE K rfl) (qv 1) ad (fun _ _=>rfl)) (qs [116,105,101])) (ah (ax (ay (aa (ai (ixE K rfl) (qv 0) ad (fun _ _=>rfl)) (aa (ai (ixE K rfl) (qv 0) ad (fun _ _=>rfl)) (aa (al ak (ai (ixE K rfl) (qv 0) ad (fun _ _=>rfl)) (aL (aa (ay (aa (ai (ixE K rfl) (qv 1) ad (fun _ _=>rfl)) (aa (ai (ixE K rfl) (qv 1) ad (fun _ _=>rfl)) ae))) ae))) ae)))))) aC)
   (ag (aW (aB bn (ai (ixE K rfl) (qv 1) ad (fun _ _=>rfl)) (qs [117,110,116,105,101])) (ah (ax (ay (aa (ai (ixE K rfl) (qv 0) ad (fun _ _=>rfl)) (aa (ai (ixE K rfl) (qv 0) ad (fun _ _=>rfl)) (aa (aJ (nt:=1) (fi:=[1]) (N':=["_law_line", "_law_deed_here"]) rfl (cscope rfl (by decide +kernel)) (cnames (N:=["_law_net_here", "_law_deed_here", "_law_houses", "_law_name", "_law_house_here"]) (sc:=defScope fu) rfl rfl (by decide +kernel)) (aQ (by decide)) (iterE K rfl (ai (ixE K rfl) (qv 0) ad (fun _ _=>rfl))) (fun _ _ _ _ _=>(aj (i:=0) (by show (["_law_line", "_law_deed_here"]:List Str).Nodup; decide +kernel) rfl lc)) (fun _ _ _ _ _=>(cN (aB (oG K rfl hr) (ay (aa (ai (ixE K rfl) (qv 1) ad (fun _ _=>rfl)) (aa (ai (ixE K rfl) (qv 1) ad (fun _ _=>rfl)) ae))) (qv 0)))) (fun _ _ _ _ _=>(qv 0))) ae)))))) aC)
   (ag (aq (i:=2) cV.nd rfl lc (aL ae))
   (ag (bw PassesOwn.never rfl (iterE K rfl (ai (ixE K rfl) (qv 0) ad (fun _ _=>rfl))) (tupE K rfl rfl (n:=2) (ao (aj (i:=3) cV.nd rfl lc) (ao (aj (i:=4) cV.nd rfl lc) aM))) (cg (aW (aB bn (qv 3) (ai (ixE K rfl) (qv 1) ad (fun _ _=>rfl))) (ah (aq (i:=4) cV.nd rfl lc (am (jJ T) hr.m rfl (aa (qv 4) (aa (qv 1) ae))))) aC)
   (ah (aw (aY (qv 2) (ay (aa (qv 3) (aa (qv 4) ae))))))))
   (ah (ax (ay (aa (ai (ixE K rfl) (qv 0) ad (fun _ _=>rfl)) (aa (qv 2) (aa (ai (ixE K rfl) (qv 0) ad (fun _ _=>rfl)) ae)))))))))),?_⟩
 rename_i q t;obtain ⟨N,D,S,j,hN,nf,hj,dt,dok,k⟩:=h;obtain ⟨la,ha,ca,et,hL,hH,hC⟩:=id hN;obtain ⟨hv,eh,ph⟩:=id hH;obtain ⟨cv,ec,pc⟩:=id hC;have lh:=ph.length;have lc:=pc.length;have h4:=nf.k.h4;have l6:=nf.k.l6;have hD:(Ex2 fun s1 s2=>D=.tie s1 s2)\/(Ex2 fun h d=>D=.untie h d)\/Ex4 fun (w:List Nat) (rest:List V) (h:List Nat) (hs:House)=>H t=some (.tup (tx w::tx h::rest))/\¬ w=[116,105,101]/\¬ w=[117,110,116,105,101]/\afterN N D=(N.1,mapH N.2.1 h (afterH · D),N.2.2)/\houseOf N.2.1 h=some hs/\HouseD (widthL N.1) S hs D:=by
  cases D with
  | tie s1 s2=>exact .inl ⟨s1,s2,rfl⟩
  | untie h d=>exact .inr (.inl ⟨h,d,rfl⟩)
  | put h d i r=>
   obtain ⟨rt,e,_⟩:=dt;obtain ⟨hs,e1,e2⟩:=dok;exact .inr (.inr ⟨putW,_,h,hs,e,by decide,by decide,rfl,e1,e2⟩)
  | strike h d i=>
   obtain ⟨hs,e1,e2⟩:=dok;exact .inr (.inr ⟨strikeW,_,h,hs,dt,by decide,by decide,rfl,e1,e2⟩)
  | way h b d=>
   obtain ⟨hs,e1,e2⟩:=dok;exact .inr (.inr ⟨wayW,_,h,hs,dt,by decide,by decide,rfl,e1,e2⟩)
  | unway h b=>
   obtain ⟨hs,e1,e2⟩:=dok;exact .inr (.inr ⟨unwayW,_,h,hs,dt,by decide,by decide,rfl,e1,e2⟩)
 rcases hD with ⟨s1,s2,rfl⟩ | ⟨h,d,rfl⟩ | ⟨w,rest,h,hs,e,n1,n2,eN,eh1,hd1⟩
 ·obtain ⟨a1,a2,e,ea1,ea2⟩:=dt;walk_at "rd";refine ⟨_,tx tieW,.inr (SqT.of e),rfl,?_⟩;walk_at "rd";refine ⟨_,V.ref la,.inr (SqT.of et),rfl,_,V.ref ha,.inr (SqT.of et),rfl,_,V.ref ca,.inr (SqT.of et),rfl,_,V.ref a1,.inr (SqT.of e),rfl,_,V.ref a2,.inr (SqT.of e),rfl,by decide,fun t1 ht1=>⟨by decide,fun l1 hl1=>?_⟩⟩;have k1:=af ht1 (.tup [V.ref a1,V.ref a2]);have k2:=af hl1 (.lst [V.ref t1]);walk_at "rd";refine ⟨cv,_,k2 _ _ (k1 _ _ ec),ab,by rw [sizeLine_eq]; simp only [List.length_cons,List.length_nil]; lia,fun l2 hl2=>⟨by decide,fun q' hq'=>?_⟩⟩;have k3:=af hl2 (.lst (cv++[V.ref t1]));have k4:=af hq' (.tup [V.ref la,V.ref ha,V.ref l2]);have s3:=k1.trans (k2.trans k3);have s4:=s3.trans k4;exact k q' _ (s3.free hq') s4 ⟨la,ha,l2,ab,hL.same s4,hH.same s4,⟨_,k4 _ _ ab,aO (L2.Paired.mapP pc fun _ _ y=>bi (fun _ _ z=>s4 _ _ z) y) ⟨t1,_,_,rfl,(k2.trans (k3.trans k4)) _ _ ab,⟨a1,rfl,s4 _ _ ea1⟩,⟨a2,rfl,s4 _ _ ea2⟩⟩⟩⟩
 ·have e:H t=some (.tup [tx untieW,tx h,tx d]):=dt;obtain ⟨z1,z2⟩:=aF pc;walk_at "rd";refine ⟨_,tx untieW,.inr (SqT.of e),rfl,?_⟩;walk_at "rd";refine ⟨_,tx untieW,.inr (SqT.of e),rfl,?_⟩;walk_at "rd";refine ⟨_,V.ref la,.inr (SqT.of et),rfl,_,V.ref ha,.inr (SqT.of et),rfl,_,V.ref ca,.inr (SqT.of et),rfl,.inl ⟨⟨_,SqL.of ec⟩,fun D hD=>?_⟩⟩;refine bR (item:=fun x:Line × V=>x.2) (N.2.2.zip cv) (fun x=>!decide ((h,d) ∈ [x.1.1,x.1.2])) (fun x v H'=>LineAt H' x.1 v) hD (by rw [z1]; exact SqL.of ec) (by rw [List.length_zip]; lia) ?_ ?_ ?_
  ·rintro x v H3 H4 acc hd k hx;exact bi (fun t ts z=>k t _ (fun w=>by rw [w,hd] at z; cases z) z) hx
  ·intro x H3 out non hx s3 ho hno;have hx3:=bi (fun _ _ z=>s3 _ _ z) (z2 x hx);obtain ⟨t',u1,u2,ex,et',w1,w2⟩:=id hx3;rw [ex];walk_at "rd";refine ⟨_,tx h,.inr (SqT.of (s3 _ _ e)),rfl,_,tx d,.inr (SqT.of (s3 _ _ e)),rfl,by decide,fun p hp=>?_⟩;have k4:=af hp (.tup [tx h,tx d]);have pw:Paired (WayAt (upd H3 p (.tup [tx h,tx d]))) [x.1.1,x.1.2] [u1,u2]:=aD (fun _ _ z=>k4 _ _ z) (.cons w1 (.cons w2 .nil));walk_at "rd";refine ⟨_,_,SqT.of (k4 _ _ et'),ab,rfl,jy pw,?_⟩;rw [show [tx h,tx d]=[tx (h,d).1,tx (h,d).2] from rfl,mK pw];walk_at "rd";exact ite2 (fun g=>hno _ (by rw [decide_eq_true g]; rfl) k4) fun g=>ho _ _ (by rw [decide_eq_false g]; rfl) k4 (by rw [<- ex]; exact bi (fun _ _ z=>k4 _ _ z) hx3)
  ·intro H2 us s2 e2 p2;have p2':Paired (LineAt H2) (offL N.2.2 (h,d)) us:=by
    have:offL N.2.2 (h,d)=((N.2.2.zip cv).filter fun x=>!decide ((h,d) ∈ [x.1.1,x.1.2])).map Prod.fst:=by
     unfold offL
     conv=>lhs; rw [<- bj (l:=N.2.2) (m:=cv) lc]
     rw [List.filter_map];rfl
    rw [this];exact aS p2
   refine ⟨by decide,fun q' hq'=>?_⟩;have k4:=af hq' (.tup [V.ref la,V.ref ha,V.ref D]);have s4:=s2.trans k4;exact k q' _ (s2.free hq') s4 ⟨la,ha,D,ab,hL.same s4,hH.same s4,⟨us,k4 _ _ e2,L2.Paired.mapP p2' fun _ _ z=>bi (fun _ _ z=>k4 _ _ z) z⟩⟩
 ·walk_at "rd";refine ⟨_,tx w,.inr (SqT.of e),at0 rfl,?_⟩;walk_at "rd";rw [if_neg n1];refine ⟨_,tx w,.inr (SqT.of e),at0 rfl,?_⟩;walk_at "rd";rw [if_neg n2];refine ⟨Nat.zero_le _,fun A hA=>?_⟩;have sA:=af hA (.lst []);refine ⟨_,V.ref ha,.inr (SqT.of (sA _ _ et)),rfl,.inl ⟨⟨_,SqL.of (sA _ _ eh)⟩,?_⟩⟩;refine aN (xs:=hv) (fun m σ H'=>Ex3 fun vs u3 u4=>σ = [some (.ref q),some (.ref t),some (.ref A),u3,u4]/\Same H H'/\H' A=some (.lst vs)/\Paired (NamedU A H') ((mapH N.2.1 h (afterH · D)).take m) vs) ⟨[],none,none,rfl,sA,ab,.nil⟩ (fun m σ H' _ ⟨_,_,_,_,z,_⟩=>SqL.of (z _ _ eh)) ?_ ?_
  ·rintro m x σ H5 hx ⟨vs,u3,u4,rfl,s5,eA5,p5⟩;have hm:m < hv.length:=(List.getElem?_eq_some_iff.mp hx).1;have hml:m < N.2.1.length:=by lia
   obtain ⟨y,hy,tg,hq,ey,etg,hHq⟩:=aA ph (List.getElem?_eq_getElem hml);obtain rfl:x=.ref tg:=by rw [hy] at hx; rw [<- Option.some.inj hx,ey]
   have hkm:=nf.k.house _ (List.getElem_mem hml);have e5:=s5 _ _ e;have lv:=p5.length;rw [List.length_take] at lv;have es:(mapH N.2.1 h (afterH · D)).take (m+1)=(mapH N.2.1 h (afterH · D)).take m++[(N.2.1[m].1,if N.2.1[m].1=h then afterH N.2.1[m].2 D else N.2.1[m].2)]:=by
    unfold mapH;rw [List.take_add_one,List.getElem?_map,List.getElem?_eq_getElem hml];rfl
   rw [es];have hdm:N.2.1[m].1=h->HouseD (widthL N.1) S N.2.1[m].2 D:=fun g=>by
    obtain ⟨y,hy,e1,e2⟩:=dm eh1;rw [je nf.k.nd (List.getElem_mem hml) hy (g.trans e1.symm),e2];exact hd1
   generalize N.2.1[m]=gg at etg hHq hkm hdm ⊢;have hL5:HouseL (· ≠ A) H5 hq gg.2:=(hHq.l hA).up (fun _ _ z=>s5 _ _ z) (fun _ _ _ z=>s5 _ _ z);refine ⟨tg,[_,_],rfl,SqT.of (s5 _ _ etg),rfl,_,[_],rfl,_,[],rfl,rfl,?_⟩;walk_at "rd";refine ⟨fun σ' H'=>∃ r1,σ'=[some (.ref q),some (.ref t),some (.ref A),some (tx gg.1),some (.ref r1)]/\Same H5 H'/\HouseL (· ≠ A) H' r1 (if gg.1=h then afterH gg.2 D else gg.2),?_,?_⟩
   ·refine ⟨_,tx h,.inr (SqT.of e5),at1 rfl,?_⟩;walk_at "rd";refine ite2 (fun g1=>?_) fun g1=>⟨hq,rfl,Same.refl _,by rw [if_neg g1]; exact hL5⟩
    rw [if_pos g1];exact ⟨(· ≠ A),gg.2,D,widthL N.1,S,j,hL5,fun r hr z=>(by rw [z,eA5] at hr; cases hr),hkm,hj,dt.same s5,hdm g1,fun q' H6 hq' s6 hL6=>⟨q',rfl,s6,hL6⟩⟩
   ·rintro σ' H7 ⟨r2,rfl,s7,R7⟩;have eA7:=s7 _ _ eA5;walk_at "rd";refine ⟨⟨_,eA7⟩,by decide,fun t8 ht8=>?_⟩;have k8:=af ht8 (.tup [tx gg.1,V.ref r2]);have eA8:=k8 _ _ eA7;have s58:=s7.trans k8;refine ⟨vs,eA8,sizeBig (by lia),vs++[.ref t8],_,_,rfl,aG (s5.trans s58) hA,ab,?_⟩;exact aO (o0 (aK eA8) (fun r vs n e=>by rw [au n]; exact e) (o0 (fun _ _ z=>s58 _ _ z) (fun _ _ _ z=>s58 _ _ z) p5)) ⟨t8,r2,rfl,aK eA8 _ _ ab,(R7.up (fun _ _ z=>k8 _ _ z) (fun _ _ _ z=>k8 _ _ z)).up (aK eA8) (fun r vs n e=>by rw [au n]; exact e)⟩
  ·rintro σ H5 ⟨vs,u3,u4,rfl,s5,eA5,p5⟩;rw [List.take_of_length_le (by unfold mapH; rw [List.length_map]; lia)] at p5;walk_at "rd";refine ⟨_,V.ref la,.inr (SqT.of (s5 _ _ et)),rfl,_,V.ref ca,.inr (SqT.of (s5 _ _ et)),rfl,by decide,fun q' hq'=>?_⟩;have k4:=af hq' (.tup [V.ref la,V.ref A,V.ref ca]);have s4:=s5.trans k4;refine k q' _ (s5.free hq') s4 ?_;rw [eN];exact ⟨la,A,ca,ab,hL.same s4,⟨vs,k4 _ _ eA5,L2.Paired.mapP p5 fun _ _ ⟨t',r',e1,h1,h2⟩=>⟨t',r',e1,k4 _ _ h1,h2.at.same k4⟩⟩,hC.same s4⟩
def KVAt (H:Hp) (x:List Nat × V) (u:V):Prop:=∃ t,u=.ref t/\H t=some (.tup [tx x.1,x.2])
noncomputable def j7 (K:Frag):Sp:=av fun p=>aZ fun n=>aE fun H Q _=>Ex3 fun (kvs:List (List Nat × V)) (us:List V) (x:List Nat × V)=>H p=some (.lst us)/\Paired (KVAt H) kvs us/\kvs.length<=100/\kvs.find? (fun y=>decide (y.1=n.cps.toList))=some x/\∀ H',Same H H'->Q x.2 H'
theorem oQ {α:Type} {p:α -> Bool}:∀ {l:List α} {x:α},l.find? p=some x->∃ r,l.filter p=x::r
 | [],_,h=>by cases h
 | y::l,x,h=>by
  rw [List.find?_cons] at h;rw [List.filter_cons];by_cases g:p y=true
  ·rw [g] at h;cases h;exact ⟨_,if_pos g⟩
  ·rw [if_neg g];rw [Bool.eq_false_iff.mpr g] at h;exact oQ h
theorem j8 (T:Top K mg):Callee P w K mg base 1 "_law_of" ["_law_pairs", "_law_name"] (j7 K):=by
 refine T.o7.cal rJ (by unfold j7; exact LenSp.h) (fun _ _ _ _ _ _ us hl=>match us,hl with | [_,_],_=>rfl) (fun f cdv A outer s H vs Q E hr h=>?_);unfold j7 at h;walk_at "el";refine ⟨_,(ah (ax (ai (ixE K rfl) (aJ (nt:=1) (fi:=[1]) (N':=["_law_pair", "_law_name"]) rfl (cscope rfl (by decide +kernel)) (cnames (N:=["_law_pairs", "_law_name"]) (sc:=defScope jx) rfl rfl (by decide +kernel)) (aQ (by decide)) (iterE K rfl (qv 0)) (fun _ _ _ _ _=>(aj (i:=0) (by show (["_law_pair", "_law_name"]:List Str).Nodup; decide +kernel) rfl lc)) (fun _ _ _ _ _=>(cN (aB bn (ai (ixE K rfl) (qv 0) ad (fun _ _=>rfl)) (qv 1)))) (fun _ _ _ _ _=>(ai (ixE K rfl) (qv 0) ad (fun _ _=>rfl)))) ad (fun _ _=>rfl)))),?_⟩;rename_i p n;obtain ⟨n,rfl⟩:∃ x,n=st x:=⟨_,(bf n).symm⟩;obtain ⟨kvs,us,x,e,pr,hl,hf,q⟩:=h;simp only [az] at hf;have lu:=pr.length;obtain ⟨z1,z2⟩:=aF pr;walk_at "rd";refine .inl ⟨⟨_,SqL.of e⟩,fun D hD=>?_⟩;refine bR (item:=fun x:(List Nat × V) × V=>x.2) (kvs.zip us) (fun x=>decide (x.1.1=n)) (fun x v _=>v=x.1.2) hD (by rw [z1]; exact SqL.of e) (by rw [List.length_zip]; lia) (fun _ _ _ _ _ _ _ h=>h) ?_ ?_
 ·intro y H3 out non hy s3 ho hno;obtain ⟨t',ex,et'⟩:=z2 y hy;rw [ex];walk_at "rd";refine ⟨_,tx y.1.1,.inr (SqT.of (s3 _ _ et')),rfl,?_⟩;walk_at "rd";exact ite2 (fun g=>⟨_,y.1.2,.inr (SqT.of (s3 _ _ et')),rfl,ho _ _ (decide_eq_true g) (Same.refl _) rfl⟩) fun g=>hno _ (decide_eq_false g) (Same.refl _)
 ·intro H2 ws s2 e2 p2;obtain ⟨r,er⟩:=oQ hf;have e3:((kvs.zip us).filter fun x=>decide (x.1.1=n)).map Prod.fst=x::r:=by
   rw [<- er]
   conv=>rhs; rw [<- bj (l:=kvs) (m:=us) lu]
   rw [List.filter_map];rfl
  have p3:Paired (fun (x:List Nat × V) v=>v=x.2) (x::r) ws:=by
   rw [<- e3];exact aS p2
  cases p3 with
  | cons r1 _=>
   rw [r1] at e2;exact ⟨_,x.2,.inl (SqL.of e2),at0 rfl,q H2 s2⟩
theorem kf {H:Hp}:∀ {hs:List Named} {vs:List V},Paired (NamedAt H) hs vs->∃ kvs:List (List Nat × V),Paired (KVAt H) kvs vs/\∀ n h,houseOf hs n=some h->Ex2 fun m q=>kvs.find? (fun y=>decide (y.1=n))=some (m,V.ref q)/\HouseAt H q h
 | _,_,.nil=>⟨[],.nil,fun n h e=>by cases e⟩
 | x::hs,_,.cons ⟨t,q,e,et,hq⟩ p=>by
  obtain ⟨kvs,h1,h2⟩:=kf p;refine ⟨(x.1,.ref q)::kvs,.cons ⟨t,e,et⟩ h1,fun n h eh=>?_⟩;unfold houseOf at eh;rw [List.find?_cons] at eh ⊢;by_cases g:x.1=n
  ·rw [decide_eq_true g] at eh ⊢;cases eh;exact ⟨_,_,rfl,hq⟩
  ·rw [decide_eq_false g] at eh ⊢;exact h2 n h eh
theorem oA {H:Hp}:∀ {gs:List Gate} {vs:List V},Paired (GateAt H) gs vs->∃ kvs:List (List Nat × V),Paired (KVAt H) kvs vs/\∀ n rs,gateOf gs n=some rs->Ex2 fun m q=>kvs.find? (fun y=>decide (y.1=n))=some (m,V.ref q)/\Rules H q rs
 | _,_,.nil=>⟨[],.nil,fun n h e=>by cases e⟩
 | x::hs,_,.cons ⟨t,q,e,et,hq⟩ p=>by
  obtain ⟨kvs,h1,h2⟩:=oA p;refine ⟨(x.1,.ref q)::kvs,.cons ⟨t,e,et⟩ h1,fun n h eh=>?_⟩;unfold gateOf at eh;rw [List.find?_cons] at eh ⊢;by_cases g:x.1=n
  ·rw [decide_eq_true g] at eh ⊢;cases eh;exact ⟨_,_,rfl,hq⟩
  ·rw [decide_eq_false g] at eh ⊢;exact h2 n h eh
noncomputable def h7 (K:Frag):Sp:=av fun p=>aE fun H Q _=>∃ N:Net,NetAt H p N/\N.2.1.length<=100/\(∀ x ∈ N.2.1,x.2.1.length<=100)/\∀ q H',H q=none->Same H H'->Ways H' q (spotsOf N.2.1)->Q (.ref q) H'
theorem jQ (T:Top K mg):Callee P w K mg base 1 "_law_spots" ["_law_net_here"] (h7 K):=by
 refine T.kT.cal ef (by unfold h7; exact LenSp.h) (fun _ _ _ _ _ _ us hl=>match us,hl with | [_],_=>rfl) (fun f cdv A outer s H vs Q E hr h=>?_);unfold h7 at h;walk_at "el";refine ⟨_,(ag (aq (i:=1) ef.nd rfl lc (aL ae))
   (ag (bw PassesOwn.never rfl (iterE K rfl (ai (ixE K rfl) (qv 0) ad (fun _ _=>rfl))) (tupE K rfl rfl (n:=2) (ao (aj (i:=2) ef.nd rfl lc) (ao (aj (i:=3) ef.nd rfl lc) aM))) (ah (aw (lJ (qv 1) (aJ (nt:=1) (fi:=[2]) (N':=["_law_gate", "_law_name"]) rfl (cscope rfl (by decide +kernel)) (cnames (N:=["_law_net_here", "_law_spots_here", "_law_name", "_law_house_here"]) (sc:=defScope ft) rfl rfl (by decide +kernel)) (aQ (by decide)) (iterE K rfl (ai (ixE K rfl) (qv 3) ad (fun _ _=>rfl))) (fun _ _ _ _ _=>(aj (i:=0) (by show (["_law_gate", "_law_name"]:List Str).Nodup; decide +kernel) rfl lc)) (fun _ _ _ _ _=>bd) (fun _ _ _ _ _=>(ay (aa (qv 1) (aa (ai (ixE K rfl) (qv 0) ad (fun _ _=>rfl)) ae)))))))))
   (ah (ax (qv 1))))),?_⟩
 rename_i p;obtain ⟨⟨ls,hs,lns⟩,⟨pa,pb,pc,eN,_,⟨vs,e0,pr⟩,_⟩,hn,hg,q⟩:=h;dsimp only at pr hn hg q;have hl:=pr.length;walk_at "rd";refine ⟨Nat.zero_le _,fun g hg0=>?_⟩;have s1:=af hg0 (.lst []);refine ⟨_,_,.inr (SqT.of (s1 _ _ eN)),rfl,?_⟩;walk_at "rd";refine .inl ⟨⟨_,SqL.of (s1 _ _ e0)⟩,?_⟩;refine aN (xs:=vs) (fun i σ H'=>Ex2 fun u v=>σ = [some (.ref p),some (.ref g),u,v]/\Same H H'/\Ways H' g (spotsOf (hs.take i))) ⟨none,none,rfl,s1,⟨[],ab,.nil⟩⟩ (fun i σ H' _ ⟨_,_,_,z,_⟩=>SqL.of (z _ _ e0)) ?_ ?_
 ·rintro i x σ H1 hx ⟨u,v,rfl,s2,⟨us,eu,pu⟩⟩;have hi:i < vs.length:=(List.getElem?_eq_some_iff.mp hx).1;have hil:i < hs.length:=by lia
  obtain ⟨y,hy,t,hq,ey,et,hH⟩:=aA pr (List.getElem?_eq_getElem hil);obtain rfl:x=.ref t:=by rw [hy] at hx; rw [<- Option.some.inj hx,ey]
  obtain ⟨ga,wa,eh,⟨gv,eg,pg⟩,_⟩:=hH.same s2;have hgl:=pg.length;obtain ⟨z1,z2⟩:=aF pg;have hgi:=hg hs[i] (List.getElem_mem hil);refine ⟨t,[_,_],rfl,SqT.of (s2 _ _ et),rfl,_,[_],rfl,_,[],rfl,rfl,?_⟩;walk_at "rd";refine ⟨⟨_,eu⟩,_,_,.inr (SqT.of eh),rfl,?_⟩;walk_at "rd";refine .inl ⟨⟨_,SqL.of eg⟩,fun D hD=>?_⟩;refine bR (item:=fun x:Gate × V=>x.2) (hs[i].2.1.zip gv) (fun _=>true) (fun x v H'=>WayAt H' (hs[i].1,x.1.1) v) hD (by rw [z1]; exact SqL.of eg) (by rw [List.length_zip]; lia) ?_ ?_ ?_
  ·rintro x v H2 H3 acc hd k ⟨t',rfl,et'⟩;exact ⟨t',rfl,k t' _ (fun z=>by rw [z,hd] at et'; cases et') et'⟩
  ·intro x H2 out non hx2 s3 ho _;obtain ⟨t',r',ex,et',_⟩:=z2 x hx2;rw [ex];walk_at "rd";exact ⟨_,tx x.1.1,.inr (SqT.of (s3 _ _ et')),rfl,by decide,fun t2 ht2=>ho _ _ rfl (af ht2 _) ⟨t2,rfl,ab⟩⟩
  ·intro H2 ws s3 e3 p3;have p4:Paired (WayAt H2) (hs[i].2.1.map fun g=>(hs[i].1,g.1)) ws:=by
    have hf:(hs[i].2.1.zip gv).filter (fun _=>true)=hs[i].2.1.zip gv:=List.filter_eq_self.mpr fun _ _=>rfl
    rw [hf] at p3;have:hs[i].2.1.map (fun g=>((hs[i].1,g.1):Way))=(hs[i].2.1.zip gv).map fun x=>(hs[i].1,x.1.1):=by
     conv=>lhs; rw [<- bj (l:=hs[i].2.1) (m:=gv) hgl,List.map_map]
     rfl
    rw [this];exact aS p3
   have eu3:=s3 _ _ eu;have l1:=pu.length;have l2:=p4.length;have l3:=lN (hs:=hs.take i) (c:=100) fun x hx=>hg x (List.mem_of_mem_take hx)
   rw [List.length_take] at l3;rw [List.length_map] at l2;refine ⟨us,ws,eu3,e3,Nat.le_of_lt (sizeBig ?_),some (tx hs[i].1),some (.ref hq),rfl,aG (s2.trans s3) hg0,⟨_,ab,?_⟩⟩
   ·have:min i hs.length*100<=100*100:=Nat.mul_le_mul_right _ (by lia)
    lia
   ·rw [nF hs i hil];exact bI (aD (fun _ _ z=>aK eu3 _ _ (s3 _ _ z)) pu) (aD (aK eu3) p4)
 ·rintro σ H1 ⟨u,v,rfl,s2,hW⟩;walk_at "rd";rw [<- hl,List.take_length] at hW;exact q g H1 hg0 s2 hW
theorem sV (x y:Way):eqD (wayD x) (wayD y)=decide (x=y):=by
 rw [Bool.eq_iff_iff,mN _ _ (lF x) (lF y),decide_eq_true_eq];exact ⟨qE x y,fun e=>by rw [e]⟩
noncomputable def ip (K:Frag):Sp:=av fun q=>av fun a=>aE fun H Q _=>Ex2 fun (N:Net) (x:Way)=>NetAt H q N/\N.2.2.length<=100/\H a=some (.tup [tx x.1,tx x.2])/\(x ∉ endsOf N.2.2->∀ H',Same H H'->Q .non H')/\(x ∈ endsOf N.2.2->∀ b H',Same H H'->Q (.ref b) H')
theorem pe (T:Top K mg):Callee P w K mg base 1 "_law_tied" ["_law_net_here", "_law_spot"] (ip K):=by
 refine T.mn.cal kL (by unfold ip; exact LenSp.h) (fun _ _ _ _ _ _ us hl=>match us,hl with | [_,_],_=>rfl) (fun f cdv A outer s H vs Q E hr h=>?_);unfold ip at h;walk_at "el";refine ⟨_,(ag (aq (i:=2) kL.nd rfl lc (al ak (aJ (nt:=1) (fi:=[1]) (N':=["_law_line", "_law_spot"]) rfl (cscope rfl (by decide +kernel)) (cnames (N:=["_law_net_here", "_law_spot", "_law_ends"]) (sc:=defScope eC) rfl rfl (by decide +kernel)) (aQ (by decide)) (iterE K rfl (ai (ixE K rfl) (qv 0) ad (fun _ _=>rfl))) (fun _ _ _ _ _=>(aj (i:=0) (by show (["_law_line", "_law_spot"]:List Str).Nodup; decide +kernel) rfl lc)) (fun _ _ _ _ _=>(cN (aB (eqDE K rfl hr) (ai (ixE K rfl) (qv 0) ad (fun _ _=>rfl)) (qv 1)))) (fun _ _ _ _ _=>(ai (ixE K rfl) (qv 0) ad (fun _ _=>rfl)))) (aJ (nt:=1) (fi:=[1]) (N':=["_law_line", "_law_spot"]) rfl (cscope rfl (by decide +kernel)) (cnames (N:=["_law_net_here", "_law_spot", "_law_ends"]) (sc:=defScope eC) rfl rfl (by decide +kernel)) (aQ (by decide)) (iterE K rfl (ai (ixE K rfl) (qv 0) ad (fun _ _=>rfl))) (fun _ _ _ _ _=>(aj (i:=0) (by show (["_law_line", "_law_spot"]:List Str).Nodup; decide +kernel) rfl lc)) (fun _ _ _ _ _=>(cN (aB (eqDE K rfl hr) (ai (ixE K rfl) (qv 0) ad (fun _ _=>rfl)) (qv 1)))) (fun _ _ _ _ _=>(ai (ixE K rfl) (qv 0) ad (fun _ _=>rfl))))))
   (ag (aW (aB (eqNilE K rfl (hu1 hr)) (qv 2) (aL ae)) (ah (ax pM)) aC)
   (ah (ax (ai (ixE K rfl) (qv 2) ad (fun _ _=>rfl)))))),?_⟩
 rename_i q a;obtain ⟨N,x,⟨la,ha,ca,et,_,_,⟨cv,ec,pc⟩⟩,hl,ea,q1,q2⟩:=h;have lc:=pc.length;obtain ⟨z1,z2⟩:=aF pc;walk_at "rd";refine ⟨_,V.ref ca,.inr (SqT.of et),rfl,.inl ⟨⟨_,SqL.of ec⟩,fun D hD=>?_⟩⟩;refine bR (item:=fun y:Line × V=>y.2) (N.2.2.zip cv) (fun y=>decide (y.1.1=x)) (fun y v _=>∃ b,v=V.ref b) hD (by rw [z1]; exact SqL.of ec) (by rw [List.length_zip]; lia) (fun _ _ _ _ _ _ _ h=>h) ?_ ?_
 ·intro y H3 out non hy s3 ho hno;obtain ⟨t',u1,u2,ex,et',⟨b1,rfl,w1⟩,⟨b2,rfl,w2⟩⟩:=z2 y hy;rw [ex];walk_at "rd";refine ⟨_,V.ref b1,.inr (SqT.of (s3 _ _ et')),rfl,?_⟩;walk_at "rd";refine ⟨1,_,_,by decide,dR (x:=y.1.1) 0 ⟨b1,rfl,s3 _ _ w1⟩,dR (x:=x) 0 ⟨a,rfl,s3 _ _ ea⟩,?_⟩;rw [sV];walk_at "rd";exact ite2 (fun g=>⟨_,V.ref b2,.inr (SqT.of (s3 _ _ et')),rfl,ho _ _ (decide_eq_true g) (Same.refl _) ⟨_,rfl⟩⟩) fun g=>hno _ (decide_eq_false g) (Same.refl _)
 ·intro H2 ws s2 e2 p2;refine ⟨_,V.ref ca,.inr (SqT.of (s2 _ _ et)),rfl,.inl ⟨⟨_,SqL.of (s2 _ _ ec)⟩,fun D2 hD2=>?_⟩⟩;refine bR (item:=fun y:Line × V=>y.2) (N.2.2.zip cv) (fun y=>decide (y.1.2=x)) (fun y v _=>∃ b,v=V.ref b) hD2 (by rw [z1]; exact SqL.of (s2 _ _ ec)) (by rw [List.length_zip]; lia) (fun _ _ _ _ _ _ _ h=>h) ?_ ?_
  ·intro y H3 out non hy s3 ho hno;obtain ⟨t',u1,u2,ex,et',⟨b1,rfl,w1⟩,⟨b2,rfl,w2⟩⟩:=z2 y hy;have s23:=s2.trans s3;rw [ex];walk_at "rd";refine ⟨_,V.ref b2,.inr (SqT.of (s23 _ _ et')),rfl,?_⟩;walk_at "rd";refine ⟨1,_,_,by decide,dR (x:=y.1.2) 0 ⟨b2,rfl,s23 _ _ w2⟩,dR (x:=x) 0 ⟨a,rfl,s23 _ _ ea⟩,?_⟩;rw [sV];walk_at "rd";exact ite2 (fun g=>⟨_,V.ref b1,.inr (SqT.of (s23 _ _ et')),rfl,ho _ _ (decide_eq_true g) (Same.refl _) ⟨_,rfl⟩⟩) fun g=>hno _ (decide_eq_false g) (Same.refl _)
  ·intro H3 us s3 e3 p3;have s23:=s2.trans s3;have l1:=p2.length;have l2:=p3.length;have b1:=List.length_filter_le (fun y:Line × V=>decide (y.1.1=x)) (N.2.2.zip cv);have b2:=List.length_filter_le (fun y:Line × V=>decide (y.1.2=x)) (N.2.2.zip cv);rw [List.length_zip] at b1 b2;walk_at "rd";refine ⟨ws,us,s3 _ _ e2,e3,by rw [sizeLine_eq]; lia,fun l hl'=>?_⟩;have k4:=af hl' (.lst (ws++us));have s4:=s23.trans k4;walk_at "rd";refine ⟨Nat.zero_le _,fun p hp=>?_⟩;have k5:=af hp (.lst []);have s5:=s4.trans k5;have el:=k5 _ _ (show upd H3 l (.lst (ws++us)) l=some (.lst (ws++us)) from ab);refine ⟨_,SqL.of el,SqL.of ab,?_⟩;generalize upd (upd H3 l (.lst (ws++us))) p (.lst [])=H5 at s5 el ⊢;have mem:∀ y ∈ N.2.2,∃ z ∈ N.2.2.zip cv,z.1=y:=fun y hy=>by
    rw [<- bj (l:=N.2.2) (m:=cv) lc] at hy;exact List.mem_map.mp hy
   have en:∀ y:Line,y ∈ N.2.2->(y.1=x\/y.2=x)->x ∈ endsOf N.2.2:=fun y hy h=>by
    unfold endsOf;refine List.mem_flatMap.mpr ⟨y,hy,?_⟩;rcases h with h | h <;> simp [h]
   have refs:∀ v ∈ ws++us,∃ b,v=V.ref b:=fun v hv=>by
    rcases List.mem_append.mp hv with hv | hv
    ·obtain ⟨_,_,h⟩:=dk p2 v hv;exact h
    ·obtain ⟨_,_,h⟩:=dk p3 v hv;exact h
   cases hz:ws++us with
   | nil=>
    rw [if_pos rfl];refine q1 (fun hx=>?_) _ s5;unfold endsOf at hx;obtain ⟨y,hy,hxy⟩:=List.mem_flatMap.mp hx;obtain ⟨z,hzz,rfl⟩:=mem y hy;have h0:=List.append_eq_nil_iff.mp hz;rw [h0.1] at l1;rw [h0.2] at l2;have hxy:x=z.1.1\/x=z.1.2:=by simpa using hxy
    rcases hxy with h | h
    ·have:=List.length_pos_of_mem ((List.mem_filter (p:=fun y:Line × V=>decide (y.1.1=x))).mpr ⟨hzz,decide_eq_true h.symm⟩);rw [l1] at this;exact Nat.lt_irrefl _ this
    ·have:=List.length_pos_of_mem ((List.mem_filter (p:=fun y:Line × V=>decide (y.1.2=x))).mpr ⟨hzz,decide_eq_true h.symm⟩);rw [l2] at this;exact Nat.lt_irrefl _ this
   | cons v r=>
    rw [if_neg (fun z=>nomatch z)];obtain ⟨b,rfl⟩:=refs v (by rw [hz]; exact List.mem_cons_self);rw [hz] at el;refine ⟨_,V.ref b,.inl (SqL.of el),at0 rfl,q2 ?_ b _ s5⟩;have hn:0 < ws.length\/0 < us.length:=by
     have:=congrArg List.length hz;rw [List.length_append,List.length_cons] at this
     lia
    rcases hn with hn | hn
    ·rw [<- l1] at hn;obtain ⟨z,hzz⟩:=List.exists_mem_of_length_pos hn;obtain ⟨m1,m2⟩:=List.mem_filter.mp hzz;exact en z.1 (List.of_mem_zip m1).1 (.inl (of_decide_eq_true m2))
    ·rw [<- l2] at hn;obtain ⟨z,hzz⟩:=List.exists_mem_of_length_pos hn;obtain ⟨m1,m2⟩:=List.mem_filter.mp hzz;exact en z.1 (List.of_mem_zip m1).1 (.inr (of_decide_eq_true m2))
noncomputable def io (K:Frag):Sp:=av fun q=>aE fun H Q _=>Ex3 fun (N:Net) (S j:Nat)=>NetAt H q N/\NetF S j N/\j < 24/\∀ p H' ws,H p=none->Same H H'->Ways H' p ws->ws.Nodup->(∀ x ∈ ws,x ∈ spotsOf N.2.1/\x ∉ endsOf N.2.2)->ws.length<=12->Q (.ref p) H'
theorem pJ (T:Top K mg):Callee P w K mg base 2 "_law_open" ["_law_net_here"] (io K):=by
 refine T.mr.cal pO (by unfold io; exact LenSp.h) (fun _ _ _ _ _ _ us hl=>match us,hl with | [_],_=>rfl) (fun f cdv A outer s H vs Q E hr h=>?_);unfold io at h;walk_at "el";refine ⟨_,(ah (ax (aH (kr K rfl) rfl T.nP ou (aa (aJ (nt:=1) (fi:=[0]) (N':=["_law_spot", "_law_net_here"]) rfl (cscope rfl (by decide +kernel)) (cnames (N:=["_law_net_here"]) (sc:=defScope gB) rfl rfl (by decide +kernel)) (aQ (by decide)) (iterE K rfl (am (jQ T) hr.m rfl (aa (qv 0) ae))) (fun _ _ _ _ _=>(aj (i:=0) (by show (["_law_spot", "_law_net_here"]:List Str).Nodup; decide +kernel) rfl lc)) (fun _ _ _ _ _=>(cN (aB vA (am (pe T) hr.m rfl (aa (qv 1) (aa (qv 0) ae))) pM))) (fun _ _ _ _ _=>(qv 0))) ae)))),?_⟩;rename_i q;obtain ⟨N,S,j,hN,nf,hj,k⟩:=h;have h4:=nf.k.h4;have l6:=nf.k.l6;obtain ⟨snd,sl⟩:=nf.spots;walk_at "rd";refine ⟨N,hN,by lia,fun x hx=>Nat.le_trans (nf.k.house x hx).g3 (by decide),fun sp H1 hsp s1 hW=>?_⟩;obtain ⟨wv,ew,pw⟩:=hW;have lw:=pw.length;obtain ⟨z1,z2⟩:=aF pw;walk_at "rd";refine .inl ⟨⟨_,SqL.of ew⟩,fun D hD=>?_⟩;refine bR (item:=fun x:Way × V=>x.2) ((spotsOf N.2.1).zip wv) (fun x=>!decide (x.1 ∈ endsOf N.2.2)) (fun x v H'=>WayAt H' x.1 v) hD (by rw [z1]; exact SqL.of ew) (by rw [List.length_zip]; lia) ?_ ?_ ?_
 ·rintro x v H3 H4 acc hd k ⟨t',rfl,et'⟩;exact ⟨t',rfl,k t' _ (fun z=>by rw [z,hd] at et'; cases et') et'⟩
 ·intro x H3 out non hx s3 ho hno;obtain ⟨t',ex,et'⟩:=z2 x hx;rw [ex];walk_at "rd";refine ⟨N,x.1,hN.same (s1.trans s3),by lia,s3 _ _ et',fun g H4 s4=>?_,fun g b H4 s4=>?_⟩
  ·walk_at "rd";exact ho _ _ (by rw [decide_eq_false g]; rfl) s4 ⟨t',rfl,s4 _ _ (s3 _ _ et')⟩
  ·walk_at "rd";exact hno _ (by rw [decide_eq_true g]; rfl) s4
 ·intro H2 us s2 e2 p2;have p2':Paired (WayAt H2) ((spotsOf N.2.1).filter fun x=>!decide (x ∈ endsOf N.2.2)) us:=by
   have:(spotsOf N.2.1).filter (fun x=>!decide (x ∈ endsOf N.2.2))=(((spotsOf N.2.1).zip wv).filter fun x=>!decide (x.1 ∈ endsOf N.2.2)).map Prod.fst:=by
    conv=>lhs; rw [<- bj (l:=spotsOf N.2.1) (m:=wv) lw]
    rw [List.filter_map];rfl
   rw [this];exact aS p2
  have fl:=List.length_filter_le (fun x=>!decide (x ∈ endsOf N.2.2)) (spotsOf N.2.1);have fnd:((spotsOf N.2.1).filter fun x=>!decide (x ∈ endsOf N.2.2)).Nodup:=List.Sublist.nodup List.filter_sublist snd;walk_at "rd";refine ⟨_,us,SqL.of e2,p2',fnd,by lia,fun p ws' vs' hp hpm _ pp=>?_⟩;have k3:=af hp (.lst vs');have s3:=s1.trans s2;refine k p _ ws' (s3.free hp) (s3.trans k3) ⟨vs',ab,aD (fun _ _ z=>k3 _ _ z) pp⟩ (hpm.nodup_iff.mpr fnd) (fun x hx=>?_) (by have:=hpm.length_eq; lia);obtain ⟨m1,m2⟩:=List.mem_filter.mp (hpm.mem_iff.mp hx);exact ⟨m1,by simpa using m2⟩
theorem qH {S:Nat}:∀ l:List (Fld × V),(∃ x ∈ l,x.1.1=toB)->(∀ x ∈ l,x.1.1=toB->x.1.2=S)->∃ rest,(l.flatMap fun x=>if decide (x.1.1=toB)=true then [V.int x.1.2] else [])=V.int S::rest
 | [],⟨_,h,_⟩,_=>by cases h
 | x::l,h,hz=>by
  rw [List.flatMap_cons];by_cases g:x.1.1=toB
  ·rw [if_pos (decide_eq_true g),hz x List.mem_cons_self g];exact ⟨_,rfl⟩
  ·rw [if_neg (fun z=>g (of_decide_eq_true z)),List.nil_append];exact qH l (by
    obtain ⟨y,hy,e⟩:=h;rcases List.mem_cons.mp hy with rfl | hy
    ·exact absurd e g
    ·exact ⟨y,hy,e⟩) fun y hy=>hz y (List.mem_cons_of_mem _ hy)
noncomputable def bW (K:Frag):Sp:=av fun a=>be fun k=>av fun q=>aZ fun h=>aE fun H Q _=>Ex5 fun (ns:List Int) (N:Net) (S j:Nat) (hs:House)=>SqL K H a (ns.map V.int)/\0<=k/\k<=40000/\NetAt H q N/\NetF S j N/\j < 24/\houseOf N.2.1 h.cps.toList=some hs/\∀ t H' D,H t=none->Same H H'->DeedAt H' t D->DeedOk (widthL N.1) S N D->Q (.ref t) H'
theorem ja (T:Top K mg):Callee P w K mg base 3 "_law_deed_of_ways" ["_law_script", "_law_k", "_law_net_here", "_law_house_here"] (bW K):=by
 refine T.fj.cal bY (by unfold bW; exact LenSp.h) (fun _ _ _ _ _ _ us hl=>match us,hl with | [_,_,_,_],_=>rfl) (fun f cdv A outer s H vs Q E hr h=>?_);unfold bW at h;walk_at "el";refine ⟨_,(ag (aq (i:=4) bY.nd rfl lc (am (j8 T) hr.m rfl (aa (ai (ixE K rfl) (qv 2) ad (fun _ _=>rfl)) (aa (qv 3) ae))))
   (ag (aq (i:=5) bY.nd rfl lc (ai (ixE K rfl) (aJ (nt:=1) (fi:=[]) (N':=["_law_pair"]) rfl (cscope rfl (by decide +kernel)) (cnames (N:=["_law_script", "_law_k", "_law_net_here", "_law_house_here", "_law_kept", "_law_size", "_law_signs_here"]) (sc:=defScope bL) rfl rfl (by decide +kernel)) (aQ (by decide)) (iterE K rfl (ai (ixE K rfl) (qv 2) ad (fun _ _=>rfl))) (fun _ _ _ _ _=>(aj (i:=0) (by show (["_law_pair"]:List Str).Nodup; decide +kernel) rfl lc)) (fun _ _ _ _ _=>(cN (aB bn (ai (ixE K rfl) (qv 0) ad (fun _ _=>rfl)) (qs [116,111])))) (fun _ _ _ _ _=>(ai (ixE K rfl) (qv 0) ad (fun _ _=>rfl)))) ad (fun _ _=>rfl)))
   (ag (aq (i:=6) bY.nd rfl lc (bp (slE K rfl) (am (jP T) hr.m rfl (aa (qv 0) (aa (qv 1) (aa (qv 5) ae)))) bT (bG (am (ar T) hr.m rfl (aa (qv 0) (aa (al ak (qv 1) ad) (aa (al ak (qv 5) ad) ae)))))))
   (ag (aW (aB (inE K rfl) (qv 6) (aJ (nt:=1) (fi:=[]) (N':=["_law_way"]) rfl (cscope rfl (by decide +kernel)) (cnames (N:=["_law_script", "_law_k", "_law_net_here", "_law_house_here", "_law_kept", "_law_size", "_law_signs_here"]) (sc:=defScope bL) rfl rfl (by decide +kernel)) (aQ (by decide)) (iterE K rfl (ai (ixE K rfl) (qv 4) ad (fun _ _=>rfl))) (fun _ _ _ _ _=>(aj (i:=0) (by show (["_law_way"]:List Str).Nodup; decide +kernel) rfl lc)) (fun _ _ _ _ _=>bd) (fun _ _ _ _ _=>(ai (ixE K rfl) (qv 0) ad (fun _ _=>rfl))))) (ah (ax (ay (aa (qs [117,110,119,97,121]) (aa (qv 3) (aa (qv 6) ae)))))) aC)
   (ah (ax (ay (aa (qs [119,97,121]) (aa (qv 3) (aa (qv 6) (aa (ai (ixE K rfl) (ai (ixE K rfl) (ai (ixE K rfl) (qv 4) ad (fun _ _=>rfl)) (am (ar T) hr.m rfl (aa (qv 0) (aa (al ak (qv 1) ad) (aa (aH (lenE K rfl) rfl T.cq bK (aa (ai (ixE K rfl) (qv 4) ad (fun _ _=>rfl)) ae)) ae)))) (fun _ _=>rfl)) ad (fun _ _=>rfl)) ae))))))))))),?_⟩
 rename_i a k q nh;obtain ⟨nh,rfl⟩:∃ x,nh=st x:=⟨_,(bf nh).symm⟩;obtain ⟨ns,N,S,j,hs,hS,hk0,hk1,hN,nf,hj,eh,k'⟩:=h;simp only [az] at eh;obtain ⟨la,ha,ca,et,⟨lv,el,pl⟩,⟨hv,ehh,ph⟩,_⟩:=id hN;have ll:=pl.length;have lh:=ph.length;have h4:=nf.k.h4;have l8:=nf.lay.len;have w100:=nf.lay.w2;obtain ⟨f1,_,hSw⟩:=kM N.1 toT S 0 nf.lay.nd nf.to;obtain ⟨kvs,pk,hf⟩:=kf ph;have lk:=pk.length;obtain ⟨m,hq,hf,hHq⟩:=hf nh hs eh;obtain ⟨yh,hyh,eyh,eys⟩:=dm eh;have hk:=nf.k.house yh hyh;rw [eys] at hk;have g1:=hk.g1;have g3:=hk.g3;have w5:=hk.w5;obtain ⟨z1,z2⟩:=aF pl;walk_at "rd";refine ⟨_,V.ref ha,.inr (SqT.of et),rfl,kvs,hv,_,ehh,pk,by lia,hf,fun H1 s1=>?_⟩;walk_at "rd";refine ⟨_,V.ref la,.inr (SqT.of (s1 _ _ et)),rfl,.inl ⟨⟨_,SqL.of (s1 _ _ el)⟩,fun D hD=>?_⟩⟩;refine bU (item:=fun x:Fld × V=>x.2) (xs:=N.1.zip lv) (h:=fun x=>if decide (x.1.1=toB)=true then [V.int x.1.2] else []) hD (by rw [z1]; exact SqL.of (s1 _ _ el)) (by rw [List.length_zip]; lia) (fun _=>by split <;> simp) ?_ ?_
 ·intro x H3 out non hx s3 ho hno;obtain ⟨t,ex,et3⟩:=z2 x hx;rw [ex];have et4:=(s1.trans s3) _ _ et3;walk_at "rd";refine ⟨_,_,.inr (SqT.of et4),rfl,?_⟩;walk_at "rd";exact ite2 (fun g=>⟨_,_,.inr (SqT.of et4),rfl,ho _ _ (if_pos (decide_eq_true g)) (Same.refl _)⟩) fun g=>hno _ (if_neg (fun z=>g (of_decide_eq_true z))) (Same.refl _)
 intro H2 s2 e2;obtain ⟨rest,er⟩:=qH (S:=S) (N.1.zip lv) (by
  have:=nf.to;rw [<- bj (l:=N.1) (m:=lv) ll] at this;obtain ⟨x,hx,e⟩:=List.mem_map.mp this;exact ⟨x,hx,by rw [e]⟩) fun x hx e=>by
  have:=vk nf.lay.nd (show (toB,x.1.2) ∈ N.1 from e ▸ (List.of_mem_zip hx).1) nf.to;exact this
 rw [er] at e2;have s12:=s1.trans s2;walk_at "rd";refine ⟨_,V.int S,.inl (SqL.of e2),at0 rfl,?_⟩;walk_at "rd";refine ⟨ns,S,s12.seq hS,hk0,by lia,rfl,by lia,fun sg H3 s3 hsl hsb=>?_⟩;have s13:=s12.trans s3;refine br (s13.seq hS) (by lia) (by lia) (by lia) (by lia) fun r2 hr2=>?_
 walk_at "rd";refine ⟨by lia,by lia,by lia,?_⟩;rw [Int.toNat_natCast];have hbg:(sg.take r2).length<=S:=by rw [List.length_take]; lia
 have hbb:∀ c ∈ sg.take r2,c=48\/c=49:=fun c hc=>hsb c (List.mem_of_mem_take hc)
 generalize sg.take r2=bg at hbg hbb;obtain ⟨ga,wa,eq1,⟨gv,eg,pg⟩,⟨wv,ew,pw⟩⟩:=id hHq;have lg:=pg.length;have lw:=pw.length;obtain ⟨y1,y2⟩:=aF pw;refine ⟨_,V.ref wa,.inr (SqT.of (s13 _ _ eq1)),rfl,.inl ⟨⟨_,SqL.of (s13 _ _ ew)⟩,fun D2 hD2=>?_⟩⟩;refine bU (item:=fun x:Way × V=>x.2) (xs:=hs.2.zip wv) (h:=fun x=>[tx x.1.1]) hD2 (by rw [y1]; exact SqL.of (s13 _ _ ew)) (by rw [List.length_zip]; lia) (fun _=>by simp) ?_ ?_
 ·intro x H5 out non hx s5 ho _;obtain ⟨t,ex,et5⟩:=y2 x hx;rw [ex];walk_at "rd";exact ⟨_,_,.inr (SqT.of ((s13.trans s5) _ _ et5)),rfl,ho _ _ rfl (Same.refl _)⟩
 intro H4 s4 e4;rw [show (hs.2.zip wv).flatMap (fun x=>[tx x.1.1])=(hs.2.map (·.1)).map tx by
  rw [dr (fun x:Way × V=>tx x.1.1)]
  conv=>rhs; rw [<- bj (l:=hs.2) (m:=wv) lw,List.map_map,List.map_map]
  rfl] at e4
 have s14:=s13.trans s4;walk_at "rd";refine ⟨_,.inl (SqL.of e4),rfl,mM _,?_⟩;rw [show V.str (st bg)=tx bg from rfl,pf];walk_at "rd";refine ite2 (fun g=>⟨by decide,fun t ht=>?_⟩) fun g=>?_
 ·have k5:=af ht (.tup [V.str (st [117,110,119,97,121]),V.str (st nh),tx bg]);exact k' t _ (.unway nh bg) (s14.free ht) (s14.trans k5) ab ⟨hs,eh,g⟩
 ·refine ⟨_,V.ref ga,.inr (SqT.of (s14 _ _ eq1)),rfl,_,V.ref ga,.inr (SqT.of (s14 _ _ eq1)),rfl,?_⟩;walk_at "rd";refine ⟨gv,.inl (SqL.of (s14 _ _ eg)),?_⟩;refine br (s14.seq hS) (by lia) (by lia) (by lia) (by lia) fun r3 hr3=>?_
  have h3:r3 < hs.1.length:=by lia
  obtain ⟨y,hy,tg,rp,ey,etg,_⟩:=aA pg (List.getElem?_eq_getElem h3);walk_at "rd";refine ⟨_,y,.inl (SqL.of (s14 _ _ eg)),bC hy,?_⟩;rw [ey];walk_at "rd";refine ⟨_,tx hs.1[r3].1,.inr (SqT.of (s14 _ _ etg)),rfl,by decide,fun t ht=>?_⟩;have k5:=af ht (.tup [V.str (st [119,97,121]),V.str (st nh),tx bg,tx hs.1[r3].1]);exact k' t _ (.way nh bg hs.1[r3].1) (s14.free ht) (s14.trans k5) ab ⟨hs,eh,hbg,hbb,g,List.mem_map.mpr ⟨_,List.getElem_mem h3,rfl⟩⟩
theorem nG {X:Cx} {l:List Stmt} {t u:TS} (h:PSs X l t) (k:∀ D σ H,u D σ H->t D σ H):PSs X l u:=fun p s σ H D I q=>h p s σ H D I (k _ _ _ q)
noncomputable def iC (K:Frag):Sp:=av fun a=>be fun k=>av fun q=>av fun pd=>aE fun H Q _=>Ex6 fun (ns:List Int) (N:Net) (S j P W0:Nat)=>Ex2 fun (sh:Nat) (b:Bool)=>SqL K H a (ns.map V.int)/\0<=k/\k<=30000/\NetAt H q N/\NetF S j N/\j < 24/\H pd=some (.tup [.int (P:Nat),.bl b,.int (sh:Nat)])/\widthL N.1=W0+P/\P<=42/\sh<=1000/\∀ t H' D,H t=none->Same H H'->DeedAt H' t D->DeedOk (widthL N.1) S N D->Q (.ref t) H'
structure DF (K:Frag) (H:Hp) (a q pd rp:Addr) (k:Int) (ns:List Int) (N:Net) (S j P W0 sh kd:Nat) (b:Bool) (x1:Way) (hs:House) (rs:List Rule) (R:VK):Prop where
 seq:SqL K H a (ns.map V.int)
 k0:0<=k
 k1:k<=30000
 net:NetAt H q N
 nf:NetF S j N
 j24:j < 24
 pads:H pd=some (.tup [.int (P:Nat),.bl b,.int (sh:Nat)])
 wid:widthL N.1=W0+P
 p42:P<=42
 sh1:sh<=1000
 kd6:kd < 6
 eh:houseOf N.2.1 x1.1=some hs
 eg:gateOf hs.1 x1.2=some rs
 rules:Rules H rp rs
 rl:rs.length<=3+j
 out:∀ t H' D,H t=none->Same H H'->DeedAt H' t D->DeedOk (widthL N.1) S N D->R (.ref t) H'
theorem DF.same {H H':Hp} {a q pd rp:Addr} {k:Int} {ns:List Int} {N:Net} {S j P W0 sh kd:Nat} {b:Bool} {x1:Way} {hs:House} {rs:List Rule} {R:VK} (h:DF K H a q pd rp k ns N S j P W0 sh kd b x1 hs rs R) (s:Same H H'):DF K H' a q pd rp k ns N S j P W0 sh kd b x1 hs rs R:=
 ⟨s.seq h.seq,h.k0,h.k1,h.net.same s,h.nf,h.j24,s _ _ h.pads,h.wid,h.p42,h.sh1,h.kd6,h.eh,h.eg,h.rules.same s,h.rl,fun t H'' D h1 h2=>h.out t H'' D (s.free h1) (s.trans h2)⟩
noncomputable def mDeed (K:Frag):TS:=fun D σ H=>∀ C:TS,(∀ (a q pd rp:Addr) (k:Int) (ns:List Int) (N:Net) (S j P W0 sh kd:Nat) (b:Bool) (x1:Way) (hs:House) (rs:List Rule) (u4 u7 u10:Option V),DF K H a q pd rp k ns N S j P W0 sh kd b x1 hs rs D.rt->C D [some (.ref a),some (.int k),some (.ref q),some (.ref pd),u4,some (tx x1.1),some (tx x1.2),u7,some (.ref rp),some (nV kd),u10,none,none,none,none] H)->C D σ H
theorem wj (T:Top K mg) {f:Addr} {cdv:Value} {A:Around} {outer:List Env} {s:Shared} {H₀:Hp} {E:XK} (hr:Room 3 (A.deeper (PyProof.Rows.envOfC "_law_deed" (defScope bN) s.heap.objs.size f cdv))):
  PSs (cxOf CX0 P w K mg base ["_law_script", "_law_k", "_law_net_here", "_law_pads", "_law_spots_here", "_law_house_here", "_law_door", "_law_kept", "_law_rules", "_law_kind", "_law_free", "_law_one", "_law_spot", "_law_width", "_law_rule_here"] "_law_deed" (defScope bN) f cdv A outer s H₀ E).nox ((defBody bN).drop 9) (mDeed K):=by
 refine nG (cg (aW (PW.pt (m7 (aB bn (qv 9) ad) (kK (aB nK (aH (lenE K rfl) rfl T.cq bK (aa (ai (ixE K rfl) (qv 2) ad (fun _ _=>rfl)) ae)) ad)))) (ag (aq (i:=12) ba.nd rfl lc (ai (ixE K rfl) (ai (ixE K rfl) (ai (ixE K rfl) (qv 2) ad (fun _ _=>rfl)) (am (ar T) hr.m rfl (aa (qv 0) (aa (al ak (qv 1) ad) (aa (aH (lenE K rfl) rfl T.cq bK (aa (ai (ixE K rfl) (qv 2) ad (fun _ _=>rfl)) ae)) ae)))) (fun _ _=>rfl)) (am (ar T) hr.m rfl (aa (qv 0) (aa (al ak (qv 1) ad) (aa ad ae)))) (fun _ _=>rfl)))
   (ah (ax (ay (aa (qs [117,110,116,105,101]) (aa (ai (ixE K rfl) (qv 12) ad (fun _ _=>rfl)) (aa (ai (ixE K rfl) (qv 12) ad (fun _ _=>rfl)) ae))))))) aC)
   (ag (aq (i:=13) ba.nd rfl lc (al pS (aH (lD K rfl rfl) rfl T.tm rH (aa (aJ (nt:=1) (fi:=[]) (N':=["_law_pair"]) rfl (cscope rfl (by decide +kernel)) (cnames (N:=["_law_script", "_law_k", "_law_net_here", "_law_pads", "_law_spots_here", "_law_house_here", "_law_door", "_law_kept", "_law_rules", "_law_kind", "_law_free", "_law_one", "_law_spot", "_law_width", "_law_rule_here"]) (sc:=defScope bN) rfl rfl (by decide +kernel)) (aQ (by decide)) (iterE K rfl (ai (ixE K rfl) (qv 2) ad (fun _ _=>rfl))) (fun _ _ _ _ _=>(aj (i:=0) (by show (["_law_pair"]:List Str).Nodup; decide +kernel) rfl lc)) (fun _ _ _ _ _=>bd) (fun _ _ _ _ _=>(ai (ixE K rfl) (qv 0) ad (fun _ _=>rfl)))) ae)) (ai (ixE K rfl) (qv 3) ad (fun _ _=>rfl))))
   (ag (aq (i:=14) ba.nd rfl lc (am (kx T) hr.m rfl (aa (qv 0) (aa (al ak (qv 1) ad) (aa (qv 13) (aa (ai (ixE K rfl) (qv 3) ad (fun _ _=>rfl)) ae))))))
   (ah (ax (ay (aa (qs [112,117,116]) (aa (qv 5) (aa (qv 6) (aa (am (ar T) hr.m rfl (aa (qv 0) (aa (al ak (qv 1) ad) (aa (al ak (aH (lenE K rfl) rfl T.cq bK (aa (qv 8) ae)) ad) ae)))) (aa (am (eV T) hr.m rfl (aa (qv 14) (aa (ai (ixE K rfl) (qv 3) ad (fun _ _=>rfl)) (aa (ai (ixE K rfl) (qv 3) ad (fun _ _=>rfl)) ae)))) ae))))))))))) fun D σ H h=>h _ fun a q pd rp k ns N S j P W0 sh kd b x1 hs rs u4 u7 u10 F=>?_
 obtain ⟨la,ha,ca,et,⟨lv,el,pl⟩,_,⟨cv,ec,pc⟩⟩:=F.net;have nf:=F.nf;have k0:=F.k0;have k1:=F.k1;have hj:=F.j24;have ll:=pl.length;have lc:=pc.length;have l6:=nf.k.l6;have l8:=nf.lay.len;have rl:=F.rl;obtain ⟨rv,er,pr⟩:=F.rules;have lr:=pr.length;obtain ⟨z1,z2⟩:=aF pl;walk_at "rd";refine ⟨fun σ' H'=>σ'=[some (.ref a),some (.int k),some (.ref q),some (.ref pd),u4,some (tx x1.1),some (tx x1.2),u7,some (.ref rp),some (nV kd),u10,none,none,none,none]/\H'=H,?_,?_⟩
 ·refine ite2 (fun g=>⟨_,V.ref ca,.inr (SqT.of et),rfl,?_⟩) fun g=>⟨rfl,rfl⟩
  walk_at "rd";refine ⟨cv,.inl (SqL.of ec),ite2 (fun g2=>?_) fun _=>trivial⟩;refine ⟨_,V.ref ca,.inr (SqT.of et),rfl,_,V.ref ca,.inr (SqT.of et),rfl,?_⟩;walk_at "rd";refine ⟨cv,.inl (SqL.of ec),?_⟩;refine br F.seq (by lia) (by lia) (by lia) (by lia) fun r1 hr1=>?_
  have h1:r1 < N.2.2.length:=by lia
  obtain ⟨y,hy,t',u1,u2,ey,et',⟨b1,rfl,w1⟩,⟨b2,rfl,w2⟩⟩:=aA pc (List.getElem?_eq_getElem h1);have hm:=List.getElem_mem h1;generalize N.2.2[r1]=ln at w1 w2 hm;walk_at "rd";refine ⟨_,y,.inl (SqL.of ec),bC hy,?_⟩;rw [ey];refine br F.seq (by lia) (by lia) (by decide) (by decide) fun r2 hr2=>?_
  walk_at "rd";obtain ⟨bb,xx,hbb,wx,hxx⟩:Ex2 fun bb xx=>([V.ref b1,V.ref b2]:List V)[r2]? = some (V.ref bb)/\H bb=some (.tup [tx xx.1,tx xx.2])/\xx ∈ endsOf N.2.2:=by
   rcases (by lia:r2=0\/r2=1) with rfl | rfl
   ·exact ⟨b1,ln.1,rfl,w1,List.mem_flatMap.mpr ⟨ln,hm,by simp⟩⟩
   ·exact ⟨b2,ln.2,rfl,w2,List.mem_flatMap.mpr ⟨ln,hm,by simp⟩⟩
  refine ⟨_,V.ref bb,.inr (SqT.of et'),bC hbb,?_⟩;walk_at "rd";refine ⟨_,tx xx.1,.inr (SqT.of wx),rfl,_,tx xx.2,.inr (SqT.of wx),rfl,by decide,fun t ht=>?_⟩;exact F.out t _ (.untie xx.1 xx.2) ht (af ht _) ab hxx
 ·rintro σ' H' ⟨rfl,rfl⟩;walk_at "rd";refine ⟨_,V.ref la,.inr (SqT.of et),rfl,.inl ⟨⟨_,SqL.of el⟩,fun D1 hD1=>?_⟩⟩;refine bU (item:=fun x:Fld × V=>x.2) (xs:=N.1.zip lv) (h:=fun x=>[V.int x.1.2]) hD1 (by rw [z1]; exact SqL.of el) (by rw [List.length_zip]; lia) (fun _=>by simp) ?_ ?_
  ·intro x H1 out non hx s1 ho _;obtain ⟨t,ex,et1⟩:=z2 x hx;rw [ex];walk_at "rd";exact ⟨_,_,.inr (SqT.of (s1 _ _ et1)),rfl,ho _ _ rfl (Same.refl _)⟩
  intro H1 s1 e1;rw [show (N.1.zip lv).flatMap (fun x=>[V.int x.1.2])=((N.1.map (·.2)).map fun n:Nat=>(n:Int)).map V.int by
   rw [dr (fun x:Fld × V=>V.int x.1.2)]
   conv=>rhs; rw [<- bj (l:=N.1) (m:=lv) ll,List.map_map,List.map_map,List.map_map]
   rfl] at e1
  refine ⟨_,SqL.of e1,?_⟩;have F1:=F.same s1;rw [nL,show (N.1.map (·.2)).sum=W0+P from F.wid];refine ⟨_,V.int (P:Nat),.inr (SqT.of F1.pads),rfl,?_⟩;walk_at "rd";have hP:=F.p42;have hsh:=F.sh1;have w100:=nf.lay.w2;have wid:=F.wid;refine ⟨_,V.int (sh:Nat),.inr (SqT.of F1.pads),rfl,ns,W0,F1.seq,by lia,by lia,by lia,by lia,by lia,by lia,fun t H2 r ht s2 e2 rok=>?_⟩;have F2:=F1.same s2;have er2:=(s1.trans s2) _ _ er;walk_at "rd";refine ⟨rv,.inl (SqL.of er2),?_⟩;refine br F2.seq (by lia) (by lia) (by lia) (by lia) fun r3 hr3=>?_
  walk_at "rd";have wd4:r.2.1.length<=4:=by rcases rok.word with z | z <;> rw [z] <;> decide
  have rn:=rok.rowN;have on:=rok.overN;refine ⟨_,V.int (P:Nat),.inr (SqT.of F2.pads),rfl,_,V.bl b,.inr (SqT.of F2.pads),rfl,r,P,e2,⟨by lia,wd4,by lia⟩,rfl,hP,fun t' H3 r' ht' s3 e3 er'=>⟨by decide,fun t4 ht4=>?_⟩⟩;have k4:=af ht4 (.tup [V.str (st [112,117,116]),tx x1.1,tx x1.2,V.int (r3:Nat),V.ref t']);refine F2.out t4 _ (.put x1.1 x1.2 r3 r') (s3.free ht4) (s3.trans k4) ⟨t',ab,k4 _ _ e3⟩ ⟨hs,F.eh,rs,F.eg,by lia,?_⟩;rw [er',wid];exact vF rok
theorem wF (T:Top K mg) {f:Addr} {cdv:Value} {A:Around} {outer:List Env} {s:Shared} {H₀:Hp} {E:XK} (hr:Room 3 (A.deeper (PyProof.Rows.envOfC "_law_deed" (defScope bN) s.heap.objs.size f cdv))):
  PSs (cxOf CX0 P w K mg base ["_law_script", "_law_k", "_law_net_here", "_law_pads", "_law_spots_here", "_law_house_here", "_law_door", "_law_kept", "_law_rules", "_law_kind", "_law_free", "_law_one", "_law_spot", "_law_width", "_law_rule_here"] "_law_deed" (defScope bN) f cdv A outer s H₀ E).nox ((defBody bN).drop 6) (mDeed K):=by
 refine nG (cg (aW (PW.pt (qM (aB bn (qv 9) ad) (ni (aB bn (qv 9) ad)))) (ah (ax (am (ja T) hr.m rfl (aa (qv 0) (aa (al ak (qv 1) ad) (aa (qv 2) (aa (qv 5) ae))))))) aC)
   (ag (aq (i:=10) ba.nd rfl lc (am (pJ T) hr.m rfl (aa (qv 2) ae)))
   (cg (aW (PW.pt (m7 (aB bn (qv 9) ad) (kK (aB nK (aH (lenE K rfl) rfl T.cq bK (aa (qv 10) ae)) ad)))) (ag (aq (i:=11) ba.nd rfl lc (m4 (qv 10) (am (ar T) hr.m rfl (aa (qv 0) (aa (al ak (qv 1) ad) (aa (aH (lenE K rfl) rfl T.cq bK (aa (qv 10) ae)) ae))))))
   (ah (ax (ay (aa (qs [116,105,101]) (aa (qv 11) (aa (ai (ixE K rfl) (qv 10) (am (ar T) hr.m rfl (aa (qv 0) (aa (al ak (qv 1) ad) (aa (aH (lenE K rfl) rfl T.cq bK (aa (qv 10) ae)) ae)))) (fun _ _=>rfl)) ae))))))) aC)
   (wj T hr)))) fun D σ H h=>h _ fun a q pd rp k ns N S j P W0 sh kd b x1 hs rs u4 u7 u10 F=>?_
 have nf:=F.nf;have k0:=F.k0;have k1:=F.k1;have hj:=F.j24;have ways:bW K [V.ref a,V.int (k+2),V.ref q,tx x1.1] H D.rt E0:=⟨ns,N,S,j,hs,F.seq,by lia,by lia,F.net,nf,hj,by simp only [az]; exact F.eh,F.out⟩;walk_at "rd";refine ⟨fun σ' H'=>σ'=[some (.ref a),some (.int k),some (.ref q),some (.ref pd),u4,some (tx x1.1),some (tx x1.2),u7,some (.ref rp),some (nV kd),u10,none,none,none,none]/\H'=H,?_,?_⟩
 ·exact ite2 (fun _=>ways) fun _=>ite2 (fun _=>ways) fun _=>⟨rfl,rfl⟩
 ·rintro σ' H' ⟨rfl,rfl⟩;walk_at "rd";refine ⟨N,S,j,F.net,nf,hj,fun fr H1 ws hfr s1 hW hnd hin hl=>?_⟩;have F1:=F.same s1;obtain ⟨wv,ew,pw⟩:=hW;have lw:=pw.length;walk_at "rd";refine ⟨fun σ' H'=>σ'=[some (.ref a),some (.int k),some (.ref q),some (.ref pd),u4,some (tx x1.1),some (tx x1.2),u7,some (.ref rp),some (nV kd),some (.ref fr),none,none,none,none]/\H'=H1,?_,?_⟩
  ·refine ite2 (fun g=>⟨wv,.inl (SqL.of ew),ite2 (fun g2=>⟨⟨_,ew⟩,wv,.inl (SqL.of ew),?_⟩) fun _=>⟨rfl,rfl⟩⟩) fun _=>⟨rfl,rfl⟩
   refine br F1.seq (by lia) (by lia) (by lia) (by lia) fun r1 hr1=>?_
   have h1:r1 < ws.length:=by lia
   obtain ⟨y,hy,t1,rfl,e1⟩:=aA pw (List.getElem?_eq_getElem h1);refine ⟨wv,r1,_,rfl,ew,by lia,hy,?_⟩;have le:(wv.eraseIdx r1).length=wv.length - 1:=List.length_eraseIdx_of_lt (by lia);have le2:(ws.eraseIdx r1).length=ws.length - 1:=List.length_eraseIdx_of_lt h1;have s2:Same H' (upd H1 fr (.lst (wv.eraseIdx r1))):=aG s1 hfr;have kt:∀ t ts,H1 t=some (.tup ts)->upd H1 fr (.lst (wv.eraseIdx r1)) t=some (.tup ts):=aK ew;have e2:upd H1 fr (.lst (wv.eraseIdx r1)) fr=some (.lst (wv.eraseIdx r1)):=ab;generalize upd H1 fr (.lst (wv.eraseIdx r1))=H2 at s2 kt e2 ⊢;have F2:=F.same s2;refine ⟨_,.inl (SqL.of e2),?_⟩;refine br F2.seq (by lia) (by lia) (by lia) (by lia) fun r2 hr2=>?_
   have h2:r2 < (ws.eraseIdx r1).length:=by lia
   obtain ⟨y2,hy2,t2,rfl,e3⟩:=aA (fL r1 pw) (List.getElem?_eq_getElem h2);refine ⟨_,_,.inl (SqL.of e2),bC hy2,by decide,fun t ht=>?_⟩;have k3:=af ht (.tup [V.str (st [116,105,101]),V.ref t1,V.ref t2]);have pm:=ir h1;have nd2:=List.nodup_cons.mp (pm.nodup_iff.mpr hnd);have m2:=List.getElem_mem h2;exact F2.out t _ (.tie ws[r1] (ws.eraseIdx r1)[r2]) ht k3 ⟨t1,t2,ab,k3 _ _ (kt _ _ e1),k3 _ _ (kt _ _ e3)⟩ ⟨hin _ (List.getElem_mem h1),hin _ (pm.mem_iff.mp (List.mem_cons_of_mem _ m2)),fun z=>nd2.1 (z ▸ m2)⟩
  ·rintro σ' H'' ⟨rfl,rfl⟩;exact fun C hC=>hC a q pd rp k ns N S j P W0 sh kd b x1 hs rs u4 u7 (some (.ref fr)) F1
theorem pQ (T:Top K mg):Callee P w K mg base 4 "_law_deed" ["_law_script", "_law_k", "_law_net_here", "_law_pads"] (iC K):=by
 refine T.mh.cal ba (by unfold iC; exact LenSp.h) (fun _ _ _ _ _ _ us hl=>match us,hl with | [_,_,_,_],_=>rfl) (fun f cdv A outer s H vs Q E hr h=>?_);unfold iC at h;walk_at "el";refine ⟨_,(ag (aq (i:=4) ba.nd rfl lc (am (jQ T) hr.m rfl (aa (qv 2) ae)))
   (ag (vc (ai (ixE K rfl) (qv 4) (am (ar T) hr.m rfl (aa (qv 0) (aa (qv 1) (aa (aH (lenE K rfl) rfl T.cq bK (aa (qv 4) ae)) ae)))) (fun _ _=>rfl)) (seqE K rfl rfl (n:=2) (ao (aj (i:=5) ba.nd rfl lc) (ao (aj (i:=6) ba.nd rfl lc) aM))))
   (ag (aq (i:=7) ba.nd rfl lc (am (j8 T) hr.m rfl (aa (ai (ixE K rfl) (qv 2) ad (fun _ _=>rfl)) (aa (qv 5) ae))))
   (ag (aq (i:=8) ba.nd rfl lc (am (j8 T) hr.m rfl (aa (ai (ixE K rfl) (qv 7) ad (fun _ _=>rfl)) (aa (qv 6) ae))))
   (ag (aq (i:=9) ba.nd rfl lc (am (ar T) hr.m rfl (aa (qv 0) (aa (al ak (qv 1) ad) (aa ad ae)))))
   (cg (aW (PW.pt (m7 (aB bn (qv 9) ad) (kK (aB nK (aH (lenE K rfl) rfl T.cq bK (aa (qv 8) ae)) ad)))) (ah (ax (ay (aa (qs [115,116,114,105,107,101]) (aa (qv 5) (aa (qv 6) (aa (am (ar T) hr.m rfl (aa (qv 0) (aa (al ak (qv 1) ad) (aa (aH (lenE K rfl) rfl T.cq bK (aa (qv 8) ae)) ae)))) ae))))))) aC)
   (wF T hr))))))),?_⟩
 rename_i a k q pd;obtain ⟨ns,N,S,j,P,W0,sh,b,hS,hk0,hk1,hN,nf,hj,ep,eW,hP,hsh,k'⟩:=h;have h4:=nf.k.h4;have h1:=nf.k.h1;have l6:=nf.k.l6;obtain ⟨snd,sl⟩:=nf.spots;walk_at "rd";refine ⟨N,hN,by lia,fun x hx=>Nat.le_trans (nf.k.house x hx).g3 (by decide),fun sp H1 hsp s1 hW=>?_⟩;obtain ⟨wv,ew,pw⟩:=hW;have lw:=pw.length;have s1l:1<=(spotsOf N.2.1).length:=by
  obtain ⟨x0,hx0⟩:=List.exists_mem_of_length_pos (l:=N.2.1) (by lia);have:=(nf.k.house x0 hx0).g1;obtain ⟨g0,hg0⟩:=List.exists_mem_of_length_pos (l:=x0.2.1) (by lia);exact List.length_pos_of_mem (List.mem_flatMap.mpr ⟨x0,hx0,List.mem_map.mpr ⟨g0,hg0,rfl⟩⟩)
 walk_at "rd";refine ⟨wv,.inl (SqL.of ew),?_⟩;refine br (s1.seq hS) (by lia) (by lia) (by lia) (by lia) fun r1 hr1=>?_
 have hr:r1 < (spotsOf N.2.1).length:=by lia
 obtain ⟨y,hy,ts,ey,ets⟩:=aA pw (List.getElem?_eq_getElem hr);have hmem:=List.getElem_mem hr;generalize (spotsOf N.2.1)[r1]=sp1 at ets hmem;obtain ⟨hs,rs,eh,eg⟩:=pT nf.k.nd hmem;walk_at "rd";refine ⟨_,y,.inl (SqL.of ew),bC hy,?_⟩;rw [ey];refine ⟨[_,_],.inr (SqT.of ets),rfl,_,[_],rfl,_,[],rfl,rfl,?_⟩;obtain ⟨la,ha,ca,et,⟨lv,el,pl⟩,⟨hv,ehh,ph⟩,⟨cv,ec,pc⟩⟩:=hN.same s1;have ll:=pl.length;have lh:=ph.length;have lc:=pc.length;have l8:=nf.lay.len;have w100:=nf.lay.w2;obtain ⟨kvs,pk,hf⟩:=kf ph;have lk:=pk.length;obtain ⟨m,hq,hf,hHq⟩:=hf sp1.1 hs eh;obtain ⟨yh,hyh,eyh,eys⟩:=dm eh;have hk:=nf.k.house yh hyh;rw [eys] at hk;have g3:=hk.g3;obtain ⟨ga,wa,eq1,⟨gv,egv,pg⟩,_⟩:=id hHq;have lg:=pg.length;obtain ⟨gvs,pgk,hgf⟩:=oA pg;have lgk:=pgk.length;obtain ⟨mg',rp,hgf,hR⟩:=hgf sp1.2 rs eg;obtain ⟨gg,hgg,egg,egr⟩:=dU eg;have rl:=hk.rl gg hgg;rw [egr] at rl;walk_at "rd";refine ⟨_,V.ref ha,.inr (SqT.of et),rfl,kvs,hv,_,ehh,pk,by lia,by simp only [az]; exact hf,fun H2 s2=>?_⟩;walk_at "rd";refine ⟨_,V.ref ga,.inr (SqT.of (s2 _ _ eq1)),rfl,gvs,gv,_,s2 _ _ egv,L2.Paired.mapP pgk (fun _ _ ⟨t,e,z⟩=>⟨t,e,s2 _ _ z⟩),by lia,by simp only [az]; exact hgf,fun H3 s3=>?_⟩;have s23:=s2.trans s3;have s13:=s1.trans s23;obtain ⟨rv,er,pr⟩:=hR.same s23;have lr:=pr.length;have hN3:=hN.same s13;refine br (s13.seq hS) (by lia) (by lia) (by decide) (by decide) fun kd hkd=>?_
 have F:DF K H3 a q pd rp k ns N S j P W0 sh kd b sp1 hs rs Q:=⟨s13.seq hS,hk0,hk1,hN3,nf,hj,s13 _ _ ep,eW,hP,hsh,by lia,eh,eg,⟨rv,er,pr⟩,rl,fun t H' D h1 h2=>k' t H' D (s13.free h1) (s13.trans h2)⟩;walk_at "rd";refine ⟨fun σ' H'=>σ'=[some (.ref a),some (.int k),some (.ref q),some (.ref pd),some (.ref sp),some (tx sp1.1),some (tx sp1.2),some (.ref hq),some (.ref rp),some (V.int kd),none,none,none,none,none]/\H'=H3,?_,?_⟩
 ·refine ite2 (fun g=>⟨rv,.inl (SqL.of er),ite2 (fun g2=>⟨rv,.inl (SqL.of er),?_⟩) fun _=>⟨rfl,rfl⟩⟩) fun _=>⟨rfl,rfl⟩
  refine br F.seq (by lia) (by lia) (by lia) (by lia) fun r2 hr2=>⟨by decide,fun t ht=>?_⟩
  exact F.out t _ (.strike sp1.1 sp1.2 r2) ht (af ht _) ab ⟨hs,eh,rs,eg,by lia⟩
 ·rintro σ' H' ⟨rfl,rfl⟩;exact fun C hC=>hC a q pd rp k ns N S j P W0 sh kd b sp1 hs rs (some (.ref sp)) (some (.ref hq)) none F
noncomputable def gY (K:Frag):Sp:=av fun a=>be fun m=>be fun z=>aE fun H Q _=>∃ ns:List Int,SqL K H a (ns.map V.int)/\m=4/\z=0/\∀ (t q pd:Addr) (H':Hp) (N:Net) (S P W0 sh:Nat) (b:Bool),Same H H'->H' t=some (.tup [.ref q,.ref pd])->NetAt H' q N->NetF S 0 N->H' pd=some (.tup [.int (P:Nat),.bl b,.int (sh:Nat)])->widthL N.1=W0+P->P<=42->sh<=1000->Q (.ref t) H'
theorem oj (T:Top K mg):Callee P w K mg base 6 "_law_drawn" ["_law_script", "_law_most", "_law_spare"] (gY K):=by
 refine T.kU.cal d9 (by unfold gY; exact LenSp.h) (fun _ _ _ _ _ _ us hl=>match us,hl with | [_,_,_],_=>rfl) (fun f cdv A outer s H vs Q E hr h=>?_);unfold gY at h;walk_at "el";refine ⟨_,(ag (aq (i:=3) d9.nd rfl lc (ai (ixE K rfl) (aL (aa ad (aa ad (aa ad (aa (al ak ad (am (ar T) hr.m rfl (aa (qv 0) (aa ad (aa ad ae))))) ae))))) (am (ar T) hr.m rfl (aa (qv 0) (aa ad (aa ad ae)))) (fun _ _=>rfl)))
   (ag (aq (i:=4) d9.nd rfl lc (pC bn (am (ar T) hr.m rfl (aa (qv 0) (aa ad (aa ad ae)))) ad))
   (ag (aq (i:=5) d9.nd rfl lc (am (oh T) hr.m rfl (aa (am (qz T) hr.m rfl (aa (qv 0) (aa ad (aa (qv 1) (aa (qv 2) ae))))) (aa (qv 3) (aa (qv 4) ae)))))
   (ah (ax (ay (aa (qv 5) (aa (ay (aa (qv 3) (aa (qv 4) (aa (am (ar T) hr.m rfl (aa (qv 0) (aa ad (aa ad ae)))) ae)))) ae)))))))),?_⟩
 rename_i a m z;obtain ⟨ns,hS,rfl,rfl,q⟩:=h;walk_at "rd";refine br hS (by decide) (by decide) (by decide) (by decide) fun r1 hr1=>?_
 walk_at "rd";refine ⟨by decide,fun l hl=>?_⟩;have s1:=af hl (.lst [V.int 0,V.int 0,V.int 0,V.int (1+(r1:Int))]);refine br (s1.seq hS) (by decide) (by decide) (by decide) (by decide) fun r2 hr2=>?_
 walk_at "rd";obtain ⟨P,hP,eP⟩:∃ P:Nat,P<=42/\atI [V.int 0,V.int 0,V.int 0,V.int (1+(r1:Int))] (r2:Int)=some (V.int (P:Nat)):=by
  rcases (by lia:r2=0\/r2=1\/r2=2\/r2=3) with rfl | rfl | rfl | rfl
  ·exact ⟨0,by decide,bC rfl⟩
  ·exact ⟨0,by decide,bC rfl⟩
  ·exact ⟨0,by decide,bC rfl⟩
  ·exact ⟨1+r1,by lia,by rw [show ((1+r1:Nat):Int)=1+(r1:Int) by lia]; exact bC rfl⟩
 refine ⟨_,_,.inl (SqL.of ab),eP,?_⟩;walk_at "rd";refine br (s1.seq hS) (by decide) (by decide) (by decide) (by decide) fun r3 hr3=>?_
 walk_at "rd";refine ⟨ns,s1.seq hS,by decide,by decide,by decide,by decide,rfl,fun q1 H2 N Z hq1 s2 hN lb l3 fk w6 hZ nk=>?_⟩;have s12:=s1.trans s2;refine ⟨N,P,Z,hN,lb,l3,fk,w6,hZ,nk,rfl,hP,fun q2 H3 N' s3 hN' lok to' eW nk'=>?_⟩;have s13:=s12.trans s3;walk_at "rd";refine br (s13.seq hS) (by decide) (by decide) (by decide) (by decide) fun r4 hr4=>?_
 refine ⟨by decide,fun pd hpd=>⟨by decide,fun t ht=>?_⟩⟩;have k4:=af hpd (.tup [V.int (P:Nat),V.bl (decide ((r3:Int)=0)),V.int (r4:Nat)]);have k5:=af ht (.tup [V.ref q2,V.ref pd]);exact q t q2 pd _ N' Z P (widthL N.1) r4 _ (s13.trans (k4.trans k5)) ab (hN'.same (k4.trans k5)) ⟨lok,to',nk'⟩ (k5 _ _ ab) eW hP (by lia)
noncomputable def iO (K:Frag):Sp:=av fun p=>av fun q=>aE fun H Q _=>∃ N:Net,NetAt H p N/\NetAt H q N/\N.1.length<=100/\∀ H',Same H H'->Q (.bl true) H'
theorem fE (T:Top K mg):Callee P w K mg base 1 "_law_same" ["_law_found", "_law_net_here"] (iO K):=by
 refine T.me.cal p8 (by unfold iO; exact LenSp.h) (fun _ _ _ _ _ _ us hl=>match us,hl with | [_,_],_=>rfl) (fun f cdv A outer s H vs Q E hr h=>?_);unfold iO at h;walk_at "el";refine ⟨_,(ag (aW (PW.pt (qM (ix (eE (jB .tuple rfl T.dM (qv 0) rfl T.s0 uV))) (ni (aB (neDE K rfl hr) (qv 0) (qv 1))))) (ah (ax jU)) aC)
   (ah (ax (pC (notinE K rfl) jU (aJ (nt:=2) (fi:=[]) (N':=["_law_name", "_law_size"]) rfl (cscope rfl (by decide +kernel)) (cnames (N:=["_law_found", "_law_net_here"]) (sc:=defScope gz) rfl rfl (by decide +kernel)) (fq (by decide) (by decide)) (iterE K rfl (ai (ixE K rfl) (qv 0) ad (fun _ _=>rfl))) (fun _ _ _ _ _=>(tupE K rfl rfl (n:=2) (ao (aj (i:=0) (by show (["_law_name", "_law_size"]:List Str).Nodup; decide +kernel) rfl lc) (ao (aj (i:=1) (by show (["_law_name", "_law_size"]:List Str).Nodup; decide +kernel) rfl lc) aM)))) (fun _ _ _ _ _=>bd) (fun _ _ _ _ _=>(jB .bool rfl T.dM (qv 1) rfl T.vT wM))))))),?_⟩
 rename_i p q;obtain ⟨N,h1,h2,hl,k⟩:=h;obtain ⟨la,ha,ca,et,⟨lv,el,pl⟩,_,_⟩:=id h1;have ll:=pl.length;obtain ⟨z1,z2⟩:=aF pl;walk_at "rd";refine .inr ⟨⟨_,et⟩,8,_,_,by decide,oT h1,oT h2,?_⟩;rw [uL,if_neg (by decide)];refine ⟨_,V.ref la,.inr (SqT.of et),rfl,.inl ⟨⟨_,SqL.of el⟩,fun D hD=>?_⟩⟩;refine bU (item:=fun x:Fld × V=>x.2) (xs:=N.1.zip lv) (h:=fun _=>[V.bl false]) hD (by rw [z1]; exact SqL.of el) (by rw [List.length_zip]; lia) (fun _=>by simp) ?_ ?_
 ·intro x H3 out non hx s3 ho _;obtain ⟨t,ex,et3⟩:=z2 x hx;rw [ex];refine ⟨t,[_,_],rfl,SqT.of (s3 _ _ et3),rfl,_,[_],rfl,_,[],rfl,rfl,?_⟩;walk_at "rd";exact ho _ _ rfl (Same.refl _)
 intro H2 s2 e2;have nin:∀ l:List (Fld × V),inV (V.bl true) (l.flatMap fun _=>[V.bl false])=false/\(l.flatMap fun _=>[V.bl false]).all flatV=true:=fun l=>by
  induction l with
  | nil=>exact ⟨rfl,rfl⟩
  | cons x l ih=>
   rw [List.flatMap_cons];refine ⟨?_,?_⟩
   ·unfold inV at ih ⊢;rw [List.any_append,ih.1];rfl
   ·rw [List.all_append,ih.2];rfl
 walk_at "rd";refine ⟨_,.inl (SqL.of e2),rfl,(nin _).2,?_⟩;rw [(nin _).1];exact k H2 s2
def HeldAt (H:Hp) (M:Net) (v:V):Prop:=Ex3 fun t p1 p2=>v=.ref t/\H t=some (.tup [.ref p1,.ref p2])/\NetAt H p1 M/\NetAt H p2 M
theorem HeldAt.same {H H':Hp} {M:Net} {v:V} (h:HeldAt H M v) (s:Same H H'):HeldAt H' M v:=by
 obtain ⟨t,p1,p2,e,h1,h2,h3⟩:=h;exact ⟨t,p1,p2,e,s _ _ h1,h2.same s,h3.same s⟩
theorem jA {α:Type} {R:α -> V->Prop} {w:V} (h:∀ x v,R x v->v≠w) {xs:List α} {vs:List V} (p:Paired R xs vs):∀ us,vs≠w::us:=fun us z=>by
 rw [z] at p;cases p with
 | cons r _=>exact h _ _ r rfl
section
variable {H:Hp} {hl:Addr} {M:Net} {v0:V} {us:List V}
theorem cc (eh:H hl=some (.lst (v0::us))) {x:Addr} {o:HO} (e:H x=some o) (n:∀ ys,o≠.lst (v0::ys)):hole hl H x=some o:=by
 rw [c9 (fun z=>by rw [z,eh] at e; exact n us (Option.some.inj e).symm)];exact e
theorem mQ (eh:H hl=some (.lst (v0::us))) (h0:HeldAt H M v0) {q:Addr} {N:Net} (h:NetAt H q N):NetAt (hole hl H) q N:=by
 obtain ⟨t,p1,p2,rfl,et,⟨m1,m2,m3,em,_⟩,_⟩:=h0;have kt:∀ t ts,H t=some (.tup ts)->hole hl H t=some (.tup ts):=fun _ _ e=>cc eh e (fun _ z=>nomatch z)
 have kl:∀ {r vs},H r=some (.lst vs)->(∀ us,vs≠V.ref t::us)->hole hl H r=some (.lst vs):=fun e k=>cc eh e fun ys z=>by cases z; exact k _ rfl
 obtain ⟨a,b,c,e,⟨lv,el,pl⟩,⟨hv,ehv,ph⟩,⟨cv,ec,pc⟩⟩:=h;refine ⟨a,b,c,kt _ _ e,⟨lv,kl el (jA (fun x v ⟨t',e1,e2⟩ z=>by rw [e1] at z; cases z; rw [et] at e2; simp [tx] at e2) pl),cb kt pl⟩,⟨hv,kl ehv (jA (fun x v ⟨t',q',e1,e2,_⟩ z=>by rw [e1] at z; cases z; rw [et] at e2; simp [tx] at e2) ph),L2.Paired.mapP ph ?_⟩,⟨cv,kl ec (jA (fun x v ⟨t',u1,u2,e1,e2,⟨w1,e3,e4⟩,_⟩ z=>by rw [e1] at z; cases z; rw [et,e3] at e2; simp at e2; rw [<- e2.1,em] at e4; simp at e4) pc),L2.Paired.mapP pc fun _ _ y=>bi kt y⟩⟩;rintro x v ⟨t',q',e1,e2,⟨g,w,e3,⟨gv,eg,pg⟩,⟨wv,ew,pw⟩⟩⟩;refine ⟨t',q',e1,kt _ _ e2,⟨g,w,kt _ _ e3,⟨gv,kl eg (jA (fun x v ⟨t',q',e1,e2,_⟩ z=>by rw [e1] at z; cases z; rw [et] at e2; simp [tx] at e2) pg),L2.Paired.mapP pg ?_⟩,⟨wv,kl ew (jA (fun x v ⟨t',e1,e2⟩ z=>by rw [e1] at z; cases z; rw [et] at e2; simp [tx] at e2) pw),aD kt pw⟩⟩⟩;rintro y u ⟨t2,r,e4,e5,⟨rv,er,pr⟩⟩;exact ⟨t2,r,e4,kt _ _ e5,⟨rv,kl er (jA (fun x v ⟨t',e1,e2⟩ z=>by rw [e1] at z; cases z; rw [et] at e2; simp at e2) pr),aI kt pr⟩⟩
theorem ub (eh:H hl=some (.lst (v0::us))) (h0:HeldAt H M v0) {kp:Addr} {N:Net} (h:KeepAt K H kp N):KeepAt K (hole hl H) kp N:=by
 obtain ⟨dx,n,cr,cdx,g,st,fa,cfs,sk,fk,B,hN⟩:=h;obtain ⟨t,p1,p2,rfl,_⟩:=id h0;refine ⟨dx,n,cr,cdx,g,st,fa,cfs,sk,fk,⟨cc eh B.self (fun _ z=>nomatch z),cc eh B.crowd (fun _ z=>nomatch z),B.gates,cc eh B.emp (fun _ z=>nomatch z),cc eh B.stand (fun _ z=>nomatch z),cc eh B.fall (fun _ z=>nomatch z),B.ne,B.nk,fun k v h=>?_,fun k h=>?_,B.sl,B.fl⟩,mQ eh h0 hN⟩
 ·obtain ⟨p,e,h'⟩:=B.sv k v h;exact ⟨p,e,cc eh h' (fun _ z=>nomatch z)⟩
 ·obtain ⟨p,u,e,h'⟩:=B.fv k h;exact ⟨p,u,e,cc eh h' (fun _ z=>nomatch z)⟩
theorem tS (eh:H hl=some (.lst (v0::us))) (h0:HeldAt H M v0) {kp:Addr} {N:Net} (h:KNet K H kp N):KNet K (hole hl H) kp N:=by
 obtain ⟨dx,n,cr,st,fa,e,hN⟩:=h;exact ⟨dx,n,cr,st,fa,cc eh e (fun _ z=>nomatch z),mQ eh h0 hN⟩
end
theorem KNet.same {H H':Hp} {kp:Addr} {N:Net} (h:KNet K H kp N) (s:Same H H'):KNet K H' kp N:=by
 obtain ⟨dx,n,cr,st,fa,e,hN⟩:=h;exact ⟨dx,n,cr,st,fa,s _ _ e,hN.same s⟩
theorem xn {hl:Addr} {H:Hp} {o:HO}:Same (hole hl H) (upd H hl o):=fun b o' e=>by
 by_cases n:b=hl
 ·rw [n,kO] at e; cases e
 ·rw [c9 n] at e; rw [au n]; exact e
structure LF (K:Frag) (H:Hp) (a kp kp2 hl q q0 pd:Addr) (ns:List Int) (N N0:Net) (S j P W0 sh:Nat) (b:Bool) (Ms:List Net) (vs:List V):Prop where
 seq:SqL K H a (ns.map V.int)
 keep:KeepAt K H kp N
 still:KNet K H kp2 N0
 ne:kp2≠kp
 net:NetAt H q N
 first:NetAt H q0 N0
 nf:NetF S j N
 nf0:NetF S 0 N0
 pads:H pd=some (.tup [.int (P:Nat),.bl b,.int (sh:Nat)])
 wid:widthL N.1=W0+P
 p42:P<=42
 sh1:sh<=1000
 held:H hl=some (.lst vs)
 prs:Paired (HeldAt H) Ms vs
 m0:Ms≠[]
 ml:Ms.length<=j+1
 mf:∀ M ∈ Ms,M.1.length<=100
section
variable {H:Hp} {a kp kp2 hl q q0 pd:Addr} {ns:List Int} {N N0:Net} {S j P W0 sh:Nat} {b:Bool} {Ms:List Net} {vs:List V}
theorem LF.same {H':Hp} (h:LF K H a kp kp2 hl q q0 pd ns N N0 S j P W0 sh b Ms vs) (s:Same H H'):LF K H' a kp kp2 hl q q0 pd ns N N0 S j P W0 sh b Ms vs:=
 ⟨s.seq h.seq,h.keep.same s,h.still.same s,h.ne,h.net.same s,h.first.same s,h.nf,h.nf0,s _ _ h.pads,h.wid,h.p42,h.sh1,s _ _ h.held,L2.Paired.mapP h.prs fun _ _ z=>z.same s,h.m0,h.ml,h.mf⟩
theorem LF.deed {H':Hp} {N':Net} {q':Addr} (h:LF K H a kp kp2 hl q q0 pd ns N N0 S j P W0 sh b Ms vs) (s:Same (imm kp H) H') (k:KeepAt K H' kp N') (hq:NetAt H' q' N') (nf:NetF S (j+1) N') (e:N'.1=N.1):LF K H' a kp kp2 hl q' q0 pd ns N' N0 S (j+1) P W0 sh b Ms vs:=by
 have hi:∀ {p M},NetAt H p M->NetAt H' p M:=fun z=>(NetAt.imm z).same s
 refine ⟨s.seq (SqL.imm h.seq),k,?_,h.ne,hq,hi h.first,nf,h.nf0,s _ _ (bm h.pads rfl),by rw [e]; exact h.wid,h.p42,h.sh1,s _ _ (bm h.held rfl),L2.Paired.mapP h.prs fun M v ⟨t,p1,p2,e1,h1,h2,h3⟩=>⟨t,p1,p2,e1,s _ _ (bm h1 rfl),hi h2,hi h3⟩,h.m0,Nat.le_succ_of_le h.ml,h.mf⟩;obtain ⟨dx,n,cr,st,fa,e,hN⟩:=h.still;exact ⟨dx,n,cr,st,fa,s _ _ (bm e (by simp [stayB,h.ne])),hi hN⟩
theorem LF.app (h:LF K H a kp kp2 hl q q0 pd ns N N0 S j P W0 sh b Ms vs) (hm:Ms.length<=j) {t p1:Addr} (et:H t=some (.tup [.ref p1,.ref q])) (h1:NetAt H p1 N):LF K (upd H hl (.lst (vs++[.ref t]))) a kp kp2 hl q q0 pd ns N N0 S j P W0 sh b (Ms++[N]) (vs++[.ref t]):=by
 have eh:=h.held;have pr:=h.prs;have l8:=h.nf.lay.len;obtain ⟨M0,v0,us,rfl,h0⟩:Ex3 fun M0 v0 us=>vs=v0::us/\HeldAt H M0 v0:=by
  cases pr with
  | nil=>exact absurd rfl h.m0
  | cons r _=>exact ⟨_,_,_,rfl,r⟩
 have kt:∀ t ts,H t=some (.tup ts)->hole hl H t=some (.tup ts):=fun _ _ e=>cc eh e (fun _ z=>nomatch z)
 have s:Same (hole hl H) (upd H hl (.lst (v0::us++[.ref t]))):=xn;have hi:∀ {p M},NetAt H p M->NetAt (upd H hl (.lst (v0::us++[.ref t]))) p M:=fun z=>(mQ eh h0 z).same s
 refine ⟨?_,(ub eh h0 h.keep).same s,(tS eh h0 h.still).same s,h.ne,hi h.net,hi h.first,h.nf,h.nf0,s _ _ (kt _ _ h.pads),h.wid,h.p42,h.sh1,ab,aO (L2.Paired.mapP pr fun M v ⟨t,p1,p2,e1,h1,h2,h3⟩=>⟨t,p1,p2,e1,s _ _ (kt _ _ h1),hi h2,hi h3⟩) ⟨t,p1,q,rfl,s _ _ (kt _ _ et),hi h1,hi h.net⟩,by simp,by rw [List.length_append]; simp only [List.length_cons,List.length_nil]; lia,fun M hM=>?_⟩
 ·rcases h.seq with (z | ⟨o,z⟩) | z
  ·refine .inl (.inl (s _ _ (cc eh z fun ys e=>?_)));obtain ⟨_,_,_,rfl,_⟩:=h0;cases ns with
   | nil=>cases e
   | cons _ _=>cases e
  ·exact .inl (.inr ⟨o,s _ _ (cc eh z (fun _ e=>nomatch e))⟩)
  ·exact .inr z
 ·rcases List.mem_append.mp hM with hM | hM
  ·exact h.mf M hM
  ·rw [List.mem_singleton.mp hM]; lia
end
theorem NetC.ex {F:Addr->Prop} {H:Hp} {q a b c:Addr} {N:Net} (h:NetC F H q a b c N):NetC (fun r=>F r/\H r≠none) H q a b c N:=by
 have n:∀ {r o},H r=some o->H r≠none:=fun e z=>by rw [e] at z; cases z
 obtain ⟨lv,el,pl⟩:=h.lay;obtain ⟨hv,eh,ph⟩:=h.houses;obtain ⟨cv,ec,pc⟩:=h.lines;refine ⟨h.tup,h.lay,⟨hv,eh,L2.Paired.mapP ph ?_⟩,h.lines,⟨h.fa,n el⟩,⟨h.fb,n eh⟩,⟨h.fc,n ec⟩⟩;rintro x v ⟨t,q,g,w,e,et,hN,ng,nw⟩;obtain ⟨gv,eg,pg⟩:=hN.gates;obtain ⟨wv,ew,pw⟩:=hN.ways;refine ⟨t,q,g,w,e,et,⟨hN.tup,hN.ne,⟨gv,eg,L2.Paired.mapP pg ?_⟩,hN.ways⟩,⟨ng.1,ng.2,n eg⟩,nw.1,nw.2,n ew⟩;rintro y u ⟨t2,r,e2,n2,h1,⟨rv,er,pr⟩⟩;exact ⟨t2,r,e2,⟨n2.1,n2.2.1,n2.2.2.1,n2.2.2.2,n er⟩,h1,⟨rv,er,pr⟩⟩
theorem NetC.same {F:Addr->Prop} {H H':Hp} {q a b c:Addr} {N:Net} (h:NetC F H q a b c N) (s:Same H H'):NetC F H' q a b c N:=h.keep (fun _ _ e=>s _ _ e) (fun _ _ _ e=>s _ _ e)
theorem Fr.back {G H H2 H3:Hp} (s:Same G H2) (f:Fr (fun r=>G r=none/\H r≠none) H2 H3):Same G H3:=fun x o e=>f x o (s x o e) fun _ z=>by rw [z.1] at e; cases e
theorem qe {S j:Nat} {N:Net} (nf:NetF S j N) (hj:j<=24):N.1.length<=1000/\N.2.1.length<=100/\N.2.2.length<=1000/\∀ x ∈ N.2.1,1<=x.2.1.length/\x.2.1.length<=100/\x.2.2.length<=1000/\∀ g ∈ x.2.1,g.2.length<=1000:=by
 have l8:=nf.lay.len;have h4:=nf.k.h4;have l6:=nf.k.l6;refine ⟨by lia,by lia,by lia,fun x hx=>?_⟩;have hk:=nf.k.house x hx;have g3:=hk.g3;have w5:=hk.w5;exact ⟨hk.g1,by lia,by lia,fun g hg=>by have:=hk.rl g hg; lia⟩
theorem DeedAt.imm {kp:Addr} {H:Hp} {t:Addr} {D:Deed} (h:DeedAt H t D):DeedAt (imm kp H) t D:=by
 cases D with
 | put _ _ _ _=>obtain ⟨rt,h1,h2⟩:=h; exact ⟨rt,bm h1 rfl,bm h2 rfl⟩
 | tie _ _=>obtain ⟨a1,a2,h1,h2,h3⟩:=h; exact ⟨a1,a2,bm h1 rfl,bm h2 rfl,bm h3 rfl⟩
 | strike _ _ _=>exact bm h rfl
 | way _ _ _=>exact bm h rfl
 | unway _ _=>exact bm h rfl
 | untie _ _=>exact bm h rfl
noncomputable def mLaw (K:Frag):TS:=fun D σ H=>∀ C:TS,(∀ (a kp kp2 hl q q0 pd:Addr) (ns:List Int) (N N0:Net) (S j P W0 sh:Nat) (b:Bool) (Ms:List Net) (vs:List V) (u3 u8 u9:Option V),LF K H a kp kp2 hl q q0 pd ns N N0 S j P W0 sh b Ms vs->j<=24->(∀ H',D.rt (.bl true) H')->C D [some (.ref a),some (.ref q),some (.ref pd),u3,some (.ref kp),some (.ref kp2),some (.ref hl),some (.ref q0),u8,u9,none] H)->C D σ H
theorem yV (T:Top K mg) {f:Addr} {cdv:Value} {A:Around} {outer:List Env} {s:Shared} {H₀:Hp} {E:XK} (hr:Room 9 (A.deeper (PyProof.Rows.envOfC "law" (defScope lU) s.heap.objs.size f cdv))):
  PSs (cxOf CX0 P w K mg base ["_law_script", "_law_net_here", "_law_pads", "_law_handed", "_law_keeper", "_law_still", "_law_held", "_law_first", "_law_j", "_law_deed_here", "_law_told"] "law" (defScope lU) f cdv A outer s H₀ E).nox ((defBody lU).drop 8) (mLaw K):=by
 refine nG (ag (aq (i:=10) eQ.nd rfl lc (jh T.c_Keeper (bQ T) hr.m (qv 4)))
   (cg (aW (ix (eE (am (fE T) hr.m rfl (aa (qv 10) (aa (qv 1) ae))))) (ah (ax jU)) aC)
   (ag (aw (am (jT T) hr.m rfl (aa (qv 10) ae)))
   (cg (aW (PW.pt (qM (ix (eE (am (fE T) hr.m rfl (aa (jh T.c_Keeper (bQ T) hr.m (qv 4)) (aa (qv 1) ae))))) (ni (ix (eE (am (fE T) hr.m rfl (aa (jh T.c_Keeper (bQ T) hr.m (qv 5)) (aa (qv 7) ae)))))))) (ah (ax jU)) aC)
   (ah (ax (pC (notinE K rfl) jU (aJ (nt:=2) (fi:=[]) (N':=["_law_found", "_law_due"]) rfl (cscope rfl (by decide +kernel)) (cnames (N:=["_law_script", "_law_net_here", "_law_pads", "_law_handed", "_law_keeper", "_law_still", "_law_held", "_law_first", "_law_j", "_law_deed_here", "_law_told"]) (sc:=defScope lU) rfl rfl (by decide +kernel)) (fq (by decide) (by decide)) (iterE K rfl (qv 6)) (fun _ _ _ _ _=>(tupE K rfl rfl (n:=2) (ao (aj (i:=0) (by show (["_law_found", "_law_due"]:List Str).Nodup; decide +kernel) rfl lc) (ao (aj (i:=1) (by show (["_law_found", "_law_due"]:List Str).Nodup; decide +kernel) rfl lc) aM)))) (fun _ _ _ _ _=>bd) (fun _ _ _ _ _=>(am (fE T) hr.m rfl (aa (qv 0) (aa (qv 1) ae)))))))))))) fun D σ H h=>h _ fun a kp kp2 hl q q0 pd ns N N0 S j P W0 sh b Ms vs u3 u8 u9 F hj hq=>?_
 obtain ⟨dx,n,cr,st',fa,es,hNk⟩:=F.keep.net;have nf:=F.nf;have l8:=nf.lay.len;walk_at "rd";refine ⟨kp,dx,_,rfl,es,rfl,N,⟨dx,n,cr,st',fa,es,hNk⟩,nf.k.b hj,fun qt a1 b1 c1 H1 hqt s1 nc=>?_⟩;walk_at "rd";obtain ⟨o1,o2,o3,o4⟩:=qe nf hj;refine ⟨fun σ' H'=>σ'=[some (.ref a),some (.ref q),some (.ref pd),u3,some (.ref kp),some (.ref kp2),some (.ref hl),some (.ref q0),u8,u9,some (.ref qt)]/\Same H1 H',⟨N,nc.at,F.net.same s1,by lia,fun H2 s2=>?_⟩,?_⟩
 ·walk_at "rd";exact s2
 ·rintro σ' H2 ⟨rfl,s2⟩;walk_at "rd";refine ⟨fun r=>H r=none/\H1 r≠none,a1,b1,c1,N,nc.ex.same s2,o1,o2,o3,o4,fun H3 f3=>?_⟩;have F3:=F.same (Fr.back (s1.trans s2) f3);obtain ⟨dx3,n3,cr3,st3,fa3,es3,hNk3⟩:=F3.keep.net;refine ⟨fun σ' H'=>σ'=[some (.ref a),some (.ref q),some (.ref pd),u3,some (.ref kp),some (.ref kp2),some (.ref hl),some (.ref q0),u8,u9,some (.ref qt)]/\Same H3 H',?_,?_⟩
  ·refine ⟨kp,dx3,_,rfl,es3,rfl,N,⟨dx3,n3,cr3,st3,fa3,es3,hNk3⟩,nf.k.b hj,fun q4 a4 b4 c4 H4 hq4 s4 nc4=>?_⟩;refine ⟨N,nc4.at,F3.net.same s4,by lia,fun H5 s5=>?_⟩;have s45:=s4.trans s5;have F5:=F3.same s45;obtain ⟨dx5,n5,cr5,st5,fa5,es5,hNk5⟩:=F5.still;have l80:=F.nf0.lay.len;walk_at "rd";refine ⟨kp2,dx5,_,rfl,es5,rfl,N0,⟨dx5,n5,cr5,st5,fa5,es5,hNk5⟩,F.nf0.k.b (by decide),fun q6 a6 b6 c6 H6 hq6 s6 nc6=>?_⟩;refine ⟨N0,nc6.at,F5.first.same s6,by lia,fun H7 s7=>?_⟩;walk_at "rd";exact s45.trans (s6.trans s7)
  ·rintro σ' H8 ⟨rfl,s8⟩;have F8:=F3.same s8;have ml:=F8.ml;have pr:=F8.prs;have lv:=pr.length;obtain ⟨z1,z2⟩:=aF pr;walk_at "rd";refine .inl ⟨⟨_,SqL.of F8.held⟩,fun D1 hD1=>?_⟩;refine bR (item:=fun x:Net × V=>x.2) (Ms.zip vs) (fun _=>true) (fun _ v _=>v=V.bl true) hD1 (by rw [z1]; exact SqL.of F8.held) (by rw [List.length_zip]; lia) (fun _ _ _ _ _ _ _ h=>h) ?_ ?_
   ·intro x H9 out non hx s9 ho _;obtain ⟨t,p1,p2,ex,et,n1,n2⟩:=z2 x hx;rw [ex];refine ⟨t,[_,_],rfl,SqT.of (s9 _ _ et),rfl,_,[_],rfl,_,[],rfl,rfl,?_⟩;walk_at "rd";exact ⟨x.1,n1.same s9,n2.same s9,F8.mf _ (List.of_mem_zip hx).1,fun H10 s10=>ho _ _ rfl s10 rfl⟩
   ·intro H9 ws s9 e9 p9;have all:∀ (l:List (Net × V)) (ws:List V),Paired (fun _ v=>v=V.bl true) l ws->inV (V.bl false) ws=false/\ws.all flatV=true:=fun l ws p=>by
     induction p with
     | nil=>exact ⟨rfl,rfl⟩
     | cons r _ ih=>
      rw [r];exact ⟨by unfold inV at ih ⊢; rw [List.any_cons,ih.1]; rfl,by rw [List.all_cons,ih.2]; rfl⟩
    obtain ⟨i1,i2⟩:=all _ _ p9;walk_at "rd";refine ⟨_,.inl (SqL.of e9),rfl,i2,?_⟩;rw [i1];exact hq H9
noncomputable def lE (K:Frag):Sp:=av fun a=>aE fun H Q _=>∃ ns:List Int,SqL K H a (ns.map V.int)/\ns.length<=63/\∀ H',Q (.bl true) H'
theorem yd (T:Top K mg) {f:Addr} {fd:FuncData} (F:Fun K "law" "law" lU f fd):FnOk P w K mg base CX0 10 f fd ["_law_script"] (lE K):=by
 refine F.ok eQ (by unfold lE; exact LenSp.h) (fun cdv A outer s H vs Q E hr h=>?_);unfold lE at h;walk_at "el";refine ⟨_,(ag (vc (am (oj T) hr.m rfl (aa (qv 0) (aa ad (aa ad ae)))) (seqE K rfl rfl (n:=2) (ao (aj (i:=1) eQ.nd rfl lc) (ao (aj (i:=2) eQ.nd rfl lc) aM))))
   (ag (aq (i:=3) eQ.nd rfl lc (am (ji T) hr.m rfl (aa (qv 1) ae)))
   (ag (aq (i:=4) eQ.nd rfl lc (uW T.c_Keeper (eX T) hr.m rfl (aa (qv 3) ae)))
   (ag (aw (am (jT T) hr.m rfl (aa (qv 3) ae)))
   (ag (aq (i:=5) eQ.nd rfl lc (uW T.c_Keeper (eX T) hr.m rfl (aa (am (ji T) hr.m rfl (aa (qv 1) ae)) ae)))
   (ag (aq (i:=6) eQ.nd rfl lc (aL (aa (ay (aa (jh T.c_Keeper (bQ T) hr.m (qv 5)) (aa (qv 1) ae))) ae)))
   (ag (aq (i:=7) eQ.nd rfl lc (qv 1))
   (ag (bw PassesOwn.never rfl (bV rfl T.cO (aH (rR rfl) rfl T.xP yG (aa (aH (lenE K rfl) rfl T.cq bK (aa (qv 0) ae)) (aa ad ae)))) (aj (i:=8) eQ.nd rfl lc) (ag (aq (i:=9) eQ.nd rfl lc (am (pQ T) hr.m rfl (aa (qv 0) (aa (al ak ad (al bM ad (qv 8))) (aa (qv 1) (aa (qv 2) ae))))))
   (cg (aW (aB tU (am (rU T) hr.m rfl (aa (qv 4) (aa (qv 9) ae))) pM) (ah (ax jU)) aC)
   (ag (aq (i:=1) eQ.nd rfl lc (am (om T) hr.m rfl (aa (qv 1) (aa (qv 9) ae))))
   (ah (aW (aB nK (am (ar T) hr.m rfl (aa (qv 0) (aa (al ak ad (qv 8)) (aa ad ae)))) ad) (ah (aw (aY (qv 6) (ay (aa (jh T.c_Keeper (bQ T) hr.m (qv 4)) (aa (qv 1) ae)))))) aC))))))
   (yV T hr))))))))),?_⟩
 rename_i a;obtain ⟨ns,hS,h63,hq⟩:=h;walk_at "rd";refine ⟨ns,hS,rfl,rfl,fun t q pd H1 N S P W0 sh b s1 et hN nf epd eW hP hsh=>?_⟩;refine ⟨[_,_],.inr (SqT.of et),rfl,_,[_],rfl,_,[],rfl,rfl,?_⟩;walk_at "rd";refine ⟨N,hN,nf.k.b (by decide),fun hd a1 b1 c1 H2 hhd s2 nc=>?_⟩;walk_at "rd";have nok:=nf.ok (by decide);obtain ⟨snd,sl⟩:=nf.spots;obtain ⟨o1,o2,o3,o4⟩:=qe nf (by decide);intro kp kd hkp hkd nkd;have k3:Same H2 (upd (upd H2 kd (.own kp)) kp (.ins (clsP K) kd [])):=(af hkd _).trans (af (by rw [au (Ne.symm nkd)]; exact hkp) _);refine ⟨H2,kd,N,k3,hkp,ab,nc.at,nok,nf.k.b (by decide),snd,by lia,fun H3 n a3 b3 c3 cr cdx g st' fa cfs sk fk sg B nc3 hsv hfv=>⟨rfl,?_⟩⟩;refine ⟨fun r=>H1 r=none/\H2 r≠none,a1,b1,c1,N,nc.ex.same sg,o1,o2,o3,o4,fun H4 f4=>?_⟩;have s14:Same H1 H4:=Fr.back (s2.trans sg) f4;have fl:∀ {r vs},H2 r=none->H3 r=some (.lst vs)->H4 r=some (.lst vs):=fun hn e=>f4 _ _ e fun _ z=>z.2 hn
 have fo:∀ {x o},H3 x=some o->(∀ vs,o≠.lst vs)->H4 x=some o:=fun e n=>f4 _ _ e fun ⟨vs,z⟩=>absurd z (n vs)
 have A4:KeepAt K H4 kp N:=by
  refine ⟨kd,n,cr,cdx,g,st',fa,cfs,sk,fk,⟨fo B.self (fun _ z=>nomatch z),fo B.crowd (fun _ z=>nomatch z),B.gates,fo B.emp (fun _ z=>nomatch z),fo B.stand (fun _ z=>nomatch z),fo B.fall (fun _ z=>nomatch z),B.ne,B.nk,fun k v h=>?_,fun k h=>?_,B.sl,B.fl⟩,(nc3.keep (fun _ _ e=>f4.tup e) (fun _ _ hn e=>fl hn e)).at⟩
  ·obtain ⟨p,rfl,e⟩:=B.sv k v h;obtain ⟨p',e',hn⟩:=hsv k _ h;cases e';exact ⟨p,rfl,fl hn e⟩
  ·obtain ⟨p,u,ev,e⟩:=B.fv k h;obtain ⟨p',e',hn⟩:=hfv k _ ev;cases e';exact ⟨p,u,ev,fl hn e⟩
 walk_at "rd";refine ⟨N,hN.same s14,nf.k.b (by decide),fun hd2 a5 b5 c5 H5 hhd2 s5 nc5=>?_⟩;intro kp2 kd2 hkp2 hkd2 nkd2;have k6:Same H5 (upd (upd H5 kd2 (.own kp2)) kp2 (.ins (clsP K) kd2 [])):=(af hkd2 _).trans (af (by rw [au (Ne.symm nkd2)]; exact hkp2) _);have A5:=A4.same s5;have ne2:kp2≠kp:=fun z=>by
  obtain ⟨_,_,_,_,_,e,_⟩:=A5.net;rw [z,e] at hkp2;cases hkp2
 refine ⟨H5,kd2,N,k6,hkp2,ab,nc5.at,nok,nf.k.b (by decide),snd,by lia,fun H6 n6 a6 b6 c6 cr6 cdx6 g6 st6 fa6 cfs6 sk6 fk6 sg6 B6 nc6 _ _=>⟨rfl,?_⟩⟩;have kn6:KNet K H6 kp2 N:=⟨kd2,n6,cr6,st6,fa6,B6.self,nc6.at⟩;have s16:=s14.trans (s5.trans sg6);walk_at "rd";refine ⟨kp2,kd2,_,rfl,B6.self,rfl,N,kn6,nf.k.b (by decide),fun q7 a7 b7 c7 H7 hq7 s7 nc7=>⟨by decide,fun t8 ht8=>⟨by decide,fun hl hhl=>?_⟩⟩⟩;have k8:=(af ht8 (.tup [V.ref q7,V.ref q])).trans (af hhl (.lst [V.ref t8]));have s18:=s16.trans (s7.trans k8);have s68:=s7.trans k8;have LF0:LF K (upd (upd H7 t8 (.tup [V.ref q7,V.ref q])) hl (.lst [V.ref t8])) a kp kp2 hl q q pd ns N N S 0 P W0 sh b [N] [V.ref t8]:=
  ⟨s18.seq (s1.seq hS),A5.same (sg6.trans s68),kn6.same s68,ne2,hN.same s18,hN.same s18,nf,nf,s18 _ _ epd,eW,hP,hsh,ab,.cons ⟨t8,q7,q,rfl,af hhl _ _ _ ab,nc7.at.same k8,hN.same s18⟩ .nil,by simp,by simp,fun M hM=>by rw [List.mem_singleton.mp hM]; have:=nf.lay.len; lia⟩
 generalize upd (upd H7 t8 (.tup [V.ref q7,V.ref q])) hl (.lst [V.ref t8])=H8 at LF0 ⊢;refine ⟨_,.inl LF0.seq,by split <;> lia,by split <;> lia,?_⟩;obtain ⟨n9,en,hn⟩:∃ n:Nat,(if (24:Int) < ((ns.map V.int).length:Int) then (24:Int) else ((ns.map V.int).length:Int))=(n:Int)/\n<=24:=by
  split
  ·exact ⟨24,rfl,by decide⟩
  ·exact ⟨(ns.map V.int).length,rfl,by lia⟩
 rw [en,Int.toNat_natCast];refine fP (lo:=0) (n:=n9) (fun i σ H'=>Ex6 fun (q':Addr) (N':Net) (Ms:List Net) (vs:List V) (u8 u9:Option V)=>σ = [some (.ref a),some (.ref q'),some (.ref pd),some (.ref hd),some (.ref kp),some (.ref kp2),some (.ref hl),some (.ref q),u8,u9,none]/\LF K H' a kp kp2 hl q' q pd ns N' N S i P W0 sh b Ms vs) ⟨q,N,[N],[V.ref t8],none,none,rfl,LF0⟩ ?_ ?_
 ·rintro i σ H9 hi ⟨q',N',Ms,vs,u8,u9,rfl,L⟩;have ml:=L.ml;have lv:=L.prs.length;walk_at "rd";refine ⟨.inl ⟨by decide,by decide⟩,ns,N',S,i,P,W0,sh,b,L.seq,by lia,by lia,L.net,L.nf,by lia,L.pads,L.wid,L.p42,L.sh1,fun t H10 D ht s10 dt dok=>?_⟩;have L10:=L.same s10;walk_at "rd";refine ⟨fun σ' H'=>σ'=[some (.ref a),some (.ref q'),some (.ref pd),some (.ref hd),some (.ref kp),some (.ref kp2),some (.ref hl),some (.ref q),some (.int (i:Nat)),some (.ref t),none]/\Same (imm kp H10) H'/\KeepAt K H' kp (afterN N' D),⟨N',D,S,i,L10.keep,L.nf,by lia,dt,dok,fun H11 s11 A11=>?_⟩,?_⟩
  ·walk_at "rd";exact ⟨s11,A11⟩
  ·rintro σ' H11 ⟨rfl,s11,A11⟩;walk_at "rd";refine ⟨N',D,S,i,(NetAt.imm L10.net).same s11,L.nf,by lia,(DeedAt.imm dt).same s11,dok,fun q12 H12 hq12 s12 hN12=>?_⟩;have nfa:=L.nf.after dok;have L12:=L10.deed (aP s11 (iV s12)) (A11.same s12) hN12 nfa (by cases D <;> rfl);obtain ⟨dx,n12,cr12,st12,fa12,es12,hN12'⟩:=L12.keep.net;walk_at "rd";refine br L12.seq (by lia) (by lia) (by decide) (by decide) fun r hr=>?_
   walk_at "rd";refine ite2 (fun g=>?_) fun _=>⟨q12,_,Ms,vs,_,_,rfl,L12⟩
   refine ⟨⟨_,L12.held⟩,kp,dx,_,rfl,es12,rfl,_,⟨dx,n12,cr12,st12,fa12,es12,hN12'⟩,nfa.k.b (by lia),fun q13 a13 b13 c13 H13 hq13 s13 nc13=>⟨by decide,fun t14 ht14=>?_⟩⟩;have k14:=af ht14 (.tup [V.ref q13,V.ref q12]);have L14:=L12.same (s13.trans k14);exact ⟨vs,L14.held,sizeBig (by lia),q12,_,_,_,_,_,rfl,L14.app (by lia) ab (nc13.at.same k14)⟩
 ·rintro σ H9 ⟨q',N',Ms,vs,u8,u9,rfl,L⟩;exact fun C hC=>hC a kp kp2 hl q' q pd ns N' N S n9 P W0 sh b Ms vs (some (.ref hd)) u8 u9 L hn hq
end
def DefI (K:Frag) (x:Str) (t:Stmt):Prop:=Ex7 fun (f:Addr) (od an:Option Addr) (sl:Array (Option Value)) (oc kV dc:Value)=>Ex3 fun (pm cd ct:Value)=>nsIn K mainGlobals x=some (some (.ref f))/\K.lookup f=some ⟨oc,od,.func (fnOf x x (defArgs t) (defBody t) (defScope t) .none kV dc pm an cd ct),sl⟩/\codeIn K cd x=true/\keepIn K (.ref f)=true
theorem DefI.of {K:Frag} {x:Str} {t:Stmt} {f:Addr} {od an:Option Addr} {sl:Array (Option Value)} {oc kV dc pm cd ct:Value} (a:nsIn K mainGlobals x=some (some (.ref f))) (l:K.lookup f=some ⟨oc,od,.func (fnOf x x (defArgs t) (defBody t) (defScope t) .none kV dc pm an cd ct),sl⟩) (c:codeIn K cd x=true) (k:keepIn K (.ref f)=true):DefI K x t:=⟨f,od,an,sl,oc,kV,dc,pm,cd,ct,a,l,c,k⟩
theorem DefI.fn {K:Frag} {h:Heap} {mg:Str->Option Value} {x:Str} {t:Stmt} (d:DefI K x t) (X:K.In h) (G:h.Ns mainGlobals mg):Fn K mg x t:=by
 obtain ⟨f,od,an,sl,oc,kV,dc,pm,cd,ct,a,l,c,k⟩:=d;exact ⟨_,_,dX (st:=t) l c k,mg_of X G a⟩
theorem all_mk {K:Frag} {h:Heap} {mg:Str->Option Value} (X:K.In h) (G:h.Ns mainGlobals mg)
  {cy:Addr} (dN:nsIn K mainGlobals "Crowd" = some (some (.ref cy))) (pg_Crowd:PySem.W.plainGet K cy Str.empty=true) (hd_Crowd:PySem.W.hasDictIn K cy=true) (po_Crowd:PySem.W.plainOver K cy=true) (sa_Crowd:findIn K (.ref cy) "__setattr__" = some (some (.builtin "object.__setattr__"))) (mk_Crowd:PySem.W.makesIn K cy=true) (kc_Crowd:keepIn K (.ref cy)=true)
  (at_Crowd_layout:findIn K (.ref cy) "layout" = some none)
  (at_Crowd_houses:findIn K (.ref cy) "houses" = some none)
  (at_Crowd_ends:findIn K (.ref cy) "ends" = some none)
  (at_Crowd_gates:findIn K (.ref cy) "gates" = some none)
  (at_Crowd_by_rules:findIn K (.ref cy) "by_rules" = some none)
  (at_Crowd_shares:findIn K (.ref cy) "shares" = some none)
  (at_Crowd_known:findIn K (.ref cy) "known" = some none)
  {aT:Addr} (bt:nsIn K mainGlobals "Keeper" = some (some (.ref aT))) (pg_Keeper:PySem.W.plainGet K aT Str.empty=true) (hd_Keeper:PySem.W.hasDictIn K aT=true) (po_Keeper:PySem.W.plainOver K aT=true) (sa_Keeper:findIn K (.ref aT) "__setattr__" = some (some (.builtin "object.__setattr__"))) (mk_Keeper:PySem.W.makesIn K aT=true) (kc_Keeper:keepIn K (.ref aT)=true)
  (at_Keeper_net:findIn K (.ref aT) "net" = some none)
  (at_Keeper_crowd:findIn K (.ref aT) "crowd" = some none)
  (at_Keeper_standing:findIn K (.ref aT) "standing" = some none)
  (at_Keeper_fallen:findIn K (.ref aT) "fallen" = some none)
  {TD:Addr} {ocT:Value} {odT:Option Addr} {nT:Nat} {slT:Array (Option Value)}
  {f54:Addr} {od54 an54:Option Addr} {sl54:Array (Option Value)} {oc54 kV54 dc54 pm54 cd54 ct54:Value}
  {f55:Addr} {od55 an55:Option Addr} {sl55:Array (Option Value)} {oc55 kV55 dc55 pm55 cd55 ct55:Value}
  {f56:Addr} {od56 an56:Option Addr} {sl56:Array (Option Value)} {oc56 kV56 dc56 pm56 cd56 ct56:Value}
  {f57:Addr} {od57 an57:Option Addr} {sl57:Array (Option Value)} {oc57 kV57 dc57 pm57 cd57 ct57:Value}
  {f58:Addr} {od58 an58:Option Addr} {sl58:Array (Option Value)} {oc58 kV58 dc58 pm58 cd58 ct58:Value}
  {f59:Addr} {od59 an59:Option Addr} {sl59:Array (Option Value)} {oc59 kV59 dc59 pm59 cd59 ct59:Value}
  {f60:Addr} {od60 an60:Option Addr} {sl60:Array (Option Value)} {oc60 kV60 dc60 pm60 cd60 ct60:Value}
  {f61:Addr} {od61 an61:Option Addr} {sl61:Array (Option Value)} {oc61 kV61 dc61 pm61 cd61 ct61:Value}
  {f62:Addr} {od62 an62:Option Addr} {sl62:Array (Option Value)} {oc62 kV62 dc62 pm62 cd62 ct62:Value}
  {f63:Addr} {od63 an63:Option Addr} {sl63:Array (Option Value)} {oc63 kV63 dc63 pm63 cd63 ct63:Value}
  {f64:Addr} {od64 an64:Option Addr} {sl64:Array (Option Value)} {oc64 kV64 dc64 pm64 cd64 ct64:Value}
  {f65:Addr} {od65 an65:Option Addr} {sl65:Array (Option Value)} {oc65 kV65 dc65 pm65 cd65 ct65:Value}
  {f66:Addr} {od66 an66:Option Addr} {sl66:Array (Option Value)} {oc66 kV66 dc66 pm66 cd66 ct66:Value}
  (a0:DefI K "is_row" nj)
  (a1:DefI K "is_letter" i7)
  (a2:DefI K "is_text_of" iN)
  (a3:DefI K "layout_width" du)
  (a4:DefI K "field_span" iU)
  (a5:DefI K "check_number" fV)
  (a6:DefI K "rules_without" eM)
  (a7:DefI K "is_beginning" fX)
  (a8:DefI K "gate_rules" iF)
  (a9:DefI K "net_checked" gO)
  (a10:DefI K "check_new" jo)
  (a11:DefI K "check_layout" fZ)
  (a12:DefI K "check_houses" fT)
  (a13:DefI K "check_gates" hX)
  (a14:DefI K "check_rule" iJ)
  (a15:DefI K "check_ways" iM)
  (a16:DefI K "check_way" jb)
  (a17:DefI K "check_lines" gZ)
  (a18:DefI K "check_spot" iP)
  (a19:DefI K "house_named" gI)
  (a20:DefI K "net_copied" fG)
  (a21:DefI K "house_copied" dA)
  (a22:DefI K "net_with_house" cL)
  (a23:DefI K "net_with_rules" cK)
  (a24:DefI K "net_spots" gC)
  (a25:DefI K "net_tied" ko)
  (a26:DefI K "line_ends" jn)
  (a27:DefI K "_law_by" lR)
  (a28:DefI K "_law_names" cw)
  (a29:DefI K "_law_layout" h8)
  (a30:DefI K "_law_row" iI)
  (a31:DefI K "_law_rule" gA)
  (a32:DefI K "_law_signs" fM)
  (a33:DefI K "_law_ways" gD)
  (a34:DefI K "_law_house" cM)
  (a35:DefI K "_law_lines" iH)
  (a36:DefI K "_law_net" iT)
  (a37:DefI K "_law_padded" gU)
  (a38:DefI K "_law_wider" fF)
  (a39:DefI K "_law_rule_padded" de)
  (a40:DefI K "_law_of" jx)
  (a41:DefI K "_law_tied" eC)
  (a42:DefI K "_law_spots" ft)
  (a43:DefI K "_law_open" gB)
  (a44:DefI K "_law_deed" bN)
  (a45:DefI K "_law_deed_of_ways" bL)
  (a46:DefI K "_law_after" fu)
  (a47:DefI K "_law_house_after" cu)
  (a48:DefI K "_law_do" lH)
  (a49:DefI K "_law_copied" d0)
  (a50:DefI K "_law_drawn" iA)
  (a51:DefI K "_law_spoil" iG)
  (a52:DefI K "_law_same" gz)
  (a53:DefI K "law" lU)
  (a54:findIn K (.ref cy) "__init__" = some (some (.ref f54))) (l54:K.lookup f54=some ⟨oc54,od54,.func (fnOf "__init__" "Crowd.__init__" (defArgs bF) (defBody bF) (defScope bF) (.ref TD) kV54 dc54 pm54 an54 cd54 ct54),sl54⟩) (c54:codeIn K cd54 "Crowd.__init__" = true) (k54:keepIn K (.ref f54)=true) (w54:PySem.W.isFn K (.ref f54)=true) (lTD:K.lookup TD=some ⟨ocT,odT,.seq [Value.bool false].toArray nT,slT⟩)
  (a55:findIn K (.ref aT) "__init__" = some (some (.ref f55))) (l55:K.lookup f55=some ⟨oc55,od55,.func (fnOf "__init__" "Keeper.__init__" (defArgs bA) (defBody bA) (defScope bA) .none kV55 dc55 pm55 an55 cd55 ct55),sl55⟩) (c55:codeIn K cd55 "Keeper.__init__" = true) (k55:keepIn K (.ref f55)=true) (w55:PySem.W.isFn K (.ref f55)=true)
  (a56:findIn K (.ref aT) "net_now" = some (some (.ref f56))) (l56:K.lookup f56=some ⟨oc56,od56,.func (fnOf "net_now" "Keeper.net_now" (defArgs bH) (defBody bH) (defScope bH) .none kV56 dc56 pm56 an56 cd56 ct56),sl56⟩) (c56:codeIn K cd56 "Keeper.net_now" = true) (k56:keepIn K (.ref f56)=true) (w56:PySem.W.isFn K (.ref f56)=true)
  (a57:findIn K (.ref aT) "put_rule" = some (some (.ref f57))) (l57:K.lookup f57=some ⟨oc57,od57,.func (fnOf "put_rule" "Keeper.put_rule" (defArgs bB) (defBody bB) (defScope bB) .none kV57 dc57 pm57 an57 cd57 ct57),sl57⟩) (c57:codeIn K cd57 "Keeper.put_rule" = true) (k57:keepIn K (.ref f57)=true) (w57:PySem.W.isFn K (.ref f57)=true)
  (a58:findIn K (.ref aT) "strike_rule" = some (some (.ref f58))) (l58:K.lookup f58=some ⟨oc58,od58,.func (fnOf "strike_rule" "Keeper.strike_rule" (defArgs aX) (defBody aX) (defScope aX) .none kV58 dc58 pm58 an58 cd58 ct58),sl58⟩) (c58:codeIn K cd58 "Keeper.strike_rule" = true) (k58:keepIn K (.ref f58)=true) (w58:PySem.W.isFn K (.ref f58)=true)
  (a59:findIn K (.ref aT) "rules_at" = some (some (.ref f59))) (l59:K.lookup f59=some ⟨oc59,od59,.func (fnOf "rules_at" "Keeper.rules_at" (defArgs bx) (defBody bx) (defScope bx) .none kV59 dc59 pm59 an59 cd59 ct59),sl59⟩) (c59:codeIn K cd59 "Keeper.rules_at" = true) (k59:keepIn K (.ref f59)=true) (w59:PySem.W.isFn K (.ref f59)=true)
  (a60:findIn K (.ref aT) "put_rules" = some (some (.ref f60))) (l60:K.lookup f60=some ⟨oc60,od60,.func (fnOf "put_rules" "Keeper.put_rules" (defArgs bv) (defBody bv) (defScope bv) .none kV60 dc60 pm60 an60 cd60 ct60),sl60⟩) (c60:codeIn K cd60 "Keeper.put_rules" = true) (k60:keepIn K (.ref f60)=true) (w60:PySem.W.isFn K (.ref f60)=true)
  (a61:findIn K (.ref aT) "put_way" = some (some (.ref f61))) (l61:K.lookup f61=some ⟨oc61,od61,.func (fnOf "put_way" "Keeper.put_way" (defArgs bq) (defBody bq) (defScope bq) .none kV61 dc61 pm61 an61 cd61 ct61),sl61⟩) (c61:codeIn K cd61 "Keeper.put_way" = true) (k61:keepIn K (.ref f61)=true) (w61:PySem.W.isFn K (.ref f61)=true)
  (a62:findIn K (.ref aT) "strike_way" = some (some (.ref f62))) (l62:K.lookup f62=some ⟨oc62,od62,.func (fnOf "strike_way" "Keeper.strike_way" (defArgs aR) (defBody aR) (defScope aR) .none kV62 dc62 pm62 an62 cd62 ct62),sl62⟩) (c62:codeIn K cd62 "Keeper.strike_way" = true) (k62:keepIn K (.ref f62)=true) (w62:PySem.W.isFn K (.ref f62)=true)
  (a63:findIn K (.ref aT) "put_ways" = some (some (.ref f63))) (l63:K.lookup f63=some ⟨oc63,od63,.func (fnOf "put_ways" "Keeper.put_ways" (defArgs bz) (defBody bz) (defScope bz) .none kV63 dc63 pm63 an63 cd63 ct63),sl63⟩) (c63:codeIn K cd63 "Keeper.put_ways" = true) (k63:keepIn K (.ref f63)=true) (w63:PySem.W.isFn K (.ref f63)=true)
  (a64:findIn K (.ref aT) "tie" = some (some (.ref f64))) (l64:K.lookup f64=some ⟨oc64,od64,.func (fnOf "tie" "Keeper.tie" (defArgs cz) (defBody cz) (defScope cz) .none kV64 dc64 pm64 an64 cd64 ct64),sl64⟩) (c64:codeIn K cd64 "Keeper.tie" = true) (k64:keepIn K (.ref f64)=true) (w64:PySem.W.isFn K (.ref f64)=true)
  (a65:findIn K (.ref aT) "untie" = some (some (.ref f65))) (l65:K.lookup f65=some ⟨oc65,od65,.func (fnOf "untie" "Keeper.untie" (defArgs bJ) (defBody bJ) (defScope bJ) .none kV65 dc65 pm65 an65 cd65 ct65),sl65⟩) (c65:codeIn K cd65 "Keeper.untie" = true) (k65:keepIn K (.ref f65)=true) (w65:PySem.W.isFn K (.ref f65)=true)
  (a66:findIn K (.ref aT) "change" = some (some (.ref f66))) (l66:K.lookup f66=some ⟨oc66,od66,.func (fnOf "change" "Keeper.change" (defArgs aV) (defBody aV) (defScope aV) .none kV66 dc66 pm66 an66 cd66 ct66),sl66⟩) (c66:codeIn K cd66 "Keeper.change" = true) (k66:keepIn K (.ref f66)=true) (w66:PySem.W.isFn K (.ref f66)=true)
  (iW:nsIn K mainGlobals "isinstance" = some none)
  (vN:nsIn K mainGlobals "str" = some none)
  (vM:nsIn K mainGlobals "len" = some none)
  (vS:nsIn K mainGlobals "sum" = some none)
  (sD:nsIn K mainGlobals "list" = some none)
  (nO:nsIn K mainGlobals "sorted" = some none)
  (qc:nsIn K mainGlobals "range" = some none)
  (vO:nsIn K mainGlobals "max" = some none)
  (qd:nsIn K mainGlobals "tuple" = some none)
  (sC:nsIn K mainGlobals "bool" = some none)
  (vR:nsIn K mainGlobals "min" = some none)
  (sw:nsIn K mainGlobals "dict" = some none)
  {U_WORDS:Addr} (qb:nsIn K mainGlobals "WORDS" = some (some (.ref U_WORDS))) (l_WORDS:txtsLook K ["pass", "drop"] U_WORDS=true)
  : Top K mg where
 c_Crowd:=sX X G dN pg_Crowd hd_Crowd po_Crowd sa_Crowd
 a_Crowd_layout:=cf dN at_Crowd_layout
 a_Crowd_houses:=cf dN at_Crowd_houses
 a_Crowd_ends:=cf dN at_Crowd_ends
 a_Crowd_gates:=cf dN at_Crowd_gates
 a_Crowd_by_rules:=cf dN at_Crowd_by_rules
 a_Crowd_shares:=cf dN at_Crowd_shares
 a_Crowd_known:=cf dN at_Crowd_known
 c_Keeper:=sX X G bt pg_Keeper hd_Keeper po_Keeper sa_Keeper
 a_Keeper_net:=cf bt at_Keeper_net
 a_Keeper_crowd:=cf bt at_Keeper_crowd
 a_Keeper_standing:=cf bt at_Keeper_standing
 a_Keeper_fallen:=cf bt at_Keeper_fallen
 rg:=a0.fn X G
 mj:=a1.fn X G
 kZ:=a2.fn X G
 jw:=a3.fn X G
 ld:=a4.fn X G
 jv:=a5.fn X G
 i0:=a6.fn X G
 js:=a7.fn X G
 kX:=a8.fn X G
 j3:=a9.fn X G
 mo:=a10.fn X G
 jt:=a11.fn X G
 ju:=a12.fn X G
 j5:=a13.fn X G
 lx:=a14.fn X G
 ly:=a15.fn X G
 mx:=a16.fn X G
 j6:=a17.fn X G
 lj:=a18.fn X G
 j0:=a19.fn X G
 kW:=a20.fn X G
 jr:=a21.fn X G
 im:=a22.fn X G
 ik:=a23.fn X G
 mt:=a24.fn X G
 nQ:=a25.fn X G
 mw:=a26.fn X G
 o9:=a27.fn X G
 kS:=a28.fn X G
 jX:=a29.fn X G
 nM:=a30.fn X G
 mi:=a31.fn X G
 kR:=a32.fn X G
 mq:=a33.fn X G
 lm:=a34.fn X G
 kQ:=a35.fn X G
 nN:=a36.fn X G
 jY:=a37.fn X G
 li:=a38.fn X G
 gx:=a39.fn X G
 o7:=a40.fn X G
 mn:=a41.fn X G
 kT:=a42.fn X G
 mr:=a43.fn X G
 mh:=a44.fn X G
 fj:=a45.fn X G
 kY:=a46.fn X G
 gt:=a47.fn X G
 o8:=a48.fn X G
 jZ:=a49.fn X G
 kU:=a50.fn X G
 kP:=a51.fn X G
 me:=a52.fn X G
 xQ:=a53.fn X G
 gF:=yi dN mk_Crowd kc_Crowd a54 w54 (vX (st:=bF) l54 c54 k54 lTD)
 gn:=xT bt mk_Keeper kc_Keeper a55 w55 (dX (st:=bA) l55 c55 k55)
 gH:=cJ bt a56 w56 k56 (dX (st:=bH) l56 c56 k56)
 gu:=cJ bt a57 w57 k57 (dX (st:=bB) l57 c57 k57)
 dO:=cJ bt a58 w58 k58 (dX (st:=aX) l58 c58 k58)
 gq:=cJ bt a59 w59 k59 (dX (st:=bx) l59 c59 k59)
 fm:=cJ bt a60 w60 k60 (dX (st:=bv) l60 c60 k60)
 gG:=cJ bt a61 w61 k61 (dX (st:=bq) l61 c61 k61)
 eD:=cJ bt a62 w62 k62 (dX (st:=aR) l62 c62 k62)
 gr:=cJ bt a63 w63 k63 (dX (st:=bz) l63 c63 k63)
 j4:=cJ bt a64 w64 k64 (dX (st:=cz) l64 c64 k64)
 i3:=cJ bt a65 w65 k65 (dX (st:=bJ) l65 c65 k65)
 ij:=cJ bt a66 w66 k66 (dX (st:=aV) l66 c66 k66)
 dM:=PySem.W.mg_none_of X G iW
 vQ:=PySem.W.mg_none_of X G vN
 cq:=PySem.W.mg_none_of X G vM
 tm:=PySem.W.mg_none_of X G vS
 eU:=PySem.W.mg_none_of X G sD
 nP:=PySem.W.mg_none_of X G nO
 cO:=PySem.W.mg_none_of X G qc
 vP:=PySem.W.mg_none_of X G vO
 s0:=PySem.W.mg_none_of X G qd
 vT:=PySem.W.mg_none_of X G sC
 xP:=PySem.W.mg_none_of X G vR
 su:=PySem.W.mg_none_of X G sw
 u_WORDS:=⟨_,mg_of X G qb,l_WORDS⟩
theorem law_bind {P:Program} {w:World} {K:Frag} {mg:Str->Option Value} (T:Top K mg):Ex2 fun f fd=>(∀ base:Heap,FnOk P w K mg base CX0 10 f fd ["_law_script"] (lE K))/\(∀ (s:Shared) (u:Value),BindsTo s fd ⟨[u],[]⟩ [("_law_script",u)])/\mg "law" = some (.ref f):=by
 obtain ⟨f,fd,F,m⟩:=T.xQ;refine ⟨f,fd,fun base=>yd T F,?_,m⟩;obtain ⟨oc,od,kV,doc,pm,an,cdv,ct,osl,rfl,lk,hcd⟩:=F.ex;exact fun s u=>.of_eq rfl
theorem walk {l:PySem.W.OpenLaw} {q:Program} {loose:List Str} {XP:(Str->Option Value)->Heap->Prop} {α:Type} {Yf:Shared->α} {Ya:World->α} {d:DefRec} {K:Params->Frag} (hn:l.most=some 63) (hdf:d.params.defaults=[])
  (hY:∀ (w:World) (s:Shared),Yf s=Ya w->(K w.params).In s.heap/\0 < s.toks)
  (F:∀ (w:World) (mg:Str->Option Value) (fa:Addr) (h:Heap),(K w.params).In h->h.Ns mainGlobals mg->mg d.name=some (.ref fa) ->
   ∃ fd:FuncData,(∀ (s:Shared) (u:Value),BindsTo s fd ⟨[u],[]⟩ [("_law_script",u)])/\∀ base:Heap,(K w.params).In base->base.Ns mainGlobals mg->FnOk l.prog w (K w.params) mg base CX0 10 fa fd ["_law_script"] (lE (K w.params))):
  PySem.W.WalkX q loose XP Yf Ya l.row.toRowW d [] (fun f vs=>PySem.call f vs):=
 L2.walk_ofX (n:=63) (k:=10) (x := "_law_script") (CX:=fun _=>CX0) (sp:=fun w=>lE (K w.params)) hn (by decide) hdf ⟨rfl,by decide,by decide,rfl⟩ hY F (fun _ _ a ns hl _ hS=>⟨ns,hS,hl,fun _=>rfl⟩) fun _ _ _ _ _ z=>z
end Law
open PySem PySem.W PyProof.Rows
local macro_rules | `(tactic| walk_at "df")=>`(tactic| (refine' Law.DefI.of ?a ?l ?c ?k; (case a=>k_is); (case l=>k_is); (case c=>k_is); (case k=>k_is)))
local macro_rules | `(tactic| walk_at "ec")=>`(tactic| (refine' ⟨?n,?q,?t,?b,?g,?h,?a,?o⟩; (case n=>k_is); (case q=>k_exc); (case t=>k_is); (case b=>k_is); (case g=>k_is); (case h=>k_is); (case a=>k_is); (case o=>k_is)))
set_option maxRecDepth 100000 in
set_option maxHeartbeats 0 in
theorem PySem.Challenge.cw_throng_k60_deeds_of_a_keeper_holds : PySem.Challenge.rw_throng_k60_deeds_of_a_keeper.Holds := by
 w_on; o_law; z_head; (case hw=>w_witness2)
 k_fill
 refine Law.walk (l:=PySem.Challenge.rw_throng_k60_deeds_of_a_keeper) rfl rfl (fun w s Y=>L2.z_pos Y (fun _=>rfl) (by decide)) ?F
 case F=>
  intro w mg fa h KX G hmg;have T:Law.Top (L2.KOf KX) mg:=by
   dsimp only [L2.KOf];refine' Law.all_mk KX G ?dN ?pg_Crowd ?hd_Crowd ?po_Crowd ?sa_Crowd ?mk_Crowd ?kc_Crowd ?at_Crowd_layout ?at_Crowd_houses ?at_Crowd_ends ?at_Crowd_gates ?at_Crowd_by_rules ?at_Crowd_shares ?at_Crowd_known ?bt ?pg_Keeper ?hd_Keeper ?po_Keeper ?sa_Keeper ?mk_Keeper ?kc_Keeper ?at_Keeper_net ?at_Keeper_crowd ?at_Keeper_standing ?at_Keeper_fallen ?a0 ?a1 ?a2 ?a3 ?a4 ?a5 ?a6 ?a7 ?a8 ?a9 ?a10 ?a11 ?a12 ?a13 ?a14 ?a15 ?a16 ?a17 ?a18 ?a19 ?a20 ?a21 ?a22 ?a23 ?a24 ?a25 ?a26 ?a27 ?a28 ?a29 ?a30 ?a31 ?a32 ?a33 ?a34 ?a35 ?a36 ?a37 ?a38 ?a39 ?a40 ?a41 ?a42 ?a43 ?a44 ?a45 ?a46 ?a47 ?a48 ?a49 ?a50 ?a51 ?a52 ?a53 ?a54 ?l54 ?c54 ?k54 ?w54 ?lTD ?a55 ?l55 ?c55 ?k55 ?w55 ?a56 ?l56 ?c56 ?k56 ?w56 ?a57 ?l57 ?c57 ?k57 ?w57 ?a58 ?l58 ?c58 ?k58 ?w58 ?a59 ?l59 ?c59 ?k59 ?w59 ?a60 ?l60 ?c60 ?k60 ?w60 ?a61 ?l61 ?c61 ?k61 ?w61 ?a62 ?l62 ?c62 ?k62 ?w62 ?a63 ?l63 ?c63 ?k63 ?w63 ?a64 ?l64 ?c64 ?k64 ?w64 ?a65 ?l65 ?c65 ?k65 ?w65 ?a66 ?l66 ?c66 ?k66 ?w66 ?iW ?vN ?vM ?vS ?sD ?nO ?qc ?vO ?qd ?sC ?vR ?sw ?qb ?l_WORDS
   (case dN=>k_is); (case pg_Crowd=>k_is); (case hd_Crowd=>k_is); (case po_Crowd=>k_is); (case sa_Crowd=>k_is); (case mk_Crowd=>k_is); (case kc_Crowd=>k_is)
   (case at_Crowd_layout | at_Crowd_houses | at_Crowd_ends | at_Crowd_gates | at_Crowd_by_rules | at_Crowd_shares | at_Crowd_known=>k_is)
   (case bt=>k_is); (case pg_Keeper=>k_is); (case hd_Keeper=>k_is); (case po_Keeper=>k_is); (case sa_Keeper=>k_is); (case mk_Keeper=>k_is); (case kc_Keeper=>k_is)
   (case at_Keeper_net | at_Keeper_crowd | at_Keeper_standing | at_Keeper_fallen=>k_is)
   (case a0 | a1 | a2 | a3 | a4 | a5 | a6 | a7 | a8 | a9 | a10 | a11 | a12 | a13 | a14 | a15 | a16 | a17 | a18 | a19 | a20 | a21 | a22 | a23 | a24 | a25 | a26 | a27 | a28 | a29 | a30 | a31 | a32 | a33 | a34 | a35 | a36 | a37 | a38 | a39 | a40 | a41 | a42 | a43 | a44 | a45 | a46 | a47 | a48 | a49 | a50 | a51 | a52 | a53=>walk_at "df")
   (case a54=>k_is); (case l54=>k_is); (case c54=>k_is); (case k54=>k_is); (case w54=>k_is)
   (case lTD=>k_is)
   (case a55=>k_is); (case l55=>k_is); (case c55=>k_is); (case k55=>k_is); (case w55=>k_is)
   (case a56=>k_is); (case l56=>k_is); (case c56=>k_is); (case k56=>k_is); (case w56=>k_is)
   (case a57=>k_is); (case l57=>k_is); (case c57=>k_is); (case k57=>k_is); (case w57=>k_is)
   (case a58=>k_is); (case l58=>k_is); (case c58=>k_is); (case k58=>k_is); (case w58=>k_is)
   (case a59=>k_is); (case l59=>k_is); (case c59=>k_is); (case k59=>k_is); (case w59=>k_is)
   (case a60=>k_is); (case l60=>k_is); (case c60=>k_is); (case k60=>k_is); (case w60=>k_is)
   (case a61=>k_is); (case l61=>k_is); (case c61=>k_is); (case k61=>k_is); (case w61=>k_is)
   (case a62=>k_is); (case l62=>k_is); (case c62=>k_is); (case k62=>k_is); (case w62=>k_is)
   (case a63=>k_is); (case l63=>k_is); (case c63=>k_is); (case k63=>k_is); (case w63=>k_is)
   (case a64=>k_is); (case l64=>k_is); (case c64=>k_is); (case k64=>k_is); (case w64=>k_is)
   (case a65=>k_is); (case l65=>k_is); (case c65=>k_is); (case k65=>k_is); (case w65=>k_is)
   (case a66=>k_is); (case l66=>k_is); (case c66=>k_is); (case k66=>k_is); (case w66=>k_is)
   (case iW | vN | vM | vS | sD | nO | qc | vO | qd | sC | vR | sw=>k_is)
   (case qb=>k_is); (case l_WORDS=>kernel_rfl)
  obtain ⟨f,fd,F,b,m⟩:=Law.law_bind (P:=PySem.Challenge.pw_throng_k60_deeds_of_a_keeper) (w:=w) T;have e0:=hmg.symm.trans m;cases e0;exact ⟨fd,b,fun base _ _=>F base⟩
#print axioms PySem.Challenge.cw_throng_k60_deeds_of_a_keeper_holds
