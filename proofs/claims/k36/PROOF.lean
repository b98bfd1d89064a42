import PyProof.Rows.All
import Wide.All
import OpenK.AllK
import Wide.FinOn
import Lean
import PyProof.EqAt
import PyProof.EqKinds
import PyProof.TupleCall
import KE.KLam
import KE.KSortKey
import KE.KSorted
import PySem.Challenge.RW_throng_k36_nets_refused
namespace PySem.W.Fast
def tw16337288188869223488:=0
def tw5613849630555699424:=0
def tw1366997103675663616:=0
def tw11859058577487164704:=0
def tw12297916837233629504:=0
def tw13016812872169099648:=0
def tw17015366503154066912:=0
def tw4739833545810534880:=0
def tw9094099760373126688:=0
def tw9471226563901116992:=0
def tw7692061895111939680:=0
def tw13667664732988074688:=0
def tw10133671477270663936:=0
def tw1892352276814543680:=0
def tw3932487235995585344:=0
def tw10298223378871953248:=0
def tw17674950827962641248:=0
def tw16508966293673620320:=0
def tw16613935174945810336:=0
def tw14789698901298264000:=0
def tw2599156586886936512:=0
def tw3015351206336551937:=0
def tw7489217971673572385:=0
def tw14557829437275889729:=0
def tw13197040377141234881:=0
def tw7531523886534646049:=0
def tw8612653142818015617:=0
def tw286838696623424929:=0
def tw12814691700485962241:=0
def tw5325174591534465537:=0
def tw5064867214998591009:=0
def tw14424326396493512385:=0
def tw15472233451439165281:=0
def tw13910201401440007009:=0
def tw2399640334606993313:=0
def tw18131981850570474433:=0
def tw15113626217784649697:=0
def tw17202071898278362081:=0
def tw12390062961123895298:=0
def tw14564492025447707746:=0
def tw4529590087782708354:=0
def tw1326538258743531778:=0
def tw10506358679827034402:=0
def tw12490451903023129922:=0
def tw8190573147084153218:=0
def tw2421832783175920034:=0
def tw10970237463172394402:=0
def tw15021836099534373346:=0
def tw6870794281430276578:=0
def tw15514717765267988994:=0
def tw987470939987281506:=0
def tw3837115198771653218:=0
def tw13767463117302542978:=0
def tw6737923642267001506:=0
def tw12896114722956349154:=0
def tw12289803957229174530:=0
def tw18405671320085392226:=0
def tw14342235562006604706:=0
def tw16735168381025542082:=0
def tw13098680071232473155:=0
def tw7406925373018779747:=0
def tw16475490311371165827:=0
def tw14582224976335583363:=0
def tw987597971308698755:=0
def tw17263963459976494275:=0
def tw1617520823877406019:=0
def tw11320659807944036675:=0
def tw14675752436420380003:=0
def tw14873043352996860259:=0
def tw4782938316136903011:=0
def tw4206736204933128611:=0
def tw243228481447558563:=0
def tw11301513687207533027:=0
def tw14165733342181913251:=0
def tw4719312666270592707:=0
def tw10512371588538406723:=0
def tw17841120599362964355:=0
def tw15583283918589136835:=0
def tw9118400990332483780:=0
def tw6905178324451047684:=0
def tw6069117247632993604:=0
def tw18240367168614344196:=0
def tw6099297773446721124:=0
def tw13807119438988684900:=0
def tw15218149247598602916:=0
def tw10926240445556403940:=0
def tw17834522688819162852:=0
def tw12641373581482516228:=0
def tw16305802396625155876:=0
def tw75619682425049988:=0
def tw3418133051284645764:=0
def tw17757005466668563364:=0
def tw18158961984533139396:=0
def tw4417773913598798885:=0
def tw17870834902474444869:=0
def tw1304545908676679749:=0
def tw17244072927983532101:=0
def tw5726686395670124677:=0
def tw13825070172928142469:=0
def tw7590608752787829957:=0
def tw16686430184727076165:=0
def tw13829147079334719845:=0
def tw17906446519284242821:=0
def tw9189091525402096005:=0
def tw17721690087459779013:=0
def tw264667359954967109:=0
def tw15060475789310128741:=0
def tw1139381118086148741:=0
def tw5791231383256818405:=0
def tw2189847448514303845:=0
def tw13006896151257523045:=0
def tw6459077498804687781:=0
def tw11976498031560438822:=0
def tw13738473765108641862:=0
def tw13773285885185352838:=0
def tw14617621970357999782:=0
def tw12295729461294280934:=0
def tw6613382276845750534:=0
def tw9190395546967834918:=0
def tw1684709184680448358:=0
def tw12249506953356112230:=0
def tw2048232365650482566:=0
def tw10490182855336106374:=0
def tw3910602797571564070:=0
def tw2221709910578315878:=0
def tw13451235567628852870:=0
def tw4261823247747809126:=0
def tw9092447472909998982:=0
def tw8322725627169706886:=0
def tw17431234073127702470:=0
def tw14452888133409334214:=0
def tw8027779276156500999:=0
def tw14805571355095769127:=0
def tw5736123369072647239:=0
def tw8023515914541015303:=0
def tw18110369603377766663:=0
def tw12558966651142666503:=0
def tw6814179270376717799:=0
def tw2976889039227276839:=0
def tw9377178586916623911:=0
def tw3489486244021697159:=0
def tw11778444761061364487:=0
def tw17364852805968978695:=0
def tw9865547218395369512:=0
def tw13402554891527407656:=0
def tw6258597284222292008:=0
def tw16145019340011100360:=0
def tw2520856986211152072:=0
def tw2551757435068995880:=0
def tw4568221236207724968:=0
def tw8180810136493150632:=0
def tw13661240409660242408:=0
def tw7135319469807133352:=0
def tw4321826841746982632:=0
def tw11232296508273053448:=0
def tw15426796826681397064:=0
def tw12194315541132654536:=0
def tw14008020503946412105:=0
def tw10807609634829550729:=0
def tw4744638198029986985:=0
def tw11921493227941800169:=0
def tw3852599743594097897:=0
def tw14156846791102570825:=0
def tw4481819286131101001:=0
def tw5360312169289946569:=0
def tw11754538529963049481:=0
def tw3813561591030557193:=0
def tw592871899342330441:=0
def tw16958772749216972489:=0
def tw9212984318270410473:=0
def tw2120140512935604969:=0
def tw14003371952517894921:=0
def tw12309047104589669161:=0
def tw17266375705967821609:=0
def tw14027669447754974121:=0
def tw5623290860753298570:=0
def tw3698395519933589642:=0
def tw9183295597794887882:=0
def tw16046817906172078282:=0
def tw3537614379548393674:=0
def tw1844564388545940682:=0
def tw3174087157382706442:=0
def tw6833538940557878570:=0
def tw12739267269703450954:=0
def tw12778706738057288042:=0
def tw6299783791133479274:=0
def tw322164914337112458:=0
def tw15378311483214328426:=0
def tw9466729926462892650:=0
def tw101741179729576618:=0
def tw437896538047192746:=0
def tw16002679592870720170:=0
def tw16395461996321340106:=0
def tw605712299555639018:=0
def tw16961485429393767210:=0
def tw8684664518368215850:=0
def tw15251641892200166218:=0
def tw6738085800425487242:=0
def tw5284608705457812523:=0
def tw5100658386724332747:=0
def tw432867413503056075:=0
def tw6883093227082665195:=0
def tw447854535770372331:=0
def tw16425925594118443307:=0
def tw3062323899306803659:=0
def tw15589353229028078091:=0
def tw8588677588161493515:=0
def tw18030605950957538859:=0
def tw17190004708300668491:=0
def tw14830051472694731595:=0
def tw16989519934430194539:=0
def tw3996388016261890987:=0
def tw6858753765898779563:=0
def tw14123972384727395275:=0
def tw4157803869644397547:=0
def tw13903631163686950956:=0
def tw11825833676742204492:=0
def tw9482191732315176108:=0
def tw10259263857464937900:=0
def tw7575889702089338316:=0
def tw6017820366042684908:=0
def tw16382866547740369516:=0
def tw2166947728322612940:=0
def tw12250058267000451020:=0
def tw11243221922927808557:=0
def tw5297201488686892141:=0
def tw9172244727018887309:=0
def tw6361727015866643757:=0
def tw9638521675281741133:=0
def tw15859942827543516557:=0
def tw3725385730126725549:=0
def tw7348611113583737261:=0
def tw17447956750470308301:=0
def tw2928831105214315981:=0
def tw16970034324110974477:=0
def tw12660235492660537933:=0
def tw607979771046404845:=0
def tw10724682223132124973:=0
def tw9215235534705461133:=0
def tw2360493173131236237:=0
def tw3466360570236719021:=0
def tw7365382820707382189:=0
def tw4675898268605324269:=0
def tw8208823311892701198:=0
def tw16682529622690001006:=0
def tw15061694948117180686:=0
def tw4949721122380159310:=0
def tw3189260724719926638:=0
def tw10393993788068669838:=0
def tw12687009168496753070:=0
def tw17013039616035006094:=0
def tw14702414316222042766:=0
def tw5481288391468971662:=0
def tw1299222026079969134:=0
def tw12967928336840386607:=0
def tw14202974470713801871:=0
def tw12020053658757061903:=0
def tw9220244294899077455:=0
def tw17227492064294385039:=0
def tw9618936021414044047:=0
def tw1920963266223604175:=0
def tw2850999762811903439:=0
def tw9654567986766574031:=0
def tw9567311443909407183:=0
def tw16343860015605770735:=0
def tw14002014034540312143:=0
def tw1647280642962307727:=0
def tw17028660233361001167:=0
def tw16533875328023701231:=0
def tw16891335145762222959:=0
def tw6993710051941351279:=0
def tw16698268341777403855:=0
def tw7530393916945875280:=0
def tw8754707133327097264:=0
def tw13825199140756349392:=0
def tw18180816702381976048:=0
def tw17855769056208985680:=0
def tw11583976422509355600:=0
def tw8034122981796767312:=0
def tw15682938067150190448:=0
def tw1803377803504015312:=0
def tw18088015296051607729:=0
def tw13404196153522900177:=0
def tw7909113805673962737:=0
def tw13583092562044861713:=0
def tw18313313555855221009:=0
def tw5647733516258648369:=0
def tw5750724007648788977:=0
def tw11847334807075961361:=0
def tw7530664860893832881:=0
def tw1812139362967107313:=0
def tw2255667027011481393:=0
def tw9548486871218276145:=0
def tw3311143576879225713:=0
def tw3851193281940494225:=0
def tw403711983393723377:=0
def tw9722093355047112850:=0
def tw11534077874039696626:=0
def tw561057397504972114:=0
def tw15906933790269728114:=0
def tw2587712344212402546:=0
def tw9995573077108566418:=0
def tw13931595388393789906:=0
def tw6602801005352102386:=0
def tw5614296666671379986:=0
def tw12514728861892122258:=0
def tw13486964786121429714:=0
def tw5220109955432663890:=0
def tw5410975318282124178:=0
def tw14818624737596299154:=0
def tw13097833526210131858:=0
def tw12307824370896667634:=0
def tw55823640699995251:=0
def tw1204387652204313715:=0
def tw8786029647691166867:=0
def tw8994051049260430515:=0
def tw4082746392198236403:=0
def tw253725903457297651:=0
def tw3901964763787659667:=0
def tw15349528729257377235:=0
def tw3439769427362286035:=0
def tw3768847647791324691:=0
def tw14339958073632432659:=0
def tw9214711203560976915:=0
def tw17702026066652717683:=0
def tw6996266331389621971:=0
def tw3244349868111345491:=0
def tw11119157212766565267:=0
def tw8880242511375646804:=0
def tw13275773160534060148:=0
def tw17297245127479280788:=0
def tw5149207748821812404:=0
def tw5276888013481239764:=0
def tw13795538396163625204:=0
def tw9410713239688754516:=0
def tw6940314112536044948:=0
def tw5836368654220179988:=0
def tw12200047772954260020:=0
def tw3845171889175253684:=0
def tw761893988732661460:=0
def tw5346153890538426100:=0
def tw9803862561671503604:=0
def tw5577051263193486100:=0
def tw3179579616878142228:=0
def tw6955874549755669268:=0
def tw1023417799739793236:=0
def tw6605666748783150964:=0
def tw8173609905093972916:=0
def tw9631843619007556596:=0
def tw12366351360596503669:=0
def tw14129548180761908373:=0
def tw15104726462352239765:=0
def tw3386749191743794357:=0
def tw2676791585451264245:=0
def tw15221249224604891381:=0
def tw5108065065986526517:=0
def tw16687140489686917493:=0
def tw14487956146547898805:=0
def tw16390009695421968853:=0
def tw16169292354647317973:=0
def tw11570997932121226773:=0
def tw18134290209847796405:=0
def tw2205106992307917493:=0
def tw10792002124034467637:=0
def tw1132921504272128853:=0
def tw14988099866183331669:=0
def tw17436540354191052757:=0
def tw16758301765479965718:=0
def tw5154449685266117718:=0
def tw4722750617995978966:=0
def tw12412320202506886422:=0
def tw1390568579927360854:=0
def tw12189172317264401814:=0
def tw2620712092605927862:=0
def tw5865029940095749686:=0
def tw8600245429411738262:=0
def tw16815053144615706326:=0
def tw16900286947719362294:=0
def tw5203642893186499350:=0
def tw18218284701198538582:=0
def tw1630909720750133078:=0
def tw7588097005615708150:=0
def tw10541224456012801079:=0
def tw6948859817589761111:=0
def tw15054006166581135479:=0
def tw8916233032774229175:=0
def tw14360326255421251799:=0
def tw16362128105241076951:=0
def tw8862061456802453879:=0
def tw4603702246657019319:=0
def tw4575041685225872983:=0
def tw2747767744342506071:=0
def tw12397296563283606103:=0
def tw8886493019686557303:=0
def tw15607105964714338135:=0
def tw3442069219831104343:=0
def tw133185865021749111:=0
def tw14190666057584322519:=0
def tw11448748304339044376:=0
def tw4599158530890135576:=0
def tw14454131010074731576:=0
def tw1240268309623365816:=0
def tw3457499029499821304:=0
def tw13224580382495934744:=0
def tw9696341801885287704:=0
def tw2430397152645959000:=0
def tw17930553773609282008:=0
def tw6287293789610637784:=0
def tw10766706565953908344:=0
def tw15936570693107399320:=0
def tw5574927025843840696:=0
def tw278918236193989368:=0
def tw18378970465301651192:=0
def tw2899429801723284248:=0
def tw15533006834093666136:=0
def tw9996457252161246072:=0
def tw8680855730264824760:=0
def tw16686880387506241464:=0
def tw6816021678803024953:=0
def tw5232955426932978777:=0
def tw12542279794082824377:=0
def tw9855687819873026297:=0
def tw10652132597739793689:=0
def tw18385381812308980057:=0
def tw9657364239944050009:=0
def tw9842465625437906361:=0
def tw11741371570969414137:=0
def tw5553395381021958649:=0
def tw9732449859369736729:=0
def tw6362203366897068601:=0
def tw9407052627025471065:=0
def tw17636759676896822905:=0
def tw12419058249700586329:=0
def tw2807062771065539513:=0
def tw16823369309935425497:=0
def tw18188200305012780058:=0
def tw15123769752074078234:=0
def tw13082795757399436506:=0
def tw2798363608666563802:=0
def tw13843514078747591962:=0
def tw16550604844686040378:=0
def tw16738989075944343994:=0
def tw17667725710569748922:=0
def tw1022863171856841210:=0
def tw16106891502586615386:=0
def tw9252944766115939962:=0
def tw16983107512266728058:=0
def tw5398571239271318266:=0
def tw14991777785292887994:=0
def tw3864988597071921146:=0
def tw11647337456666541083:=0
def tw10632612480766574651:=0
def tw2367819342900405403:=0
def tw13904005345319134363:=0
def tw9024402291625914619:=0
def tw13632291745679933723:=0
def tw16931013813421058395:=0
def tw11322328980140311931:=0
def tw15108282080652618171:=0
def tw18309178361259997787:=0
def tw2076748842063926907:=0
def tw14519423605788712603:=0
def tw2539455428223381147:=0
def tw18090570900863263643:=0
def tw16268099637559170076:=0
def tw6315973920025955356:=0
def tw11516787356792515772:=0
def tw17569710449970954460:=0
def tw7445363032392006940:=0
def tw3853012406091793820:=0
def tw5357983917469451740:=0
def tw10657862667812832764:=0
def tw4192801217953602044:=0
def tw12595569925973226012:=0
def tw18267276699128712764:=0
def tw8676706125224562300:=0
def tw6910927892471904924:=0
def tw16757732147875286684:=0
def tw5815262618354624252:=0
def tw12243264803556193244:=0
def tw12903954253285748797:=0
def tw16770537671027267773:=0
def tw12980947435421398205:=0
def tw7892621408570264797:=0
def tw7859865315981708605:=0
def tw5462611024360840541:=0
def tw9467862761405609341:=0
def tw5154759503050376605:=0
def tw11312519816236297629:=0
def tw914223465505890781:=0
def tw2977313162704483933:=0
def tw9216183569045346941:=0
def tw8012088323096946333:=0
def tw7717727524456470365:=0
def tw13494631068438457213:=0
def tw1292136399798417309:=0
def tw2358858896658780093:=0
def tw14955555752824567902:=0
def tw7386633480085704958:=0
def tw12521162774750170430:=0
def tw2568536101882809854:=0
def tw15611866290082667006:=0
def tw9279046749080385054:=0
def tw11460696859474135614:=0
def tw12717898837579909694:=0
def tw11236211385381937726:=0
def tw1440261029011047038:=0
def tw15433640878247784190:=0
def tw17470220642672513151:=0
def tw17895055603335489663:=0
def tw8263231340034320511:=0
def tw13204106232128326815:=0
def tw215643690948770047:=0
def tw4911500767604752831:=0
def tw2598593177382176191:=0
def tw11143315958992068031:=0
def tw3927639445942993375:=0
def tw17447589659244734047:=0
def tw3348976275563017855:=0
def tw14527012150236867295:=0
def tw10776425705081883647:=0
def tw13135712769354333921:=0
end PySem.W.Fast
open PySem.W (Frag nsIn keepIn fnOf codeIn mg_of findIn)
set_option compiler.extract_closed false
set_option Elab.async false
set_option linter.all false
set_option maxRecDepth 100000
namespace L2
open PySem PySem.Spec PyProof.Rows
noncomputable abbrev Key:=Sum Int Str
noncomputable def keyIs:Key->Value->Bool
 | .inl k,v=>Value.isInt k v
 | .inr x,v=>Value.isStrOf x v
noncomputable def keyH (w:World):Key->Int
 | .inl k=>hashInt k
 | .inr x=>hashStr w x
theorem c6:∀ {k:Key} {v:Value},keyIs k v=true->(∃ i t,k=Sum.inl i/\v=Value.int i t)\/(∃ x t,k=Sum.inr x/\v=Value.str x t)
 | .inl i,v,h=>by
  obtain ⟨t,e⟩:=Value.isInt_shape (k:=i) (v:=v) h;exact .inl ⟨i,t,rfl,e⟩
 | .inr x,v,h=>by
  obtain ⟨t,e⟩:=Value.isStrOf_shape (x:=x) (v:=v) h;exact .inr ⟨x,t,rfl,e⟩
theorem Bo (a b:Int):decide ((Sum.inl a:Key)=Sum.inl b)=(a == b):=by
 by_cases e:a=b
 ·subst e; simp
 ·have h:¬ (Sum.inl a:Key)=Sum.inl b:=fun q=>e (Sum.inl.inj q)
  rw [decide_eq_false h];exact (beq_eq_false_iff_ne.mpr e).symm
theorem Br (a b:Str):decide ((Sum.inr a:Key)=Sum.inr b)=decide (a=b):=by
 by_cases e:a=b
 ·subst e; simp
 ·have h:¬ (Sum.inr a:Key)=Sum.inr b:=fun q=>e (Sum.inr.inj q)
  rw [decide_eq_false h,decide_eq_false e]
theorem AE (a:Int) (b:Str):decide ((Sum.inl a:Key)=Sum.inr b)=false:=decide_eq_false (fun q=>nomatch q)
theorem AK (a:Str) (b:Int):decide ((Sum.inr a:Key)=Sum.inl b)=false:=decide_eq_false (fun q=>nomatch q)
noncomputable def mixKind (prog:Program) (w:World):PySem.KeyKind prog w Key where
 is:=keyIs
 hash:=keyH w
 inj:=fun v a b ha hb=>by
  rcases c6 ha with ⟨i,t,rfl,rfl⟩ | ⟨x,t,rfl,rfl⟩
  ·rcases c6 hb with ⟨j,u,rfl,e⟩ | ⟨y,u,rfl,e⟩
   ·injection e with e1 _; rw [e1]
   ·exact nomatch e
  ·rcases c6 hb with ⟨j,u,rfl,e⟩ | ⟨y,u,rfl,e⟩
   ·exact nomatch e
   ·injection e with e1 _; rw [e1]
 byValue:=fun k v h=>by
  rcases c6 h with ⟨i,t,rfl,rfl⟩ | ⟨x,t,rfl,rfl⟩ <;> rfl
 pyHash:=fun hv h=>by
  rcases c6 hv with ⟨i,t,rfl,rfl⟩ | ⟨x,t,rfl,rfl⟩
  ·exact wpAny_pyHash_int h
  ·exact wpAny_pyHash_str h
 eqBool:=fun hu hv h=>by
  rcases c6 hu with ⟨i,t,rfl,rfl⟩ | ⟨x,t,rfl,rfl⟩
  ·rcases c6 hv with ⟨j,u,rfl,rfl⟩ | ⟨y,u,rfl,rfl⟩
   ·rw [Bo] at h; exact wpAny_eqBool_int h
   ·rw [AE] at h; exact SeqAt.EqAt.int_str i t y u _ _ _ _ h
  ·rcases c6 hv with ⟨j,u,rfl,rfl⟩ | ⟨y,u,rfl,rfl⟩
   ·rw [AK] at h; exact SeqAt.EqAt.str_int x t j u _ _ _ _ h
   ·rw [Br] at h; exact wpAny_eqBool_str h
 «strs»:=fun k x t v h=>by
  rcases c6 h with ⟨i,u,rfl,e⟩ | ⟨y,u,rfl,e⟩
  ·exact nomatch e
  ·injection e with e1 _
   subst e1;cases v <;> rfl
inductive V where
 | non | bl (b:Bool) | int (i:Int) | str (x:Str) | byt (b:Array UInt8) | flt (b:UInt64) | ref (a:Addr) | ty (n:String)
 deriving DecidableEq
noncomputable def RelV:V->Value->Prop
 | .non,u=>u=Value.none
 | .bl b,u=>u=Value.bool b
 | .int i,u=>∃ t,u=Value.int i t
 | .str x,u=>∃ t,u=Value.str x t
 | .byt b,u=>∃ t,u=Value.bytes b t
 | .flt b,u=>∃ t,u=Value.float b t
 | .ref a,u=>u=Value.ref a
 | .ty n,u=>u=Value.type n
noncomputable abbrev Vals:List V->List Value->Prop:=Paired RelV
theorem Vals.length {xs:List V} {us:List Value} (r:Vals xs us):xs.length=us.length:=Paired.length r
theorem Vals.get:∀ {xs:List V} {us:List Value} {i:Nat} {x:V},Vals xs us->xs[i]? = some x->∃ u,us[i]? = some u/\RelV x u
 | _,_,_,_,.nil,e=>by simp at e
 | _,_,0,_,.cons r _,e=>by simp at e; subst e; exact ⟨_,rfl,r⟩
 | _,_,i+1,x,.cons _ t,e=>by
  obtain ⟨u,h1,h2⟩:=Vals.get (i:=i) (x:=x) t (by simpa using e);exact ⟨u,by simpa using h1,h2⟩
theorem Vals.set {x:V} {u:Value} (r:RelV x u):∀ {xs:List V} {us:List Value} (i:Nat),Vals xs us->Vals (xs.set i x) (us.set i u)
 | _,_,_,.nil=>.nil
 | _,_,0,.cons _ t=>.cons r t
 | _,_,i+1,.cons q t=>.cons q (Vals.set r i t)
theorem Vals.append:∀ {xs ys:List V} {us ws:List Value},Vals xs us->Vals ys ws->Vals (xs++ys) (us++ws)
 | _,_,_,_,.nil,s=>s
 | _,_,_,_,.cons r t,s=>.cons r (Vals.append t s)
theorem Vals.take:∀ {xs:List V} {us:List Value} (n:Nat),Vals xs us->Vals (xs.take n) (us.take n)
 | _,_,0,_=>.nil
 | _,_,_+1,.nil=>.nil
 | _,_,n+1,.cons r t=>.cons r (Vals.take n t)
theorem Vals.drop:∀ {xs:List V} {us:List Value} (n:Nat),Vals xs us->Vals (xs.drop n) (us.drop n)
 | _,_,0,r=>r
 | _,_,_+1,.nil=>.nil
 | _,_,n+1,.cons _ t=>Vals.drop n t
noncomputable def RelO:Option V->Option Value->Prop
 | some v,some u=>RelV v u
 | none,none=>True
 | _,_=>False
noncomputable def KV {κ:Type}:List (κ × V)->List (κ × Value)->Prop:=Paired fun (p:κ × V) (q:κ × Value)=>p.1=q.1/\RelV p.2 q.2
noncomputable def kV:Key->V
 | .inl i=>.int i
 | .inr x=>.str x
inductive HO where
 | lst (xs:List V)
 | tup (xs:List V)
 | dK (kvs:List (Key × V)) | dT (kvs:List (List Key × V))
 | set (S:Int->Bool) (n:Nat)
 | ins (C dx:Addr) (fs:List (Str × V))
 | own (x:Addr)
 | xd (fs:List (Str × V))
 | met (f x:Addr)
 | rng (lo hi:Int)
 | frz (o:Obj) (u:HO)
 | tbl (ps:Array Value)
 | ext (φ:Heap->Prop)
noncomputable abbrev Hp:=Addr->Option HO
noncomputable def upd (H:Hp) (a:Addr) (o:HO):Hp:=fun b=>if b=a then some o else H b
theorem ah {H:Hp} {a:Addr} {o:HO}:upd H a o a=some o:=by unfold upd; rw [if_pos rfl]
theorem aC {H:Hp} {a b:Addr} {o:HO} (h:b≠a):upd H a o b=H b:=by unfold upd; rw [if_neg h]
theorem bS {H:Hp} {a b:Addr} {o:HO} (h:H a=some o) (h':H b=none):a≠b:=by
 intro e; subst e; rw [h] at h'; cases h'
noncomputable def lamQ:Str:=Str.ofString "longest_first.<locals>.<lambda>"
def TabOk (H:Hp) (h:Heap) (a:Addr) (ps:Array Value):Prop:=TriplesOk ps.toList/\∀ pos cv,codeAmong pos ps.toList=some cv->∃ c,cv=.ref c/\H c=some (.own a)/\h.CodeRec (.ref c) lamQ
section
variable (P:Program) (w:World)
noncomputable def ObjOk (H:Hp) (h:Heap) (a:Addr):HO->Prop
 | .lst xs=>xs.length<=sizeLine/\∃ (its:List Value) (n:Nat),Vals xs its/\h.get? a=some { cls:=.type "list",data:=.seq its.toArray n }
 | .tup xs=>xs.length<=sizeLine/\∃ its:List Value,Vals xs its/\IsTup h a its.toArray
 | .dK kvs=>kvs.length<=sizeLine/\(a == sysModules)=false/\∃ vs,KV kvs vs/\h.DictOf (mixKind P w) a vs
 | .dT kvs=>kvs.length<=sizeLine/\(a == sysModules)=false/\∃ xs:List (List Key × Addr × Value),
   Paired (fun (p:List Key × V) (q:List Key × Addr × Value)=>p.1=q.1/\H q.2.1=some (.tup (p.1.map kV))/\RelV p.2 q.2.2) kvs xs /\
   ∃ o es ep,h.get? a=some o/\o.ExactDict/\o.data=.dict es ep/\es.toList=xs.map (entryOfKey (tupleKind (mixKind P w)))/\(xs.map (·.1)).Nodup
 | .set S n=>h.SetOf (intKind P w) a S n
 | .ins C dx fs=>H dx=some (.own a)/\fs.length<=1000/\dx≠a/\h.get? a=some (PySem.W.instObj C dx) /\
   ∃ mA,h.Ns1 dx mA/\(∀ f,RelO (fs.lookup f) (mA f))/\PySem.Within mA (fs.map (·.1))
 | .own _=>∃ o,h.get? a=some o
 | .xd fs=>∃ mA,h.Ns1 a mA/\∀ f,RelO (fs.lookup f) (mA f)
 | .rng lo hi=>∃ t u v,h.get? a=some { cls:=.type "range",data:=.fields #[.int lo t,.int hi u,.int 1 v] }
 | .frz o u=>h.get? a=some o/\ObjOk H h a u
 | .tbl ps=>∃ more:Array Value,h.get? a=some { cls:=.none,data:=.fields (ps++more) }/\TabOk H h a (ps++more)
 | .met f x=>h.get? a=some (PySem.W.methodObj (.ref f) (.ref x))
 | .ext φ=>φ h/\(∃ o,h.get? a=some o)/\∀ h1 h2:Heap,φ h1->(∀ o,h1.get? a=some o->h2.get? a=some o)->φ h2
def HOk (H:Hp) (h:Heap):Prop:=∀ a o,H a=some o->ObjOk P w H h a o
end
section
variable {P:Program} {w:World} {H H':Hp} {h h':Heap} {a:Addr} {o:HO}
theorem ObjOk.lt (x:ObjOk P w H h a o):a < h.objs.size:=by
 cases o with
 | lst xs=>obtain ⟨_,_,_,_,e⟩:=x; exact Heap.lt_size e
 | tup xs=>obtain ⟨_,_,_,p⟩:=x; exact p.lt
 | dK kvs=>obtain ⟨_,_,_,_,o,_,_,e,_⟩:=x; exact Heap.lt_size e
 | dT kvs=>obtain ⟨_,_,_,_,o,_,_,e,_⟩:=x; exact Heap.lt_size e
 | set S n=>obtain ⟨o,_,_,_,e,_⟩:=x; exact Heap.lt_size e
 | ins C dx fs=>obtain ⟨_,_,_,e,_⟩:=x; exact Heap.lt_size e
 | own y=>obtain ⟨_,e⟩:=x; exact Heap.lt_size e
 | xd fs=>obtain ⟨_,⟨_,_,_,e,_⟩,_⟩:=x; exact Heap.lt_size e
 | rng lo hi=>obtain ⟨_,_,_,e⟩:=x; exact Heap.lt_size e
 | frz ob u=>obtain ⟨e,_⟩:=x; exact Heap.lt_size e
 | tbl ps=>obtain ⟨_,e,_⟩:=x; exact Heap.lt_size e
 | met f y=>exact Heap.lt_size (show h.get? a=some _ from x)
 | ext φ=>obtain ⟨_,⟨_,e⟩,_⟩:=x; exact Heap.lt_size e
theorem Paired.mapP {α β:Type} {F G:α -> β -> Prop}:∀ {l₁:List α} {l₂:List β},Paired F l₁ l₂ -> (∀ a b,F a b->G a b)->Paired G l₁ l₂
 | _,_,.nil,_=>.nil
 | _,_,.cons r t,f=>.cons (f _ _ r) (Paired.mapP t f)
theorem ObjOk.stay (x:ObjOk P w H h a o) (k:∀ b u,(b=a\/H b=some (.own a))->h.get? b=some u->h'.get? b=some u)
  (ho:∀ b,H b=some (.own a)->H' b=some (.own a)) (ht:∀ b xs,H b=some (.tup xs)->H' b=some (.tup xs)):ObjOk P w H' h' a o:=by
 induction o with
 | lst xs=>obtain ⟨z,its,n,r,e⟩:=x; exact ⟨z,its,n,r,k _ _ (.inl rfl) e⟩
 | tup xs=>obtain ⟨z,its,r,ob,e,c⟩:=x; exact ⟨z,its,r,ob,k _ _ (.inl rfl) e,c⟩
 | dK kvs=>obtain ⟨z,y,vs,r,ob,es,ep,e,c⟩:=x; exact ⟨z,y,vs,r,ob,es,ep,k _ _ (.inl rfl) e,c⟩
 | dT kvs=>
  obtain ⟨z,y,xs,r,ob,es,ep,e,c⟩:=x;exact ⟨z,y,xs,Paired.mapP r fun p q z=>⟨z.1,ht _ _ z.2.1,z.2.2⟩,ob,es,ep,k _ _ (.inl rfl) e,c⟩
 | set S n=>obtain ⟨ob,es,ep,t,e,c⟩:=x; exact ⟨ob,es,ep,t,k _ _ (.inl rfl) e,c⟩
 | ins C dx fs=>
  obtain ⟨d,z,ne,e,mA,⟨od,es,ep,e2,c⟩,r⟩:=x;exact ⟨ho _ d,z,ne,k _ _ (.inl rfl) e,mA,⟨od,es,ep,k _ _ (.inr d) e2,c⟩,r⟩
 | own y=>obtain ⟨ob,e⟩:=x; exact ⟨ob,k _ _ (.inl rfl) e⟩
 | xd fs=>obtain ⟨mA,⟨od,es,ep,e,c⟩,r⟩:=x; exact ⟨mA,⟨od,es,ep,k _ _ (.inl rfl) e,c⟩,r⟩
 | rng lo hi=>obtain ⟨t,u,v,e⟩:=x; exact ⟨t,u,v,k _ _ (.inl rfl) e⟩
 | frz ob u ih=>obtain ⟨e,q⟩:=x; exact ⟨k _ _ (.inl rfl) e,ih q⟩
 | tbl ps=>
  obtain ⟨more,e,t1,t2⟩:=x;refine ⟨more,k a _ (.inl rfl) e,t1,fun pos cv q=>?_⟩;obtain ⟨c,e1,e2,c2,o,vs,t,e3,e4,e5⟩:=t2 pos cv q;cases e3;exact ⟨c,e1,ho _ e2,c,o,vs,t,rfl,k _ _ (.inr e2) e4,e5⟩
 | met f y=>
  have e:h.get? a=some (PySem.W.methodObj (.ref f) (.ref y)):=x;show h'.get? a=some (PySem.W.methodObj (.ref f) (.ref y));exact k a _ (.inl rfl) e
 | ext φ=>obtain ⟨p,⟨o,e⟩,st⟩:=x; exact ⟨st _ _ p fun o q=>k _ _ (.inl rfl) q,⟨o,k _ _ (.inl rfl) e⟩,st⟩
theorem HOk.lt (x:HOk P w H h) (e:H a=some o):a < h.objs.size:=(x a o e).lt
theorem HOk.fresh (x:HOk P w H h) (e:h.objs.size<=a):H a=none:=by
 cases q:H a with
 | none=>rfl
 | some u=>exact absurd (Nat.lt_of_lt_of_le (x.lt q) e) (Nat.lt_irrefl _)
theorem HOk.kept (x:HOk P w H h) (k:∀ b u,h.get? b=some u->h'.get? b=some u):HOk P w H h':=fun a o e=>
 (x a o e).stay (fun b u _ q=>k b u q) (fun _ q=>q) fun _ _ q=>q
theorem HOk.laid (x:HOk P w H h) (k:∀ b u,h.get? b=some u->h'.get? b=some u) (hp:h.objs.size<=a) (new:ObjOk P w (upd H a o) h' a o):HOk P w (upd H a o) h':=fun b u e=>by
 have hn:=x.fresh hp;by_cases hb:b=a
 ·subst hb; rw [ah] at e; cases e; exact new
 ·rw [aC hb] at e;exact (x b u e).stay (fun c v _ q=>k c v q) (fun c q=>by rw [aC (bS q hn)]; exact q) fun c xs q=>by rw [aC (bS q hn)]; exact q
end
def Rd (H:Hp) (a:Addr) (u:HO):Prop:=H a=some u\/∃ o,H a=some (.frz o u)
theorem Rd.ok {P:Program} {w:World} {H:Hp} {h:Heap} {a:Addr} {u:HO} (r:Rd H a u) (x:HOk P w H h):ObjOk P w H h a u:=by
 rcases r with r | ⟨o,r⟩
 ·exact x a u r
 ·obtain ⟨_,q⟩:=x a _ r;exact q
noncomputable def Mut:Option HO->Prop
 | some (.lst _)=>True
 | some (.dK _)=>True
 | some (.dT _)=>True
 | some (.set _ _)=>True
 | some (.ins _ _ _)=>True
 | some (.ext _)=>True
 | _=>False
section
variable {P:Program} {w:World} {H:Hp} {h h':Heap} {x e:Addr} {o':HO}
theorem HOk.write (ok:HOk P w H h) (mu:Mut (H x)) (he:e=x\/H e=some (.own x)) (k:∀ b u,b≠e->h.get? b=some u->h'.get? b=some u) (heo:∃ u,h'.get? e=some u)
  (new:ObjOk P w (upd H x o') h' x o'):HOk P w (upd H x o') h':=fun b u q=>by
 have nown:∀ c y,H c=some (.own y)->c≠x:=fun c y r z=>by subst z; rw [r] at mu; exact mu
 have ntup:∀ c xs,H c=some (.tup xs)->c≠x:=fun c xs r z=>by subst z; rw [r] at mu; exact mu
 by_cases hb:b=x
 ·subst hb; rw [ah] at q; cases q; exact new
 ·rw [aC hb] at q;by_cases hbe:b=e
  ·have q':H b=some (.own x):=by
    rcases he with z | z
    ·exact absurd (hbe.trans z) hb
    ·rw [hbe]; exact z
   rw [q] at q'; cases q';obtain ⟨v,hv⟩:=heo;exact ⟨v,by rw [hbe]; exact hv⟩
  ·refine (ok b u q).stay (fun c v hc r=>k c v ?_ r) (fun c r=>by rw [aC (nown c b r)]; exact r) fun c xs r=>by rw [aC (ntup c xs r)]; exact r
   rcases hc with rfl | hc
   ·exact hbe
   ·rintro rfl;rcases he with z | z
    ·exact nown c b hc z
    ·rw [hc] at z; cases z; exact hb rfl
end
structure Un (fs ex:List Addr) (H H':Hp) (h h':Heap):Prop where
 keep:∀ b o,h.get? b=some o->H b=none->b ∉ fs->b ∉ ex->h'.get? b=some o
 slot:∀ b o,h.get? b=some o->H b=none->b ∈ fs->b ∉ ex->∃ sl,h'.get? b=some { o with slots:=sl }
 free:∀ b o,h.get? b=some o->H b=none->b ∉ ex->H' b=none
 there:∀ b o,h.get? b=some o->b ∉ ex->∃ o',h'.get? b=some o'
 tups:∀ b xs,H b=some (.tup xs)->H' b=some (.tup xs)
 frzs:∀ b o xs,H b=some (.frz o (.lst xs))->H' b=some (.frz o (.lst xs))
 tbls:∀ b ps,H b=some (.tbl ps)->∃ more,H' b=some (.tbl (ps++more))
section
variable {fs fs' ex ex':List Addr} {H H1 H2:Hp} {h h1 h2 h':Heap} {a x e:Addr} {o:HO}
theorem Un.any (u:Un fs ex H H1 h h1) {b:Addr} {ob:Obj} (q:h.get? b=some ob) (n:H b=none) (hx:b ∉ ex):∃ sl,h1.get? b=some { ob with slots:=sl }:=by
 by_cases hb:b ∈ fs
 ·exact u.slot b ob q n hb hx
 ·exact ⟨ob.slots,u.keep b ob q n hb hx⟩
theorem Un.kept (k:∀ b u,h.get? b=some u->h'.get? b=some u):Un fs ex H H h h':=
 ⟨fun b ob q _ _ _=>k b ob q,fun b ob q _ _ _=>⟨ob.slots,k b ob q⟩,fun _ _ _ n _=>n,fun b ob q _=>⟨ob,k b ob q⟩,fun _ _ q=>q,fun _ _ _ q=>q,fun _ ps q=>⟨#[],by rw [q]; simp⟩⟩
theorem Un.refl:Un fs ex H H h h:=Un.kept fun _ _ q=>q
theorem Un.laid (k:∀ b u,h.get? b=some u->h'.get? b=some u) (hp:h.objs.size<=a) (hn:H a=none):Un fs ex H (upd H a o) h h' where
 keep:=fun b u q _ _ _=>k b u q
 slot:=fun b u q _ _ _=>⟨u.slots,k b u q⟩
 free:=fun b u q n _=>by rw [aC (Nat.ne_of_lt (Nat.lt_of_lt_of_le (Heap.lt_size q) hp))]; exact n
 there:=fun b u q _=>⟨u,k b u q⟩
 tups:=fun b xs q=>by rw [aC (bS q hn)]; exact q
 frzs:=fun b u xs q=>by rw [aC (bS q hn)]; exact q
 tbls:=fun b ps q=>⟨#[],by rw [aC (bS q hn),q]; simp⟩
theorem Un.write (mu:Mut (H x)) (he:e=x\/H e=some (.own x)) (k:∀ b u,b≠e->h.get? b=some u->h'.get? b=some u) (heo:∃ u,h'.get? e=some u):Un fs ex H (upd H x o) h h':=by
 have hx:∀ b,H b=none->b≠x:=fun b n z=>by subst z; rw [n] at mu; exact mu
 have hb:∀ b,H b=none->b≠e:=fun b n z=>by
  subst z;rcases he with r | r
  ·exact hx b n r
  ·rw [n] at r; cases r
 have hm:∀ b u,H b=some u->¬ Mut (some u)->b≠x:=fun b u q nm z=>by subst z; rw [q] at mu; exact nm mu
 refine ⟨fun b u q n _ _=>k b u (hb b n) q,fun b u q n _ _=>⟨u.slots,k b u (hb b n) q⟩,fun b u q n _=>by rw [aC (hx b n)]; exact n,fun b u q _=>?_,
  fun b xs q=>by rw [aC (hm b _ q fun z=>z)]; exact q,fun b u xs q=>by rw [aC (hm b _ q fun z=>z)]; exact q,fun b ps q=>⟨#[],by rw [aC (hm b _ q fun z=>z),q]; simp⟩⟩
 by_cases hbe:b=e
 ·subst hbe; exact heo
 ·exact ⟨u,k b u hbe q⟩
end
noncomputable def trk (h:Heap) (H:Hp):List Addr:=(List.range h.objs.size).filter fun a=>(H a).isSome
noncomputable def hidT (h:Heap) (H:Hp):Heap:=PySem.W.hideAll h (trk h H)
theorem vi (h:Heap) (H:Hp):(hidT h H).objs.size=h.objs.size:=PySem.W.hideAll_size _ _
theorem xz {h:Heap} {H:Hp} {b:Addr} {o:Obj} (e:h.get? b=some o) (n:H b=none):(hidT h H).get? b=some o:=
 PySem.W.hideAll_get _ e fun hm=>by
  have q:(H b).isSome=true:=(List.mem_filter.mp hm).2;rw [n] at q; simp at q
theorem zW {h:Heap} {H:Hp} {b:Addr} {o:Obj} (e:(hidT h H).get? b=some o):h.get? b=some o/\H b=none:=by
 have e':h.get? b=some o:=PySem.W.of_hideAll (trk h H) e;refine ⟨e',?_⟩;cases q:H b with
 | none=>rfl
 | some x=>
  have hm:b ∈ trk h H:=List.mem_filter.mpr ⟨List.mem_range.mpr (Heap.lt_size e'),by simp [q]⟩;have z:(hidT h H).get? b=none:=PySem.W.hideAll_none (trk h H) hm;rw [z] at e; cases e
noncomputable def allNews (g h:Heap) (L:Addr):List (Addr × Obj):=(List.range h.objs.size).filterMap fun a=>if a=L\/(g.get? a).isSome=true then none else (h.get? a).map fun o=>(a,o)
noncomputable def rest (g h:Heap) (L d:Addr):List (Addr × Obj):=(allNews g h L).filter fun p=>decide (p.1≠d)
structure Mod (K:Frag) (mg:Str->Option Value) (base:Heap):Prop where
 kin:K.In base
 glob:base.Ns mainGlobals mg
 blt:∃ mb,base.Ns builtinsNs mb/\∀ x:Str,x ≠ "__name__" -> mb x=bootBuiltins x
 nolimit:base.NoLimit
structure Cx where
 prog:Program
 w:World
 K:Frag
 mg:Str->Option Value
 base:Heap
 A:Around
 N:List Str
 s₀:Shared
 H₀:Hp
 env:Env
 outer:List Env
 stack:List Env
 ex:List Addr
 fn:Str->Bool
 calm:Bool
 pn:List (Addr × Obj)
 xe:Value->Shared->Prop
noncomputable def frs (l:List Env):List Addr:=l.filterMap (·.frame)
noncomputable abbrev Cx.fs (X:Cx):List Addr:=frs X.outer
def Vis (sc:Scope) (x:Str):Prop:=sc.names.lookup x=some .local\/sc.names.lookup x=some .cell\/sc.names.lookup x=some .free
def Loc (sc:Scope) (x:Str):Prop:=sc.names.lookup x=some .local\/sc.names.lookup x=some .cell
def Look (env:Env) (h:Heap) (m:Str->Option Value) (x:Str) (u:Value):Prop:=
 (env.kindOf x=some .local/\m x=some u)\/((env.kindOf x=some .cell\/env.kindOf x=some .free)/\∃ c,env.cells.lookup x=some c/\h.IsCell c (some u))
structure Cx.Ok (X:Cx):Prop where
 mod:Mod X.K X.mg X.base
 kind:X.env.scope.kind=.function
 glob:X.env.globals=mainGlobals
 blt:X.env.builtins=builtinsNs
 above:X.s₀.heap.objs.size<=X.env.locals
 inj:∀ x y c,X.env.cells.lookup x=some c->X.env.cells.lookup y=some c->x=y
 has:∀ x,(X.env.kindOf x=some .cell\/X.env.kindOf x=some .free)->∃ c,X.env.cells.lookup x=some c
 cab:∀ x c,X.fn x=true->X.env.cells.lookup x=some c->X.s₀.heap.objs.size<=c
 hd:X.calm=true->X.A.handled=none
 frames:X.A.frames=some X.stack
 stk:X.stack=X.outer\/(X.stack=X.env::X.outer/\X.env.frame=some X.env.locals)
 exf:∀ b ∈ X.ex,b≠X.env.locals/\∀ x c,X.env.cells.lookup x=some c->c≠b
 bs:∀ b o,X.base.get? b=some o->X.s₀.heap.get? b=some o/\X.H₀ b=none
 bsz:X.base.objs.size<=X.s₀.heap.objs.size
 noex:∀ b o,X.base.get? b=some o->b ∉ X.ex
 exfs:∀ b ∈ X.ex,b ∉ X.fs
 funs:X.s₀.heap.FunFrames X.base X.outer
 frf:∀ b ∈ X.fs,X.H₀ b=none
structure Inv (X:Cx) (pins:List (Addr × Obj)) (σ:List (Option V)) (H:Hp) (s:Shared):Prop where
 ok:X.Ok
 os:s.os=X.s₀.os
 bare:AllBare s.gens
 base:Un X.fs X.ex X.H₀ H X.s₀.heap s.heap
 loc:∃ m,s.heap.Ns X.env.locals m/\∀ (i:Nat) (x:Str) (v:V),X.N[i]? = some x->σ[i]? = some (some v)->Vis X.env.scope x->∃ u,RelV v u/\Look X.env s.heap m x u
 cell:∀ x c,X.env.cells.lookup x=some c->∃ v,s.heap.IsCell c v
 free:H X.env.locals=none
 freeC:∀ x c,X.env.cells.lookup x=some c->H c=none
 pin:∀ p ∈ X.pn++pins,s.heap.get? p.1=some p.2/\H p.1=none/\p.1≠X.env.locals/\p.1 ∉ X.fs/\∀ v,p.2.data≠.cell v
 hok:HOk X.prog X.w H s.heap
 len:σ.length=X.N.length
 tk:0 < s.toks
section
variable {X:Cx} {pins:List (Addr × Obj)} {σ:List (Option V)} {H H':Hp} {s:Shared} {h':Heap}
theorem Cx.Ok.nofr (ok:X.Ok) {b:Addr} {o:Obj} (e:X.base.get? b=some o):b ∉ X.fs:=fun hb=>by
 have:=(ok.funs.mem hb).1;rw [e] at this; cases this
theorem Inv.bs (I:Inv X pins σ H s):∀ b o,X.base.get? b=some o->s.heap.get? b=some o/\H b=none:=fun b o e=>
 ⟨I.base.keep b o (I.ok.bs b o e).1 (I.ok.bs b o e).2 (I.ok.nofr e) (I.ok.noex b o e),I.base.free b o (I.ok.bs b o e).1 (I.ok.bs b o e).2 (I.ok.noex b o e)⟩
theorem Inv.bk (I:Inv X pins σ H s):∀ b o,X.base.get? b=some o->s.heap.get? b=some o:=fun b o e=>(I.bs b o e).1
theorem Inv.mod (I:Inv X pins σ H s):Mod X.K X.mg X.base:=I.ok.mod
theorem Inv.kIn (I:Inv X pins σ H s):X.K.In s.heap:=I.ok.mod.kin.keeps I.bk
theorem Inv.lt (I:Inv X pins σ H s):X.env.locals < s.heap.objs.size:=let ⟨_,hn,_⟩:=I.loc; hn.lt
theorem Inv.sz (I:Inv X pins σ H s):X.s₀.heap.objs.size<=s.heap.objs.size:=Nat.le_trans I.ok.above (Nat.le_of_lt I.lt)
theorem Inv.nofs (I:Inv X pins σ H s) {a:Addr} (h:s.heap.objs.size<=a):a ∉ X.fs:=fun hb=>by
 obtain ⟨_,o,ho,_⟩:=I.ok.funs.mem hb;exact absurd (Nat.lt_of_lt_of_le (Heap.lt_size ho) (Nat.le_trans I.sz h)) (Nat.lt_irrefl _)
theorem Inv.cne (I:Inv X pins σ H s):∀ x c,X.env.cells.lookup x=some c->c≠X.env.locals:=fun x c e z=>by
 obtain ⟨v,o,ho,hd⟩:=I.cell x c e;obtain ⟨m,⟨o',es,ep,ho',hd',_⟩,_⟩:=I.loc;rw [z,ho'] at ho; cases ho; rw [hd'] at hd; cases hd
theorem Inv.funs (I:Inv X pins σ H s):s.heap.FunFrames X.base X.outer:=by
 have all:∀ (l:List Env),(∀ b ∈ frs l,b ∈ X.fs)->X.s₀.heap.FunFrames X.base l->s.heap.FunFrames X.base l:=by
  intro l
  induction l with
  | nil=>intro _ _; trivial
  | cons env r ih=>
   intro hs hl;obtain ⟨hk,⟨L,o,hf,hn,ho,hd⟩,hr⟩:=hl;have hL:L ∈ X.fs:=hs L (by unfold frs; rw [List.filterMap_cons,hf]; exact List.mem_cons_self);obtain ⟨sl,e⟩:=I.base.slot L o ho (I.ok.frf L hL) hL fun z=>I.ok.exfs L z hL
   exact ⟨hk,⟨L,_,hf,hn,e,hd⟩,ih (fun b hb=>hs b (by unfold frs; rw [List.filterMap_cons,hf]; exact List.mem_cons_of_mem _ hb)) hr⟩
 exact all X.outer (fun _ hb=>hb) I.ok.funs
theorem Inv.stack (I:Inv X pins σ H s):s.heap.FunFrames X.base X.stack:=by
 rcases I.ok.stk with e | ⟨e,hf⟩
 ·rw [e]; exact I.funs
 ·rw [e];obtain ⟨m,hn,_⟩:=I.loc;refine .cons (by rw [I.ok.kind]; decide) hf hn ?_ I.funs;exact Heap.get?_none_of_le (Nat.le_trans I.ok.bsz I.ok.above)
theorem Inv.stkSub (I:Inv X pins σ H s):∀ b ∈ frs X.stack,b ∈ X.env.locals::X.fs:=fun b hb=>by
 rcases I.ok.stk with e | ⟨e,hf⟩
 ·rw [e] at hb; exact List.mem_cons_of_mem _ hb
 ·rw [e] at hb;unfold frs at hb;rw [List.filterMap_cons,hf] at hb;exact hb
theorem Inv.stkFree (I:Inv X pins σ H s):∀ b ∈ frs X.stack,H b=none:=fun b hb=>by
 rcases List.mem_cons.mp (I.stkSub b hb) with e | hb
 ·rw [e]; exact I.free
 ·obtain ⟨_,o,ho,_⟩:=I.ok.funs.mem hb;exact I.base.free b o ho (I.ok.frf b hb) fun z=>I.ok.exfs b z hb
theorem Inv.step {g':Array GenState} {t':Nat} {d':Drawn} {ch:List Addr} (I:Inv X pins σ H s)
  (hch:∀ b ∈ ch,(b ∈ X.ex\/X.s₀.heap.objs.size<=b)/\b≠X.env.locals/\(∀ x c,X.env.cells.lookup x=some c->c≠b)/\∀ p ∈ X.pn++pins,p.1≠b)
  (keep:∀ b o,b≠X.env.locals->b ∉ X.fs->b ∉ ch->s.heap.get? b=some o->H b=none->h'.get? b=some o)
  (slot:∀ b o,b≠X.env.locals->b ∈ X.fs->b ∉ ch->s.heap.get? b=some o->H b=none->∃ sl,h'.get? b=some { o with slots:=sl }) (free:∀ b o,b ∉ ch->s.heap.get? b=some o->H b=none->H' b=none)
  (there:∀ b o,b ∉ ch->s.heap.get? b=some o->∃ o',h'.get? b=some o')
  (tups:∀ b xs,H b=some (.tup xs)->H' b=some (.tup xs)) (frzs:∀ b o xs,H b=some (.frz o (.lst xs))->H' b=some (.frz o (.lst xs))) (tbls:∀ b ps,H b=some (.tbl ps)->∃ more,H' b=some (.tbl (ps++more)))
  (ns:∀ m,s.heap.Ns X.env.locals m->h'.Ns X.env.locals m) (hok:HOk X.prog X.w H' h') (hg:AllBare g') (ht:0 < t':=by first | assumption | exact Nat.succ_pos _ | (apply Inv.tk; assumption) | omega):
  Inv X pins σ H' { s with heap:=h',gens:=g',drawn:=d',toks:=t' }:=by
 have neL:∀ b o,X.s₀.heap.get? b=some o->b≠X.env.locals:=fun b o e=>Nat.ne_of_lt (Nat.lt_of_lt_of_le (Heap.lt_size e) I.ok.above)
 have neC:∀ b o,X.s₀.heap.get? b=some o->b ∉ X.ex->b ∉ ch:=fun b o e hx hb=>by
  rcases (hch b hb).1 with z | z
  ·exact hx z
  ·exact absurd (Nat.lt_of_lt_of_le (Heap.lt_size e) z) (Nat.lt_irrefl _)
 have cellK:∀ x c,X.env.cells.lookup x=some c->∀ v,s.heap.IsCell c v->h'.IsCell c v:=fun x c e v ⟨o,ho,hd⟩=>by
  have nch:c ∉ ch:=fun z=>(hch c z).2.2.1 x c e rfl
  by_cases hc:c ∈ X.fs
  ·obtain ⟨sl,q⟩:=slot c o (I.cne x c e) hc nch ho (I.freeC x c e);exact ⟨_,q,hd⟩
  ·exact ⟨o,keep c o (I.cne x c e) hc nch ho (I.freeC x c e),hd⟩
 refine ⟨I.ok,I.os,hg,⟨fun b o e n hb hx=>?_,fun b o e n hb hx=>?_,fun b o e n hx=>?_,fun b o e hx=>?_,fun b xs e=>tups b xs (I.base.tups b xs e),fun b o xs e=>frzs b o xs (I.base.frzs b o xs e),fun b ps e=>?_⟩,?_,fun x c e=>?_,?_,fun x c e=>?_,fun p hp=>?_,hok,I.len,ht⟩
 ·exact keep b o (neL b o e) hb (neC b o e hx) (I.base.keep b o e n hb hx) (I.base.free b o e n hx)
 ·obtain ⟨sl,e1⟩:=I.base.slot b o e n hb hx;obtain ⟨sl',e2⟩:=slot b _ (neL b o e) hb (neC b o e hx) e1 (I.base.free b o e n hx);exact ⟨sl',e2⟩
 ·obtain ⟨o',e1⟩:=I.base.there b o e hx;exact free b o' (neC b o e hx) e1 (I.base.free b o e n hx)
 ·obtain ⟨o',e1⟩:=I.base.there b o e hx;exact there b o' (neC b o e hx) e1
 ·obtain ⟨m1,e1⟩:=I.base.tbls b ps e;obtain ⟨m2,e2⟩:=tbls b _ e1;exact ⟨m1++m2,by rw [e2,Array.append_assoc]⟩
 ·obtain ⟨m,hn,hl⟩:=I.loc;refine ⟨m,ns m hn,fun i x v e1 e2 e3=>?_⟩;obtain ⟨u,r,l⟩:=hl i x v e1 e2 e3;refine ⟨u,r,?_⟩;rcases l with l | ⟨k,c,e,z⟩
  ·exact .inl l
  ·exact .inr ⟨k,c,e,cellK x c e _ z⟩
 ·obtain ⟨v,z⟩:=I.cell x c e;exact ⟨v,cellK x c e v z⟩
 ·obtain ⟨m,⟨o,_,_,ho,_⟩,_⟩:=I.loc;exact free _ o (fun z=>(hch _ z).2.1 rfl) ho I.free
 ·obtain ⟨v,o,ho,hd⟩:=I.cell x c e;exact free c o (fun z=>(hch c z).2.2.1 x c e rfl) ho (I.freeC x c e)
 ·obtain ⟨e,n,ne,nf,d⟩:=I.pin p hp;have nch:p.1 ∉ ch:=fun z=>(hch p.1 z).2.2.2 p hp rfl
  exact ⟨keep p.1 p.2 ne nf nch e n,free p.1 p.2 nch e n,ne,nf,d⟩
theorem Inv.un {t':Nat} (I:Inv X pins σ H s) (u:Un X.fs [] H H' s.heap h') (hok:HOk X.prog X.w H' h') (ht:0 < t':=by first | assumption | exact Nat.succ_pos _ | (apply Inv.tk; assumption) | omega):Inv X pins σ H' { s with heap:=h',toks:=t' }:=by
 obtain ⟨m,⟨o,es,ep,ho,r⟩,_⟩:=id I.loc;obtain ⟨sl,hL⟩:=u.any ho I.free (by simp);exact I.step (g':=s.gens) (d':=s.drawn) (ch:=[]) (fun _ z=>nomatch z) (fun b o _ hb _ e n=>u.keep b o e n hb (by simp)) (fun b o _ hb _ e n=>u.slot b o e n hb (by simp)) (fun b o _ e n=>u.free b o e n (by simp)) (fun b o _ e=>u.there b o e (by simp)) u.tups u.frzs u.tbls (fun m' hm=>by
  obtain ⟨o',es',ep',ho',r'⟩:=hm;rw [ho] at ho'; cases ho';exact ⟨_,es',ep',hL,r'⟩) hok I.bare ht
theorem Inv.call {g':Array GenState} {t':Nat} {d':Drawn} {ch:List Addr} (I:Inv X pins σ H s) (u:Un (frs X.stack) ch H H' s.heap h') (hok:HOk X.prog X.w H' h') (hg:AllBare g')
  (hch:∀ b ∈ ch,(b ∈ X.ex\/X.s₀.heap.objs.size<=b)/\b≠X.env.locals/\(∀ x c,X.env.cells.lookup x=some c->c≠b)/\∀ p ∈ X.pn++pins,p.1≠b) (ht:0 < t':=by first | assumption | exact Nat.succ_pos _ | (apply Inv.tk; assumption) | omega):
  Inv X pins σ H' { s with heap:=h',gens:=g',drawn:=d',toks:=t' }:=by
 obtain ⟨m,⟨o,es,ep,ho,r⟩,_⟩:=id I.loc;obtain ⟨sl,hL⟩:=u.any ho I.free fun z=>(hch _ z).2.1 rfl
 exact I.step (ch:=ch) hch (fun b o hL hb hc e n=>u.keep b o e n (fun z=>(List.mem_cons.mp (I.stkSub b z)).elim hL hb) hc) (fun b o _ _ hc e n=>u.any e n hc) (fun b o hc e n=>u.free b o e n hc) (fun b o hc e=>u.there b o e hc) u.tups u.frzs u.tbls (fun m' hm=>by
  obtain ⟨o',es',ep',ho',r'⟩:=hm;rw [ho] at ho'; cases ho';exact ⟨_,es',ep',hL,r'⟩) hok hg ht
theorem Inv.turned {t':Nat} {it:Addr} (I:Inv X pins σ H s) (k:∀ b o,b≠it->s.heap.get? b=some o->h'.get? b=some o) (hn:H it=none) (hL:it≠X.env.locals)
  (h1:it ∈ X.ex\/X.s₀.heap.objs.size<=it) (h2:∀ x c,X.env.cells.lookup x=some c->c≠it) (h3:∀ p ∈ X.pn++pins,p.1≠it) (ht:0 < t':=by first | assumption | exact Nat.succ_pos _ | (apply Inv.tk; assumption) | omega):Inv X pins σ H { s with heap:=h',toks:=t' }:=by
 have nit:∀ b u,H b=some u->b≠it:=fun b u e z=>by rw [z,hn] at e; cases e
 refine I.step (g':=s.gens) (d':=s.drawn) (ch:=[it]) (fun b hb=>?_) (fun b o _ _ hc e _=>k b o (fun z=>hc (by simp [z])) e) (fun b o _ _ hc e _=>⟨o.slots,k b o (fun z=>hc (by simp [z])) e⟩) (fun _ _ _ _ n=>n)
  (fun b o hc e=>⟨o,k b o (fun z=>hc (by simp [z])) e⟩) (fun _ _ e=>e) (fun _ _ _ e=>e) (fun b ps e=>⟨#[],by rw [e]; simp⟩) (fun m hm=>?_) (fun b u e=>?_) I.bare
 ·have e:b=it:=by simpa using hb
  subst e;exact ⟨h1,hL,h2,h3⟩
 ·obtain ⟨o,es,ep,ho,r⟩:=hm;exact ⟨o,es,ep,k _ o (Ne.symm hL) ho,r⟩
 ·refine (I.hok b u e).stay (fun c v hc q=>k c v ?_ q) (fun _ q=>q) fun _ _ q=>q
  rcases hc with z | z
  ·rw [z]; exact nit b u e
  ·exact nit c _ z
theorem Inv.tok (I:Inv X pins σ H s) (t:Nat) (ht:0 < t:=by first | assumption | exact Nat.succ_pos _ | (apply Inv.tk; assumption) | omega):Inv X pins σ H { s with toks:=t }:=I.un (h':=s.heap) (t':=t) Un.refl I.hok ht
theorem Inv.kept {t':Nat} (I:Inv X pins σ H s) (k:∀ b u,s.heap.get? b=some u->h'.get? b=some u) (ht:0 < t':=by first | assumption | exact Nat.succ_pos _ | (apply Inv.tk; assumption) | omega):Inv X pins σ H { s with heap:=h',toks:=t' }:=I.un (Un.kept k) (I.hok.kept k) ht
theorem Inv.laid {a:Addr} {o:HO} {t':Nat} (I:Inv X pins σ H s) (k:∀ b u,s.heap.get? b=some u->h'.get? b=some u) (hp:s.heap.objs.size<=a) (new:ObjOk X.prog X.w (upd H a o) h' a o) (ht:0 < t':=by first | assumption | exact Nat.succ_pos _ | (apply Inv.tk; assumption) | omega):
  Inv X pins σ (upd H a o) { s with heap:=h',toks:=t' }:=I.un (Un.laid k hp (I.hok.fresh hp)) (I.hok.laid k hp new) ht
theorem Inv.write {x e:Addr} {o:HO} {t':Nat} (I:Inv X pins σ H s) (mu:Mut (H x)) (he:e=x\/H e=some (.own x)) (k:∀ b u,b≠e->s.heap.get? b=some u->h'.get? b=some u) (heo:∃ u,h'.get? e=some u)
  (new:ObjOk X.prog X.w (upd H x o) h' x o) (ht:0 < t':=by first | assumption | exact Nat.succ_pos _ | (apply Inv.tk; assumption) | omega):Inv X pins σ (upd H x o) { s with heap:=h',toks:=t' }:=I.un (Un.write mu he k heo) (I.hok.write mu he k heo new) ht
theorem Inv.weak {σ':List (Option V)} (I:Inv X pins σ H s) (hl:σ'.length=σ.length) (w:∀ (i:Nat) v,σ'[i]? = some (some v)->σ[i]? = some (some v)):Inv X pins σ' H s:=
 ⟨I.ok,I.os,I.bare,I.base,let ⟨m,hn,hl'⟩:=I.loc; ⟨m,hn,fun i x v e1 e2 e3=>hl' i x v e1 (w i v e2) e3⟩,I.cell,I.free,I.freeC,I.pin,I.hok,hl.trans I.len,I.tk⟩
theorem Inv.pins_of {pins':List (Addr × Obj)} (I:Inv X pins σ H s) (h:∀ p ∈ pins',s.heap.get? p.1=some p.2/\H p.1=none/\p.1≠X.env.locals/\p.1 ∉ X.fs/\∀ v,p.2.data≠.cell v):Inv X pins' σ H s:=
 ⟨I.ok,I.os,I.bare,I.base,I.loc,I.cell,I.free,I.freeC,fun p hp=>(List.mem_append.mp hp).elim (fun z=>I.pin p (List.mem_append_left _ z)) (h p),I.hok,I.len,I.tk⟩
theorem oH {N:List Str} (hN:N.Nodup) {i j:Nat} {x:Str} (a:N[i]? = some x) (b:N[j]? = some x):i=j:=by
 obtain ⟨h1,e1⟩:=List.getElem?_eq_some_iff.mp a;obtain ⟨h2,e2⟩:=List.getElem?_eq_some_iff.mp b;exact (List.getElem_inj hN).mp (e1.trans e2.symm)
theorem qM {M:Model} {A:Around} {E:Value->Shared->Prop} {i:Nat} {x:Str} {v:V} {u:Value} {Q:Unit->Shared->Prop} (I:Inv X pins σ H s) (hN:X.N.Nodup) (hi:X.N[i]? = some x) (hx:Loc X.env.scope x) (r:RelV v u)
  (h:∀ s',Inv X pins (σ.set i (some v)) H s'->(∃ a,Heap.SameBut a s.heap s'.heap/\(a=X.env.locals\/X.env.cells.lookup x=some a))->Q () s') (hf:X.fn x=true\/X.env.scope.names.lookup x=some .local:=by first | exact .inl rfl | exact .inr rfl | assumption):wpAny M A (storeName X.env x u) Q E s:=by
 obtain ⟨m,hn,hl⟩:=id I.loc;have hcls:(X.env.scope.kind == .class || (X.env.scope.kind == .module && X.env.locals != X.env.globals))=false:=by rw [I.ok.kind]; rfl
 have hiσ:i < σ.length:=by rw [I.len]; exact (List.getElem?_eq_some_iff.mp hi).1
 have cne:=I.cne;have tracked:∀ {a:Addr} {h':Heap},(∃ o,s.heap.get? a=some o/\H a=none)->Heap.SameBut a s.heap h'->HOk X.prog X.w H h':=fun {a h'} ha hs b ob e=>by
  obtain ⟨_,_,hfree⟩:=ha;refine (I.hok b ob e).stay (fun c w' hc q=>(hs.2 c ?_).trans q) (fun _ q=>q) fun _ _ q=>q
  rintro rfl;rcases hc with rfl | hc
  ·rw [hfree] at e; cases e
  ·rw [hfree] at hc; cases hc
 rcases hx with hk | hk
 ·refine wpAny_storeName_local hk hn (fun h' hn' hs=>?_) hcls;obtain ⟨oL,_,_,hoL,_⟩:=id hn;refine h _ ⟨I.ok,I.os,I.bare,⟨fun b o e n hb hx=>?_,fun b o e n hb hx=>?_,I.base.free,fun b o e hx=>?_,I.base.tups,I.base.frzs,I.base.tbls⟩,⟨_,hn',fun j y v' e1 e2 e3=>?_⟩,fun y c e=>?_,I.free,I.freeC,fun p hp=>?_,tracked ⟨oL,hoL,I.free⟩ hs,by simpa using I.len,(by first | exact Nat.succ_pos _ | exact I.tk)⟩ ⟨_,hs,.inl rfl⟩
  ·exact (hs.2 b (Nat.ne_of_lt (Nat.lt_of_lt_of_le (Heap.lt_size e) I.ok.above))).trans (I.base.keep b o e n hb hx)
  ·obtain ⟨sl,e1⟩:=I.base.slot b o e n hb hx;exact ⟨sl,(hs.2 b (Nat.ne_of_lt (Nat.lt_of_lt_of_le (Heap.lt_size e) I.ok.above))).trans e1⟩
  ·obtain ⟨o',e1⟩:=I.base.there b o e hx;exact ⟨o',(hs.2 b (Nat.ne_of_lt (Nat.lt_of_lt_of_le (Heap.lt_size e) I.ok.above))).trans e1⟩
  ·by_cases hj:j=i
   ·subst hj;rw [hi] at e1; cases e1;rw [List.getElem?_set_self hiσ] at e2;cases e2;exact ⟨u,r,.inl ⟨hk,by simp⟩⟩
   ·rw [List.getElem?_set_ne (Ne.symm hj)] at e2;obtain ⟨u',r',q⟩:=hl j y v' e1 e2 e3;refine ⟨u',r',?_⟩;rcases q with ⟨k,e⟩ | ⟨k,c,e,z⟩
    ·refine .inl ⟨k,?_⟩;have:y≠x:=fun e=>hj (oH hN e1 (e ▸ hi))
     simp [this,e]
    ·exact .inr ⟨k,c,e,z.sameBut hs (cne y c e)⟩
  ·obtain ⟨w',z⟩:=I.cell y c e;exact ⟨w',z.sameBut hs (cne y c e)⟩
  ·obtain ⟨e,n,ne,nf,d⟩:=I.pin p hp;exact ⟨(hs.2 p.1 ne).trans e,n,ne,nf,d⟩
 ·have hfn:X.fn x=true:=by
   rcases hf with z | z
   ·exact z
   ·rw [z] at hk; cases hk
  obtain ⟨c,hc⟩:=I.ok.has x (.inl hk);obtain ⟨w',z⟩:=I.cell x c hc;refine wpAny_storeName_cell I.ok.kind hk hc z (fun h' hc' hs=>?_);obtain ⟨oc,hoc,hocd⟩:=id z;refine h { s with heap:=h' } ⟨I.ok,I.os,I.bare,⟨fun b o e n hb hx=>?_,fun b o e n hb hx=>?_,I.base.free,fun b o e hx=>?_,I.base.tups,I.base.frzs,I.base.tbls⟩,⟨m,hn.sameBut hs (Ne.symm (cne x c hc)),fun j y v' e1 e2 e3=>?_⟩,fun y c' e=>?_,I.free,I.freeC,fun p hp=>?_,tracked ⟨oc,hoc,I.freeC x c hc⟩ hs,by simpa using I.len,I.tk⟩ ⟨c,hs,.inr hc⟩
  ·exact (hs.2 b (Nat.ne_of_lt (Nat.lt_of_lt_of_le (Heap.lt_size e) (I.ok.cab x c hfn hc)))).trans (I.base.keep b o e n hb hx)
  ·obtain ⟨sl,e1⟩:=I.base.slot b o e n hb hx;exact ⟨sl,(hs.2 b (Nat.ne_of_lt (Nat.lt_of_lt_of_le (Heap.lt_size e) (I.ok.cab x c hfn hc)))).trans e1⟩
  ·obtain ⟨o',e1⟩:=I.base.there b o e hx;exact ⟨o',(hs.2 b (Nat.ne_of_lt (Nat.lt_of_lt_of_le (Heap.lt_size e) (I.ok.cab x c hfn hc)))).trans e1⟩
  ·by_cases hj:j=i
   ·subst hj;rw [hi] at e1; cases e1;rw [List.getElem?_set_self hiσ] at e2;cases e2;exact ⟨u,r,.inr ⟨.inl hk,c,hc,hc'⟩⟩
   ·rw [List.getElem?_set_ne (Ne.symm hj)] at e2;obtain ⟨u',r',q⟩:=hl j y v' e1 e2 e3;refine ⟨u',r',?_⟩;rcases q with q | ⟨k,c',e,z'⟩
    ·exact .inl q
    ·refine .inr ⟨k,c',e,z'.sameBut hs ?_⟩;rintro rfl;exact hj (oH hN e1 (I.ok.inj _ _ _ e hc ▸ hi))
  ·by_cases hcc:c'=c
   ·subst hcc; exact ⟨_,hc'⟩
   ·obtain ⟨w2,z2⟩:=I.cell y c' e;exact ⟨w2,z2.sameBut hs hcc⟩
  ·obtain ⟨e,n,ne,nf,d⟩:=I.pin p hp;refine ⟨(hs.2 p.1 ?_).trans e,n,ne,nf,d⟩;intro q;rw [q,hoc] at e;have q':oc=p.2:=Option.some.inj e;exact d w' (by rw [<- q']; exact hocd)
theorem pj {M:Model} {A:Around} {E:Value->Shared->Prop} {i:Nat} {x:Str} {v:V} {u:Value} {Q:Unit->Shared->Prop} (I:Inv X pins σ H s) (hN:X.N.Nodup) (hi:X.N[i]? = some x) (hx:Loc X.env.scope x) (r:RelV v u)
  (h:∀ s',Inv X pins (σ.set i (some v)) H s'->Q () s') (hf:X.fn x=true\/X.env.scope.names.lookup x=some .local:=by first | exact .inl rfl | exact .inr rfl | assumption):wpAny M A (storeName X.env x u) Q E s:=
 qM I hN hi hx r (fun s' I' _=>h s' I') hf
theorem Inv.call' {s':Shared} {ch:List Addr} (I:Inv X pins σ H s) (ho:s'.os=s.os) (u:Un (frs X.stack) ch H H' s.heap s'.heap) (hok:HOk X.prog X.w H' s'.heap) (hg:AllBare s'.gens)
  (hch:∀ b ∈ ch,(b ∈ X.ex\/X.s₀.heap.objs.size<=b)/\b≠X.env.locals/\(∀ x c,X.env.cells.lookup x=some c->c≠b)/\∀ p ∈ X.pn++pins,p.1≠b) (ht:0 < s'.toks:=by first | assumption | exact Nat.succ_pos _ | (apply Inv.tk; assumption) | omega):Inv X pins σ H' s':=by
 obtain ⟨h',g',d',t',o'⟩:=s';have e:o'=s.os:=ho;subst e;exact I.call (g':=g') (t':=t') (d':=d') u hok hg hch ht
end
noncomputable abbrev XK:=Value->Option Addr->Hp->Prop
noncomputable abbrev St:=List (Option V)
noncomputable abbrev VK:=V->Hp->Prop
noncomputable abbrev TE:=St->Hp->VK->Prop
noncomputable abbrev TT:=St->Hp->(Bool->Hp->Prop)->Prop
noncomputable abbrev TA:=St->Hp->(List V->Hp->Prop)->Prop
structure Ends where
 nx:St->Hp->Prop
 rt:VK
 bk:St->Hp->Prop:=fun _ _=>False
 ct:St->Hp->Prop:=fun _ _=>False
noncomputable abbrev TS:=Ends->St->Hp->Prop
def EP (X:Cx) (pins:List (Addr × Obj)) (σ:St) (Q:VK) (u:Value) (s':Shared):Prop:=∃ v H',Inv X pins σ H' s'/\RelV v u/\Q v H'
def TP (X:Cx) (pins:List (Addr × Obj)) (σ:St) (Q:Bool->Hp->Prop) (b:Bool) (s':Shared):Prop:=∃ H',Inv X pins σ H' s'/\Q b H'
def AP (X:Cx) (pins:List (Addr × Obj)) (σ:St) (Q:List V->Hp->Prop) (us:List Value) (s':Shared):Prop:=∃ vs H',Inv X pins σ H' s'/\Vals vs us/\Q vs H'
def SP (X:Cx) (pins:List (Addr × Obj)) (D:Ends) (f:Flow) (s':Shared):Prop:=
 match f with
 | .next=>∃ σ' H',Inv X pins σ' H' s'/\D.nx σ' H'
 | .brk=>∃ σ' H',Inv X pins σ' H' s'/\D.bk σ' H'
 | .cont=>∃ σ' H',Inv X pins σ' H' s'/\D.ct σ' H'
 | .ret u=>∃ v σ' H',Inv X pins σ' H' s'/\RelV v u/\D.rt v H'
def PE (X:Cx) (e:Expr) (t:TE):Prop:=
 ∀ (pins:List (Addr × Obj)) (s:Shared) (σ:St) (H:Hp) (Q:VK),Inv X pins σ H s->t σ H Q->wpAny (model X.prog X.w) X.A (eval e X.env) (EP X pins σ Q) X.xe s
def PT (X:Cx) (e:Expr) (t:TT):Prop:=
 ∀ (pins:List (Addr × Obj)) (s:Shared) (σ:St) (H:Hp) (Q:Bool->Hp->Prop),Inv X pins σ H s->t σ H Q->wpAny (model X.prog X.w) X.A (isTrue e X.env (eval e X.env)) (TP X pins σ Q) X.xe s
def PW (X:Cx) (e:Expr) (t:TT):Prop:=
 ∀ (whole:Sem Value) (pins:List (Addr × Obj)) (s:Shared) (σ:St) (H:Hp) (Q:Bool->Hp->Prop),Inv X pins σ H s->t σ H Q->wpAny (model X.prog X.w) X.A (isTrue e X.env whole) (TP X pins σ Q) X.xe s
theorem PW.pt {X:Cx} {e:Expr} {t:TT} (h:PW X e t):PT X e t:=h _
def PA (X:Cx) (es:List Expr) (t:TA):Prop:=
 ∀ (pos:Pos) (pins:List (Addr × Obj)) (s:Shared) (σ:St) (H:Hp) (Q:List V->Hp->Prop),Inv X pins σ H s->t σ H Q->wpAny (model X.prog X.w) X.A (spliced (backTo pos (starEach es X.env))) (AP X pins σ Q) X.xe s
def PS (X:Cx) (st:Stmt) (t:TS):Prop:=
 ∀ (pins:List (Addr × Obj)) (s:Shared) (σ:St) (H:Hp) (D:Ends),Inv X pins σ H s->t D σ H->wpAny (model X.prog X.w) X.A (exec st X.env) (SP X pins D) X.xe s
def PSs (X:Cx) (st:List Stmt) (t:TS):Prop:=
 ∀ (pins:List (Addr × Obj)) (s:Shared) (σ:St) (H:Hp) (D:Ends),Inv X pins σ H s->t D σ H->wpAny (model X.prog X.w) X.A (execs st X.env) (SP X pins D) X.xe s
theorem thn {α:Type} {t:Sem α} {Q Q':α -> Shared->Prop} {M:Model} {A:Around} {E:Value->Shared->Prop} {s:Shared} (h:wpAny M A t Q E s) (hQ:∀ a s,Q a s->Q' a s):wpAny M A t Q' E s:=wpAny_mono h hQ fun _ _ x=>x
theorem tokQ {α:Type} {t:Sem α} {Q:α -> Shared->Prop} {M:Model} {A:Around} {E:Value->Shared->Prop} {s:Shared} (h0:0 < s.toks) (h:wpAny M A t (fun a s'=>0 < s'.toks->Q a s') E s):wpAny M A t Q E s:=
 wpAny_mono (wpAny_toks_of (n:=1) h0 h) (fun _ _ z=>z.2 z.1) fun _ _ z=>z.2
section
variable {X:Cx}
noncomputable def tVar (i:Nat):TE:=fun σ H Q=>∃ v,σ[i]? = some (some v)/\Q v H
noncomputable def tC (v:V):TE:=fun _ H Q=>Q v H
theorem xu {i:Nat} {x:Str} {pos:Pos} (hN:X.N[i]? = some x) (hv:Vis X.env.scope x) (hd:(x == ("__debug__" : Str))=false:=by decide) (hcd:(x == ("__classdict__" : Str))=false:=by decide):PE X (.Name x pos) (tVar i):=by
 intro pins s σ H Q I h;obtain ⟨v,e,h⟩:=h;obtain ⟨m,hn,hl⟩:=I.loc;obtain ⟨u,r,l⟩:=hl i x v hN e hv;have fin:EP X pins σ Q u s:=⟨v,H,I,r,h⟩;rcases l with ⟨hk,hm⟩ | ⟨hk,c,hc,hcell⟩
 ·exact wpAny_Name (wpAny_loadName_local I.ok.kind hk hn hm fin) hd
 ·rcases hk with hk | hk
  ·exact wpAny_Name (wpAny_loadName_cell I.ok.kind hk hc hcell fin) hd
  ·exact wpAny_Name (wpAny_loadName_free I.ok.kind hk hc hcell fin hcd) hd
theorem ad {i j pos}:PE X (.Constant (.int i) j pos) (tC (.int i)):=fun _ _ _ H _ I h=>wpAny_Constant_int ⟨.int i,H,I.tok _,⟨_,rfl⟩,h⟩
theorem iy {b j pos}:PE X (.Constant (.bool b) j pos) (tC (.bl b)):=fun _ _ _ H _ I h=>Constant_bool ⟨.bl b,H,I,rfl,h⟩
theorem lE {j pos}:PE X (.Constant .none j pos) (tC .non):=fun _ _ _ H _ I h=>Constant_none ⟨.non,H,I,rfl,h⟩
theorem xB {x j pos}:PE X (.Constant (.str x) j pos) (tC (.str x)):=fun _ _ _ H _ I h=>Calls.Constant_str ⟨.str x,H,I.tok _,⟨_,rfl⟩,h⟩
def Gl (X:Cx) (x:Str):Prop:=X.env.kindOf x=some .globalImplicit
theorem jP {E:Value->Shared->Prop} {pins:List (Addr × Obj)} {s:Shared} {σ:St} {H:Hp} {x:Str} {u:Value} {pos:Pos} {Q:Value->Shared->Prop} (I:Inv X pins σ H s) (hg:Gl X x) (hm:X.mg x=some u) (h:Q u s)
  (hd:(x == ("__debug__" : Str))=false:=by decide):wpAny (model X.prog X.w) X.A (eval (.Name x pos) X.env) Q E s:=
 Calls.Name_function_global I.ok.kind hg (Calls.loadGlobal_global (by rw [I.ok.glob]; exact I.mod.glob.keeps I.bk) hm h) hd
theorem hZ {E:Value->Shared->Prop} {pins:List (Addr × Obj)} {s:Shared} {σ:St} {H:Hp} {x:Str} {u:Value} {pos:Pos} {Q:Value->Shared->Prop} (I:Inv X pins σ H s) (hg:Gl X x) (hm:X.mg x=none) (hv:bootBuiltins x=some u) (h:Q u s)
  (hn:x ≠ "__name__" := by decide) (hd:(x == ("__debug__" : Str))=false:=by decide):wpAny (model X.prog X.w) X.A (eval (.Name x pos) X.env) Q E s:=by
 obtain ⟨mb,h1,h2⟩:=I.mod.blt;exact Calls.Name_function_global I.ok.kind hg (Calls.loadGlobal_builtin (by rw [I.ok.glob]; exact I.mod.glob.keeps I.bk) hm (by rw [I.ok.blt]; exact h1.keeps I.bk) ((h2 x hn).trans hv) h) hd
theorem zv {x:Str} {v:V} {u:Value} {pos:Pos} (hg:Gl X x) (hm:X.mg x=some u) (r:RelV v u) (hd:(x == ("__debug__" : Str))=false:=by decide):PE X (.Name x pos) (tC v):=
 fun _ _ _ H _ I h=>jP I hg hm ⟨v,H,I,r,h⟩ hd
theorem y6 {x:Str} {v:V} {u:Value} {pos:Pos} (hg:Gl X x) (hm:X.mg x=none) (hv:bootBuiltins x=some u) (r:RelV v u) (hn:x ≠ "__name__" := by decide) (hd:(x == ("__debug__" : Str))=false:=by decide):PE X (.Name x pos) (tC v):=
 fun _ _ _ H _ I h=>hZ I hg hm hv ⟨v,H,I,r,h⟩ hn hd
variable {a b:Expr} {ta tb:TE} {pos:Pos}
noncomputable def tB (t:TE):TT:=fun σ H Q=>t σ H fun x H1=>∃ c,x=.bl c/\Q c H1
theorem Bc {e:Expr} {t:TE} (h:PE X e t) (he:∀ whole,isTrue e X.env whole=(do let v <- whole; standAt e.pos; holding [v] (truthy v)):=by intro _; rfl):PT X e (tB t):=by
 intro pins s σ H Q I hw;refine isTrue_plain (thn (h pins s σ H _ I hw) fun v s1 ⟨x,H1,I1,r1,q1⟩=>?_) (he _);obtain ⟨d,rfl,q⟩:=q1;cases r1;exact wpAny_truthy_bool ⟨H1,I1,q⟩
variable {tA tB':TT} {rest:List Expr}
noncomputable def tAnd (t u:TT):TT:=fun σ H Q=>t σ H fun c H1=>if c=true then u σ H1 Q else Q false H1
noncomputable def tOr (t u:TT):TT:=fun σ H Q=>t σ H fun c H1=>if c=true then Q true H1 else u σ H1 Q
noncomputable def tNot (t:TT):TT:=fun σ H Q=>t σ H fun c H1=>Q (!c) H1
theorem uU (ha:PT X a tA):PW X (.BoolOp .And [a] pos) tA:=by
 intro wh pins s σ H Q I h;refine isTrue_and (thn (ha pins s σ H Q I h) fun c s1 e=>?_);cases c with
 | true=>exact isTrue_and_nil e
 | false=>exact e
theorem oS (ha:PT X a tA):PW X (.BoolOp .Or [a] pos) tA:=by
 intro wh pins s σ H Q I h;refine isTrue_or (thn (ha pins s σ H Q I h) fun c s1 e=>?_);cases c with
 | false=>exact isTrue_or_nil e
 | true=>exact e
theorem xx (ha:PT X a tA) (hb:PW X (.BoolOp .And (b::rest) pos) tB'):PW X (.BoolOp .And (a::b::rest) pos) (tAnd tA tB'):=by
 intro wh pins s σ H Q I h;refine isTrue_and (thn (ha pins s σ H _ I h) fun c s1 ⟨H1,I1,q1⟩=>?_);cases c with
 | true=>exact hb wh pins s1 σ H1 Q I1 q1
 | false=>exact ⟨H1,I1,q1⟩
theorem qI (ha:PT X a tA) (hb:PW X (.BoolOp .Or (b::rest) pos) tB'):PW X (.BoolOp .Or (a::b::rest) pos) (tOr tA tB'):=by
 intro wh pins s σ H Q I h;refine isTrue_or (thn (ha pins s σ H _ I h) fun c s1 ⟨H1,I1,q1⟩=>?_);cases c with
 | true=>exact ⟨H1,I1,q1⟩
 | false=>exact hb wh pins s1 σ H1 Q I1 q1
theorem gp (ha:PT X a tA):PT X (.UnaryOp .Not a pos) (tNot tA):=by
 intro pins s σ H Q I h;exact isTrue_not (ha pins s σ H (fun c H1=>Q (!c) H1) I h)
noncomputable def tAndV (ta tb:TE):TE:=fun σ H Q=>ta σ H fun x H1=>∃ c,x=.bl c/\if c=true then tb σ H1 Q else Q (.bl false) H1
theorem lB {op} {t:TE} (h:PE X a t):PE X (.BoolOp op [a] pos) t:=fun pins s σ H Q I hw=>BoolOp_one (h pins s σ H Q I hw)
theorem Am (ha:PE X a ta) (hb:PE X (.BoolOp .And (b::rest) pos) tb):PE X (.BoolOp .And (a::b::rest) pos) (tAndV ta tb):=by
 intro pins s σ H Q I h;refine BoolOp_and (thn (ha pins s σ H _ I h) fun v s1 ⟨x,H1,I1,r1,q1⟩=>?_);obtain ⟨c,rfl,q1⟩:=q1;cases r1;refine wpAny_truthy_bool ?_;cases c with
 | true=>exact hb pins s1 σ H1 Q I1 q1
 | false=>exact ⟨.bl false,H1,I1,rfl,q1⟩
end
def SqL (K:Frag) (H:Hp) (a:Addr) (xs:List V):Prop:=
 Rd H a (.lst xs) \/
  ∃ (o:Obj) (its:Array Value) (n:Nat),K.lookup a=some o/\o.cls=.type "list" /\ o.dict=none/\o.data=.seq its n/\its.size<=sizeLine/\Vals xs its.toList
def SqT (K:Frag) (H:Hp) (a:Addr) (xs:List V):Prop:=
 Rd H a (.tup xs) \/
  ∃ (o:Obj) (its:Array Value) (n:Nat),K.lookup a=some o/\o.cls=.type "tuple" /\ o.data=.seq its n/\its.size<=sizeLine/\Vals xs its.toList
noncomputable def absV:Value->Option V
 | .none=>some .non
 | .bool b=>some (.bl b)
 | .int i _=>some (.int i)
 | .str x _=>some (.str x)
 | .bytes b _=>some (.byt b)
 | .float b _=>some (.flt b)
 | .ref a=>some (.ref a)
 | .type n=>some (.ty n)
 | _=>none
theorem RelV.abs {x:V} {u:Value} (r:RelV x u):absV u=some x:=by
 cases x with
 | non=>cases r; rfl
 | bl _=>cases r; rfl
 | int _=>obtain ⟨t,rfl⟩:=r; rfl
 | str _=>obtain ⟨t,rfl⟩:=r; rfl
 | byt _=>obtain ⟨t,rfl⟩:=r; rfl
 | flt _=>obtain ⟨t,rfl⟩:=r; rfl
 | ref _=>cases r; rfl
 | ty _=>cases r; rfl
theorem RelV.inj {x y:V} {u:Value} (r:RelV x u) (q:RelV y u):x=y:=Option.some.inj (r.abs.symm.trans q.abs)
theorem Vals.inj:∀ {xs ys:List V} {us:List Value},Vals xs us->Vals ys us->xs=ys
 | _,_,_,.nil,.nil=>rfl
 | _,_,_,.cons r t,.cons r' t'=>by rw [r.inj r',Vals.inj t t']
section
variable {X:Cx} {pins:List (Addr × Obj)} {σ:St} {H:Hp} {s:Shared} {a:Addr} {xs ys:List V}
theorem SqL.of {K:Frag} (h:H a=some (.lst xs)):SqL K H a xs:=.inl (.inl h)
theorem SqT.of {K:Frag} (h:H a=some (.tup xs)):SqT K H a xs:=.inl (.inl h)
theorem Inv.list (I:Inv X pins σ H s) (h:SqL X.K H a xs):∃ its:List Value,Vals xs its/\PlainL s.heap a its.toArray/\xs.length<=sizeLine:=by
 rcases h with h | ⟨o,its,n,hk,hc,hd,hs,hz,r⟩
 ·obtain ⟨z,its,n,r,e⟩:=h.ok I.hok;exact ⟨its,r,⟨_,n,e,rfl,rfl,rfl⟩,z⟩
 ·refine ⟨its.toList,r,⟨o,n,I.kIn a o hk,hc,hd,by simpa using hs⟩,?_⟩;have e:=r.length;simp only [Array.length_toList] at e;omega
theorem Inv.tuple (I:Inv X pins σ H s) (h:SqT X.K H a xs):∃ its:List Value,Vals xs its/\IsTup s.heap a its.toArray/\xs.length<=sizeLine:=by
 rcases h with h | ⟨o,its,n,hk,hc,hs,hz,r⟩
 ·obtain ⟨z,its,r,p⟩:=h.ok I.hok;exact ⟨its,r,p,z⟩
 ·refine ⟨its.toList,r,⟨o,I.kIn a o hk,hc,n,by simpa using hs⟩,?_⟩;have e:=r.length;simp only [Array.length_toList] at e;omega
theorem Inv.list_inj (I:Inv X pins σ H s) (h:SqL X.K H a xs) (h':SqL X.K H a ys):xs=ys:=by
 obtain ⟨its,r,⟨o,n,e,_,_,d⟩,_⟩:=I.list h;obtain ⟨its',r',⟨o',n',e',_,_,d'⟩,_⟩:=I.list h';rw [e] at e'; cases e';rw [d] at d';injection d' with d1 _
 have:its=its':=by simpa using congrArg Array.toList d1
 subst this;exact r.inj r'
theorem Inv.tuple_inj (I:Inv X pins σ H s) (h:SqT X.K H a xs) (h':SqT X.K H a ys):xs=ys:=by
 obtain ⟨its,r,⟨o,e,_,n,d⟩,_⟩:=I.tuple h;obtain ⟨its',r',⟨o',e',_,n',d'⟩,_⟩:=I.tuple h';rw [e] at e'; cases e';rw [d] at d';injection d' with d1 _
 have:its=its':=by simpa using congrArg Array.toList d1
 subst this;exact r.inj r'
end
noncomputable abbrev Cx.wish (X:Cx) (E:Value->Shared->Prop):Cx:={ X with xe:=E }
noncomputable abbrev Cx.nox (X:Cx):Cx:=X.wish fun _ _=>False
theorem Cx.Ok.wish {X:Cx} (ok:X.Ok) (E:Value->Shared->Prop):(X.wish E).Ok:=
 ⟨ok.mod,ok.kind,ok.glob,ok.blt,ok.above,ok.inj,ok.has,ok.cab,ok.hd,ok.frames,ok.stk,ok.exf,ok.bs,ok.bsz,ok.noex,ok.exfs,ok.funs,ok.frf⟩
theorem Cx.Ok.unwish {X:Cx} {E:Value->Shared->Prop} (ok:(X.wish E).Ok):X.Ok:=
 ⟨ok.mod,ok.kind,ok.glob,ok.blt,ok.above,ok.inj,ok.has,ok.cab,ok.hd,ok.frames,ok.stk,ok.exf,ok.bs,ok.bsz,ok.noex,ok.exfs,ok.funs,ok.frf⟩
section
variable {X:Cx} {pins:List (Addr × Obj)} {σ:St} {H:Hp} {s:Shared} {E:Value->Shared->Prop}
theorem Inv.wish (I:Inv X pins σ H s) (E:Value->Shared->Prop):Inv (X.wish E) pins σ H s:=⟨I.ok.wish E,I.os,I.bare,I.base,I.loc,I.cell,I.free,I.freeC,I.pin,I.hok,I.len,I.tk⟩
theorem Inv.unwish (I:Inv (X.wish E) pins σ H s):Inv X pins σ H s:=⟨I.ok.unwish,I.os,I.bare,I.base,I.loc,I.cell,I.free,I.freeC,I.pin,I.hok,I.len,I.tk⟩
theorem SP.unwish {D:Ends} {f:Flow} {s':Shared} (h:SP (X.wish E) pins D f s'):SP X pins D f s':=by
 cases f with
 | next=>obtain ⟨σ',H',I,q⟩:=h; exact ⟨σ',H',I.unwish,q⟩
 | brk=>obtain ⟨σ',H',I,q⟩:=h; exact ⟨σ',H',I.unwish,q⟩
 | cont=>obtain ⟨σ',H',I,q⟩:=h; exact ⟨σ',H',I.unwish,q⟩
 | ret u=>obtain ⟨v,σ',H',I,r,q⟩:=h; exact ⟨v,σ',H',I.unwish,r,q⟩
theorem PSs.nox {st:List Stmt} {t:TS} (h:PSs X.nox st t):PSs X st t:=fun pins s σ H D I hw=>
 wpAny_mono (h pins s σ H D (I.wish _) hw) (fun _ _ q=>q.unwish) fun _ _ z=>False.elim z
end
section
variable {X:Cx} {st:Stmt} {rest:List Stmt} {t u:TS} {e:Expr} {te:TE} {pos:Pos}
noncomputable def tNext:TS:=fun D σ H=>D.nx σ H
noncomputable def tSeq (t u:TS):TS:=fun D σ H=>t { D with nx:=u D } σ H
theorem ar:PSs X [] tNext:=fun _ _ σ H _ I h=>wpAny_execs_nil ⟨σ,H,I,h⟩
theorem ae (h1:PS X st t) (h2:PSs X rest u):PSs X (st::rest) (tSeq t u):=by
 intro pins s σ H D I h;refine wpAny_execs_cons (thn (h1 pins s σ H { D with nx:=u D } I h) fun f s1 q=>?_);cases f with
 | next=>
  obtain ⟨σ',H',I',q⟩:=q;exact h2 pins s1 σ' H' D I' q
 | ret v=>exact q
 | brk=>exact q
 | cont=>exact q
theorem af (h1:PS X st t):PSs X [st] t:=by
 intro pins s σ H D I h;refine wpAny_execs_cons (thn (h1 pins s σ H D I h) fun f s1 q=>?_);cases f with
 | next=>exact wpAny_execs_nil q
 | ret v=>exact q
 | brk=>exact q
 | cont=>exact q
theorem Inv.quiet {pins:List (Addr × Obj)} {σ:St} {H:Hp} {s:Shared} (I:Inv X pins σ H s):interactive X.env=false:=by simp [interactive,I.ok.kind]
noncomputable def tDrop (te:TE):TS:=fun D σ H=>te σ H fun _ H1=>D.nx σ H1
theorem aF (he:PE X e te) (hs:swapsWith e none pos.line X.env=pure false:=by rfl):PS X (.Expr e pos) (tDrop te):=by
 intro pins s σ H D I h;exact wpAny_Expr_any (thn (he pins s σ H _ I h) fun v s1 ⟨x,H1,I1,r1,q1⟩=>⟨σ,H1,I1,q1⟩) I.quiet hs
noncomputable def tRet (te:TE):TS:=fun D σ H=>te σ H D.rt
theorem aw (he:PE X e te):PS X (.Return (some e) pos) (tRet te):=by
 intro pins s σ H D I h;exact wpAny_Return_some (thn (he pins s σ H _ I h) fun v s1 ⟨x,H1,I1,r1,q1⟩=>⟨x,σ,H1,I1,r1,q1⟩)
noncomputable def tRetN:TS:=fun D _ H=>D.rt .non H
theorem va:PS X (.Return none pos) tRetN:=fun _ _ σ H _ I h=>wpAny_Return_none ⟨.non,σ,H,I,rfl,h⟩
noncomputable def tIfS (c:TT) (t u:TS):TS:=fun D σ H=>c σ H fun b H1=>if b=true then t D σ H1 else u D σ H1
theorem aE {c:Expr} {a b:List Stmt} {tc:TT} (hc:PT X c tc) (ha:PSs X a t) (hb:PSs X b u):PS X (.If c a b pos) (tIfS tc t u):=by
 intro pins s σ H D I h;refine wpAny_If (thn (hc pins s σ H _ I h) fun d s1 ⟨H1,I1,q1⟩=>?_);cases d with
 | true=>exact ha pins s1 σ H1 D I1 q1
 | false=>exact hb pins s1 σ H1 D I1 q1
end
noncomputable abbrev TG:=V->St->Hp->(St->Hp->Prop)->Prop
noncomputable abbrev TGs:=List V->St->Hp->(St->Hp->Prop)->Prop
def PG (X:Cx) (target:Expr) (t:TG):Prop:=
 ∀ (pins:List (Addr × Obj)) (s:Shared) (σ:St) (H:Hp) (v:V) (u:Value) (Q:St->Hp->Prop),Inv X pins σ H s->RelV v u->t v σ H Q ->
  wpAny (model X.prog X.w) X.A (assign target X.env u) (fun _ s'=>∃ σ' H',Inv X pins σ' H' s'/\Q σ' H') X.xe s
def PGs (X:Cx) (ts:List Expr) (t:TGs):Prop:=
 ∀ (pins:List (Addr × Obj)) (s:Shared) (σ:St) (H:Hp) (vs:List V) (us:List Value) (Q:St->Hp->Prop),Inv X pins σ H s->Vals vs us->t vs σ H Q ->
  wpAny (model X.prog X.w) X.A (assignInOrder ((assignEach ts X.env).map (·.2)) us) (fun _ s'=>∃ σ' H',Inv X pins σ' H' s'/\Q σ' H') X.xe s
noncomputable abbrev TSet:=V->V->V->Hp->(Hp->Prop)->Prop
def PSet (X:Cx) (t:TSet):Prop:=
 ∀ (pins:List (Addr × Obj)) (s:Shared) (σ:St) (H:Hp) (o i v:V) (ov iv u:Value) (Q:Hp->Prop),Inv X pins σ H s->RelV o ov->RelV i iv->RelV v u->t o i v H Q ->
  wpAny (model X.prog X.w) X.A (setItem ov iv u) (fun _ s'=>∃ H',Inv X pins σ H' s'/\Q H') X.xe s
section
variable {X:Cx} {pos:Pos}
noncomputable def gName (i:Nat):TG:=fun v σ H Q=>Q (σ.set i (some v)) H
theorem al {i:Nat} {x:Str} (hN:X.N.Nodup) (hi:X.N[i]? = some x) (hx:Loc X.env.scope x) (hf:X.fn x=true\/X.env.scope.names.lookup x=some .local:=by first | exact .inl rfl | exact .inr rfl | assumption):PG X (.Name x pos) (gName i):=by
 intro pins s σ H v u Q I r h;exact wpAny_assign_Name (pj I hN hi hx r (fun s' I'=>⟨_,H,I',h⟩) hf)
noncomputable def gNil:TGs:=fun vs σ H Q=>vs=[]/\Q σ H
noncomputable def gCons (t:TG) (u:TGs):TGs:=fun vs σ H Q=>∃ v r,vs=v::r/\t v σ H fun σ' H'=>u r σ' H' Q
theorem aR:PGs X [] gNil:=by
 intro pins s σ H vs us Q I r h;obtain ⟨e,h⟩:=h;subst e;cases r;exact assignInOrder_nil ⟨σ,H,I,h⟩
theorem ap {e:Expr} {es:List Expr} {t:TG} {u:TGs} (h1:PG X e t) (h2:PGs X es u)
  (hs:(assignEach (e::es) X.env).map (·.2)=assign e X.env::(assignEach es X.env).map (·.2):=by rfl):PGs X (e::es) (gCons t u):=by
 intro pins s σ H vs us Q I r h;obtain ⟨v,vr,e1,h⟩:=h;subst e1;cases r with
 | cons r rr=>
  rw [hs];refine assignInOrder_cons (thn (h1 pins s σ H _ _ _ I r h) fun _ s1 ⟨σ1,H1,I1,q1⟩=>?_);exact h2 pins s1 σ1 H1 _ _ Q I1 rr q1
noncomputable def gTup (K:Frag) (n:Nat) (t:TGs):TG:=fun v σ H Q=>∃ a xs,v=.ref a/\SqT K H a xs/\xs.length=n/\t xs σ H Q
theorem xQ {es:List Expr} {k:Nat} {t:TGs} {n:Nat} (hc:X.calm=true) (h:PGs X es t)
  (hn:(assignEach es X.env).length=n:=by rfl) (hst:(assignEach es X.env).findIdx? (·.1)=none:=by rfl):PG X (.Tuple es k pos) (gTup X.K n t):=by
 intro pins s σ H v u Q I r hw;obtain ⟨a,xs,e1,hq,hl,hw⟩:=hw;subst e1;cases r;obtain ⟨its,rv,ht,hz⟩:=I.tuple hq;refine assign_Tuple_tuple (I.ok.hd hc) ht (by simp [hn,<- hl,rv.length]) hst fun h' hx=>?_
 have I1:Inv X pins σ H { s with heap:=h' }:=I.kept (t':=s.toks) fun b o e=>hx b o (Nat.ne_of_lt (Heap.lt_size e)) e
 exact h pins _ σ H xs _ Q I1 (by simpa using rv) hw
noncomputable def gSub (to ti:TE) (t:TSet):TG:=fun v σ H Q=>to σ H fun o H1=>ti σ H1 fun i H2=>t o i v H2 fun H3=>Q σ H3
theorem qV {o i:Expr} {to ti:TE} {t:TSet} (ho:PE X o to) (hi:PE X i ti) (hs:PSet X t)
  (ha:∀ v,assign (.Subscript o i pos) X.env v=(do
   let ov <- holding [v] (eval o X.env)
   let iv <- holding [v,ov] (eval i X.env)
   standAt pos
   holding [v,ov,iv] (setItem ov iv v)
   release [v,ov,iv] []):=by intro _; rfl):PG X (.Subscript o i pos) (gSub to ti t):=by
 intro pins s σ H v u Q I r h;rw [ha];refine wpAny_bind (wpAny_holding (thn (ho pins s σ H _ I h) fun ov s1 ⟨x,H1,I1,r1,q1⟩=>?_));refine wpAny_bind (wpAny_holding (thn (hi pins s1 σ H1 _ I1 q1) fun iv s2 ⟨y,H2,I2,r2,q2⟩=>?_));refine wpAny_bind (wpAny_standAt (wpAny_bind (wpAny_holding (thn (hs pins s2 σ H2 x y v ov iv u _ I2 r1 r2 r q2) fun _ s3 ⟨H3,I3,q3⟩=>?_))));exact wpAny_release ⟨σ,H3,I3,q3⟩
noncomputable def tAsg (te:TE) (g:TG):TS:=fun D σ H=>te σ H fun x H1=>g x σ H1 D.nx
theorem fO {tg e:Expr} {te:TE} {g:TG} (he:PE X e te) (hg:PG X tg g) (hs:swapsWithSole [tg] e pos.line X.env=pure false:=by rfl) (hw:swappedStores [tg] e X.env=pure none:=by rfl)
  (h1:(assignEach [tg] X.env).map (·.2)=[assign tg X.env]:=by rfl):PS X (.Assign [tg] e pos) (tAsg te g):=by
 intro pins s σ H D I h;refine wpAny_Assign_stores (thn (he pins s σ H _ I h) fun v s1 ⟨x,H1,I1,r1,q1⟩=>?_) hs hw;rw [h1];exact thn (hg pins s1 σ H1 x v _ I1 r1 q1) fun _ s2 q=>q
theorem ao {i:Nat} {x:Str} {e:Expr} {te:TE} {pos':Pos} (hN:X.N.Nodup) (hi:X.N[i]? = some x) (hx:Loc X.env.scope x) (he:PE X e te) (hs:swapsWith e (some (.Name x pos')) pos.line X.env=pure false:=by rfl) (hf:X.fn x=true\/X.env.scope.names.lookup x=some .local:=by first | exact .inl rfl | exact .inr rfl | assumption):
  PS X (.Assign [.Name x pos'] e pos) (tAsg te (gName i)):=by
 intro pins s σ H D I h;refine wpAny_Assign_Name (thn (he pins s σ H _ I h) fun v s1 ⟨y,H1,I1,r1,q1⟩=>?_) hs;exact pj I1 hN hi hx r1 (fun s2 I2=>⟨_,H1,I2,q1⟩) hf
end
section
variable {X:Cx} {pos:Pos}
noncomputable def tWhile (c:TT) (tb:TS):TS:=fun D σ H=>∃ W:Nat->St->Hp->Prop,(∃ m,W m σ H)/\∀ m σ H,W m σ H ->
 c σ H fun b H1=>if b=true then ∃ N:St->Hp->Prop,(∀ σ' H',N σ' H'->∃ m',m' < m/\W m' σ' H')/\tb { D with nx:=N,ct:=N,bk:=D.nx } σ H1 else D.nx σ H1
theorem x5 {c:Expr} {body:List Stmt} {tc:TT} {tb:TS} (hp:PassesOwn (model X.prog X.w) X.A X.env X.xe) (hc:PT X c tc) (hb:PSs X body tb):PS X (.While c body [] pos) (tWhile tc tb):=by
 intro pins s σ H D I h;obtain ⟨W,⟨m0,w0⟩,turn⟩:=h;refine wpAny_While (codeAny_whileLoop (fun n s'=>∃ σ' H',Inv X pins σ' H' s'/\W n σ' H') ?_ m0 ⟨σ,H,I,w0⟩);rintro n s1 ⟨σ1,H1,I1,w1⟩;refine wpAny_passesOwn hp (thn (hc pins s1 σ1 H1 _ I1 (turn n σ1 H1 w1)) fun b s2 ⟨H2,I2,q2⟩=>?_);cases b with
 | true=>
  obtain ⟨N,hN,q2⟩:=q2;rw [if_pos rfl];refine wpAny_passesOwn hp (thn (hb pins s2 σ1 H2 _ I2 q2) fun f s3 q3=>?_);cases f with
  | next=>
   obtain ⟨σ3,H3,I3,n3⟩:=q3;obtain ⟨m',hm,w3⟩:=hN σ3 H3 n3;exact ⟨m',hm,σ3,H3,I3,w3⟩
  | cont=>
   obtain ⟨σ3,H3,I3,n3⟩:=q3;obtain ⟨m',hm,w3⟩:=hN σ3 H3 n3;exact ⟨m',hm,σ3,H3,I3,w3⟩
  | brk=>exact q3
  | ret v=>exact q3
 | false=>
  rw [if_neg Bool.false_ne_true];exact wpAny_execs_nil ⟨σ1,H2,I2,q2⟩
end
structure It where
 go:Nat->Hp->Prop
 yld:Nat->Hp->V->Hp->Prop
 stop:Nat->Hp->Prop
def FpOk (X:Cx) (pins:List (Addr × Obj)) (H:Hp) (b:Addr):Prop:=
 H b=none/\b≠X.env.locals/\b ∉ X.fs/\(b ∈ X.ex\/X.s₀.heap.objs.size<=b)/\(∀ x c,X.env.cells.lookup x=some c->c≠b)/\∀ p ∈ X.pn++pins,p.1≠b
theorem Inv.fpOk {X:Cx} {pins:List (Addr × Obj)} {σ:St} {H H':Hp} {s:Shared} {b:Addr} (I:Inv X pins σ H s) (hb:s.heap.objs.size<=b) (hn:H' b=none):FpOk X pins H' b:=by
 refine ⟨hn,Nat.ne_of_gt (Nat.lt_of_lt_of_le I.lt hb),I.nofs hb,.inr (Nat.le_trans I.sz hb),fun x c e z=>?_,fun p hp z=>?_⟩
 ·obtain ⟨v,q⟩:=I.cell x c e;exact absurd (Nat.lt_of_lt_of_le q.lt (by rw [z]; exact hb)) (Nat.lt_irrefl _)
 ·exact absurd (Nat.lt_of_lt_of_le (Heap.lt_size (I.pin p hp).1) (by rw [z]; exact hb)) (Nat.lt_irrefl _)
structure Turn (P:Program) (w:World) (K:Frag) (tg:Expr) (J:It) (fp:List Addr) (it:Addr) (tn:Nat->Heap->Prop):Prop where
 mem:it ∈ fp
 obj:∀ i h,tn i h->∀ b ∈ fp,∃ o,h.get? b=some o/\∀ v,o.data≠.cell v
 keep:∀ i h h',tn i h->(∀ b ∈ fp,∀ o,h.get? b=some o->h'.get? b=some o)->tn i h'
 item:∀ (X:Cx),X.prog=P->X.w=w->X.K=K->X.calm=true->∀ (i:Nat) (pins:List (Addr × Obj)) (s:Shared) (σ:St) (H:Hp) (E:Value->Shared->Prop),Inv X pins σ H s->(∀ b ∈ fp,FpOk X pins H b)->tn i s.heap->J.go i H ->
  wpAny (model P w) X.A (pyNext (.ref it)) (fun r s1=>∃ u,r=some u /\
   wpAny (model P w) X.A (letOwnedTupleGo tg (.ref it) u) (fun _ s2=>∃ x H',Inv X pins σ H' s2/\RelV x u/\J.yld i H x H'/\tn (i+1) s2.heap/\∀ b ∈ fp,H' b=none) E s1) E s
 done:∀ (X:Cx),X.prog=P->X.w=w->X.K=K->X.calm=true->∀ (i:Nat) (pins:List (Addr × Obj)) (s:Shared) (σ:St) (H:Hp) (E:Value->Shared->Prop),Inv X pins σ H s->(∀ b ∈ fp,FpOk X pins H b)->tn i s.heap->J.stop i H ->
  wpAny (model P w) X.A (pyNext (.ref it)) (fun r s1=>r=none/\Inv X pins σ H s1) E s
 self:∀ (A:Around) (i:Nat) (s:Shared) (Q:Value->Shared->Prop) (E:Value->Shared->Prop),tn i s.heap->Q (.ref it) s->wpAny (model P w) A (pyIter (.ref it)) Q E s
noncomputable abbrev TI:=St->Hp->(It->Hp->Prop)->Prop
def PIE (X:Cx) (pins:List (Addr × Obj)) (σ:St) (tg:Expr) (R:It->Hp->Prop) (itv:Value) (s2:Shared):Prop:=
 ∃ (it:Addr) (fp:List Addr) (tn:Nat->Heap->Prop) (J:It) (H':Hp),itv=.ref it/\Inv X pins σ H' s2/\Turn X.prog X.w X.K tg J fp it tn/\tn 0 s2.heap/\(∀ b ∈ fp,FpOk X pins H' b)/\R J H'
def PI (X:Cx) (tg iter:Expr) (wi:TI):Prop:=
 ∀ (pins:List (Addr × Obj)) (s:Shared) (σ:St) (H:Hp) (R:It->Hp->Prop),Inv X pins σ H s->wi σ H R ->
  wpAny (model X.prog X.w) X.A (eval iter X.env) (fun v s1=>wpAny (model X.prog X.w) X.A (pyIter v) (PIE X pins σ tg R) X.xe s1) X.xe s
theorem uG {M:Model} {A:Around} {E:Value->Shared->Prop} {s:Shared} {tg:Expr} {it:Addr} {u:Value} {o:Obj} {n:String} {vs:Array Value} {Q:Unit->Shared->Prop} (ho:s.heap.get? it=some o) (hc:o.cls=.type n) (hd:o.data=.fields vs)
  (hn:["enumerate", "zip", "dict_itemiterator", "dict_reverseitemiterator", "odict_iterator", "itertools.zip_longest", "itertools.pairwise"].contains n=false) (hQ:Q () s):wpAny M A (letOwnedTupleGo tg (.ref it) u) Q E s:=by
 unfold letOwnedTupleGo;cases tg <;> first
  | exact wpAny_pure hQ
  | (cases u <;> first
    | exact wpAny_pure hQ
    | (refine wpAny_bind (wpAny_load ho ?_); rw [hc,hd]; show wpAny M A (if (["enumerate", "zip", "dict_itemiterator", "dict_reverseitemiterator", "odict_iterator", "itertools.zip_longest", "itertools.pairwise"].contains n && vs[0]? == some (rawInt _))=true then _ else _) Q E s; rw [if_neg (by intro h; rw [hn,Bool.false_and] at h; cases h)]; exact wpAny_pure hQ))
noncomputable def Itl (K:Frag) (a:Addr):It:=
 ⟨fun i H=>∃ xs x,SqL K H a xs/\xs[i]? = some x,fun i H x H'=>H'=H/\∀ xs,SqL K H a xs->xs[i]? = some x,fun i H=>∃ xs,SqL K H a xs/\xs.length<=i⟩
noncomputable def Itt (K:Frag) (a:Addr):It:=
 ⟨fun i H=>∃ xs x,SqT K H a xs/\xs[i]? = some x,fun i H x H'=>H'=H/\∀ xs,SqT K H a xs->xs[i]? = some x,fun i H=>∃ xs,SqT K H a xs/\xs.length<=i⟩
noncomputable def Itr (lo:Int) (n:Nat):It:=⟨fun i _=>i < n,fun i H x H'=>H'=H/\x=.int (lo+i),fun i _=>n<=i⟩
theorem vT {P:Program} {w:World} {K:Frag} {tg:Expr} (a it:Addr):Turn P w K tg (Itl K a) [it] it (fun i h=>h.IsListIter it a i) where
 mem:=by simp
 obj:=fun i h st b hb=>by
  have e:b=it:=by simpa using hb
  subst e;obtain ⟨o,e,c,d⟩:=st;exact ⟨o,e,fun v z=>by rw [d] at z; cases z⟩
 keep:=fun i h h' st k=>st.at fun o e=>k it (by simp) o e
 item:=by
  intro X hP hw hK hc i pins s σ H E I hf st hg;subst hP hw hK;obtain ⟨xs,x,hq,hx⟩:=hg;obtain ⟨its,rv,p,hz⟩:=I.list hq;obtain ⟨u,hu,ru⟩:=rv.get hx;obtain ⟨f0,f1,f2,f3,f4,f5⟩:=hf it (by simp);refine wpAny_pyNext_list_item st p.isList (x:=u) (by simpa using hu) fun h' st' sb=>?_
  have I1:Inv X pins σ H { s with heap:=h' }:=I.turned (t':=s.toks) (fun b o hb e=>(sb.2 b hb).trans e) f0 f1 f3 f4 f5;obtain ⟨o,e,c,d⟩:=id st';exact ⟨u,rfl,uG (s:={ s with heap:=h' }) e c d (by decide) ⟨x,H,I1,ru,⟨rfl,fun ys hy=>by rw [I.list_inj hy hq]; exact hx⟩,st',fun b hb=>(hf b hb).1⟩⟩
 done:=by
  intro X hP hw hK hc i pins s σ H E I hf st hg;subst hP hw hK;obtain ⟨xs,hq,hx⟩:=hg;obtain ⟨its,rv,p,hz⟩:=I.list hq;obtain ⟨f0,f1,f2,f3,f4,f5⟩:=hf it (by simp);have hl:=rv.length;exact wpAny_pyNext_list_end (I.ok.hd hc) st p.isList (by simp; omega) fun h' eb=>⟨rfl,I.turned (t':=s.toks) (fun b o hb e=>eb b o hb e) f0 f1 f3 f4 f5⟩
 self:=fun _ _ _ _ _ st h=>wpAny_pyIter_listiter st h
theorem uw {P:Program} {w:World} {K:Frag} {tg:Expr} (a it:Addr):Turn P w K tg (Itt K a) [it] it (fun i h=>h.IsTupleIter it a i) where
 mem:=by simp
 obj:=fun i h st b hb=>by
  have e:b=it:=by simpa using hb
  subst e;obtain ⟨o,e,c,d⟩:=st;exact ⟨o,e,fun v z=>by rw [d] at z; cases z⟩
 keep:=fun i h h' st k=>st.at fun o e=>k it (by simp) o e
 item:=by
  intro X hP hw hK hc i pins s σ H E I hf st hg;subst hP hw hK;obtain ⟨xs,x,hq,hx⟩:=hg;obtain ⟨its,rv,p,hz⟩:=I.tuple hq;obtain ⟨u,hu,ru⟩:=rv.get hx;obtain ⟨f0,f1,f2,f3,f4,f5⟩:=hf it (by simp);refine wpAny_pyNext_tuple_item st (show s.heap.IsTuple a its.toArray from p) (x:=u) (by simpa using hu) fun h' st' sb=>?_
  have I1:Inv X pins σ H { s with heap:=h' }:=I.turned (t':=s.toks) (fun b o hb e=>(sb.2 b hb).trans e) f0 f1 f3 f4 f5;obtain ⟨o,e,c,d⟩:=id st';exact ⟨u,rfl,uG (s:={ s with heap:=h' }) e c d (by decide) ⟨x,H,I1,ru,⟨rfl,fun ys hy=>by rw [I.tuple_inj hy hq]; exact hx⟩,st',fun b hb=>(hf b hb).1⟩⟩
 done:=by
  intro X hP hw hK hc i pins s σ H E I hf st hg;subst hP hw hK;obtain ⟨xs,hq,hx⟩:=hg;obtain ⟨its,rv,p,hz⟩:=I.tuple hq;obtain ⟨f0,f1,f2,f3,f4,f5⟩:=hf it (by simp);have hl:=rv.length;exact wpAny_pyNext_tuple_end (I.ok.hd hc) st (show s.heap.IsTuple a its.toArray from p) (by simp; omega) fun h' eb=>⟨rfl,I.turned (t':=s.toks) (fun b o hb e=>eb b o hb e) f0 f1 f3 f4 f5⟩
 self:=fun _ _ _ _ _ st h=>wpAny_pyIter_tupleiter st h
theorem uc {P:Program} {w:World} {K:Frag} {tg:Expr} (it:Addr) (lo:Int) (n:Nat):Turn P w K tg (Itr lo n) [it] it (fun i h=>IsRangeIter h it (lo+(i:Nat)*1) ((n:Int) - (i:Nat)) 1) where
 mem:=by simp
 obj:=fun i h st b hb=>by
  have e:b=it:=by simpa using hb
  subst e;exact ⟨_,st,fun v z=>by
   have z':Data.fields _=Data.cell v:=z;cases z'⟩
 keep:=fun i h h' st k=>k it (by simp) _ st
 item:=by
  intro X hP hw hK hc i pins s σ H E I hf st hg;subst hP hw hK;obtain ⟨f0,f1,f2,f3,f4,f5⟩:=hf it (by simp);have W:=Walks.range (prog:=X.prog) (w:=X.w) (I.ok.hd hc) it lo 1 n;refine tokQ I.tk (W.item i s _ _ hg st fun v h' tk hv st' kk (htk:0 < tk)=>?_);obtain ⟨t,rfl⟩:=hv;have I1:Inv X pins σ H { s with heap:=h',toks:=tk }:=I.turned (fun b o hb e=>kk b o (by simpa using hb) e) f0 f1 f3 f4 f5;refine ⟨_,rfl,uG (s:={ s with heap:=h',toks:=tk }) (n := "range_iterator") st' rfl rfl (by decide) ⟨.int (lo+i),H,I1,⟨t,?_⟩,⟨rfl,rfl⟩,st',fun b hb=>(hf b hb).1⟩⟩;rw [Int.mul_one]
 done:=by
  intro X hP hw hK hc i pins s σ H E I hf st hg;subst hP hw hK;obtain ⟨f0,f1,f2,f3,f4,f5⟩:=hf it (by simp);exact wpAny_pyNext_range_end (I.ok.hd hc) st (by have:n<=i:=hg; omega) fun h' eb=>⟨rfl,I.turned (t':=s.toks) (fun b o hb e=>eb b o hb e) f0 f1 f3 f4 f5⟩
 self:=fun _ _ _ _ _ st h=>wpAny_pyIter_rangeiter st h
section
variable {X:Cx} {tg:Expr}
theorem wI {pins:List (Addr × Obj)} {σ:St} {H:Hp} {s:Shared} {R:It->Hp->Prop} {E:Value->Shared->Prop} {lo hi:Int} {t u v:Tok} {tk:Nat} (I:Inv X pins σ H s) (h1:-(2 ^ 62)<=lo) (h2:lo < 2 ^ 62) (h3:-(2 ^ 62)<=hi) (h4:hi < 2 ^ 62)
  (q:R (Itr lo (hi - lo).toNat) H) (htk:0 < tk:=by first | assumption | exact Nat.succ_pos _ | (apply Inv.tk; assumption) | omega):wpAny (model X.prog X.w) X.A (pyIter (.ref s.heap.objs.size)) (PIE X pins σ tg R) E { s with heap:=s.heap.push { cls:=.type "range",data:=.fields #[.int lo t,.int hi u,.int 1 v] },toks:=tk }:=by
 refine wpAny_pyIter_range (IsRange.new ..) (small_one h1 h2 h3 h4) ?_;have I1:Inv X pins σ H { s with heap:=s.heap.push { cls:=.type "range",data:=.fields #[.int lo t,.int hi u,.int 1 v] },toks:=tk }:=I.kept fun b o e=>Heap.get?_push_of_some _ e
 refine ⟨(s.heap.push { cls:=.type "range",data:=.fields #[.int lo t,.int hi u,.int 1 v] }).objs.size,[(s.heap.push { cls:=.type "range",data:=.fields #[.int lo t,.int hi u,.int 1 v] }).objs.size],_,_,H,rfl,
  I1.kept (t':=tk) fun b o e=>Heap.get?_push_of_some _ e,uc _ lo (hi - lo).toNat,?_,fun b hb=>?_,q⟩
 ·have e1:lo+((0:Nat):Int)*1=lo:=by simp
  have e2:(((hi - lo).toNat:Nat):Int) - ((0:Nat):Int)=Builtin.Range.rangeSize lo hi 1:=by rw [rangeSize_one]; split <;> omega
  show IsRangeIter _ _ (lo+((0:Nat):Int)*1) ((((hi - lo).toNat:Nat):Int) - ((0:Nat):Int)) 1;rw [e1,e2];exact Heap.get?_push_size _ rfl
 ·have e:b=(s.heap.push { cls:=.type "range",data:=.fields #[.int lo t,.int hi u,.int 1 v] }).objs.size:=by simpa using hb
  subst e;exact I1.fpOk (Nat.le_refl _) (I1.hok.fresh (Nat.le_refl _))
noncomputable def iRng1 (ta:TA):TI:=fun σ H R=>ta σ H fun vs H1=>∃ j:Int,vs=[.int j] /\ -(2 ^ 62)<=j/\j < 2 ^ 62/\R (Itr 0 j.toNat) H1
theorem wA {a:Expr} {ta:TA} {p pos:Pos} (hg:Gl X "range") (hm:X.mg "range" = none) (ha:PA X [a] ta) (hs:starEach [a] X.env=[(false,eval a X.env)]:=by rfl):PI X tg (.Call (.Name "range" p) [a] [] pos) (iRng1 ta):=by
 intro pins s σ H R I h;refine Call_ (hZ I hg hm boot_range (PyProof.Rows.callWith_type1 (thn (ha pos pins s σ H _ I h) fun us s1 ⟨vs,H1,I1,r1,q1⟩=>?_) hs rfl));obtain ⟨j,e,q1,q2,q⟩:=q1;subst e;cases r1 with
 | cons r rr=>
  cases rr;obtain ⟨t,rfl⟩:=r;exact call_range_1 (wI I1 (by omega) (by omega) q1 q2 (by simpa using q))
noncomputable def tFor (wi:TI) (g:TG) (tb:TS):TS:=fun D σ H=>wi σ H fun J H1=>∃ W:Nat->Nat->St->Hp->Prop,(∃ m,W 0 m σ H1)/\∀ i m σ H,W i m σ H ->
 (J.stop i H/\D.nx σ H)\/(J.go i H/\∃ N:St->Hp->Prop,(∀ σ' H',N σ' H'->∃ m',m' < m/\W (i+1) m' σ' H')/\∀ x H',J.yld i H x H'->g x σ H' fun σ2 H2=>tb { D with nx:=N,ct:=N,bk:=D.nx } σ2 H2)
noncomputable def pinsAt (fp:List Addr) (h:Heap):List (Addr × Obj):=fp.filterMap fun b=>(h.get? b).map fun o=>(b,o)
theorem fQ {fp:List Addr} {h:Heap} {b:Addr} {o:Obj} (hb:b ∈ fp) (e:h.get? b=some o):(b,o) ∈ pinsAt fp h:=List.mem_filterMap.mpr ⟨b,hb,by rw [e]; rfl⟩
theorem vQ {fp:List Addr} {h:Heap} {p:Addr × Obj} (hp:p ∈ pinsAt fp h):p.1 ∈ fp/\h.get? p.1=some p.2:=by
 obtain ⟨b,hb,e⟩:=List.mem_filterMap.mp hp;cases q:h.get? b with
 | none=>rw [q] at e; cases e
 | some o=>
  rw [q] at e;have e':(b,o)=p:=Option.some.inj e;subst e';exact ⟨hb,q⟩
theorem Inv.pinned {pins:List (Addr × Obj)} {σ:St} {H:Hp} {s:Shared} {fp:List Addr} (I:Inv X pins σ H s) (hf:∀ b ∈ fp,FpOk X pins H b) (ho:∀ b ∈ fp,∃ o,s.heap.get? b=some o/\∀ v,o.data≠.cell v):Inv X (pins++pinsAt fp s.heap) σ H s:=
 I.pins_of fun p hp=>(List.mem_append.mp hp).elim (fun z=>I.pin p (List.mem_append_right _ z)) fun z=>by
  obtain ⟨hb,e⟩:=vQ z;obtain ⟨f0,f1,f2,_⟩:=hf p.1 hb;obtain ⟨o,e',d⟩:=ho p.1 hb;rw [e] at e'; cases e';exact ⟨e,f0,f1,f2,d⟩
theorem Inv.unpinned {pins pl:List (Addr × Obj)} {σ:St} {H:Hp} {s:Shared} (I:Inv X (pins++pl) σ H s):Inv X pins σ H s:=I.pins_of fun p hp=>I.pin p (List.mem_append_right _ (List.mem_append_left _ hp))
theorem A3 {iter:Expr} {body:List Stmt} {wi:TI} {g:TG} {tb:TS} {pos:Pos} (hp:PassesOwn (model X.prog X.w) X.A X.env X.xe) (hc:X.calm=true) (hi:PI X tg iter wi) (hg:PG X tg g) (hb:PSs X body tb)
  (hs:∀ x,foldedSetIterable iter X.env x=pure x:=by intro _; rfl):PS X (.For tg iter body [] pos) (tFor wi g tb):=by
 intro pins s σ H D I h;refine wpAny_For (thn (hi pins s σ H _ I h) fun v s1 h1=>thn h1 fun itv s2 h2=>?_) hs;obtain ⟨it,fp,tn,J,H2,e,I2,T,st2,f2,W,⟨m0,w0⟩,turn⟩:=h2;subst e;have stat:∀ {H':Hp},(∀ b ∈ fp,H' b=none)->∀ b ∈ fp,FpOk X pins H' b:=fun hn b hb=>⟨hn b hb,(f2 b hb).2⟩
 refine codeAny_forLoop_any (fun n s'=>∃ i σ' H',Inv X pins σ' H' s'/\tn i s'.heap/\(∀ b ∈ fp,H' b=none)/\W i n σ' H') ?_ m0 ⟨0,σ,H2,I2,st2,fun b hb=>(f2 b hb).1,w0⟩;rintro n s3 ⟨i,σ3,H3,I3,st3,fr3,w3⟩;rcases turn i n σ3 H3 w3 with ⟨stop,qn⟩ | ⟨go,N,hN,step⟩
 ·refine wpAny_passesOwn hp (thn (T.done X rfl rfl rfl hc i pins s3 σ3 H3 X.xe I3 (stat fr3) st3 stop) fun r s4 ⟨hr,I4⟩=>?_);subst hr;exact wpAny_execs_nil ⟨σ3,H3,I4,qn⟩
 ·refine wpAny_passesOwn hp (thn (T.item X rfl rfl rfl hc i pins s3 σ3 H3 X.xe I3 (stat fr3) st3 go) fun r s4 ⟨u,hr,h4⟩=>?_);subst hr;refine wpAny_passesOwn hp (thn h4 fun _ s5 ⟨x,H5,I5,r5,y5,st5,fr5⟩=>?_);have I5':=I5.pinned (stat fr5) (T.obj _ _ st5);refine wpAny_passesOwn hp (thn (hg _ s5 σ3 H5 x u _ I5' r5 (step x H5 y5)) fun _ s6 ⟨σ6,H6,I6,q6⟩=>?_);refine wpAny_passesOwn hp (thn (hb _ s6 σ6 H6 _ I6 q6) fun f s7 q7=>?_);have again:∀ {σ7:St} {H7:Hp},Inv X (pins++pinsAt fp s5.heap) σ7 H7 s7->N σ7 H7->∃ m,m < n/\∃ i σ' H',Inv X pins σ' H' s7/\tn i s7.heap/\(∀ b ∈ fp,H' b=none)/\W i m σ' H':=fun {σ7 H7} I7 n7=>by
   obtain ⟨m',hm,w7⟩:=hN σ7 H7 n7;refine ⟨m',hm,i+1,σ7,H7,I7.unpinned,T.keep _ _ _ st5 fun b hb o e=>(I7.pin (b,o) (List.mem_append_right _ (List.mem_append_right _ (fQ hb e)))).1,fun b hb=>?_,w7⟩;obtain ⟨o,e,d⟩:=T.obj _ _ st5 b hb;exact (I7.pin (b,o) (List.mem_append_right _ (List.mem_append_right _ (fQ hb e)))).2.1
  cases f with
  | next=>obtain ⟨σ7,H7,I7,n7⟩:=q7; exact again I7 n7
  | cont=>obtain ⟨σ7,H7,I7,n7⟩:=q7; exact again I7 n7
  | brk=>obtain ⟨σ7,H7,I7,q7⟩:=q7; exact ⟨σ7,H7,I7.unpinned,q7⟩
  | ret v=>obtain ⟨x7,σ7,H7,I7,r7,q7⟩:=q7; exact ⟨x7,σ7,H7,I7.unpinned,r7,q7⟩
end
theorem xV {K:Frag} {a:Addr} {xs:List V} {g:TG} {tb:TS} {D:Ends} {σ:St} {H:Hp} (Pv:Nat->St->Hp->Prop) (h0:Pv 0 σ H) (hl:∀ i σ H,i<=xs.length->Pv i σ H->SqL K H a xs)
  (hs:∀ i x σ H,xs[i]? = some x->Pv i σ H->g x σ H fun σ2 H2=>tb { D with nx:=Pv (i+1),ct:=Pv (i+1),bk:=D.nx } σ2 H2) (hd:∀ σ H,Pv xs.length σ H->D.nx σ H):
  ∃ W:Nat->Nat->St->Hp->Prop,(∃ m,W 0 m σ H)/\∀ i m σ H,W i m σ H ->
   ((Itl K a).stop i H/\D.nx σ H)\/((Itl K a).go i H/\∃ N:St->Hp->Prop,(∀ σ' H',N σ' H'->∃ m',m' < m/\W (i+1) m' σ' H')/\∀ x H',(Itl K a).yld i H x H'->g x σ H' fun σ2 H2=>tb { D with nx:=N,ct:=N,bk:=D.nx } σ2 H2):=by
 refine ⟨fun i m σ H=>m=xs.length - i/\i<=xs.length/\Pv i σ H,⟨xs.length,by simp,Nat.zero_le _,h0⟩,?_⟩;rintro i m σ H ⟨rfl,hi,p⟩;have q:=hl i σ H hi p;by_cases hlt:i < xs.length
 ·refine .inr ⟨⟨xs,xs[i],q,by simp [hlt]⟩,Pv (i+1),fun σ' H' p'=>⟨xs.length - (i+1),by omega,rfl,hlt,p'⟩,fun x H' y=>?_⟩;obtain ⟨e,y⟩:=y;subst e;exact hs i x σ _ (y xs q) p
 ·have e:i=xs.length:=by omega
  subst e;exact .inl ⟨⟨xs,q,Nat.le_refl _⟩,hd σ H p⟩
theorem zK {K:Frag} {a:Addr} {xs:List V} {g:TG} {tb:TS} {D:Ends} {σ:St} {H:Hp} (Pv:Nat->St->Hp->Prop) (h0:Pv 0 σ H) (hl:∀ i σ H,i<=xs.length->Pv i σ H->SqT K H a xs)
  (hs:∀ i x σ H,xs[i]? = some x->Pv i σ H->g x σ H fun σ2 H2=>tb { D with nx:=Pv (i+1),ct:=Pv (i+1),bk:=D.nx } σ2 H2) (hd:∀ σ H,Pv xs.length σ H->D.nx σ H):
  ∃ W:Nat->Nat->St->Hp->Prop,(∃ m,W 0 m σ H)/\∀ i m σ H,W i m σ H ->
   ((Itt K a).stop i H/\D.nx σ H)\/((Itt K a).go i H/\∃ N:St->Hp->Prop,(∀ σ' H',N σ' H'->∃ m',m' < m/\W (i+1) m' σ' H')/\∀ x H',(Itt K a).yld i H x H'->g x σ H' fun σ2 H2=>tb { D with nx:=N,ct:=N,bk:=D.nx } σ2 H2):=by
 refine ⟨fun i m σ H=>m=xs.length - i/\i<=xs.length/\Pv i σ H,⟨xs.length,by simp,Nat.zero_le _,h0⟩,?_⟩;rintro i m σ H ⟨rfl,hi,p⟩;have q:=hl i σ H hi p;by_cases hlt:i < xs.length
 ·refine .inr ⟨⟨xs,xs[i],q,by simp [hlt]⟩,Pv (i+1),fun σ' H' p'=>⟨xs.length - (i+1),by omega,rfl,hlt,p'⟩,fun x H' y=>?_⟩;obtain ⟨e,y⟩:=y;subst e;exact hs i x σ _ (y xs q) p
 ·have e:i=xs.length:=by omega
  subst e;exact .inl ⟨⟨xs,q,Nat.le_refl _⟩,hd σ H p⟩
theorem vt {lo:Int} {n:Nat} {g:TG} {tb:TS} {D:Ends} {σ:St} {H:Hp} (Pv:Nat->St->Hp->Prop) (h0:Pv 0 σ H)
  (hs:∀ i σ H,i < n->Pv i σ H->g (.int (lo+i)) σ H fun σ2 H2=>tb { D with nx:=Pv (i+1),ct:=Pv (i+1),bk:=D.nx } σ2 H2) (hd:∀ σ H,Pv n σ H->D.nx σ H):
  ∃ W:Nat->Nat->St->Hp->Prop,(∃ m,W 0 m σ H)/\∀ i m σ H,W i m σ H ->
   ((Itr lo n).stop i H/\D.nx σ H)\/((Itr lo n).go i H/\∃ N:St->Hp->Prop,(∀ σ' H',N σ' H'->∃ m',m' < m/\W (i+1) m' σ' H')/\∀ x H',(Itr lo n).yld i H x H'->g x σ H' fun σ2 H2=>tb { D with nx:=N,ct:=N,bk:=D.nx } σ2 H2):=by
 refine ⟨fun i m σ H=>m=n - i/\i<=n/\Pv i σ H,⟨n,by simp,Nat.zero_le _,h0⟩,?_⟩;rintro i m σ H ⟨rfl,hi,p⟩;by_cases hlt:i < n
 ·refine .inr ⟨hlt,Pv (i+1),fun σ' H' p'=>⟨n - (i+1),by omega,rfl,hlt,p'⟩,fun x H' y=>?_⟩;obtain ⟨e,y⟩:=y;subst e y;exact hs i σ _ hlt p
 ·have e:i=n:=by omega
  subst e;exact .inl ⟨Nat.le_refl _,hd σ H p⟩
noncomputable abbrev R2:=V->V->Hp->VK->Prop
def OpR (X:Cx) (f:Value->Value->Sem Value) (r:R2):Prop:=
 ∀ (pins:List (Addr × Obj)) (s:Shared) (σ:St) (H:Hp) (x y:V) (v u:Value) (Q:VK),Inv X pins σ H s->RelV x v->RelV y u->r x y H Q ->
  wpAny (model X.prog X.w) X.A (f v u) (EP X pins σ Q) X.xe s
def UnR (X:Cx) (f:Value->Sem Value) (r:V->Hp->VK->Prop):Prop:=
 ∀ (pins:List (Addr × Obj)) (s:Shared) (σ:St) (H:Hp) (x:V) (v:Value) (Q:VK),Inv X pins σ H s->RelV x v->r x H Q ->
  wpAny (model X.prog X.w) X.A (f v) (EP X pins σ Q) X.xe s
def CallR (X:Cx) (f:Value) (r:List V->Hp->VK->Prop):Prop:=
 ∀ (pins:List (Addr × Obj)) (s:Shared) (σ:St) (H:Hp) (xs:List V) (us:List Value) (Q:VK),Inv X pins σ H s->Vals xs us->r xs H Q ->
  wpAny (model X.prog X.w) X.A (call f us) (EP X pins σ Q) X.xe s
noncomputable def tOp (r:R2) (ta tb:TE):TE:=fun σ H Q=>ta σ H fun x H1=>tb σ H1 fun y H2=>r x y H2 Q
noncomputable def tUn (r:V->Hp->VK->Prop) (ta:TE):TE:=fun σ H Q=>ta σ H fun x H1=>r x H1 Q
noncomputable def rI (C:Int->Int->Prop) (g:Int->Int->V):R2:=fun x y H Q=>∃ i j,x=.int i/\y=.int j/\C i j/\Q (g i j) H
noncomputable def rI0 (g:Int->Int->V):R2:=fun x y H Q=>∃ i j,x=.int i/\y=.int j/\Q (g i j) H
noncomputable def rU (g:Int->V):V->Hp->VK->Prop:=fun x H Q=>∃ i,x=.int i/\Q (g i) H
section
variable {X:Cx} {a b c:Expr} {ta tb tc:TE} {pos:Pos}
theorem binT (ha:PE X a ta) (hb:PE X b tb) {pins:List (Addr × Obj)} {s:Shared} {σ:St} {H:Hp} {R:V->V->Hp->Prop} (I:Inv X pins σ H s)
  (h:ta σ H fun x H1=>tb σ H1 fun y H2=>R x y H2) {Q:Value->Shared->Prop} {f:Value->Value->Sem Value}
  (hf:∀ v u s2 x y H2,Inv X pins σ H2 s2->RelV x v->RelV y u->R x y H2->wpAny (model X.prog X.w) X.A (f v u) Q X.xe s2):
  wpAny (model X.prog X.w) X.A (eval a X.env) (fun v s₁=>wpAny (model X.prog X.w) X.A (eval b X.env) (fun u s₂=>wpAny (model X.prog X.w) X.A (f v u) Q X.xe s₂) X.xe s₁) X.xe s:=by
 refine thn (ha pins s σ H _ I h) fun v s1 ⟨x,H1,I1,r1,q1⟩=>?_
 refine thn (hb pins s1 σ H1 _ I1 q1) fun u s2 ⟨y,H2,I2,r2,q2⟩=>?_
 exact hf v u s2 x y H2 I2 r1 r2 q2
theorem am {op:Operator} {r:R2} (ho:OpR X (binaryOp op) r) (ha:PE X a ta) (hb:PE X b tb):PE X (.BinOp a op b pos) (tOp r ta tb):=by
 intro pins s σ H Q I h;exact wpAny_BinOp (binT ha hb I h fun v u s2 x y H2 I2 rx ry q=>ho pins s2 σ H2 x y v u Q I2 rx ry q)
theorem BO {op:UnaryOp} {r:V->Hp->VK->Prop} (ho:UnR X (unaryOp op) r) (ha:PE X a ta):PE X (.UnaryOp op a pos) (tUn r ta):=by
 intro pins s σ H Q I h;exact UnaryOp_ (thn (ha pins s σ H _ I h) fun v s1 ⟨x,H1,I1,r1,q1⟩=>ho pins s1 σ H1 x v Q I1 r1 q1)
theorem opI {f:Value->Value->Sem Value} {C:Int->Int->Prop} {g:Int->Int->Int}
  (rule:∀ (i j:Int) (t u:Tok) (s:Shared) (Q:Value->Shared->Prop) (E:Value->Shared->Prop),C i j->Q (.int (g i j) s.toks) { s with toks:=s.toks+1 }->wpAny (model X.prog X.w) X.A (f (.int i t) (.int j u)) Q E s):
  OpR X f (rI C fun i j=>.int (g i j)):=by
 intro pins s σ H x y v u Q I rx ry h;obtain ⟨i,j,rfl,rfl,hc,q⟩:=h;obtain ⟨t,rfl⟩:=rx;obtain ⟨t',rfl⟩:=ry;exact rule i j t t' s _ _ hc ⟨.int (g i j),H,I.tok _,⟨_,rfl⟩,q⟩
theorem opI0 {f:Value->Value->Sem Value} {g:Int->Int->Int}
  (rule:∀ (i j:Int) (t u:Tok) (s:Shared) (Q:Value->Shared->Prop) (E:Value->Shared->Prop),Q (.int (g i j) s.toks) { s with toks:=s.toks+1 }->wpAny (model X.prog X.w) X.A (f (.int i t) (.int j u)) Q E s):
  OpR X f (rI0 fun i j=>.int (g i j)):=by
 intro pins s σ H x y v u Q I rx ry h;obtain ⟨i,j,rfl,rfl,q⟩:=h;obtain ⟨t,rfl⟩:=rx;obtain ⟨t',rfl⟩:=ry;exact rule i j t t' s _ _ ⟨.int (g i j),H,I.tok _,⟨_,rfl⟩,q⟩
theorem opB0 {f:Value->Value->Sem Value} {g:Int->Int->Bool}
  (rule:∀ (i j:Int) (t u:Tok) (s:Shared) (Q:Value->Shared->Prop) (E:Value->Shared->Prop),Q (.bool (g i j)) s->wpAny (model X.prog X.w) X.A (f (.int i t) (.int j u)) Q E s):
  OpR X f (rI0 fun i j=>.bl (g i j)):=by
 intro pins s σ H x y v u Q I rx ry h;obtain ⟨i,j,rfl,rfl,q⟩:=h;obtain ⟨t,rfl⟩:=rx;obtain ⟨t',rfl⟩:=ry;exact rule i j t t' s _ _ ⟨.bl (g i j),H,I,rfl,q⟩
def CDiv (i j:Int):Prop:=0 < j/\j < 1073741824
def CPow (i j:Int):Prop:=0<=j/\j<=1000000/\i.natAbs < 2 ^ 64
def CMul (i j:Int):Prop:=(-(2 ^ 64) < i/\i < 2 ^ 64)\/(-(2 ^ 64) < j/\j < 2 ^ 64)
theorem CMul.ok {i j:Int} (h:CMul i j):IntMulOk i j:=by
 rcases h with ⟨h1,h2⟩ | ⟨h1,h2⟩
 ·exact .of_left (intBits_le_64 h1 h2)
 ·exact .of_right (intBits_le_64 h1 h2)
theorem A2:OpR X (binaryOp .Add) (rI0 fun i j=>.int (i+j)):=opI0 fun _ _ _ _ _ _ _ q=>add_int q
theorem As:OpR X (binaryOp .Sub) (rI0 fun i j=>.int (i - j)):=opI0 fun _ _ _ _ _ _ _ q=>sub_int q
theorem Ao:OpR X (binaryOp .Mult) (rI CMul fun i j=>.int (i*j)):=opI fun _ _ _ _ _ _ _ hc q=>mul_int q hc.ok
theorem zM:OpR X (binaryOp .FloorDiv) (rI CDiv fun i j=>.int (i / j)):=opI fun i j _ _ _ _ _ hc q=>by
 have h1:(0:Int) < j:=hc.1;have h2:j < 1073741824:=hc.2;exact floordiv_int (by omega) (by rw [Int.fdiv_eq_ediv_of_nonneg i (by omega)]; exact q) (.inl (PyProof.noPylong_small (by omega)))
theorem Ay:OpR X (binaryOp .Mod) (rI (fun _ j=>0 < j) fun i j=>.int (i % j)):=opI fun i j _ _ _ _ _ hc q=>by
 have h1:(0:Int) < j:=hc;exact mod_int' (by omega) (by rw [Int.fmod_eq_emod_of_nonneg i (by omega)]; exact q)
theorem Bg:OpR X (binaryOp .Pow) (rI CPow fun i j=>.int (i ^ j.toNat)):=opI fun _ _ _ _ _ _ _ hc q=>pow_int_small hc.1 hc.2.1 hc.2.2 q
theorem unI {f:Value->Sem Value} {g:Int->Int}
  (rule:∀ (i:Int) (t:Tok) (s:Shared) (Q:Value->Shared->Prop) (E:Value->Shared->Prop),Q (.int (g i) s.toks) { s with toks:=s.toks+1 }->wpAny (model X.prog X.w) X.A (f (.int i t)) Q E s):
  UnR X f (rU fun i=>.int (g i)):=by
 intro pins s σ H x v Q I rx h;obtain ⟨i,rfl,q⟩:=h;obtain ⟨t,rfl⟩:=rx;exact rule i t s _ _ ⟨.int (g i),H,I.tok _,⟨_,rfl⟩,q⟩
theorem AS:UnR X (unaryOp .USub) (rU fun i=>.int (-i)):=unI fun _ _ _ _ _ q=>neg_int q
end
noncomputable def scal:V->V->Bool
 | .non,.non=>true | .non,.int _=>true | .int _,.non=>true | .non,.bl _=>true | .bl _,.non=>true | .non,.str _=>true | .str _,.non=>true
 | .int _,.int _=>true | .bl _,.bl _=>true | .str _,.str _=>true | .byt _,.byt _=>true
 | .int _,.str _=>true | .str _,.int _=>true | .bl _,.str _=>true | .str _,.bl _=>true
 | _,_=>false
noncomputable def rEq:R2:=fun x y H Q=>scal x y=true/\Q (.bl (decide (x=y))) H
noncomputable def rNe:R2:=fun x y H Q=>scal x y=true/\Q (.bl (!decide (x=y))) H
theorem uS {i j:Int}:decide (V.int i=V.int j)=(i == j):=by
 rw [Bool.eq_iff_iff];simp
theorem xw {i j:Bool}:decide (V.bl i=V.bl j)=(i == j):=by
 rw [Bool.eq_iff_iff];simp
theorem uL {i j:Str}:decide (V.str i=V.str j)=(i == j):=by
 rw [Bool.eq_iff_iff];simp
theorem ve {i j:Array UInt8}:decide (V.byt i=V.byt j)=(i.toList == j.toList):=by
 rw [Bool.eq_iff_iff];cases i;cases j;simp
section
variable {X:Cx} {a b c:Expr} {ta tb tc:TE} {pos:Pos}
theorem aY {pins:List (Addr × Obj)} {σ:St} {H:Hp} {s:Shared} {Q:VK} {k k':Bool} (I:Inv X pins σ H s) (q:Q (.bl k) H) (e:k=k'):EP X pins σ Q (.bool k') s:=by
 subst e;exact ⟨.bl k,H,I,rfl,q⟩
theorem BG:OpR X (compareOp .Eq) rEq:=by
 intro pins s σ H x y v u Q I rx ry h;obtain ⟨hs,q⟩:=h;cases x with
 | non=>
  cases rx;cases y with
  | non=>cases ry; exact PySem.EqNone.eq_none_none (aY I q (by simp))
  | bl j=>cases ry; exact PySem.EqNone.eq_none_bool (aY I q (by simp))
  | int j=>obtain ⟨t',rfl⟩:=ry; exact PySem.EqNone.eq_none_int (aY I q (by simp))
  | str j=>obtain ⟨t',rfl⟩:=ry; exact PySem.EqNone.eq_none_str (aY I q (by simp))
  | _=>exact absurd (show false=true from hs) Bool.false_ne_true
 | bl i=>
  cases rx;cases y with
  | non=>cases ry; exact PySem.EqNone.eq_bool_none (aY I q (by simp))
  | bl j=>cases ry; exact eq_bool (aY I q xw)
  | str j=>obtain ⟨t',rfl⟩:=ry; exact PySem.EqMixed.eq_bool_str (aY I q (by simp))
  | _=>exact absurd (show false=true from hs) Bool.false_ne_true
 | int i=>
  obtain ⟨t,rfl⟩:=rx;cases y with
  | non=>cases ry; exact PySem.EqNone.eq_int_none (aY I q (by simp))
  | int j=>obtain ⟨t',rfl⟩:=ry; exact eq_int (aY I q uS)
  | str j=>obtain ⟨t',rfl⟩:=ry; exact PySem.EqMixed.eq_int_str (aY I q (by simp))
  | _=>exact absurd (show false=true from hs) Bool.false_ne_true
 | str i=>
  obtain ⟨t,rfl⟩:=rx;cases y with
  | non=>cases ry; exact PySem.EqNone.eq_str_none (aY I q (by simp))
  | bl j=>cases ry; exact PySem.EqMixed.eq_str_bool (aY I q (by simp))
  | int j=>obtain ⟨t',rfl⟩:=ry; exact PySem.EqMixed.eq_str_int (aY I q (by simp))
  | str j=>obtain ⟨t',rfl⟩:=ry; exact eq_str (aY I q uL)
  | _=>exact absurd (show false=true from hs) Bool.false_ne_true
 | byt i=>
  obtain ⟨t,rfl⟩:=rx;cases y with
  | byt j=>obtain ⟨t',rfl⟩:=ry; exact PySem.W.eq_bytes (aY I q ve)
  | _=>exact absurd (show false=true from hs) Bool.false_ne_true
 | _=>cases y <;> exact absurd (show false=true from hs) Bool.false_ne_true
theorem BT:OpR X (compareOp .NotEq) rNe:=by
 intro pins s σ H x y v u Q I rx ry h;obtain ⟨hs,q⟩:=h;cases x with
 | non=>
  cases rx;cases y with
  | non=>cases ry; exact PySem.EqNone.ne_none_none (aY I q (by simp))
  | bl j=>cases ry; exact PySem.EqNone.ne_none_bool (aY I q (by simp))
  | int j=>obtain ⟨t',rfl⟩:=ry; exact PySem.EqNone.ne_none_int (aY I q (by simp))
  | str j=>obtain ⟨t',rfl⟩:=ry; exact PySem.EqNone.ne_none_str (aY I q (by simp))
  | _=>exact absurd (show false=true from hs) Bool.false_ne_true
 | bl i=>
  cases rx;cases y with
  | non=>cases ry; exact PySem.EqNone.ne_bool_none (aY I q (by simp))
  | bl j=>cases ry; exact ne_bool (aY I q (congrArg not xw))
  | str j=>obtain ⟨t',rfl⟩:=ry; exact PySem.EqMixed.ne_bool_str (aY I q (by simp))
  | _=>exact absurd (show false=true from hs) Bool.false_ne_true
 | int i=>
  obtain ⟨t,rfl⟩:=rx;cases y with
  | non=>cases ry; exact PySem.EqNone.ne_int_none (aY I q (by simp))
  | int j=>obtain ⟨t',rfl⟩:=ry; exact ne_int (aY I q (congrArg not uS))
  | str j=>obtain ⟨t',rfl⟩:=ry; exact PySem.EqMixed.ne_int_str (aY I q (by simp))
  | _=>exact absurd (show false=true from hs) Bool.false_ne_true
 | str i=>
  obtain ⟨t,rfl⟩:=rx;cases y with
  | non=>cases ry; exact PySem.EqNone.ne_str_none (aY I q (by simp))
  | bl j=>cases ry; exact PySem.EqMixed.ne_str_bool (aY I q (by simp))
  | int j=>obtain ⟨t',rfl⟩:=ry; exact PySem.EqMixed.ne_str_int (aY I q (by simp))
  | str j=>obtain ⟨t',rfl⟩:=ry; exact ne_str (aY I q (congrArg not uL))
  | _=>exact absurd (show false=true from hs) Bool.false_ne_true
 | byt i=>
  obtain ⟨t,rfl⟩:=rx;cases y with
  | byt j=>obtain ⟨t',rfl⟩:=ry; exact PySem.W.ne_bytes (aY I q (congrArg not ve))
  | _=>exact absurd (show false=true from hs) Bool.false_ne_true
 | _=>cases y <;> exact absurd (show false=true from hs) Bool.false_ne_true
theorem BP:OpR X (compareOp .Lt) (rI0 fun i j=>.bl (decide (i < j))):=opB0 fun _ _ _ _ _ _ _ q=>lt_int q
theorem BA:OpR X (compareOp .LtE) (rI0 fun i j=>.bl (decide (i<=j))):=opB0 fun _ _ _ _ _ _ _ q=>le_int q
theorem BH:OpR X (compareOp .Gt) (rI0 fun i j=>.bl (decide (j < i))):=opB0 fun _ _ _ _ _ _ _ q=>gt_int q
theorem vw:OpR X (compareOp .In) (fun x y H Q=>∃ i j,x=.str i/\y=.str j/\Q (.bl (!(Builtin.Str.occurrences j i 0 j.length 1).isEmpty)) H):=by
 intro pins s σ H x y v u Q I rx ry h;obtain ⟨i,j,rfl,rfl,q⟩:=h;obtain ⟨t,rfl⟩:=rx;obtain ⟨t',rfl⟩:=ry;exact in_str (aY I q rfl)
theorem Aj:OpR X (compareOp .Is) (fun x y H Q=>y=.non/\Q (.bl (decide (x=.non))) H):=by
 intro pins s σ H x y v u Q I rx ry h;obtain ⟨rfl,q⟩:=h;cases ry;refine is_none_gen (aY I q ?_);cases x <;> first
  | (cases rx; rfl)
  | (obtain ⟨t,rfl⟩:=rx; rfl)
theorem rG:OpR X (compareOp .NotIn) (fun x y H Q=>∃ i j,x=.str i/\y=.str j/\Q (.bl (!(!(Builtin.Str.occurrences j i 0 j.length 1).isEmpty))) H):=by
 intro pins s σ H x y v u Q I rx ry h;obtain ⟨i,j,rfl,rfl,q⟩:=h;obtain ⟨t,rfl⟩:=rx;obtain ⟨t',rfl⟩:=ry;exact notIn_str (aY I q rfl)
theorem OpR.or {f:Value->Value->Sem Value} {r r':R2} (h:OpR X f r) (h':OpR X f r'):OpR X f (fun x y H Q=>r x y H Q\/r' x y H Q):=by
 intro pins s σ H x y v u Q I rx ry q;rcases q with q | q
 ·exact h pins s σ H x y v u Q I rx ry q
 ·exact h' pins s σ H x y v u Q I rx ry q
theorem nomark (b:Expr) {op:CmpOp} (h:op≠.In:=by decide) (h2:op≠.NotIn:=by decide):behindInMarks op b=false:=by
 have e1:(op == CmpOp.In)=false:=by cases op <;> first | rfl | exact absurd rfl h
 have e2:(op == CmpOp.NotIn)=false:=by cases op <;> first | rfl | exact absurd rfl h2
 cases b <;> simp [behindInMarks,e1,e2]
theorem zB {op:CmpOp} {r:R2} (ho:OpR X (compareOp op) r) (ha:PE X a ta) (hb:PE X b tb) (hm:behindInMarks op b=false):PE X (.Compare a [op] [b] pos) (tOp r ta tb):=by
 intro pins s σ H Q I h;exact wpAny_Compare1 (binT ha hb I h fun v u s2 x y H2 I2 rx ry q=>ho pins s2 σ H2 x y v u Q I2 rx ry q) hm
noncomputable def tTest (t:TE):TT:=fun σ H Q=>t σ H fun x H'=>∃ k,x=.bl k/\Q k H'
theorem yW {op:CmpOp} {r:R2} (ho:OpR X (compareOp op) r) (ha:PE X a ta) (hb:PE X b tb) (hm:behindInMarks op b=false):PT X (.Compare a [op] [b] pos) (tTest (tOp r ta tb)):=by
 intro pins s σ H Q I h;refine wpAny_isTrue_Compare1 (thn (ha pins s σ H _ I h) fun v s1 ⟨x,H1,I1,r1,q1⟩=>thn (hb pins s1 σ H1 _ I1 q1) fun u s2 ⟨y,H2,I2,r2,q2⟩=>
  thn (ho pins s2 σ H2 x y v u _ I2 r1 r2 q2) fun c s3 ⟨z,H3,I3,r3,k,e,q3⟩=>?_) hm
 subst e;cases r3;exact wpAny_truthy_bool ⟨H3,I3,q3⟩
theorem line63:(sizeLine:Nat) < 2 ^ 63:=by rw [sizeLine_eq]; decide
theorem tW:OpR X (binaryOp .Add) (fun x y H Q=>∃ i j,x=.str i/\y=.str j/\i.length+j.length<=sizeLine/\Q (.str (i++j)) H):=by
 intro pins s σ H x y v u Q I rx ry h;obtain ⟨i,j,rfl,rfl,hz,q⟩:=h;obtain ⟨t,rfl⟩:=rx;obtain ⟨t',rfl⟩:=ry;exact tokQ I.tk (add_str (fun t' tk (htk:0 < tk)=>⟨.str (i++j),H,I.tok _,⟨_,rfl⟩,q⟩) hz)
theorem vals1 {x:V} {us:List Value} (r:Vals [x] us):∃ u,us=[u]/\RelV x u:=by
 cases r with
 | cons r1 r2=>cases r2; exact ⟨_,rfl,r1⟩
theorem vals2 {x y:V} {us:List Value} (r:Vals [x,y] us):∃ u w',us=[u,w']/\RelV x u/\RelV y w':=by
 cases r with
 | cons r1 r2=>
  cases r2 with
  | cons r3 r4=>cases r4; exact ⟨_,_,rfl,r1,r3⟩
theorem vU (hc:X.calm=true):CallR X (.builtin "max") (fun xs H Q=>∃ i j,xs=[.int i,.int j]/\Q (.int (if j > i then j else i)) H):=by
 intro pins s σ H xs us Q I r h;obtain ⟨i,j,rfl,q⟩:=h;obtain ⟨u,w',rfl,⟨t,rfl⟩,⟨t',rfl⟩⟩:=vals2 r;refine tokQ I.tk (max_two_ints (I.ok.hd hc) fun h' tk k (htk:0 < tk)=>⟨_,H,I.kept k,?_,q⟩);by_cases hj:j > i
 ·rw [if_pos hj,if_pos hj]; exact ⟨_,rfl⟩
 ·rw [if_neg hj,if_neg hj]; exact ⟨_,rfl⟩
theorem vp (hc:X.calm=true):CallR X (.builtin "min") (fun xs H Q=>∃ i j,xs=[.int i,.int j]/\Q (.int (if j < i then j else i)) H):=by
 intro pins s σ H xs us Q I r h;obtain ⟨i,j,rfl,q⟩:=h;obtain ⟨u,w',rfl,⟨t,rfl⟩,⟨t',rfl⟩⟩:=vals2 r;refine tokQ I.tk (min_two_ints (I.ok.hd hc) fun h' tk k (htk:0 < tk)=>⟨_,H,I.kept k,?_,q⟩);by_cases hj:j < i
 ·rw [if_pos hj,if_pos hj]; exact ⟨_,rfl⟩
 ·rw [if_neg hj,if_neg hj]; exact ⟨_,rfl⟩
end
structure ObjM (h:Heap) (x dx C:Addr) (mA:Str->Option Value):Prop where
 obj:h.get? x=some (PySem.W.instObj C dx)
 ns:h.Ns1 dx mA
 ne:dx≠x
theorem wf {h:Heap} {dx:Addr} {mA:Str->Option Value} (n:h.Ns1 dx mA):∃ od,h.get? dx=some od/\∀ name,PySem.W.lookIn name od=some (mA name):=by
 obtain ⟨o,es,ep,ho,hd,hk,_,hm⟩:=n;refine ⟨o,ho,fun name=>?_⟩;have e:=hm name;unfold nsFind findBy at e;rw [<- Array.find?_toList] at e;unfold PySem.W.lookIn;rw [hd];dsimp only;split
 ·rename_i y q;rw [q] at e;exact congrArg some e
 ·rename_i q;rw [q] at e;have a:es.toList.any (·.refKey)=false:=by
   rw [List.any_eq_false];intro y hy;obtain ⟨z,t,hkey⟩:=hk y (Array.mem_toList_iff.mp hy);simp [DictEntry.refKey,hkey]
  have a':¬ es.toList.any (·.refKey)=true:=by rw [a]; exact Bool.false_ne_true
  rw [if_neg a'];exact congrArg some e
theorem ObjM.look {h:Heap} {x dx C:Addr} {mA:Str->Option Value} (I:ObjM h x dx C mA):∃ od,PySem.W.InstAt h x (PySem.W.instObj C dx) C (some od)/\∀ name,PySem.W.lookIn name od=some (mA name):=
 let ⟨od,ho,hl⟩:=wf I.ns
 ⟨od,⟨I.obj,rfl,rfl,ho⟩,hl⟩
section
variable {prog:Program} {w:World} {A:Around} {E:Value->Shared->Prop} {s:Shared} {K:Frag} {x dx C f:Addr} {mA:Str->Option Value} {name:Str} {v:Value}
end
section
variable {P:Program} {w:World} {H H':Hp} {h h':Heap} {a C dx:Addr} {fs fs':List (Str × V)}
theorem zh (hok:HOk P w H h) (e:H a=some (.ins C dx fs)):∃ mA,ObjM h a dx C mA/\(∀ f,RelO (fs.lookup f) (mA f))/\PySem.Within mA (fs.map (·.1))/\fs.length<=1000/\H dx=some (.own a):=by
 obtain ⟨d,z,ne,ob,mA,n,r,q⟩:=(show ObjOk P w H h a (.ins C dx fs) from hok a _ e);exact ⟨mA,⟨ob,n,ne⟩,r,q,z,d⟩
end
structure Cls (K:Frag) (C:Addr):Prop where
 pg:PySem.W.plainGet K C Str.empty=true
 hd:PySem.W.hasDictIn K C=true
 po:PySem.W.plainOver K C=true
 sa:findIn K (.ref C) "__setattr__" = some (some (.builtin "object.__setattr__"))
theorem Cls.get {K:Frag} {C:Addr} (c:Cls K C) (f:Str):PySem.W.plainGet K C f=true:=c.pg
section
variable {X:Cx} {pins:List (Addr × Obj)} {σ:St} {H:Hp} {s:Shared} {a C dx:Addr} {fs:List (Str × V)} {f:Str} {v:V} {A:Around} {E:Value->Shared->Prop}
end
section
variable {X:Cx} {o e value:Expr} {f:Str} {pos pos' tpos:Pos} {ta tv:TE}
end
section
variable {X:Cx} {pins:List (Addr × Obj)} {σ:St} {H:Hp} {s:Shared} {A:Around} {E:Value->Shared->Prop} {Q:Value->Shared->Prop} {c:Value} {b:Bool}
inductive TyOf (K:Frag) (H:Hp):V->Value->Prop where
 | non:TyOf K H .non (.type "NoneType")
 | bl (x:Bool):TyOf K H (.bl x) (.type "bool")
 | int (i:Int):TyOf K H (.int i) (.type "int")
 | str (x:Str):TyOf K H (.str x) (.type "str")
 | flt (x:UInt64):TyOf K H (.flt x) (.type "float")
 | lst {a:Addr} {xs:List V} (e:H a=some (.lst xs)):TyOf K H (.ref a) (.type "list")
 | frz {a:Addr} {o:Obj} {xs:List V} (e:H a=some (.frz o (.lst xs))):TyOf K H (.ref a) (.type "list")
 | tup {a:Addr} {xs:List V} (e:H a=some (.tup xs)):TyOf K H (.ref a) (.type "tuple")
 | dK {a:Addr} {kvs:List (Key × V)} (e:H a=some (.dK kvs)):TyOf K H (.ref a) (.type "dict")
 | dT {a:Addr} {kvs:List (List Key × V)} (e:H a=some (.dT kvs)):TyOf K H (.ref a) (.type "dict")
 | ins {a C dx:Addr} {fs:List (Str × V)} (e:H a=some (.ins C dx fs)) (cl:Cls K C) (ha:findIn K (.ref C) "__class__" = some (some (.builtin "object.__class__")))
   (hn:PySem.W.specialIn K (.builtin "object.__class__") "__get__" = some (some (.builtin "getset_descriptor.__get__"))) (htk:PySem.W.takesIn K (.builtin "object.__class__")=some true)
   (hm:PySem.W.mroIn K C (.type "object")=some true):TyOf K H (.ref a) (.ref C)
theorem vN {x:V} {u t:Value} (I:Inv X pins σ H s) (rx:RelV x u) (ty:TyOf X.K H x t) (e:PySem.W.kitOne X.K t c=some b) (h:∀ tk,Q (.bool b) { s with toks:=tk }):
  wpAny (model X.prog X.w) A (call (.builtin "isinstance") [u,c]) Q E s:=by
 cases ty with
 | non=>cases (show u=Value.none from rx); exact PySem.W.kia_one PySem.W.kitx_none I.kIn True.intro e (fun z=>nomatch z) h
 | bl y=>cases (show u=Value.bool y from rx); exact PySem.W.kia_one PySem.W.kitx_bool I.kIn True.intro e (fun z=>nomatch z) h
 | int i=>obtain ⟨t,q⟩:=(show ∃ t,u=Value.int i t from rx); cases q; exact PySem.W.kia_one PySem.W.kitx_int I.kIn True.intro e (fun z=>nomatch z) h
 | str y=>obtain ⟨t,q⟩:=(show ∃ t,u=Value.str y t from rx); cases q; exact PySem.W.kia_one PySem.W.kitx_str I.kIn True.intro e (fun z=>nomatch z) h
 | flt y=>obtain ⟨t,q⟩:=(show ∃ t,u=Value.float y t from rx); cases q; exact PySem.W.kia_one PySem.W.kitx_float I.kIn True.intro e (fun z=>nomatch z) h
 | @lst a xs ea=>
  cases (show u=Value.ref a from rx);obtain ⟨_,_,n,_,h1⟩:=(show ObjOk X.prog X.w H s.heap a (.lst xs) from I.hok a _ ea);exact PySem.W.kia_one PySem.W.kitx_list I.kIn ⟨_,h1,rfl⟩ e (fun z=>nomatch z) h
 | @frz a ob xs ea=>
  cases (show u=Value.ref a from rx);obtain ⟨_,_,_,n,_,h1⟩:=(show ObjOk X.prog X.w H s.heap a (.frz ob (.lst xs)) from I.hok a _ ea);exact PySem.W.kia_one PySem.W.kitx_list I.kIn ⟨_,h1,rfl⟩ e (fun z=>nomatch z) h
 | @tup a xs ea=>
  cases (show u=Value.ref a from rx);obtain ⟨_,_,_,p⟩:=(show ObjOk X.prog X.w H s.heap a (.tup xs) from I.hok a _ ea);obtain ⟨o,h1,h2,_⟩:=p;exact PySem.W.kia_one PySem.W.kitx_tuple I.kIn ⟨o,h1,h2⟩ e (fun z=>nomatch z) h
 | @dK a kvs ea=>
  cases (show u=Value.ref a from rx);obtain ⟨_,_,vs,_,p⟩:=(show ObjOk X.prog X.w H s.heap a (.dK kvs) from I.hok a _ ea);obtain ⟨o,es,ep,h1,h2,_⟩:=p;exact PySem.W.kia_one PySem.W.kitx_dict I.kIn ⟨o,h1,h2.1⟩ e (fun z=>nomatch z) h
 | @dT a kvs ea=>
  cases (show u=Value.ref a from rx);obtain ⟨_,_,xs,_,o,es,ep,h1,h2,_⟩:=(show ObjOk X.prog X.w H s.heap a (.dT kvs) from I.hok a _ ea);exact PySem.W.kia_one PySem.W.kitx_dict I.kIn ⟨o,h1,h2.1⟩ e (fun z=>nomatch z) h
 | @ins a C dx fs ea cl ha hn htk hm=>
  cases (show u=Value.ref a from rx);obtain ⟨mA,O,_⟩:=zh I.hok ea;obtain ⟨od,J,_⟩:=O.look;exact PySem.W.kia_one (PySem.W.kitx_own (cl.get _) cl.hd ha hn htk hm) I.kIn J e (fun z=>nomatch z) h
end
structure Room (k:Nat) (A:Around):Prop where
 hd:A.handled=none
 dp:A.depth+3*k+5 < recursionLimit
 un:A.units+16*k+200 < cLine
 gd:A.guards=some []
theorem Room.mono {j k:Nat} {A:Around} (r:Room k A) (h:j<=k):Room j A:=⟨r.hd,by have:=r.dp; omega,by have:=r.un; omega,r.gd⟩
theorem Room.deeper {k:Nat} {A:Around} (r:Room (k+1) A) (env:Env):Room k (A.deeper env):=
 ⟨r.hd,by have:=r.dp; show A.depth+1+3*k+5 < _; omega,by have:=r.un; show A.units+3+16*k+200 < _; omega,r.gd⟩
theorem Room.depth {k:Nat} {A:Around} (r:Room k A):A.depth < recursionLimit:=by have:=r.dp; omega
theorem Room.units0 {k:Nat} {A:Around} (r:Room k A):A.units < cLine:=by have:=r.un; omega
noncomputable def tNil:TA:=fun _ H Q=>Q [] H
noncomputable def tCons (ta:TE) (tr:TA):TA:=fun σ H Q=>ta σ H fun x H1=>tr σ H1 fun xs H2=>Q (x::xs) H2
section
variable {X:Cx} {e:Expr} {es:List Expr} {te:TE} {t:TA} {pos:Pos}
theorem ac:PA X [] tNil:=fun _ _ _ _ H Q I h=>Calls.spliced_nil ⟨[],H,I,.nil,h⟩
theorem aa (ha:PE X e te) (hr:PA X es t) (hs:starEach (e::es) X.env=(false,eval e X.env)::starEach es X.env:=by rfl):PA X (e::es) (tCons te t):=by
 intro pos pins s σ H Q I h;rw [hs];show wpAny _ _ (spliced ((false,eval e X.env)::backTo pos (starEach es X.env))) _ _ s;refine Calls.spliced_cons (thn (ha pins s σ H _ I h) fun u s1 ⟨x,H1,I1,r1,q1⟩=>?_);exact thn (hr pos pins s1 σ H1 _ I1 q1) fun us s2 ⟨xs,H2,I2,r2,q2⟩=>⟨x::xs,H2,I2,.cons r1 r2,q2⟩
noncomputable def tTup (t:TA):TE:=fun σ H Q=>t σ H fun xs H1=>xs.length<=sizeLine/\∀ p,H1 p=none->Q (.ref p) (upd H1 p (.tup xs))
noncomputable def tLst (t:TA):TE:=fun σ H Q=>t σ H fun xs H1=>xs.length<=sizeLine/\∀ p,H1 p=none->Q (.ref p) (upd H1 p (.lst xs))
theorem aX {x1} (h:PA X es t):PE X (.Tuple es x1 pos) (tTup t):=by
 intro pins s σ H Q I hq;refine wpAny_Tuple_spliced (thn (h pos pins s σ H _ I hq) fun us s1 ⟨xs,H1,I1,r,z,q⟩=>⟨by rw [<- r.length]; exact z,?_⟩);have hf:H1 s1.heap.objs.size=none:=I1.hok.fresh (Nat.le_refl _);refine ⟨.ref s1.heap.objs.size,upd H1 s1.heap.objs.size (.tup xs),I1.laid (t':=s1.toks) (fun b u e=>Heap.get?_push_of_some _ e) (Nat.le_refl _) ?_,rfl,q _ hf⟩;exact ⟨z,us,r,⟨_,Heap.get?_push_size _ rfl,rfl,_,rfl⟩⟩
theorem aL (h:PA X es t):PE X (.List es pos) (tLst t):=by
 intro pins s σ H Q I hq;refine wpAny_List_spliced (thn (h pos pins s σ H _ I hq) fun us s1 ⟨xs,H1,I1,r,z,q⟩=>⟨by rw [<- r.length]; exact z,?_⟩);have hf:H1 s1.heap.objs.size=none:=I1.hok.fresh (Nat.le_refl _);refine ⟨.ref s1.heap.objs.size,upd H1 s1.heap.objs.size (.lst xs),I1.laid (t':=s1.toks) (fun b u e=>Heap.get?_push_of_some _ e) (Nat.le_refl _) ?_,rfl,q _ hf⟩;exact ⟨z,us,0,r,Heap.get?_push_size _ rfl⟩
end
noncomputable abbrev Sp:=List V->Hp->VK->XK->Prop
noncomputable abbrev CXT:=List Env->Hp->Shared->XK->Value->Shared->Prop
structure Env0 (P:Program) (w:World) (K:Frag) (mg:Str->Option Value) (base:Heap) (A:Around) (outer:List Env) (s:Shared) (H:Hp):Prop where
 frames:A.frames=some outer
 mod:Mod K mg base
 bs:∀ b o,base.get? b=some o->s.heap.get? b=some o/\H b=none
 bsz:base.objs.size<=s.heap.objs.size
 funs:s.heap.FunFrames base outer
 frf:∀ b ∈ frs outer,H b=none
 hok:HOk P w H s.heap
 bare:AllBare s.gens
 tk:0 < s.toks
def CE (outer:List Env) (P:Program) (w:World) (H:Hp) (s:Shared) (Q:VK) (u:Value) (s':Shared):Prop:=
 ∃ v H',0 < s'.toks/\s'.os=s.os/\AllBare s'.gens/\Un (frs outer) [] H H' s.heap s'.heap/\HOk P w H' s'.heap/\RelV v u/\Q v H'
def CR (CX:CXT) (outer:List Env) (P:Program) (w:World) (H:Hp) (s:Shared) (Q:VK) (E:XK) (r:Result) (s':Shared):Prop:=
 match r with
 | .ok (.ret u)=>CE outer P w H s Q u s'
 | .ok _=>False
 | .error e=>CX outer H s E e s'
structure FnOk (P:Program) (w:World) (K:Frag) (mg:Str->Option Value) (base:Heap) (CX:CXT) (k:Nat) (f:Addr) (fd:FuncData) (ps:List Str) (sp:Sp):Prop where
 len:∀ vs H Q E,sp vs H Q E->vs.length=ps.length
 run:∀ (A:Around) (outer:List Env) (s:Shared) (H:Hp) (args:Args) (us:List Value) (vs:List V) (Q:VK) (E:XK),Room k A->Env0 P w K mg base A outer s H->BindsTo s fd args (ps.zip us)->Vals vs us->sp vs H Q E ->
  codeAny (model P w) A (.call (.ref f) args) (CR CX outer P w H s Q E) s
section
variable {X:Cx} {pins:List (Addr × Obj)} {σ:St} {H:Hp} {s s':Shared}
theorem Inv.env0 (I:Inv X pins σ H s):Env0 X.prog X.w X.K X.mg X.base X.A X.stack s H:=
 ⟨I.ok.frames,I.ok.mod,I.bs,Nat.le_trans I.ok.bsz I.sz,I.stack,I.stkFree,I.hok,I.bare,I.tk⟩
theorem Inv.after {Q:VK} {u:Value} (I:Inv X pins σ H s) (h:CE X.stack X.prog X.w H s Q u s'):EP X pins σ Q u s':=by
 obtain ⟨v,H',ht,os,bare,un,hok,r,q⟩:=h;obtain ⟨hh,g,d,t,os'⟩:=s';obtain rfl:os'=s.os:=os;exact ⟨v,H',I.call (h':=hh) (g':=g) (d':=d) (t':=t) (ch:=[]) un hok bare (fun b z=>absurd z (by simp)) ht,r,q⟩
end
noncomputable def tCall (sp:Sp) (dvs:List V) (E:XK) (t:TA):TE:=fun σ H Q=>t σ H fun vs H1=>sp (vs++dvs) H1 Q E
def Binds (K:Frag) (fd:FuncData) (ps:List Str) (ds:List Value):Prop:=
 ∀ (s:Shared) (us:List Value),K.In s.heap->(us++ds).length=ps.length->BindsTo s fd ⟨us,[]⟩ (ps.zip (us++ds))
theorem Binds.all {K:Frag} {fd:FuncData} {ps:List Str} (h:∀ us:List Value,us.length=ps.length->bindArgs fd ⟨us,[]⟩=pure (ps.zip us)):Binds K fd ps []:=fun s us _ hl=>by
 rw [List.append_nil] at hl ⊢;exact .of_eq (h us hl)
def Passes (CX:CXT) (X:Cx) (E:XK):Prop:=∀ (pins:List (Addr × Obj)) (σ:St) (H:Hp) (s:Shared) (e:Value) (s':Shared),Inv X pins σ H s->CX X.stack H s E e s'->X.xe e s'
section
variable {X:Cx} {CX:CXT} {k:Nat} {f C:Addr} {fd:FuncData} {ps:List Str} {sp:Sp} {dvs:List V} {ds:List Value} {E:XK} {x m:Str} {p pos apos:Pos} {e o:Expr} {es:List Expr} {ta:TE} {t:TA}
theorem Bz {pins:List (Addr × Obj)} {σ:St} {H:Hp} {s:Shared} {Q:VK} {us:List Value} {vs:List V} (F:FnOk X.prog X.w X.K X.mg X.base CX k f fd ps sp) (hr:Room k X.A) (hb:Binds X.K fd ps ds) (hd:Vals dvs ds) (hx:Passes CX X E)
  (I:Inv X pins σ H s) (r:Vals vs us) (h:sp (vs++dvs) H Q E):wpAny (model X.prog X.w) X.A (call (.ref f) us) (EP X pins σ Q) X.xe s:=by
 have r2:Vals (vs++dvs) (us++ds):=r.append hd;have hl:(us++ds).length=ps.length:=by rw [<- r2.length]; exact F.len _ _ _ _ h
 refine wpAny_call (codeAny_mono (F.run X.A X.stack s H ⟨us,[]⟩ (us++ds) (vs++dvs) Q E hr I.env0 (hb s us I.kIn hl) r2 h) fun r s' hq=>?_);cases r with
 | error e=>exact hx pins σ H s e s' I hq
 | ok fl=>
  cases fl with
  | ret u=>exact I.after hq
  | next=>exact False.elim hq
  | brk=>exact False.elim hq
  | cont=>exact False.elim hq
theorem uM (F:FnOk X.prog X.w X.K X.mg X.base CX k f fd ps sp) (hr:Room k X.A) (hg:Gl X x) (hm:X.mg x=some (.ref f)) (hk:keepIn X.K (.ref f)=true) (hb:Binds X.K fd ps ds) (hd:Vals dvs ds) (hx:Passes CX X E)
  (ha:PA X (e::es) t) (hdb:(x == ("__debug__" : Str))=false:=by decide) (he:starEach (e::es) X.env=(false,eval e X.env)::starEach es X.env:=by rfl) (hpl:(backTo pos (starEach es X.env)).any (·.1)=false:=by rfl):
  PE X (.Call (.Name x p) (e::es) [] pos) (tCall sp dvs E t):=by
 intro pins s σ H Q I h;refine wpAny_Call_Name_kw (jP I hg hm ?_ hdb);refine PySem.W.callWith_K (h₀:=X.base) I.ok.mod.kin hk (thn (ha pos pins s σ H _ I h) fun us s1 ⟨vs,H1,I1,r,q⟩=>⟨I1.kIn,?_⟩) he hpl;exact Bz F hr hb hd hx I1 r q
end
section
variable {X:Cx} {CX:CXT} {k:Nat} {f C:Addr} {fd:FuncData} {ps ks:List Str} {sp:Sp} {E:XK} {x m:Str} {p pos apos kpos:Pos} {e o:Expr} {es:List Expr} {kws:List Keyword} {te ta:TE} {t tk:TA} {nm:Option Str}
variable {g:List Value->List Value->List Value} {gV:List V->List V->List V}
end
structure FnScope (N P:List Str) (sc:Scope):Prop where
 kind:sc.kind=.function
 co:sc.isCoroutine=false
 gen:sc.isGenerator=false
 nd:N.Nodup
 pre:N.take P.length=P
 par:∀ x ∈ P,sc.names.lookup x=some .local\/sc.names.lookup x=some .cell
 nofree:∀ y ∈ sc.names,y.2≠.free
theorem qG {kindOf:Str->Option NameKind} {x:Str}:∀ {binds:List (Str × Value)} {m:Str->Option Value},(∀ v,(x,v) ∉ binds)->bindL kindOf binds m x=m x
 | [],_,_=>rfl
 | (n,v)::r,m,h=>by
  unfold bindL;rw [qG fun w hw=>h w (List.mem_cons_of_mem _ hw)];split
  ·have:x≠n:=by rintro rfl; exact h v List.mem_cons_self
   simp [this]
  ·rfl
theorem qT {kindOf:Str->Option NameKind} {x:Str}:∀ {binds:List (Str × Value)} {m:Str->Option Value},(∀ v,(x,v) ∉ binds)->bindC kindOf binds m x=m x
 | [],_,_=>rfl
 | (n,v)::r,m,h=>by
  unfold bindC;rw [qT fun w hw=>h w (List.mem_cons_of_mem _ hw)];split
  ·rfl
  ·have:x≠n:=by rintro rfl; exact h v List.mem_cons_self
   simp [this]
theorem qB {kindOf:Str->Option NameKind} {x:Str} {v:Value}:∀ {P:List Str} {vs:List Value} {i:Nat} {m:Str->Option Value},P.Nodup->P[i]? = some x->vs[i]? = some v->kindOf x=some .local ->
  bindL kindOf (P.zip vs) m x=some v
 | [],_,_,_,_,h,_,_=>by simp at h
 | _::_,[],_,_,_,_,h,_=>by simp at h
 | p::P,w::vs,0,m,nd,h1,h2,hk=>by
  simp at h1 h2; subst h1; subst h2;show bindL kindOf ((p,w)::P.zip vs) m p=_;unfold bindL;rw [qG fun v hv=>(List.nodup_cons.mp nd).1 (List.of_mem_zip hv).1,if_pos hk];simp
 | p::P,w::vs,i+1,m,nd,h1,h2,hk=>by
  show bindL kindOf ((p,w)::P.zip vs) m x=_;unfold bindL;exact qB (i:=i) (List.nodup_cons.mp nd).2 (by simpa using h1) (by simpa using h2) hk
theorem qS {kindOf:Str->Option NameKind} {x:Str} {v:Value}:∀ {P:List Str} {vs:List Value} {i:Nat} {m:Str->Option Value},P.Nodup->P[i]? = some x->vs[i]? = some v->kindOf x≠some .local ->
  bindC kindOf (P.zip vs) m x=some v
 | [],_,_,_,_,h,_,_=>by simp at h
 | _::_,[],_,_,_,_,h,_=>by simp at h
 | p::P,w::vs,0,m,nd,h1,h2,hk=>by
  simp at h1 h2; subst h1; subst h2;show bindC kindOf ((p,w)::P.zip vs) m p=_;unfold bindC;rw [qT fun v hv=>(List.nodup_cons.mp nd).1 (List.of_mem_zip hv).1,if_neg hk];simp
 | p::P,w::vs,i+1,m,nd,h1,h2,hk=>by
  show bindC kindOf ((p,w)::P.zip vs) m x=_;unfold bindC;exact qS (i:=i) (List.nodup_cons.mp nd).2 (by simpa using h1) (by simpa using h2) hk
noncomputable def start (N:List Str) (vs:List V):St:=vs.map some++List.replicate (N.length - vs.length) none
noncomputable def cxOf (CX:CXT) (P:Program) (w:World) (K:Frag) (mg:Str->Option Value) (base:Heap) (N:List Str) (qual:Str) (scope:Scope) (f:Addr) (cd:Value) (A:Around) (outer:List Env) (s:Shared) (H:Hp) (E:XK):Cx where
 prog:=P
 w:=w
 K:=K
 mg:=mg
 base:=base
 A:=A.deeper (envOfC qual scope s.heap.objs.size f cd)
 N:=N
 s₀:=s
 H₀:=H
 env:=envOfC qual scope s.heap.objs.size f cd
 outer:=outer
 stack:=envOfC qual scope s.heap.objs.size f cd::outer
 ex:=[]
 calm:=true
 fn:=fun _=>true
 pn:=[]
 xe:=fun e s'=>wpAny (model P w) (A.deeper (envOfC qual scope s.heap.objs.size f cd)) (leaving (envOfC qual scope s.heap.objs.size f cd) e) (fun _ s''=>CX outer H s E e s'') (fun e' s''=>CX outer H s E e' s'') s'
theorem sr {sc:Scope} {n:Nat} {x:Str} (h:sc.names.lookup x=some .cell):∃ c,(cellsFrom n sc.names []).lookup x=some c:=by
 have q:=PySem.W.cellsFrom_some sc.names n [] (.inl h);exact Option.isSome_iff_exists.mp q
theorem qF {CX:CXT} {P:Program} {w:World} {K:Frag} {mg:Str->Option Value} {base:Heap} {N ps:List Str} {qual:Str} {scope:Scope} {f:Addr} {cd:Value} {A:Around} {outer:List Env} {s s1:Shared} {H:Hp} {E:XK} {us:List Value} {vs:List V}
  (S:FnScope N ps scope) (hd:A.handled=none) (e0:Env0 P w K mg base A outer s H) (hl:vs.length=ps.length) (r:Vals vs us)
  (x:InCallC s s.heap.objs.size (bindL (envOfC qual scope s.heap.objs.size f cd).kindOf (ps.zip us) fun _=>none) (cellsFrom (s.heap.objs.size+1) scope.names []) (bindC (envOfC qual scope s.heap.objs.size f cd).kindOf (ps.zip us) fun _=>none) s1) (htk:0 < s1.toks):
  Inv (cxOf CX P w K mg base N qual scope f cd A outer s H E) [] (start N vs) H s1:=by
 have hpl:ps.length<=N.length:=by have:=congrArg List.length S.pre; rw [List.length_take] at this; omega
 obtain ⟨h1,tk,rfl,hk⟩:=x.done;have noA:∀ b:Addr,b ∉ (cxOf CX P w K mg base N qual scope f cd A outer s H E).ex:=fun b z=>absurd (show b ∈ ([]:List Addr) from z) (by simp)
 refine ⟨⟨e0.mod,S.kind,rfl,rfl,Nat.le_refl _,fun y z c h1 h2=>?_,fun y hy=>?_,fun y c _ h=>?_,fun _=>hd,Around.frames_deeper e0.frames,.inr ⟨rfl,rfl⟩,fun b z=>absurd z (noA b),e0.bs,e0.bsz,fun b _ _=>noA b,fun b z=>absurd z (noA b),e0.funs,e0.frf⟩,
  rfl,e0.bare,Un.kept hk,⟨_,x.toInCall.ns,fun i y v h1 h2 h3=>?_⟩,fun y c h=>⟨_,x.cell y c h⟩,e0.hok.fresh (Nat.le_refl _),fun y c h=>?_,fun p hp=>absurd (show p ∈ ([]:List (Addr × Obj)) from hp) (by simp),e0.hok.kept hk,?_,htk⟩
 ·exact name_of_addr x.apart (PySem.mem_of_lookup h1) (PySem.mem_of_lookup h2)
 ·have hy:scope.names.lookup y=some .cell\/scope.names.lookup y=some .free:=hy;rcases hy with hy | hy
  ·exact sr hy
  ·exact absurd rfl (S.nofree _ (PySem.mem_of_lookup hy))
 ·exact Nat.le_of_lt (x.above y c (PySem.mem_of_lookup h))
 ·have hi:i < vs.length:=by
   unfold start at h2;by_cases hi:i < vs.length
   ·exact hi
   ·rw [List.getElem?_append_right (by simpa using hi)] at h2;rw [List.getElem?_replicate] at h2;split at h2 <;> cases h2
  have ha:vs[i]? = some v:=by
   unfold start at h2;rw [List.getElem?_append_left (by simpa using hi),List.getElem?_map] at h2;cases e:vs[i]? with
   | none=>rw [e] at h2; cases h2
   | some a=>rw [e] at h2; cases h2; rfl
  obtain ⟨u,hu,rv⟩:=r.get ha;have hp:ps[i]? = some y:=by
   rw [<- S.pre,List.getElem?_take_of_lt (by omega)]; exact h1
  have ndP:ps.Nodup:=by rw [<- S.pre]; exact S.nd.sublist (List.take_sublist _ _)
  refine ⟨u,rv,?_⟩;rcases S.par y (List.mem_of_getElem? hp) with k | k
  ·exact .inl ⟨k,qB ndP hp hu k⟩
  ·obtain ⟨c,e⟩:=sr (n:=s.heap.objs.size+1) k;refine .inr ⟨.inl k,c,e,?_⟩;have q:=x.cell y c e;rw [qS ndP hp hu (by show scope.names.lookup y≠_; rw [k]; decide)] at q;exact q
 ·exact e0.hok.fresh (Nat.le_of_lt (x.above y c (PySem.mem_of_lookup h)))
 ·unfold start;show _=N.length;rw [List.length_append,List.length_map,List.length_replicate];omega
theorem zY {CX:CXT} {P:Program} {w:World} {K:Frag} {mg:Str->Option Value} {base:Heap} {k:Nat} {f:Addr} {name qual:Str} {params:Arguments} {body:List Stmt} {scope:Scope} {dV kV doc pm cdv ct oc:Value} {an od:Option Addr}
  {osl:Array (Option Value)} {N ps:List Str} {sp:Sp} (lk:K.lookup f=some ⟨oc,od,.func (fnOf name qual params body scope dV kV doc pm an cdv ct),osl⟩) (hcd:codeIn K cdv qual=true) (S:FnScope N ps scope)
  (len:∀ vs H Q E,sp vs H Q E->vs.length=ps.length)
  (hbody:∀ (A:Around) (outer:List Env) (s:Shared) (H:Hp) (vs:List V) (Q:VK) (E:XK),Room k (A.deeper (envOfC qual scope s.heap.objs.size f cdv))->sp vs H Q E ->
   ∃ t,PSs (cxOf CX P w K mg base N qual scope f cdv A outer s H E) body t/\t { nx:=fun _ H'=>Q .non H',rt:=Q } (start N vs) H):
  FnOk P w K mg base CX (k+1) f (fnOf name qual params body scope dV kV doc pm an cdv ct) ps sp:=by
 refine ⟨len,fun A outer s H args us vs Q E hr e0 hb r hsp=>?_⟩;have hl:=len _ _ _ _ hsp;have KX:K.In s.heap:=e0.mod.kin.keeps fun b o e=>(e0.bs b o e).1
 have lim:s.heap.NoLimit:=e0.mod.nolimit.keeps fun b o e=>(e0.bs b o e).1
 have hkind:∀ y ∈ ps.zip us,scope.names.lookup y.1=some .local\/(scope.names.lookup y.1=some .cell/\((cellsFrom (s.heap.objs.size+1) scope.names []).lookup y.1).isSome=true):=fun ⟨n,v⟩ hy=>by
  rcases S.par n (List.of_mem_zip hy).1 with q | q
  ·exact .inl q
  ·exact .inr ⟨q,PySem.W.cellsFrom_some _ _ _ (.inl q)⟩
 refine codeAny_call_function hr.depth (KX _ _ lk) rfl S.co S.gen rfl (PySem.W.codeRec_of KX hcd) (hb _ _ _ _ ?_);refine tokQ e0.tk (wpAny_newFunctionEnv_cells S.kind hkind fun env he s1 x htk=>?_);subst he;refine ⟨lim.keeps x.toInCall.keep,codeAny_func ?_⟩;obtain ⟨t,ht,hq⟩:=hbody A outer s H vs Q E (hr.deeper _) hsp;have I:Inv (cxOf CX P w K mg base N qual scope f cdv A outer s H E) [] (start N vs) H s1:=qF S hr.hd e0 hl r x htk;refine wpAny_mono (ht [] s1 (start N vs) H _ I hq) (fun fl s' hs=>?_) fun e s' hs=>hs
 have fin:∀ {σ':St} {H':Hp} {v:V} {u:Value},Inv (cxOf CX P w K mg base N qual scope f cdv A outer s H E) [] σ' H' s'->RelV v u->Q v H'->CE outer P w H s Q u s':=
  fun {σ' H' v u} J rv q=>⟨v,H',J.tk,J.os,J.bare,J.base,J.hok,rv,q⟩
 cases fl with
 | ret u=>
  obtain ⟨v,σ',H',J,rv,q⟩:=hs;exact fin J rv q
 | next=>
  obtain ⟨σ',H',J,q⟩:=hs;exact fin (v:=V.non) (u:=Value.none) J rfl q
 | brk=>
  obtain ⟨_,_,_,q⟩:=hs;exact False.elim q
 | cont=>
  obtain ⟨_,_,_,q⟩:=hs;exact False.elim q
section
variable {X:Cx} {x:Str} {p pos:Pos} {e:Expr} {es:List Expr} {t:TA} {id T:String} {r:List V->Hp->VK->Prop}
noncomputable def tCB (r:List V->Hp->VK->Prop) (t:TA):TE:=fun σ H Q=>t σ H fun vs H1=>r vs H1 Q
theorem av (hc:CallR X (.builtin id) r) (hg:Gl X x) (hm:X.mg x=none) (hv:bootBuiltins x=some (.builtin id)) (ha:PA X (e::es) t) (hn:x ≠ "__name__" := by decide) (hdb:(x == ("__debug__" : Str))=false:=by decide)
  (he:starEach (e::es) X.env=(false,eval e X.env)::starEach es X.env:=by rfl) (hpl:(backTo pos (starEach es X.env)).any (·.1)=false:=by rfl):PE X (.Call (.Name x p) (e::es) [] pos) (tCB r t):=by
 intro pins s σ H Q I h;refine wpAny_Call_Name_kw (hZ I hg hm hv ?_ hn hdb);exact PyProof.Rows.callWith_builtin1 (thn (ha pos pins s σ H _ I h) fun us s1 ⟨vs,H1,I1,r1,q1⟩=>hc pins s1 σ H1 vs us Q I1 r1 q1) he hpl
theorem ni (hc:CallR X (.type T) r) (hg:Gl X x) (hm:X.mg x=none) (hv:bootBuiltins x=some (.type T)) (ha:PA X (e::es) t) (hn:x ≠ "__name__" := by decide) (hdb:(x == ("__debug__" : Str))=false:=by decide)
  (he:starEach (e::es) X.env=(false,eval e X.env)::starEach es X.env:=by rfl) (hpl:(backTo pos (starEach es X.env)).any (·.1)=false:=by rfl):PE X (.Call (.Name x p) (e::es) [] pos) (tCB r t):=by
 intro pins s σ H Q I h;refine wpAny_Call_Name_kw (hZ I hg hm hv ?_ hn hdb);exact PyProof.Rows.callWith_type1 (thn (ha pos pins s σ H _ I h) fun us s1 ⟨vs,H1,I1,r1,q1⟩=>hc pins s1 σ H1 vs us Q I1 r1 q1) he hpl
end
end L2
namespace HT
open PySem PyProof.Rows
section
open PySem.SeqAt
open PySem.AutoSeq1 (wpAny_loadPart')
open PySem.MeetsSeq PySem.MeetsSeq2 PySem.MeetsSeq3
end
section
variable {prog:Program} {w:World} {A:Around} {E:Value->Shared->Prop} {s:Shared}
noncomputable def sIx (n d:Nat):Option Int->Nat
 | none=>d
 | some v=>if v < 0 then (v+(n:Int)).toNat else min v.toNat n
theorem sIx_none (n d:Nat):sIx n d none=d:=rfl
theorem sIx_nat (n d k:Nat):sIx n d (some (k:Int))=min k n:=by
 show (if (k:Int) < 0 then ((k:Int)+(n:Int)).toNat else min (k:Int).toNat n)=min k n;rw [if_neg (by omega),Int.toNat_natCast]
end
end HT
namespace L2
open PySem PySem.Spec PyProof.Rows
noncomputable abbrev TO:=St->Hp->(Option Int->Hp->Prop)->Prop
def PO (X:Cx) (e:Option Expr) (t:TO):Prop:=
 ∀ (pins:List (Addr × Obj)) (s:Shared) (σ:St) (H:Hp) (Q:Option Int->Hp->Prop),Inv X pins σ H s->t σ H Q ->
  wpAny (model X.prog X.w) X.A (evalPart e X.env) (fun u s'=>∃ o H',Inv X pins σ H' s'/\IsPart u o/\Q o H') X.xe s
noncomputable def tNoPart:TO:=fun _ H Q=>Q none H
noncomputable def tPart (t:TE):TO:=fun σ H Q=>t σ H fun x H1=>∃ i,x=.int i/\Q (some i) H1
theorem pD {ns:List Int}:∀ {us:List Value},Vals (ns.map V.int) us->IntsAre us ns:=by
 induction ns with
 | nil=>intro us r; rw [List.map_nil] at r; cases r; exact .nil
 | cons n ns ih=>
  intro us r;rw [List.map_cons] at r;cases r with
  | cons r1 r2=>
   obtain ⟨t,e⟩:=r1;subst e;exact .cons n t (ih r2)
section
variable {X:Cx} {e:Expr} {te:TE} {lo hi:Option Expr} {tl th:TO} {pos p2:Pos}
theorem fq:PO X none tNoPart:=by
 intro pins s σ H Q I h;rw [evalPart_none];exact wpAny_pure ⟨none,H,I,.none,h⟩
theorem zr (h:PE X e te):PO X (some e) (tPart te):=by
 intro pins s σ H Q I hw;rw [evalPart_some];refine thn (h pins s σ H _ I hw) fun u s1 ⟨x,H1,I1,r1,q1⟩=>?_
 obtain ⟨i,rfl,q⟩:=q1;obtain ⟨t,rfl⟩:=r1;exact ⟨some i,H1,I1,.int i t,q⟩
def SlR (X:Cx) (r:V->Option Int->Option Int->Hp->VK->Prop):Prop:=
 ∀ (pins:List (Addr × Obj)) (s:Shared) (σ:St) (H:Hp) (x:V) (v vl vu:Value) (lo hi:Option Int) (sl:Addr) (Q:VK),Inv X pins σ H s->RelV x v->s.heap.IsSliceOf sl vl vu .none->IsPart vl lo->IsPart vu hi->r x lo hi H Q ->
  ∃ T id,typeLookup (.type T) "__getitem__" = pure (some (.builtin id))/\s.TypeIs v T/\wpAny (model X.prog X.w) X.A (getItem v (.ref sl)) (EP X pins σ Q) X.xe s
theorem SlR.or {r r':V->Option Int->Option Int->Hp->VK->Prop} (h:SlR X r) (h':SlR X r'):SlR X (fun x lo hi H Q=>r x lo hi H Q\/r' x lo hi H Q):=by
 intro pins s σ H x v vl vu lo hi sl Q I rx hs pl pu q;rcases q with q | q
 ·exact h pins s σ H x v vl vu lo hi sl Q I rx hs pl pu q
 ·exact h' pins s σ H x v vl vu lo hi sl Q I rx hs pl pu q
noncomputable def tSl (r:V->Option Int->Option Int->Hp->VK->Prop) (te:TE) (tl th:TO):TE:=fun σ H Q=>te σ H fun x H1=>tl σ H1 fun l H2=>th σ H2 fun u H3=>r x l u H3 Q
theorem dU {r:V->Option Int->Option Int->Hp->VK->Prop} (hr:SlR X r) (he:PE X e te) (hl:PO X lo tl) (hu:PO X hi th):PE X (.Subscript e (.Slice lo hi none p2) pos) (tSl r te tl th):=by
 intro pins s σ H Q I h;refine Subscript_ (thn (he pins s σ H _ I h) fun v s1 ⟨x,H1,I1,r1,q1⟩=>?_);refine wpAny_Slice (thn (hl pins s1 σ H1 _ I1 q1) fun vl s2 ⟨l,H2,I2,pl,q2⟩=>thn (hu pins s2 σ H2 _ I2 q2) fun vu s3 ⟨u,H3,I3,pu,q3⟩=>?_);rw [evalPart_none];refine wpAny_pure ?_;have I4:Inv X pins σ H3 { s3 with heap:=s3.heap.push { cls:=.type "slice",data:=.fields #[vl,vu,.none] } }:=I3.kept (t':=s3.toks) fun b ob q=>Heap.get?_push_of_some _ q
 obtain ⟨T,id,hT,ht,hg⟩:=hr pins { s3 with heap:=s3.heap.push { cls:=.type "slice",data:=.fields #[vl,vu,.none] } } σ H3 x v vl vu l u s3.heap.objs.size Q I4 r1 (Heap.IsSliceOf.new ..) pl pu q3;show wpAny (model X.prog X.w) X.A (subscriptTail e (.Slice lo hi none p2) v (.ref s3.heap.objs.size)) (EP X pins σ Q) X.xe { s3 with heap:=s3.heap.push { cls:=.type "slice",data:=.fields #[vl,vu,.none] } };exact tail_any (ops:=[.ref s3.heap.objs.size,v]) ht hT hg (by with_unfolding_all rfl)
noncomputable def cutV (xs:List V) (lo hi:Option Int):List V:=(xs.drop (HT.sIx xs.length 0 lo)).take (HT.sIx xs.length xs.length hi - HT.sIx xs.length 0 lo)
theorem sj (xs:List V) (lo hi:Option Int):(cutV xs lo hi).length<=xs.length:=by
 unfold cutV;rw [List.length_take,List.length_drop];omega
end
noncomputable def ixN (n:Nat) (i:Int):Option Nat:=if 0<=i then (if i < n then some i.toNat else none) else if -(n:Int)<=i then some (i+n).toNat else none
noncomputable def atI {α:Type} (xs:List α) (i:Int):Option α:=(ixN xs.length i).bind fun j=>xs[j]?
theorem uN {n:Nat} {i:Int} {j:Nat} (h:ixN n i=some j):seqIndex? i n=some j/\j < n /\ -(n:Int)<=i/\i < n:=by
 unfold ixN at h;by_cases h0:0<=i
 ·rw [if_pos h0] at h;by_cases h1:i < n
  ·rw [if_pos h1] at h;have e:i.toNat=j:=Option.some.inj h;exact ⟨by rw [seqIndex_of h0 h1,e],by omega,by omega,h1⟩
  ·rw [if_neg h1] at h; cases h
 ·rw [if_neg h0] at h;by_cases h1:-(n:Int)<=i
  ·rw [if_pos h1] at h;have e:(i+n).toNat=j:=Option.some.inj h;exact ⟨by rw [seqIndex_neg (by omega) h1,e],by omega,h1,by omega⟩
  ·rw [if_neg h1] at h; cases h
theorem rh {α:Type} {xs:List α} {i:Int} {v:α} (h:atI xs i=some v):∃ j,seqIndex? i xs.length=some j/\xs[j]? = some v/\j < xs.length /\ -(xs.length:Int)<=i/\i < xs.length:=by
 unfold atI at h;cases e:ixN xs.length i with
 | none=>rw [e] at h; cases h
 | some j=>
  rw [e] at h;obtain ⟨h1,h2,h3,h4⟩:=uN e;exact ⟨j,h1,h,h2,h3,h4⟩
theorem aI {α:Type} {xs:List α} {j:Nat} {v:α} (h:xs[j]? = some v):atI xs (j:Int)=some v:=by
 have hj:j < xs.length:=(List.getElem?_eq_some_iff.mp h).1;have e:ixN xs.length (j:Int)=some j:=by
  unfold ixN;rw [if_pos (by omega),if_pos (by omega)]; simp
 unfold atI; rw [e]; exact h
def PlainIx (b:Expr):Prop:=∀ o i,subscripted b false o i=operate [o,i] (getItem o i)
def IxR (X:Cx) (r:R2):Prop:=
 ∀ (value slice:Expr) (pins:List (Addr × Obj)) (s:Shared) (σ:St) (H:Hp) (x y:V) (v u:Value) (Q:VK),Inv X pins σ H s->RelV x v->RelV y u->r x y H Q ->
  subscripted slice false v u=operate [v,u] (getItem v u)->wpAny (model X.prog X.w) X.A (subscriptTail value slice v u) (EP X pins σ Q) X.xe s
def MtR (X:Cx) (id:String) (r:V->List V->Hp->VK->Prop):Prop:=
 ∀ (pins:List (Addr × Obj)) (s:Shared) (σ:St) (H:Hp) (x:V) (xs:List V) (v:Value) (us:List Value) (Q:VK),Inv X pins σ H s->RelV x v->Vals xs us->r x xs H Q ->
  wpAny (model X.prog X.w) X.A (call (.builtin id) (v::us)) (EP X pins σ Q) X.xe s
section
variable {X:Cx} {a b:Expr} {ta tb:TE} {pos:Pos}
theorem IxR.or {r r':R2} (h:IxR X r) (h':IxR X r'):IxR X (fun x y H Q=>r x y H Q\/r' x y H Q):=by
 intro value slice pins s σ H x y v u Q I rx ry q hs;rcases q with q | q
 ·exact h value slice pins s σ H x y v u Q I rx ry q hs
 ·exact h' value slice pins s σ H x y v u Q I rx ry q hs
theorem az {r:R2} (hr:IxR X r) (ha:PE X a ta) (hb:PE X b tb) (hs:PlainIx b):PE X (.Subscript a b pos) (tOp r ta tb):=by
 intro pins s σ H Q I h;exact Subscript_ (binT ha hb I h fun v u s2 x y H2 I2 rx ry q=>hr a b pins s2 σ H2 x y v u Q I2 rx ry q (hs _ _))
noncomputable def rIxL (K:Frag):R2:=fun x y H Q=>∃ p xs i v,x=.ref p/\y=.int i/\SqL K H p xs/\atI xs i=some v/\Q v H
noncomputable def rIxT (K:Frag):R2:=fun x y H Q=>∃ p xs i v,x=.ref p/\y=.int i/\SqT K H p xs/\atI xs i=some v/\Q v H
noncomputable def rIxS:R2:=fun x y H Q=>∃ z i c,x=.str z/\y=.int i/\z.length<=sizeLine/\atI z.cps.toList i=some c/\Q (.str ⟨#[c]⟩) H
theorem yY:IxR X (rIxL X.K):=by
 intro value slice pins s σ H x y v u Q I rx ry h hs;obtain ⟨p,xs,i,z,rfl,rfl,hq,he,q⟩:=h;cases rx;obtain ⟨t,rfl⟩:=ry;obtain ⟨its,r,pl,hz⟩:=I.list hq;obtain ⟨j,h1,h2,h3,h4,h5⟩:=rh he;obtain ⟨w,ew,rw'⟩:=r.get h2;have hl:=r.length;have hn:=line63;have fin:EP X pins σ Q w s:=⟨z,H,I,rw',q⟩;by_cases h0:0<=i
 ·have hj:i.toNat=j:=by
   rw [seqIndex_of h0 h5] at h1;exact Option.some.inj h1
  exact item_listR pl.isList h0 (by omega) (by rw [hj]; simpa using ew) fin hs
 ·have hj:(i+(its.toArray.size:Int)).toNat=j:=by
   rw [seqIndex_neg (by omega) h4] at h1;rw [List.size_toArray,<- hl];exact Option.some.inj h1
  exact subscriptTail_builtinR (x:=w) pl.isList.typeIs slot_list_getitem.lookup
   (wpAny_getItem_list_neg (Q:=fun r s'=>r=w/\EP X pins σ Q r s') pl.isList (by omega) (by rw [List.size_toArray] <;> omega) (by omega) (by rw [hj]; simpa using ew) ⟨rfl,fin⟩) hs
theorem A4:IxR X (rIxT X.K):=by
 intro value slice pins s σ H x y v u Q I rx ry h hs;obtain ⟨p,xs,i,z,rfl,rfl,hq,he,q⟩:=h;cases rx;obtain ⟨t,rfl⟩:=ry;obtain ⟨its,r,pl,hz⟩:=I.tuple hq;obtain ⟨j,h1,h2,h3,h4,h5⟩:=rh he;obtain ⟨w,ew,rw'⟩:=r.get h2;have hl:=r.length;have hn:=line63;have fin:EP X pins σ Q w s:=⟨z,H,I,rw',q⟩;exact subscriptTail_builtinR (x:=w) pl.typeIs slot_tuple_getitem.lookup
  (getItem_tuple (j:=j) (Q:=fun r s'=>r=w/\EP X pins σ Q r s') pl (by omega) (by omega) (by rw [List.size_toArray,<- hl]; exact h1) (by simpa using ew) ⟨rfl,fin⟩) hs
theorem A1:IxR X rIxS:=by
 intro value slice pins s σ H x y v u Q I rx ry h hs;obtain ⟨z,i,c,rfl,rfl,hz,he,q⟩:=h;obtain ⟨t,rfl⟩:=rx;obtain ⟨t',rfl⟩:=ry;obtain ⟨j,h1,h2,h3,h4,h5⟩:=rh he;have hl:z.cps.toList.length=z.length:=by simp [Str.length]
 rw [hl] at h1 h4 h5;have hn:=line63;exact tail_any (typeIs_str s z t) slot_str_getitem.lookup (getItem_str (c:=c) (by
  have e1:decide (i < -(2 ^ 63:Int))=false:=decide_eq_false (by omega);have e2:decide (i >= 2 ^ 63)=false:=decide_eq_false (by omega);rw [e1,e2,Bool.or_false]) (by rw [h1]; simpa using h2) ⟨.str ⟨#[c]⟩,H,I.tok _,⟨_,rfl⟩,q⟩) hs
noncomputable def rIx (K:Frag):R2:=fun x y H Q=>rIxL K x y H Q\/rIxT K x y H Q\/rIxS x y H Q
theorem Bi:IxR X (rIx X.K):=yY.or (A4.or A1)
theorem tS (its:List Value) (n j:Nat) (u:Value):Obj.mapSeq (·.setIfInBounds j u) { cls:=.type "list",data:=.seq its.toArray n }={ cls:=.type "list",data:=.seq (its.set j u).toArray n }:=by
 simp [Obj.mapSeq]
theorem Inv.lst {pins:List (Addr × Obj)} {σ:St} {H:Hp} {s:Shared} {p:Addr} {xs:List V} (I:Inv X pins σ H s) (h:H p=some (.lst xs)):
  ∃ (its:List Value) (n:Nat),Vals xs its/\s.heap.get? p=some { cls:=.type "list",data:=.seq its.toArray n }/\xs.length<=sizeLine:=by
 obtain ⟨z,its,n,r,e⟩:=I.hok p _ h;exact ⟨its,n,r,e,z⟩
theorem Inv.lstUpd {pins:List (Addr × Obj)} {σ:St} {H:Hp} {s:Shared} {p:Addr} {xs ys:List V} {its its':List Value} {n n':Nat} {f:Obj->Obj} (I:Inv X pins σ H s) (h:H p=some (.lst xs))
  (ho:s.heap.get? p=some { cls:=.type "list",data:=.seq its.toArray n }) (hf:f { cls:=.type "list",data:=.seq its.toArray n }={ cls:=.type "list",data:=.seq its'.toArray n' }) (r:Vals ys its') (hz:ys.length<=sizeLine) (t:Nat) (ht:0 < t:=by first | assumption | exact Nat.succ_pos _ | (apply Inv.tk; assumption) | omega):
  Inv X pins σ (upd H p (.lst ys)) { s with heap:=s.heap.update p f,toks:=t }:=by
 have e:(s.heap.update p f).get? p=some { cls:=.type "list",data:=.seq its'.toArray n' }:=by
  rw [Heap.get?_update_self f ho (by rw [hf] <;> rfl),hf]
 refine I.write (x:=p) (e:=p) (by rw [h]; trivial) (.inl rfl) (fun b u hb q=>(Heap.get?_update_other _ _ (Ne.symm hb)).trans q) ⟨_,e⟩ ?_;exact ⟨hz,its',n',r,e⟩
noncomputable def rSetL:V->V->V->Hp->(Hp->Prop)->Prop:=fun o i v H Q=>∃ p xs k j,o=.ref p/\i=.int k/\H p=some (.lst xs)/\ixN xs.length k=some j/\Q (upd H p (.lst (xs.set j v)))
theorem mj:PSet X rSetL:=by
 intro pins s σ H o i v ov iv u Q I ro ri rv h;obtain ⟨p,xs,k,j,rfl,rfl,hp,hj,q⟩:=h;cases ro;obtain ⟨t,rfl⟩:=ri;obtain ⟨its,n,r,ho,hz⟩:=I.lst hp;obtain ⟨h1,h2,h3,h4⟩:=uN hj;have hl:=r.length;have hn:=line63;have I':Inv X pins σ (upd H p (.lst (xs.set j v))) { s with heap:=s.heap.update p (Obj.mapSeq (·.setIfInBounds j u)) }:=
  I.lstUpd hp ho (tS its n j u) (r.set rv j) (by rw [List.length_set]; exact hz) s.toks
 by_cases h0:0<=k
 ·have hk:k.toNat=j:=by
   rw [seqIndex_of h0 h4] at h1;exact Option.some.inj h1
  exact PySem.W.ki_setAt ho h0 (by omega) (by rw [List.size_toArray,<- hl]; exact h4) (by rw [hk]; exact ⟨_,I',q⟩)
 ·have hk:(k+(its.toArray.size:Int)).toNat=j:=by
   rw [seqIndex_neg (by omega) h3] at h1;rw [List.size_toArray,<- hl];exact Option.some.inj h1
  exact PySem.W.ki_setBack ho (by omega) (by rw [List.size_toArray,<- hl]; exact h3) (by omega) (by rw [hk]; exact ⟨_,I',q⟩)
theorem rD (lo hi:Option Int) (n:Nat):(sliceBounds lo hi none n).1=((HT.sIx n 0 lo:Nat):Int)/\(sliceBounds lo hi none n).2.1=((HT.sIx n n hi:Nat):Int)/\(sliceBounds lo hi none n).2.2=1:=by
 refine ⟨?_,?_,rfl⟩
 ·cases lo with
  | none=>simp [sliceBounds,HT.sIx]
  | some i=>
   simp only [sliceBounds,HT.sIx,Option.getD_none,show (1:Int) > 0 by decide,if_true];by_cases h:i < 0
   ·simp only [h,if_true] <;> omega
   ·simp only [h,if_false] <;> omega
 ·cases hi with
  | none=>simp [sliceBounds,HT.sIx]
  | some i=>
   simp only [sliceBounds,HT.sIx,Option.getD_none,show (1:Int) > 0 by decide,if_true];by_cases h:i < 0
   ·simp only [h,if_true] <;> omega
   ·simp only [h,if_false] <;> omega
theorem pS (its:List Value) (lo hi:Option Int):slicePick its.toArray lo hi none=((its.drop (HT.sIx its.length 0 lo)).take (HT.sIx its.length its.length hi - HT.sIx its.length 0 lo)).toArray:=by
 obtain ⟨h1,h2,h3⟩:=rD lo hi its.toArray.size;unfold slicePick;rw [h1,h2,h3];simp only [sliceRange_one,pick_run,List.size_toArray] <;> rfl
noncomputable def rSlL (K:Frag):V->Option Int->Option Int->Hp->VK->Prop:=fun x lo hi H Q=>∃ a xs,x=.ref a/\SqL K H a xs/\∀ p,H p=none->Q (.ref p) (upd H p (.lst (cutV xs lo hi)))
theorem yE:SlR X (rSlL X.K):=by
 intro pins s σ H x v vl vu lo hi sl Q I rx hs pl pu h;obtain ⟨a,xs,rfl,hx,q⟩:=h;cases rx;obtain ⟨its,r,ht,hz⟩:=I.list hx;have hlen:=r.length;refine ⟨"list",_,slot_list_getitem.lookup,ht.isList.typeIs,?_⟩;refine wpAny_getItem_list_slice ht.isList hs pl pu .none (by simp) ?_ (by rw [List.size_toArray] <;> omega);rw [pS,<- hlen];refine ⟨.ref s.heap.objs.size,_,I.laid (t':=s.toks) (o:=.lst (cutV xs lo hi)) (fun b ob q=>Heap.get?_push_of_some _ q) (Nat.le_refl _) ?_,rfl,q _ (I.hok.fresh (Nat.le_refl _))⟩;exact ⟨Nat.le_trans (sj xs lo hi) hz,_,0,(r.drop (HT.sIx xs.length 0 lo)).take (HT.sIx xs.length xs.length hi - HT.sIx xs.length 0 lo),Heap.get?_push_size _ rfl⟩
noncomputable def flatV:V->Bool
 | .non=>true
 | .bl _=>true
 | .int _=>true
 | .str _=>true
 | _=>false
noncomputable def eqV:V->V->Bool
 | .non,.non=>true
 | .bl a,.bl b=>a == b
 | .bl a,.int b=>(if a then 1 else 0) == b
 | .int a,.bl b=>a == (if b then 1 else 0)
 | .int a,.int b=>a == b
 | .str a,.str b=>a == b
 | _,_=>false
theorem ud {A:Around} {s:Shared} {y x:V} {u v:Value} (ry:RelV y u) (rx:RelV x v) (fy:flatV y=true) (fx:flatV x=true):SeqAt.EqAt A s u v (eqV y x):=by
 cases y with
 | non=>
  cases ry;cases x with
  | non=>cases rx; exact SeqAt.EqAt.same _
  | bl b=>cases rx; exact SeqAt.EqAt.none_bool b
  | int b=>obtain ⟨t,rfl⟩:=rx; exact SeqAt.EqAt.none_int b t
  | str b=>obtain ⟨t,rfl⟩:=rx; exact SeqAt.EqAt.none_str b t
  | _=>exact absurd (show false=true from fx) Bool.false_ne_true
 | bl a=>
  cases ry;cases x with
  | non=>cases rx; exact SeqAt.EqAt.bool_none a
  | bl b=>cases rx; exact SeqAt.EqAt.bool_bool a b
  | int b=>obtain ⟨t,rfl⟩:=rx; exact SeqAt.EqAt.bool_int a b t
  | str b=>obtain ⟨t,rfl⟩:=rx; exact SeqAt.EqAt.bool_str a b t
  | _=>exact absurd (show false=true from fx) Bool.false_ne_true
 | int a=>
  obtain ⟨t',rfl⟩:=ry;cases x with
  | non=>cases rx; exact SeqAt.EqAt.int_none a t'
  | bl b=>cases rx; exact SeqAt.EqAt.int_bool a t' b
  | int b=>obtain ⟨t,rfl⟩:=rx; exact SeqAt.EqAt.int_int a t' b t
  | str b=>obtain ⟨t,rfl⟩:=rx; exact SeqAt.EqAt.int_str a t' b t
  | _=>exact absurd (show false=true from fx) Bool.false_ne_true
 | str a=>
  obtain ⟨t',rfl⟩:=ry;cases x with
  | non=>cases rx; exact SeqAt.EqAt.str_none a t'
  | bl b=>cases rx; exact SeqAt.EqAt.str_bool a t' b
  | int b=>obtain ⟨t,rfl⟩:=rx; exact SeqAt.EqAt.str_int a t' b t
  | str b=>obtain ⟨t,rfl⟩:=rx; exact SeqAt.EqAt.str_str a t' b t
  | _=>exact absurd (show false=true from fx) Bool.false_ne_true
 | _=>exact absurd (show false=true from fy) Bool.false_ne_true
noncomputable def eqU (x:V) (u:Value):Bool:=match u with
 | .none=>eqV .non x
 | .bool b=>eqV (.bl b) x
 | .int i _=>eqV (.int i) x
 | .str z _=>eqV (.str z) x
 | _=>false
theorem xf {x y:V} {u:Value} (r:RelV y u) (f:flatV y=true):eqU x u=eqV y x:=by
 cases y with
 | non=>cases r; rfl
 | bl b=>cases r; rfl
 | int i=>obtain ⟨t,rfl⟩:=r; rfl
 | str z=>obtain ⟨t,rfl⟩:=r; rfl
 | _=>exact absurd (show false=true from f) Bool.false_ne_true
theorem md {x:V}:∀ {xs:List V} {us:List Value},Vals xs us->xs.all flatV=true->us.any (eqU x)=xs.any fun y=>eqV y x
 | _,_,.nil,_=>rfl
 | y::xs,u::us,.cons r t,f=>by
  rw [List.all_cons,Bool.and_eq_true] at f;rw [List.any_cons,List.any_cons,xf r f.1,md t f.2]
theorem j6 {A:Around} {s:Shared} {x:V} {v:Value} (rx:RelV x v) (fx:flatV x=true):∀ {xs:List V} {us:List Value},Vals xs us->xs.all flatV=true->∀ u ∈ us,SeqAt.EqAt A s u v (eqU x u)
 | _,_,.nil,_=>fun u hu=>by cases hu
 | y::xs,u::us,.cons r t,f=>fun u' hu=>by
  rw [List.all_cons,Bool.and_eq_true] at f;rcases List.mem_cons.mp hu with rfl | hu
  ·rw [xf r f.1]; exact ud r rx f.1 fx
  ·exact j6 rx fx t f.2 u' hu
noncomputable def inV (x:V) (xs:List V):Bool:=xs.any fun y=>eqV y x
noncomputable def rIn (K:Frag) (neg:Bool):R2:=fun x y H Q=>∃ p xs,y=.ref p/\(SqL K H p xs\/SqT K H p xs)/\flatV x=true/\xs.all flatV=true/\Q (.bl (if neg then !inV x xs else inV x xs)) H
theorem wn:OpR X (compareOp .In) (rIn X.K false):=by
 intro pins s σ H x y v u Q I rx ry h;obtain ⟨p,xs,rfl,hq,fx,fs,q⟩:=h;cases ry;rcases hq with hq | hq
 ·obtain ⟨its,r,pl,hz⟩:=I.list hq;refine SeqAt.in_listAt (eqU x) pl.isList (fun w hw=>j6 rx fx r fs w (by simpa using hw)) ⟨.bl _,H,I,rfl,?_⟩;rw [show its.toArray.any (eqU x)=its.any (eqU x) by simp,md r fs];exact q
 ·obtain ⟨its,r,pl,hz⟩:=I.tuple hq;refine SeqAt.in_tupleAt (eqU x) pl (fun w hw=>j6 rx fx r fs w (by simpa using hw)) ⟨.bl _,H,I,rfl,?_⟩;rw [show its.toArray.any (eqU x)=its.any (eqU x) by simp,md r fs];exact q
theorem qZ:OpR X (compareOp .NotIn) (rIn X.K true):=by
 intro pins s σ H x y v u Q I rx ry h;obtain ⟨p,xs,rfl,hq,fx,fs,q⟩:=h;cases ry;rcases hq with hq | hq
 ·obtain ⟨its,r,pl,hz⟩:=I.list hq;refine SeqAt.notIn_listAt (eqU x) pl.isList (fun w hw=>j6 rx fx r fs w (by simpa using hw)) ⟨.bl _,H,I,rfl,?_⟩;rw [show its.toArray.any (eqU x)=its.any (eqU x) by simp,md r fs];exact q
 ·obtain ⟨its,r,pl,hz⟩:=I.tuple hq;refine SeqAt.notIn_tupleAt (eqU x) pl (fun w hw=>j6 rx fx r fs w (by simpa using hw)) ⟨.bl _,H,I,rfl,?_⟩;rw [show its.toArray.any (eqU x)=its.any (eqU x) by simp,md r fs];exact q
theorem rz:CallR X (.builtin "len") (fun xs H Q=>∃ p ys,xs=[.ref p]/\(SqL X.K H p ys\/SqT X.K H p ys)/\Q (.int ys.length) H):=by
 intro pins s σ H xs us Q I r h;obtain ⟨p,ys,rfl,hq,q⟩:=h;obtain ⟨u,rfl,rx⟩:=vals1 r;cases rx;have hn:=line63;rcases hq with hq | hq
 ·obtain ⟨its,r',pl,hz⟩:=I.list hq;have hlen:=r'.length;exact Calls.call_len_list pl.isList (by simp only [List.size_toArray] <;> omega) ⟨.int ys.length,H,I.tok _,⟨s.toks+1,by rw [List.size_toArray,hlen]⟩,q⟩
 ·obtain ⟨its,r',pl,hz⟩:=I.tuple hq;have hlen:=r'.length;exact len_tuple pl (by simp only [List.size_toArray] <;> omega) ⟨.int ys.length,H,I.tok _,⟨s.toks+1,by rw [List.size_toArray,hlen]⟩,q⟩
theorem rB:CallR X (.builtin "len") (fun xs H Q=>∃ z,xs=[.str z]/\z.length<=sizeLine/\Q (.int z.length) H):=by
 intro pins s σ H xs us Q I r h;obtain ⟨z,rfl,hz,q⟩:=h;obtain ⟨u,rfl,t,rfl⟩:=vals1 r;have hn:=line63;exact len_str (by omega) ⟨.int z.length,H,I.tok _,⟨_,rfl⟩,q⟩
theorem rS:CallR X (.type "list") (fun xs H Q=>∃ p ys,xs=[.ref p]/\(SqL X.K H p ys\/SqT X.K H p ys)/\∀ l,H l=none->Q (.ref l) (upd H l (.lst ys))):=by
 intro pins s σ H xs us Q I r h;obtain ⟨p,ys,rfl,hq,q⟩:=h;obtain ⟨u,rfl,rx⟩:=vals1 r;cases rx;have fin:∀ (its:List Value),Vals ys its->ys.length<=sizeLine->∀ (h':Heap) (c':Nat),(∀ b o',s.heap.get? b=some o'->h'.get? b=some o') ->
   h'.get? s.heap.objs.size=some { cls:=.type "list",dict:=none,data:=.seq its.toArray c',slots:=#[] }->EP X pins σ Q (.ref s.heap.objs.size) { s with heap:=h' }:=fun its r' hz h' c' kp e=>
  ⟨.ref s.heap.objs.size,_,I.laid (t':=s.toks) kp (Nat.le_refl _) (show ObjOk X.prog X.w _ h' _ (.lst ys) from ⟨hz,its,c',r',e⟩),rfl,q _ (I.hok.fresh (Nat.le_refl _))⟩
 rcases hq with hq | hq
 ·obtain ⟨its,r',pl,hz⟩:=I.list hq;have hlen:=r'.length;obtain ⟨o,ho,hc,n,hd⟩:=pl.isList;exact call_list_seq p (.inl rfl) ho hc hd (fun h' c' kp e=>fin its r' hz h' c' kp e) (by simp only [List.size_toArray] <;> omega)
 ·obtain ⟨its,r',pl,hz⟩:=I.tuple hq;have hlen:=r'.length;obtain ⟨o,ho,hc,n,hd⟩:=pl;exact call_list_seq p (.inr rfl) ho hc hd (fun h' c' kp e=>fin its r' hz h' c' kp e) (by simp only [List.size_toArray] <;> omega)
theorem qh:CallR X (.type "tuple") (fun xs H Q=>∃ p ys,xs=[.ref p]/\((SqL X.K H p ys/\∀ l,H l=none->Q (.ref l) (upd H l (.tup ys)))\/(SqT X.K H p ys/\Q (.ref p) H))):=by
 intro pins s σ H xs us Q I r h;obtain ⟨p,ys,rfl,h⟩:=h;obtain ⟨u,rfl,rx⟩:=vals1 r;cases rx;rcases h with ⟨hq,q⟩ | ⟨hq,q⟩
 ·obtain ⟨its,r',pl,hz⟩:=I.list hq;have hlen:=r'.length;refine call_tuple_list pl.isList (fun h' kp=>?_) (by simp only [List.size_toArray] <;> omega);have I1:Inv X pins σ H { s with heap:=h' }:=I.kept (t':=s.toks) kp;have I2:Inv X pins σ (upd H h'.objs.size (.tup ys)) { s with heap:=h'.push { cls:=.type "tuple",data:=.seq its.toArray } }:=
   I1.laid (t':=s.toks) (fun b o e=>Heap.get?_push_of_some _ e) (Nat.le_refl _) (show ObjOk X.prog X.w _ _ _ (.tup ys) from ⟨hz,its,r',IsTup.new _ _⟩)
  exact ⟨.ref h'.objs.size,_,I2,rfl,q _ (I1.hok.fresh (Nat.le_refl _))⟩
 ·obtain ⟨its,r',pl,hz⟩:=I.tuple hq;exact call_tuple_same pl ⟨.ref p,H,I,rfl,q⟩
def tyV (K:Frag) (T:String) (x:V) (H:Hp):Prop:=match x with
 | .str _=>T = "str"
 | .int _=>T = "int"
 | .ref p=>(T = "list" /\ ∃ xs,SqL K H p xs)\/(T = "tuple" /\ ∃ o,K.lookup p=some o/\o.cls=.type "tuple" /\ o.dict=none) \/
   (T = "dict" /\ ((∃ kvs,H p=some (.dK kvs))\/∃ kvs,H p=some (.dT kvs)))\/(T = "set" /\ ∃ S n,H p=some (.set S n))
 | _=>False
theorem AL {pins:List (Addr × Obj)} {σ:St} {H:Hp} {s:Shared} {T:String} {x:V} {v:Value} (I:Inv X pins σ H s) (r:RelV x v) (ty:tyV X.K T x H):
  s.TypeIs v T/\∀ a,v=.ref a->∃ ob,s.heap.get? a=some ob/\ob.dict=none:=by
 cases x with
 | str z=>
  obtain ⟨t,rfl⟩:=r;cases (show T = "str" from ty);exact ⟨typeIs_str s z t,fun _ e=>nomatch e⟩
 | int i=>
  obtain ⟨t,rfl⟩:=r;cases (show T = "int" from ty);exact ⟨typeIs_int s i t,fun _ e=>nomatch e⟩
 | ref p=>
  cases r;rcases ty with ⟨rfl,xs,hq⟩ | ⟨rfl,o,hk,hc,hd⟩ | ⟨rfl,hk⟩ | ⟨rfl,S,n,hk⟩
  ·obtain ⟨its,_,pl,_⟩:=I.list hq;refine ⟨pl.isList.typeIs,fun a e=>?_⟩;cases e;obtain ⟨o,n,e,c,hd,_⟩:=pl;exact ⟨o,e,hd⟩
  ·refine ⟨⟨o,I.kIn p o hk,hc⟩,fun a e=>?_⟩;cases e;exact ⟨o,I.kIn _ o hk,hd⟩
  ·have z:∃ o,s.heap.get? p=some o/\o.ExactDict:=by
    rcases hk with ⟨kvs,hk⟩ | ⟨kvs,hk⟩
    ·obtain ⟨_,_,_,_,o,_,_,e,ex,_⟩:=I.hok p _ hk;exact ⟨o,e,ex⟩
    ·obtain ⟨_,_,_,_,o,_,_,e,ex,_⟩:=I.hok p _ hk;exact ⟨o,e,ex⟩
   obtain ⟨o,e,ex⟩:=z;refine ⟨⟨o,e,ex.1⟩,fun a e2=>?_⟩;cases e2;exact ⟨o,e,ex.2.1⟩
  ·obtain ⟨o,_,_,_,e,ex,_⟩:=I.hok p _ hk;refine ⟨⟨o,e,ex.1⟩,fun a e2=>?_⟩;cases e2;exact ⟨o,e,ex.2.1⟩
 | _=>exact False.elim ty
noncomputable def tBM (K:Frag) (T:String) (r:V->List V->Hp->VK->Prop) (to:TE) (t:TA):TE:=fun σ H Q=>to σ H fun x H1=>tyV K T x H1/\t σ H1 fun xs H2=>r x xs H2 Q
variable {o e:Expr} {es:List Expr} {to:TE} {t:TA} {name:Str} {apos cpos:Pos} {T id:String} {r:V->List V->Hp->VK->Prop}
theorem sW (pa:PlainAttrs T) (slot:Slot T name id) (hty:typeOf (.builtin id)=pure (.type "method_descriptor")) (hm:MtR X id r) (ho:PE X o to) (ha:PA X (e::es) t)
  (hbase:attributeBase o name X.env (eval o X.env)=eval o X.env:=by rfl)
  (hfew:((backTo cpos (starEach (e::es) X.env)).all (fun x=>!x.1) && (backToKw cpos (keywordEach [] X.env)).all (fun x=>x.1.isSome)
   && decide ((e::es).length+([]:List Keyword).length+(if ([]:List Keyword).isEmpty then 0 else 1) < 30))=true:=by rfl)
  (hline:(apos.endLine == cpos.line)=true:=by rfl) (hs:starEach (e::es) X.env=(false,eval e X.env)::starEach es X.env:=by rfl) (hplain:(backTo cpos (starEach es X.env)).any (·.1)=false:=by rfl):
  PE X (.Call (.Attribute o name apos) (e::es) [] cpos) (tBM X.K T r to t):=by
 intro pins s σ H Q I h;refine wpAny_Call_method_late hbase hfew hline rfl (thn (ho pins s σ H _ I h) fun v s1 ⟨x,H1,I1,r1,ty,q1⟩=>?_);obtain ⟨h1,h2⟩:=AL I1 r1 ty;refine ⟨T,id,pa,slot,hty,h1,h2,?_⟩;have hA:=ha cpos pins s1 σ H1 _ I1 q1;rw [hs] at hA ⊢;refine Calls.callWith_builtin (by show (false || (backTo cpos (starEach es X.env)).any (·.1))=false; rw [hplain] <;> rfl) (Calls.evalArgs_plain ?_);exact thn hA fun us s2 ⟨vs,H2,I2,r2,q2⟩=>hm pins s2 σ H2 x vs v us Q I2 r1 r2 q2
end
def MtM (X:Cx) (id:String) (r:V->List V->Hp->VK->Prop):Prop:=
 ∀ (pins:List (Addr × Obj)) (s:Shared) (σ:St) (H:Hp) (x:V) (xs:List V) (v:Value) (us:List Value) (Q:VK),Inv X pins σ H s->RelV x v->Vals xs us->r x xs H Q ->
  wpAny (model X.prog X.w) X.A (call (.builtin id) (v::us)) (EP X pins σ Q) X.xe s
theorem Vals.one:∀ {x:V} {us:List Value},Vals [x] us->∃ u,us=[u]/\RelV x u
 | _,_,.cons r .nil=>⟨_,rfl,r⟩
theorem Vals.two:∀ {x y:V} {us:List Value},Vals [x,y] us->∃ u v,us=[u,v]/\RelV x u/\RelV y v
 | _,_,_,.cons r (.cons q .nil)=>⟨_,_,rfl,r,q⟩
theorem Vals.eraseIdx:∀ {xs:List V} {us:List Value} (i:Nat),Vals xs us->Vals (xs.eraseIdx i) (us.eraseIdx i)
 | _,_,_,.nil=>.nil
 | _,_,0,.cons _ t=>t
 | _,_,i+1,.cons r t=>.cons r (Vals.eraseIdx i t)
theorem Vals.rep {xs:List V} {us:List Value} (h:Vals xs us):∀ k:Nat,Vals (List.replicate k xs).flatten (List.replicate k us).flatten
 | 0=>.nil
 | k+1=>by
  rw [List.replicate_succ,List.replicate_succ,List.flatten_cons,List.flatten_cons];exact Vals.append h (Vals.rep h k)
theorem qw {α:Type}:∀ (l:List α) (i:Nat),(l.eraseIdx i).length<=l.length
 | [],_=>Nat.le_refl _
 | _::_,0=>Nat.le_succ _
 | _::r,i+1=>Nat.succ_le_succ (qw r i)
theorem qK (its:List Value):∀ (k:Nat) (acc:List Value),
  List.foldl (fun x1 x2=>x1++x2) acc.toArray (List.replicate k its.toArray)=(acc++(List.replicate k its).flatten).toArray
 | 0,acc=>by simp
 | k+1,acc=>by
  have e:acc.toArray++its.toArray=(acc++its).toArray:=by simp
  have e2:(acc++its)++(List.replicate k its).flatten=acc++(List.replicate (k+1) its).flatten:=by
   rw [List.replicate_succ,List.flatten_cons,List.append_assoc]
  rw [<- e2,<- qK its k (acc++its),<- e,List.replicate_succ,List.foldl_cons]
section
variable {X:Cx} {pins:List (Addr × Obj)} {σ:St} {H:Hp} {s:Shared} {l b:Addr} {xs ys zs:List V}
theorem Inv.lset {its its':List Value} {n:Nat} {f:Array Value->Array Value} {t':Nat} (I:Inv X pins σ H s) (hH:H l=some (.lst xs))
  (e:s.heap.get? l=some { cls:=.type "list",data:=.seq its.toArray n }) (hf:f its.toArray=its'.toArray) (hv:Vals ys its') (hz:ys.length<=sizeLine) (ht:0 < t':=by first | assumption | exact Nat.succ_pos _ | (apply Inv.tk; assumption) | omega):
  Inv X pins σ (upd H l (.lst ys)) { s with heap:=s.heap.update l (Obj.mapSeq f),toks:=t' }:=by
 have q:=PySem.IsL.update e f;rw [hf] at q;refine I.write (x:=l) (e:=l) (by rw [hH]; exact trivial) (.inl rfl) (fun b' u hb hu=>(Heap.get?_update_other s.heap (Obj.mapSeq f) (Ne.symm hb)).trans hu) ⟨_,q⟩ ?_;exact ⟨hz,its',_,hv,q⟩
theorem Inv.lnew {its:List Value} {t':Nat} (I:Inv X pins σ H s) (hv:Vals ys its) (hz:ys.length<=sizeLine) (ht:0 < t':=by first | assumption | exact Nat.succ_pos _ | (apply Inv.tk; assumption) | omega):
  Inv X pins σ (upd H s.heap.objs.size (.lst ys)) { s with heap:=s.heap.push { cls:=.type "list",data:=.seq its.toArray },toks:=t' }:=
 I.laid (fun _ _ q=>Heap.get?_push_of_some _ q) (Nat.le_refl _) ⟨hz,its,0,hv,Heap.get?_push_size _ rfl⟩
theorem Inv.fresh (I:Inv X pins σ H s):H s.heap.objs.size=none:=I.hok.fresh (Nat.le_refl _)
theorem Inv.lstM (I:Inv X pins σ H s) (hH:H l=some (.lst xs)):xs.length<=sizeLine/\∃ (its:List Value) (n:Nat),Vals xs its/\xs.length=its.length/\s.heap.get? l=some { cls:=.type "list",data:=.seq its.toArray n }:=by
 obtain ⟨z,its,n,r,e⟩:=I.hok l _ hH;exact ⟨z,its,n,r,r.length,e⟩
theorem notLongL {n:Nat} (h:n<=sizeLine):Builtin.List.listTooLong n=false:=by
 unfold Builtin.List.listTooLong;exact decide_eq_false (by omega)
end
section
variable {X:Cx}
noncomputable def rAppend:V->List V->Hp->VK->Prop:=fun x vs H Q=>∃ l xs y,x=.ref l/\vs=[y]/\H l=some (.lst xs)/\xs.length < sizeLine/\Q .non (upd H l (.lst (xs++[y])))
theorem mW:MtM X "list.append" rAppend:=by
 intro pins s σ H x vs v us Q I rx rv h;obtain ⟨l,xs,y,rfl,rfl,hH,hz,q⟩:=h;cases rx;obtain ⟨u,rfl,ru⟩:=rv.one;obtain ⟨z,its,n,r,hl,e⟩:=I.lstM hH;refine call_meets F.slot_list_append ⟨_,e,rfl⟩ F.entry_list_append (F.args_list_append_2 _ _) (PySem.list_append l its.toArray n u (by rw [List.size_toArray]; omega)) ⟨e,?_⟩;refine ⟨.non,_,I.lset (its':=its++[u]) hH e (by simp) (r.append (.cons ru .nil)) ?_,rfl,q⟩;rw [List.length_append,List.length_singleton];omega
noncomputable def rExtend:V->List V->Hp->VK->Prop:=fun x vs H Q=>∃ l b xs zs,x=.ref l/\vs=[.ref b]/\H l=some (.lst xs)/\H b=some (.lst zs)/\xs.length+zs.length<=sizeLine/\Q .non (upd H l (.lst (xs++zs)))
theorem vI:MtM X "list.extend" rExtend:=by
 intro pins s σ H x vs v us Q I rx rv h;obtain ⟨l,b,xs,zs,rfl,rfl,hH,hB,hz,q⟩:=h;cases rx;obtain ⟨u,rfl,ru⟩:=rv.one;cases ru;obtain ⟨z,its,n,r,hl,e⟩:=I.lstM hH;obtain ⟨z2,its2,n2,r2,hl2,e2⟩:=I.lstM hB;have hsz:its.toArray.size+its2.toArray.size<=sizeLine:=by rw [List.size_toArray,List.size_toArray]; omega
 have hlong:¬ (!its.toArray.isEmpty && Builtin.List.listTooLong (its.toArray.size+its2.toArray.size))=true:=by
  rw [notLongL hsz,Bool.and_false];exact Bool.false_ne_true
 refine call_meets F.slot_list_extend ⟨_,e,rfl⟩ F.entry_list_extend (F.args_list_extend_2 _ _)
  (AutoSeq1.list_extend_list_list_0 l its.toArray n b its2.toArray n2 hlong (by rw [List.size_toArray]; omega) (by omega)) ⟨e,e2,?_⟩
 refine ⟨.non,_,I.lset (its':=its++its2) hH e (by simp) (r.append r2) ?_,rfl,q⟩;rw [List.length_append];omega
noncomputable def rPopAt:V->List V->Hp->VK->Prop:=fun x vs H Q=>∃ l xs i k y,x=.ref l/\vs=[.int i]/\H l=some (.lst xs) /\ -(2 ^ 63)<=i/\i < 2 ^ 63/\seqIndex? i xs.length=some k/\xs[k]? = some y/\Q y (upd H l (.lst (xs.eraseIdx k)))
theorem xh:MtM X "list.pop" rPopAt:=by
 intro pins s σ H x vs v us Q I rx rv h;obtain ⟨l,xs,i,k,y,rfl,rfl,hH,h1,h2,hk,hy,q⟩:=h;cases rx;obtain ⟨u,rfl,ru⟩:=rv.one;obtain ⟨t,rfl⟩:=ru;obtain ⟨z,its,n,r,hl,e⟩:=I.lstM hH;obtain ⟨w,hw,rw'⟩:=r.get hy;refine call_meets F.slot_list_pop ⟨_,e,rfl⟩ F.entry_list_pop (F.args_list_pop_2 _ _)
  (MeetsSeq.list_pop_at l its.toArray n i t k w (fitsIndex_both h1 h2) (by rw [List.size_toArray,<- hl]; exact hk) (by rw [<- Array.getElem?_toList]; exact hw) (by rw [List.size_toArray]; omega)) ⟨e,?_⟩
 refine ⟨y,_,I.lset (its':=its.eraseIdx k) hH e ?_ (r.eraseIdx k) ?_,rw',q⟩
 ·show its.toArray.eraseIdxIfInBounds k=(its.eraseIdx k).toArray;rw [List.eraseIdxIfInBounds_toArray]
 ·have:=qw xs k;omega
noncomputable def rCat:R2:=fun x y H Q=>∃ l b xs zs,x=.ref l/\y=.ref b/\H l=some (.lst xs)/\H b=some (.lst zs)/\xs.length+zs.length<=sizeLine/\∀ p,H p=none->Q (.ref p) (upd H p (.lst (xs++zs)))
theorem A0:OpR X (binaryOp .Add) rCat:=by
 intro pins s σ H x y v u Q I rx ry h;obtain ⟨l,b,xs,zs,rfl,rfl,hH,hB,hz,q⟩:=h;cases rx;cases ry;obtain ⟨z,its,n,r,hl,e⟩:=I.lstM hH;obtain ⟨z2,its2,n2,r2,hl2,e2⟩:=I.lstM hB;refine PySem.P.add_list e e2 ?_ (by rw [List.size_toArray,List.size_toArray]; omega);have ea:its.toArray++its2.toArray=(its++its2).toArray:=by simp
 rw [ea];exact ⟨.ref _,_,I.lnew (t':=s.toks) (r.append r2) (by rw [List.length_append]; omega),rfl,q _ I.fresh⟩
noncomputable def rRep:R2:=fun x y H Q=>∃ l k xs,x=.ref l/\y=.int k/\H l=some (.lst xs) /\ -(2 ^ 63)<=k/\k < 2 ^ 63/\xs.length*k.toNat<=sizeLine /\
 ∀ p,H p=none->Q (.ref p) (upd H p (.lst (List.replicate k.toNat xs).flatten))
theorem zj {α:Type} (xs:List α) (k:Nat):(List.replicate k xs).flatten.length=k*xs.length:=by
 induction k with
 | zero=>simp
 | succ k ih=>rw [List.replicate_succ,List.flatten_cons,List.length_append,ih,Nat.succ_mul,Nat.add_comm]
theorem w9:OpR X (binaryOp .Mult) rRep:=by
 intro pins s σ H x y v u Q I rx ry h;obtain ⟨l,k,xs,rfl,rfl,hH,h1,h2,hz,q⟩:=h;cases rx;obtain ⟨t,rfl⟩:=ry;obtain ⟨z,its,n,r,hl,e⟩:=I.lstM hH;have hlen:its.toArray.size*k.toNat<=sizeLine:=by rw [List.size_toArray,<- hl]; exact hz
 have hcap:¬ its.toArray.size*k.toNat > (2 ^ 63 - 1) / 8:=by
  have:(sizeLine:Nat)<=(2 ^ 63 - 1) / 8:=by decide
  omega
 have hfit:¬ (!Builtin.List.listFitsIndex k)=true:=by
  rw [fitsIndex_both h1 h2];exact Bool.false_ne_true
 have hlong:¬ Builtin.List.listTooLong (its.toArray.size*k.toNat)=true:=by
  rw [notLongL hlen];exact Bool.false_ne_true
 have hnew:List.foldl (fun x1 x2=>x1++x2) #[] (List.replicate (if its.toArray.isEmpty=true then 0 else k.toNat) its.toArray)=(List.replicate k.toNat its).flatten.toArray:=by
  have f0:∀ m:Nat,List.foldl (fun x1 x2=>x1++x2) #[] (List.replicate m its.toArray)=(List.replicate m its).flatten.toArray:=fun m=>by
   have:=qK its m [];rw [List.nil_append] at this;exact this
  rw [f0];cases its with
  | nil=>simp
  | cons a r'=>rw [if_neg (by simp)]
 refine wpAny_binaryOp_repeat_ref (T := "list") (U := "int") (by decide) ⟨_,e,rfl⟩ (fun s'=>typeIs_int s' k t) noFill_list_mul F.fills_int_mul F.slot_int_rmul repeat_list F.slot_int_index.lookup
  (call_meets F.slot_int_rmul (typeIs_int s k t) F.entry_int_rmul (F.args_int_rmul_2 _ _) (int___rmul___int_list k t l its.toArray n)
   ⟨e,rfl,⟨_,e,rfl⟩,call_meets F.slot_list_mul ⟨_,e,rfl⟩ F.entry_list_mul (F.args_list_mul_2 _ _) (AutoListH.list___mul___list_int_3 l its.toArray n k t hfit hcap hlong) ⟨e,?_⟩⟩)
 rw [hnew];exact ⟨.ref _,_,I.lnew (t':=s.toks) (r.rep k.toNat) (by rw [zj,Nat.mul_comm]; exact hz),rfl,q _ I.fresh⟩
end
section
variable {prog:Program} {w:World} {A:Around} {E:Value->Shared->Prop} {s:Shared}
end
section
variable {X:Cx}
end
end L2
namespace Att
open PySem PySem.W PySem.Calls PyProof.Rows
theorem nX {P:Params} {h:Heap}:∀ (ns:List Int) (vs:List Value),WellAll P h vs (ns.map WData.int)->IntsAre vs ns:=by
 intro ns
 induction ns with
 | nil=>
  intro vs w;rw [List.map_nil] at w;cases w;exact .nil
 | cons n ns ih=>
  intro vs w;rw [List.map_cons] at w;cases w with
  | cons a b=>
   cases a;exact .cons _ _ (ih _ b)
theorem script_of {l:OpenLaw} {n:Nat} (hn:l.most=some n) {P:Params} {h:Heap} {args:List WData} {vals:List Value}
  (hpre:l.row.toRowW.claim.pre args=true) (hwl:WellAll P h vals args):
  ∃ a vs ns,vals=[Value.ref a]/\args=[WData.list (ns.map WData.int)]/\h.get? a=some { cls:=.type "list",data:=.seq vs.toArray }/\IntsAre vs ns/\ns.length<=n:=by
 have hsh:WShape.hasAll [] args [.list .int]=true:=(pre_splitW hpre).1;have hc:l.pre.holds [] { args:=args }=true:=(pre_splitW hpre).2;obtain ⟨d,r,rfl,h1,h2⟩:=hasAllW_cons hsh;obtain rfl:=hasAllW_nil h2;obtain ⟨xs,rfl,h3⟩:=hasW_list h1;obtain ⟨ns,rfl⟩:=items_int h3;have hlen:ns.length<=n:=by
  unfold OpenLaw.pre at hc;have h4:(WTm.not (.lt (.lit (.int (n:Int))) (.len (.arg 0)))).holds [] { args:=[.list (ns.map .int)] }=true:=by
   have h4:=(holds_andW hc).1;rw [hn] at h4;exact h4
  have h5:=condW_of h4 (w_not (w_lt w_lit (w_len_list (w_arg rfl))));rw [List.length_map] at h5;refine Nat.le_of_not_lt fun q=>?_
  have q':(n:Int) < ((ns.length:Nat):Int):=by omega
  first
   | (rw [decide_eq_true q'] at h5; exact absurd h5 (by decide))
   | (simp at h5; omega)
 cases hwl with
 | cons w1 w2=>
  cases w2;cases w1 with
  | list ho hall=>exact ⟨_,_,ns,rfl,rfl,ho,nX ns _ hall,hlen⟩
theorem post_true (l:OpenLaw) (args:List WData):l.row.toRowW.claim.post args (.bool true) args=true:=
 postW_of (r:=l.row.toRowW) (X:=(true == true))
  (show WShape.has [] (.bool true) .bool=true by first | rfl | decide | simp [WShape.has,WShape.arms,WShape.armsAll])
  (show (WTm.eq .res (.lit (.bool true))).value [] { args:=args,res:=some (.bool true),after:=args }=some (.bool (true == true)) from w_eq_bool (w_res rfl) w_lit) rfl
section
variable {prog:Program} {w:World} {A:Around} {E:Value->Shared->Prop} {s:Shared} {K:Frag}
end
end Att
namespace L2
open PySem PySem.Spec PyProof.Rows
theorem mL:∀ {vs:List Value} {ns:List Int},IntsAre vs ns->Vals (ns.map V.int) vs
 | _,_,.nil=>.nil
 | _,_,.cons n t h=>.cons ⟨t,rfl⟩ (mL h)
def Only (H:Hp):Prop:=∀ b,H b=none\/∃ o xs,H b=some (.frz o (.lst xs))
theorem xE {P:Program} {w:World} {K:Frag} {mg mb:Str->Option Value} {CX:CXT} {k:Nat} {fa a:Addr} {fd:FuncData} {x:Str} {sp:Sp} {s₁:Shared} {vs:List Value} {ns:List Int}
  (KX:K.In s₁.heap) (hns:s₁.heap.Ns mainGlobals mg) (hb:s₁.heap.Ns builtinsNs mb) (hbb:∀ x:Str,x ≠ "__name__" -> mb x=bootBuiltins x) (hlim:s₁.heap.NoLimit) (hg:s₁.gens=#[]) (htk:0 < s₁.toks)
  (ha:s₁.heap.get? a=some { cls:=.type "list",data:=.seq vs.toArray }) (hi:IntsAre vs ns) (hl:ns.length<=sizeLine) (hr:Room k callerA)
  (F:∀ base:Heap,K.In base->base.Ns mainGlobals mg->FnOk P w K mg base CX k fa fd [x] sp) (hbind:∀ (s:Shared) (u:Value),BindsTo s fd ⟨[u],[]⟩ [(x,u)])
  (hsp:∀ H:Hp,Only H->SqL K H a (ns.map V.int)->sp [.ref a] H (fun v _=>v=.bl true) fun _ _ _=>False)
  (hCX:∀ H e s',CX [] H s₁ (fun _ _ _=>False) e s'->False):
  codeAny (model P w) callerA (.call (.ref fa) ⟨[.ref a],[]⟩) (fun r s'=>r=.ok (.ret (.bool true))/\OldK s₁.heap s'.heap/\s'.os=s₁.os/\AllBare s'.gens) s₁:=by
 have rv:=mL hi;have lenV:=hi.length;have core:∀ H:Hp,Only H->SqL K H a (ns.map V.int)->HOk P w H s₁.heap->(∀ b,H b≠none->b=a)->(H a≠none->K.lookup a=none) ->
   codeAny (model P w) callerA (.call (.ref fa) ⟨[.ref a],[]⟩) (fun r s'=>r=.ok (.ret (.bool true))/\OldK s₁.heap s'.heap/\s'.os=s₁.os/\AllBare s'.gens) s₁:=by
  intro H hO hS hok hA hK;have base_of:∀ {b:Addr} {o:Obj},s₁.heap.get? b=some o->H b=none->(hidT s₁.heap H).get? b=some o:=fun e n=>xz e n
  have noA:∀ {b:Addr} {o:Obj} {es:Array DictEntry} {ep:Nat},s₁.heap.get? b=some o->o.data=.dict es ep->H b=none:=fun {b o es ep} e d=>by
   cases q:H b with
   | none=>rfl
   | some u=>
    have e':b=a:=hA b (by rw [q]; simp);subst e';rw [ha] at e; cases e;have d':Data.seq vs.toArray _=Data.dict es ep:=d;cases d'
  have nsK:∀ {b:Addr} {m:Str->Option Value},s₁.heap.Ns b m->(hidT s₁.heap H).Ns b m:=fun {b m} ⟨o,es,ep,e,d,r⟩=>⟨o,es,ep,base_of e (noA e d),d,r⟩
  have hKb:K.In (hidT s₁.heap H):=fun b o e=>base_of (KX b o e) (by
   cases q:H b with
   | none=>rfl
   | some u=>
    have e':b=a:=hA b (by rw [q]; simp);subst e';rw [hK (by rw [q]; simp)] at e; cases e)
  have hM:Mod K mg (hidT s₁.heap H):=⟨hKb,nsK hns,⟨mb,nsK hb,hbb⟩,let ⟨mc,h1,h2⟩:=hlim; ⟨mc,nsK h1,h2⟩⟩;have e0:Env0 P w K mg (hidT s₁.heap H) callerA [] s₁ H:=⟨rfl,hM,fun b o e=>zW e,Nat.le_of_eq (vi _ _),trivial,fun b hb=>absurd (show b ∈ ([]:List Addr) from hb) (by simp),hok,.of_eq hg,htk⟩;refine codeAny_mono ((F _ hKb (nsK hns)).run callerA [] s₁ H ⟨[.ref a],[]⟩ [.ref a] [.ref a] _ _ hr e0 (hbind s₁ (.ref a)) (.cons rfl .nil) (hsp H hO hS)) fun r s' h=>?_
  cases r with
  | error e=>exact (hCX H e s' h).elim
  | ok fl=>
   cases fl with
   | next=>exact False.elim h
   | brk=>exact False.elim h
   | cont=>exact False.elim h
   | ret u=>
    obtain ⟨v,H',_,os,bare,un,hok',r',q⟩:=h;have q':v=.bl true:=q;subst q';obtain rfl:u=Value.bool true:=r';refine ⟨rfl,OldK.of_keep fun b o e=>?_,os,bare⟩;cases q:H b with
    | none=>exact un.keep b o e q (by intro z; exact absurd (show b ∈ ([]:List Addr) from z) (by simp)) (by simp)
    | some u=>
     rcases hO b with z | ⟨ob,xs,z⟩
     ·rw [q] at z; cases z
     ·have z2:=un.frzs b ob _ z;obtain ⟨e1,_⟩:=hok b _ z;obtain ⟨e2,_⟩:=hok' b _ z2;rw [e] at e1; cases e1;exact e2
 cases hk:K.lookup a with
 | some o=>
  have e:=KX a o hk;rw [ha] at e;cases e;refine core (fun _=>none) (fun _=>.inl rfl) (.inr ⟨_,vs.toArray,_,hk,rfl,rfl,rfl,by rw [List.size_toArray,lenV]; exact hl,by simpa using rv⟩) (fun b u z=>by have z':(none:Option HO)=some u:=z; cases z') (fun b z=>absurd rfl z) fun z=>absurd rfl z
 | none=>
  refine core (fun b=>if b=a then some (.frz { cls:=.type "list",data:=.seq vs.toArray } (.lst (ns.map V.int))) else none) (fun b=>?_) (.inl (.inr ⟨{ cls:=.type "list",data:=.seq vs.toArray },if_pos rfl⟩)) (fun b u z=>?_) (fun b z=>?_) fun _=>hk
  ·by_cases hb:b=a
   ·exact .inr ⟨_,_,if_pos hb⟩
   ·exact .inl (if_neg hb)
  ·by_cases hb:b=a
   ·have z':=(if_pos hb).symm.trans z;cases z';subst hb;exact ⟨ha,by rw [List.length_map]; exact hl,vs,_,rv,ha⟩
   ·have z':=(if_neg hb).symm.trans z;cases z'
  ·by_cases hb:b=a
   ·exact hb
   ·exact absurd (if_neg hb) z
noncomputable abbrev KOf {K:Frag} {h:Heap} (_:K.In h):Frag:=K
theorem rE {l:PySem.W.OpenLaw} {n:Nat} {q:Program} {loose:List Str} {XP:(Str->Option Value)->Heap->Prop} {α:Type} {Yf:Shared->α} {Ya:World->α} {d:DefRec}
  (hn:l.most=some n) (hdf:d.params.defaults=[])
  (call:∀ (w:World) (s₀ s₁:Shared) (mg mb:Str->Option Value) (fa a:Addr) (vs:List Value) (ns:List Int),
   PySem.W.Ground q loose [] XP w s₀ mg mb s₁.heap->Yf s₀ = Ya w->(∀ b o,s₀.heap.get? b=some o->s₁.heap.get? b=some o)->s₀.toks<=s₁.toks->mg d.name=some (.ref fa) ->
   s₁.heap.get? a=some { cls:=.type "list",data:=.seq vs.toArray }->IntsAre vs ns->ns.length<=n->s₁.gens=#[] ->
   codeAny (model l.prog w) callerA (.call (.ref fa) ⟨[.ref a],[]⟩) (fun r s'=>r=.ok (.ret (.bool true))/\OldK s₁.heap s'.heap/\s'.os=s₁.os/\AllBare s'.gens) s₁):
  PySem.W.WalkX q loose XP Yf Ya l.row.toRowW d [] (fun f vs=>PySem.call f vs):=by
 intro w s₀ s₁ mg mb G Y fa o pm cd doc dV kV ho hd hcd hD hmg hg args vals as L hpre hlay hrd hwl hlo;obtain ⟨a,vs,ns,rfl,rfl,hobj,hints,hlen⟩:=Att.script_of hn hpre hwl;have ht:s₀.toks<=s₁.toks:=by
  obtain ⟨ord,_,e⟩:=L.laid;exact (PySem.W.layAllW_grows _ _ _ e).toks
 refine PySem.W.enter_call (codeAny_mono (call w s₀ s₁ mg mb fa a vs ns G Y L.keeps ht hmg hobj hints hlen hg) fun r s' hq=>?_);obtain ⟨rfl,h2,h3,h4⟩:=hq;exact ⟨.inl ⟨.bool true,.bool true,[],rfl,fun _=>rfl,.bool true,Att.post_true l _,fun _=>⟨List.Pairwise.nil,fun _ hm=>(nomatch hm)⟩⟩,h2,h3,h4⟩
theorem walk_ofX {l:PySem.W.OpenLaw} {n k:Nat} {q:Program} {loose:List Str} {XP:(Str->Option Value)->Heap->Prop} {α:Type} {Yf:Shared->α} {Ya:World->α} {d:DefRec} {K:Params->Frag} {CX:World->CXT} {sp:World->Sp} {x:Str}
  (hn:l.most=some n) (hn2:n<=sizeLine) (hdf:d.params.defaults=[]) (hr:Room k callerA)
  (hY:∀ (w:World) (s:Shared),Yf s=Ya w->(K w.params).In s.heap/\0 < s.toks)
  (F:∀ (w:World) (mg:Str->Option Value) (fa:Addr) (h:Heap),(K w.params).In h->h.Ns mainGlobals mg->mg d.name=some (.ref fa) ->
   ∃ fd:FuncData,(∀ (s:Shared) (u:Value),BindsTo s fd ⟨[u],[]⟩ [(x,u)]) /\
    ∀ base:Heap,(K w.params).In base->base.Ns mainGlobals mg->FnOk l.prog w (K w.params) mg base (CX w) k fa fd [x] (sp w))
  (hsp:∀ (w:World) (H:Hp) (a:Addr) (ns:List Int),ns.length<=n->Only H->SqL (K w.params) H a (ns.map V.int)->sp w [.ref a] H (fun v _=>v=.bl true) fun _ _ _=>False)
  (hCX:∀ (w:World) (H:Hp) (s:Shared) (e:Value) (s':Shared),CX w [] H s (fun _ _ _=>False) e s'->False):
  PySem.W.WalkX q loose XP Yf Ya l.row.toRowW d [] (fun f vs=>PySem.call f vs):=by
 refine rE hn hdf fun w s₀ s₁ mg mb fa a vs ns G Y kp ht hmg hobj hints hlen hg=>?_
 obtain ⟨K0,t0⟩:=hY w s₀ Y;have KX:(K w.params).In s₁.heap:=fun b o e=>kp b o (K0 b o e)
 obtain ⟨fd,hb,hF⟩:=F w mg fa _ KX G.T.g hmg;exact xE KX G.T.g G.T.b G.T.builtins G.T.nolimit hg (Nat.lt_of_lt_of_le t0 ht) hobj hints (Nat.le_trans hlen hn2) hr hF hb (fun H hO hS=>hsp w H a ns hlen hO hS) fun H e s'=>hCX w H s₁ e s'
noncomputable def defArgs (s:Stmt):Arguments:=match s with
 | .FunctionDef _ a _ _ _ _ _ _ _ _=>a
 | _=>{ posonlyargs:=[],args:=[],vararg:=none,kwonlyargs:=[],kw_defaults:=[],kwarg:=none,defaults:=[] }
noncomputable def defBody (s:Stmt):List Stmt:=match s with
 | .FunctionDef _ _ b _ _ _ _ _ _ _=>b
 | _=>[]
noncomputable def defScope (s:Stmt):Scope:=match s with
 | .FunctionDef _ _ _ _ _ _ sc _ _ _=>sc
 | _=>{ kind:=.function,names:=[],isGenerator:=false,isCoroutine:=false }
noncomputable abbrev CX0:CXT:=fun _ _ _ _ _ _=>False
noncomputable abbrev E0:XK:=fun _ _ _=>False
theorem pass0 {X:Cx}:Passes CX0 X E0:=fun _ _ _ _ _ _ _ h=>h.elim
structure Fun (K:Frag) (x qual:Str) (st:Stmt) (f:Addr) (fd:FuncData):Prop where
 ex:∃ (oc:Value) (od:Option Addr) (kV doc pm:Value) (an:Option Addr) (cdv ct:Value) (osl:Array (Option Value)),
  fd=fnOf x qual (defArgs st) (defBody st) (defScope st) .none kV doc pm an cdv ct/\K.lookup f=some ⟨oc,od,.func fd,osl⟩/\codeIn K cdv qual=true
 kp:keepIn K (.ref f)=true
section
variable {P:Program} {w:World} {K:Frag} {mg:Str->Option Value} {base:Heap}
theorem Fun.ok {x qual:Str} {st:Stmt} {f:Addr} {fd:FuncData} {N ps:List Str} {k:Nat} {sp:Sp} (F:Fun K x qual st f fd) (S:FnScope N ps (defScope st)) (len:∀ vs H Q E,sp vs H Q E->vs.length=ps.length)
  (hbody:∀ (cdv:Value) (A:Around) (outer:List Env) (s:Shared) (H:Hp) (vs:List V) (Q:VK) (E:XK),Room k (A.deeper (envOfC qual (defScope st) s.heap.objs.size f cdv))->sp vs H Q E ->
   ∃ t,PSs (cxOf CX0 P w K mg base N qual (defScope st) f cdv A outer s H E).nox (defBody st) t/\t { nx:=fun _ H'=>Q .non H',rt:=Q } (start N vs) H):FnOk P w K mg base CX0 (k+1) f fd ps sp:=by
 obtain ⟨oc,od,kV,doc,pm,an,cdv,ct,osl,rfl,lk,hcd⟩:=F.ex;refine zY lk hcd S len fun A outer s H vs Q E hr hsp=>?_
 obtain ⟨t,h,q⟩:=hbody cdv A outer s H vs Q E hr hsp;exact ⟨t,h.nox,q⟩
theorem Fun.binds {x qual:Str} {st:Stmt} {f:Addr} {fd:FuncData} {ps:List Str} (F:Fun K x qual st f fd)
  (h:∀ (kV doc pm:Value) (an:Option Addr) (cdv ct:Value) (us:List Value),us.length=ps.length->bindArgs (fnOf x qual (defArgs st) (defBody st) (defScope st) .none kV doc pm an cdv ct) ⟨us,[]⟩=pure (ps.zip us)):Binds K fd ps []:=by
 obtain ⟨oc,od,kV,doc,pm,an,cdv,ct,osl,rfl,lk,hcd⟩:=F.ex;exact .all (h kV doc pm an cdv ct)
theorem Ba {x qual:Str} {st:Stmt} {f:Addr} {oc:Value} {od an:Option Addr} {osl:Array (Option Value)} {kV doc pm cdv ct:Value} (l:K.lookup f=some ⟨oc,od,.func (fnOf x qual (defArgs st) (defBody st) (defScope st) .none kV doc pm an cdv ct),osl⟩)
  (c:codeIn K cdv qual=true) (k:keepIn K (.ref f)=true):Fun K x qual st f (fnOf x qual (defArgs st) (defBody st) (defScope st) .none kV doc pm an cdv ct):=⟨⟨oc,od,kV,doc,pm,an,cdv,ct,osl,rfl,l,c⟩,k⟩
end
section
variable {X:Cx}
theorem pv (i:Nat) {x:Str} {pos:Pos} (hN:X.N[i]? = some x:=by rfl) (hv:Vis X.env.scope x:=by first | exact Or.inl rfl | exact Or.inr (Or.inl rfl) | exact Or.inr (Or.inr rfl)) (hd:(x == ("__debug__" : Str))=false:=by decide)
  (hcd:(x == ("__classdict__" : Str))=false:=by decide):PE X (.Name x pos) (tVar i):=xu hN hv hd hcd
end
theorem ite2 {c A B:Prop} [Decidable c] (h1:c->A) (h2:¬ c->B):if c then A else B:=by
 by_cases h:c
 ·rw [if_pos h];exact h1 h
 ·rw [if_neg h];exact h2 h
def Same (H H':Hp):Prop:=∀ b o,H b=some o->H' b=some o
theorem Same.refl (H:Hp):Same H H:=fun _ _ h=>h
theorem Same.trans {H H1 H2:Hp} (a:Same H H1) (b:Same H1 H2):Same H H2:=fun c o h=>b c o (a c o h)
theorem Same.free {H H':Hp} (e:Same H H') {l:Addr} (h:H' l=Option.none):H l=Option.none:=by
 cases q:H l with
 | none=>rfl
 | some o=>
  rw [e l o q] at h;cases h
theorem Same.seq {K:Frag} {H H':Hp} {a:Addr} {xs:List V} (e:Same H H') (h:SqL K H a xs):SqL K H' a xs:=by
 rcases h with (h | ⟨o,h⟩) | h
 ·exact .inl (.inl (e _ _ h))
 ·exact .inl (.inr ⟨o,e _ _ h⟩)
 ·exact .inr h
section
variable {X:Cx} {pins:List (Addr × Obj)} {σ:St} {H H':Hp} {s:Shared} {h':Heap}
theorem Inv.turnedL {t':Nat} {its:List Addr} (I:Inv X pins σ H s) (k:∀ b o,b ∉ its->s.heap.get? b=some o->h'.get? b=some o) (hf:∀ b ∈ its,FpOk X pins H b) (ht:0 < t':=by first | assumption | exact Nat.succ_pos _ | (apply Inv.tk; assumption) | omega):Inv X pins σ H { s with heap:=h',toks:=t' }:=by
 have nit:∀ b u,H b=some u->b ∉ its:=fun b u e z=>by
  have q:=(hf b z).1;rw [q] at e;cases e
 refine I.step (g':=s.gens) (d':=s.drawn) (ch:=its) (fun b hb=>?_) (fun b o _ _ hc e _=>k b o hc e) (fun b o _ _ hc e _=>⟨o.slots,k b o hc e⟩) (fun _ _ _ _ n=>n)
  (fun b o hc e=>⟨o,k b o hc e⟩) (fun _ _ e=>e) (fun _ _ _ e=>e) (fun b ps e=>⟨#[],by rw [e]; simp⟩) (fun m hm=>?_) (fun b u e=>?_) I.bare
 ·obtain ⟨f0,f1,f2,f3,f4,f5⟩:=hf b hb;exact ⟨f3,f1,f4,f5⟩
 ·obtain ⟨o,es,ep,ho,r⟩:=hm;exact ⟨o,es,ep,k _ o (fun z=>(hf _ z).2.1 rfl) ho,r⟩
 ·refine (I.hok b u e).stay (fun c v hc q=>k c v ?_ q) (fun _ q=>q) fun _ _ q=>q
  rcases hc with z | z
  ·rw [z]; exact nit b u e
  ·exact nit c _ z
end
theorem ui (x:Str):["enumerate", "zip", "dict_itemiterator", "dict_reverseitemiterator", "odict_iterator", "itertools.zip_longest", "itertools.pairwise"].contains (strIterType x)=false:=by
 unfold strIterType;split <;> decide
section
variable {prog:Program} {w:World} {A:Around} {E:Value->Shared->Prop} {s:Shared}
theorem bI (x:Str):strIterType x = "str_ascii_iterator" \/ strIterType x = "str_iterator" := by
 unfold strIterType;split
 ·exact .inl rfl
 ·exact .inr rfl
theorem qf {it:Addr} {x:Str} {t:Tok} {i c:Nat} {Q:Option Value->Shared->Prop} (hit:s.heap.IsStrIter it (strIterType x) x t i) (hx:x.cps[i]? = some c)
  (hQ:∀ h',h'.IsStrIter it (strIterType x) x t (i+1)->Heap.SameBut it s.heap h'->Q (some (.str ⟨#[c]⟩ s.toks)) { s with heap:=h',toks:=s.toks+1 }):
  wpAny (model prog w) A (pyNext (.ref it)) Q E s:=by
 rcases bI x with e | e
 ·rw [e] at hit;simp only [e] at hQ;exact wpAny_pyNext_ascii_item hit hx hQ
 ·rw [e] at hit;simp only [e] at hQ;exact wpAny_pyNext_wide_item hit hx hQ
theorem rm {it:Addr} {x:Str} {t:Tok} {i:Nat} {Q:Option Value->Shared->Prop} (hh:A.handled=none) (hit:s.heap.IsStrIter it (strIterType x) x t i) (hx:x.cps[i]? = none)
  (hQ:∀ h',Heap.ExtBut it s.heap h'->Q none { s with heap:=h' }):wpAny (model prog w) A (pyNext (.ref it)) Q E s:=by
 rcases bI x with e | e
 ·rw [e] at hit;exact wpAny_pyNext_ascii_end hh hit hx hQ
 ·rw [e] at hit;exact wpAny_pyNext_wide_end hh hit hx hQ
theorem pQ {it:Addr} {x:Str} {t:Tok} {i:Nat} {Q:Value->Shared->Prop} (hit:s.heap.IsStrIter it (strIterType x) x t i) (h:Q (.ref it) s):wpAny (model prog w) A (pyIter (.ref it)) Q E s:=by
 rcases bI x with e | e
 ·rw [e] at hit;exact wpAny_pyIter_striter_ascii hit h
 ·rw [e] at hit;exact wpAny_pyIter_striter_wide hit h
theorem nO {it:Addr} {x:Str} {t:Tok} {i c:Nat} {Q:Value->Shared->Prop} (hit:s.heap.IsStrIter it (strIterType x) x t i) (hx:x.cps[i]? = some c)
  (hQ:∀ h',h'.IsStrIter it (strIterType x) x t (i+1)->Heap.SameBut it s.heap h'->Q (.str ⟨#[c]⟩ s.toks) { s with heap:=h',toks:=s.toks+1 }):
  wpAny (model prog w) A (Builtin.SmallTypes.nextOf (.ref it)) Q E s:=by
 rcases bI x with e | e
 ·rw [e] at hit;simp only [e] at hQ;exact wpAny_nextOf_ascii_item hit hx hQ
 ·rw [e] at hit;simp only [e] at hQ;exact wpAny_nextOf_wide_item hit hx hQ
theorem oN {it:Addr} {x:Str} {t:Tok} {i:Nat} {Q:Value->Shared->Prop} (hh:A.handled=none) (hit:s.heap.IsStrIter it (strIterType x) x t i) (hx:x.cps[i]? = none)
  (hE:∀ h' e,Heap.ExtBut it s.heap h'->(∃ o,h'.get? e=some o/\o.cls=.type "StopIteration")->E (.ref e) { s with heap:=h' }):wpAny (model prog w) A (Builtin.SmallTypes.nextOf (.ref it)) Q E s:=by
 rcases bI x with e | e
 ·rw [e] at hit;exact wpAny_nextOf_ascii_end hh hit hx hE
 ·rw [e] at hit;exact wpAny_nextOf_wide_end hh hit hx hE
end
noncomputable def Its (x:Str):It:=⟨fun i _=>i < x.cps.size,fun i H v H'=>H'=H/\∃ c,x.cps[i]? = some c/\v=.str ⟨#[c]⟩,fun i _=>x.cps.size<=i⟩
theorem sC {h:Heap} {it:Addr} {ty:String} {x:Str} {t:Tok} {i:Nat} (st:h.IsStrIter it ty x t i):∃ o,h.get? it=some o/\∀ v,o.data≠.cell v:=by
 obtain ⟨o,e,c,d⟩:=st;exact ⟨o,e,fun v z=>by rw [d] at z; cases z⟩
theorem wM {P:Program} {w:World} {K:Frag} {tg:Expr} (x:Str) (t:Tok) (it:Addr):Turn P w K tg (Its x) [it] it (fun i h=>h.IsStrIter it (strIterType x) x t i) where
 mem:=by simp
 obj:=fun i h st b hb=>by
  have e:b=it:=by simpa using hb
  subst e;exact sC st
 keep:=fun i h h' st k=>by
  obtain ⟨o,e,r⟩:=st;exact ⟨o,k it (by simp) o e,r⟩
 item:=by
  intro X hP hw hK hc i pins s σ H E I hf st hg;subst hP hw hK;have hi:i < x.cps.size:=hg;refine qf st (c:=x.cps[i]) (by simp [hi]) fun h' st' sb=>?_
  have I1:Inv X pins σ H { s with heap:=h',toks:=s.toks+1 }:=I.turnedL (its:=[it]) (fun b o hb e=>(sb.2 b (by simpa using hb)).trans e) hf;obtain ⟨o,e,c,d⟩:=id st';exact ⟨_,rfl,uG (s:={ s with heap:=h',toks:=s.toks+1 }) e c d (ui x) ⟨.str ⟨#[x.cps[i]]⟩,H,I1,⟨_,rfl⟩,⟨rfl,_,by simp [hi],rfl⟩,st',fun b hb=>(hf b hb).1⟩⟩
 done:=by
  intro X hP hw hK hc i pins s σ H E I hf st hg;subst hP hw hK;have hi:x.cps.size<=i:=hg;exact rm (I.ok.hd hc) st (by simp [hi]) fun h' eb=>⟨rfl,I.turnedL (t':=s.toks) (its:=[it]) (fun b o hb e=>eb b o (by simpa using hb) e) hf⟩
 self:=fun _ _ _ _ _ st h=>pQ st h
section
variable {X:Cx} {tg e:Expr} {te:TE}
end
theorem AO {J:It} {n:Nat} {g:TG} {tb:TS} {D:Ends} {σ:St} {H:Hp} (Pv:Nat->St->Hp->Prop) (h0:Pv 0 σ H) (hgo:∀ i σ H,i < n->Pv i σ H->J.go i H) (hst:∀ σ H,Pv n σ H->J.stop n H)
  (hs:∀ i σ H x H',i < n->Pv i σ H->J.yld i H x H'->g x σ H' fun σ2 H2=>tb { D with nx:=Pv (i+1),ct:=Pv (i+1),bk:=D.nx } σ2 H2) (hd:∀ σ H,Pv n σ H->D.nx σ H):
  ∃ W:Nat->Nat->St->Hp->Prop,(∃ m,W 0 m σ H)/\∀ i m σ H,W i m σ H ->
   (J.stop i H/\D.nx σ H)\/(J.go i H/\∃ N:St->Hp->Prop,(∀ σ' H',N σ' H'->∃ m',m' < m/\W (i+1) m' σ' H')/\∀ x H',J.yld i H x H'->g x σ H' fun σ2 H2=>tb { D with nx:=N,ct:=N,bk:=D.nx } σ2 H2):=by
 refine ⟨fun i m σ H=>m=n - i/\i<=n/\Pv i σ H,⟨n,by simp,Nat.zero_le _,h0⟩,?_⟩;rintro i m σ H ⟨rfl,hi,p⟩;by_cases hlt:i < n
 ·exact .inr ⟨hgo i σ H hlt p,Pv (i+1),fun σ' H' p'=>⟨n - (i+1),by omega,rfl,hlt,p'⟩,fun x H' y=>hs i σ H x H' hlt p y⟩
 ·have e:i=n:=by omega
  subst e;exact .inl ⟨hst σ H p,hd σ H p⟩
structure Nx (prog:Program) (w:World) (A:Around) (it:Addr) (f:List Addr) (Sa Sb:Heap->Prop) (P:Value->Prop):Prop where
 fra:∀ h h',Sa h->(∀ b ∈ f,∀ o,h.get? b=some o->h'.get? b=some o)->Sa h'
 frb:∀ h h',Sb h->(∀ b ∈ f,∀ o,h.get? b=some o->h'.get? b=some o)->Sb h'
 step:∀ (s:Shared) (Q:Value->Shared->Prop) (E:Value->Shared->Prop),Sa s.heap->(∀ x h' tk,P x->Sb h'->Heap.SameBut it s.heap h'->Q x { s with heap:=h',toks:=tk })->wpAny (model prog w) A (Builtin.SmallTypes.nextOf (.ref it)) Q E s
structure Nd (prog:Program) (w:World) (A:Around) (it:Addr) (f:List Addr) (Sa:Heap->Prop):Prop where
 fra:∀ h h',Sa h->(∀ b ∈ f,∀ o,h.get? b=some o->h'.get? b=some o)->Sa h'
 step:∀ (s:Shared) (Q:Value->Shared->Prop) (E:Value->Shared->Prop),Sa s.heap->(∀ h' e,Heap.ExtBut it s.heap h'->(∃ o,h'.get? e=some o/\o.cls=.type "StopIteration")->E (.ref e) { s with heap:=h' })->wpAny (model prog w) A (Builtin.SmallTypes.nextOf (.ref it)) Q E s
structure ZAp (z TI TO i1 i2:Addr):Prop where
 TIz:TI≠z
 TOz:TO≠z
 i1z:i1≠z
 i2z:i2≠z
 TITO:TI≠TO
 TIi1:TI≠i1
 TIi2:TI≠i2
 TOi1:TO≠i1
 TOi2:TO≠i2
 i12:i1≠i2
section
variable {prog:Program} {w:World} {A:Around} {E:Value->Shared->Prop} {s:Shared}
theorem ku {z TI TO i1 i2:Addr} {f1 f2:List Addr} {Sa Sb Sc Sd:Heap->Prop} {P1 P2:Value->Prop} {a b:Value} {Q:Value->Shared->Prop} (D:ZAp z TI TO i1 i2)
  (n1:Nx prog w A i1 f1 Sa Sb P1) (n2:Nx prog w A i2 f2 Sc Sd P2) (hf1:∀ c ∈ f1,c≠z/\c≠TO/\c≠i2) (hf2:∀ c ∈ f2,c≠z/\c≠TO/\c≠i1)
  (hz:IsZip s.heap z TI TO .none) (hTI:IsPair s.heap TI (.ref i1) (.ref i2)) (hTO:IsPair s.heap TO a b) (h1:Sa s.heap) (h2:Sc s.heap)
  (hQ:∀ x y h' tk,P1 x->P2 y->IsZip h' z TI TO (rawInt s.heap.objs.size)->IsPair h' TO x y->Sb h'->Sd h'->IsPair h' s.heap.objs.size x y->h'.objs.size=s.heap.objs.size+1 ->
   (∀ c o,c≠z->c≠TO->c≠i1->c≠i2->s.heap.get? c=some o->h'.get? c=some o)->Q (.ref s.heap.objs.size) { s with heap:=h',toks:=tk }):
  wpAny (model prog w) A (Builtin.«zip.__next__» ⟨[.ref z],[]⟩) (fun fin s'=>∃ v,fin=.done (.ret v)/\Q v s') E s:=by
 obtain ⟨hp,gs,dr,k0,os⟩:=s;refine wpAny_bind (m:=slotArgs "__next__" 0 _) (wpAny_of_eq (a:=(Value.ref _,[])) rfl ?_);refine wpAny_bind (m:=field _ 2) (wpAny_field hz rfl (x:=Value.bool false) rfl (wpAny_bind (m:=field _ 3) (wpAny_field hz rfl (x:=Value.ref TI) rfl (wpAny_bind (m:=seqItems? _) (wpAny_seqItems hTI rfl ?_)))));refine wpAny_bind (m:=Builtin.SmallTypes.ownedTupleIsFree _) (wpAny_bind (wpAny_field hz rfl (x:=Value.none) rfl (wpAny_pure ?_)));refine wpAny_bind (wpAny_rule (wpAny_bind (wpAny_field hz rfl (x:=Value.ref TO) rfl (wpAny_bind (wpAny_setField_rec hz (by simp) fun g1 zg sg=>wpAny_bind ?_)))));simp only [List.zipIdx_cons,List.zipIdx_nil,List.forIn_cons,List.forIn_nil];have zg:IsZip g1 z TI TO .ellipsis:=zg;have sg:Heap.SameBut z hp g1:=sg;refine wpAny_bind (wpAny_bind (wpAny_onRaise (wpAny_bind (m:=Builtin.SmallTypes.nextOf (.ref i1)) (n1.step _ _ _ (n1.fra hp g1 h1 fun c hc o=>sg.extBut _ _ (hf1 c hc).1) fun x g2 k1 p1 b2 t2=>wpAny_pure ?_))));have t2:Heap.SameBut i1 g1 g2:=t2;have o2:IsPair g2 TO a b:=t2.extBut _ _ D.TOi1 (sg.extBut _ _ D.TOz hTO);refine wpAny_bind (wpAny_seqItems o2 rfl (wpAny_bind (wpAny_updateSeq_pair o2 fun g3 o3 t3=>wpAny_bind (wpAny_letGo (wpAny_pure ?_)))));have o3:IsPair g3 TO x b:=o3;have t3:Heap.SameBut TO g2 g3:=t3;have to3:∀ c o,c≠z->c≠TO->c≠i1->hp.get? c=some o->g3.get? c=some o:=fun c o e1 e2 e3 q=>t3.extBut _ _ e2 (t2.extBut _ _ e3 (sg.extBut _ _ e1 q))
 refine wpAny_bind (wpAny_bind (wpAny_onRaise (wpAny_bind (m:=Builtin.SmallTypes.nextOf (.ref i2)) (n2.step _ _ _ (n2.fra hp g3 h2 fun c hc o=>to3 c o (hf2 c hc).1 (hf2 c hc).2.1 (hf2 c hc).2.2) fun y g4 k2 p2 b4 t4=>wpAny_pure ?_))));have t4:Heap.SameBut i2 g3 g4:=t4;have o4:IsPair g4 TO x b:=t4.extBut _ _ D.TOi2 o3;refine wpAny_bind (wpAny_seqItems o4 rfl (wpAny_bind (wpAny_updateSeq_pair o4 fun g5 o5 t5=>wpAny_bind (wpAny_letGo (wpAny_pure (wpAny_pure ?_))))));have o5:IsPair g5 TO x y:=o5;have t5:Heap.SameBut TO g4 g5:=t5;have size5:g5.objs.size=hp.objs.size:=t5.1.trans (t4.1.trans (t3.1.trans (t2.1.trans sg.1)));have z5:IsZip g5 z TI TO .ellipsis:=t5.extBut _ _ D.TOz.symm (t4.extBut _ _ D.i2z.symm (t3.extBut _ _ D.TOz.symm (t2.extBut _ _ D.i1z.symm zg)));have zlt:z < g5.objs.size:=Heap.lt_size z5;refine wpAny_bind (wpAny_seqItems o5 rfl (wpAny_bind (wpAny_newTuple (wpAny_bind (m:=Builtin.SmallTypes.ownedTupleHandOut _ _) ?_))));refine wpAny_bind (wpAny_setField_rec (Heap.get?_push_of_some _ z5) (by simp) fun g6 z6 t6=>wpAny_setField_rec z6 (by simp) fun g7 z7 t7=>wpAny_pure ⟨_,rfl,?_⟩);have t6:Heap.SameBut z (g5.push { cls:=.type "tuple",data:=.seq #[x,y] }) g6:=t6;have t7:Heap.SameBut z g6 g7:=t7;have z7:IsZip g7 z TI TO (rawInt g5.objs.size):=z7;have over:∀ c o,c≠z->g5.get? c=some o->g7.get? c=some o:=fun c o e q=>t7.extBut _ _ e (t6.extBut _ _ e (Heap.get?_push_of_some _ q))
 have pair7:IsPair g7 g5.objs.size x y:=t7.extBut _ _ (Nat.ne_of_gt zlt) (t6.extBut _ _ (Nat.ne_of_gt zlt) (Heap.get?_push_size _ rfl));have size7:g7.objs.size=g5.objs.size+1:=t7.1.trans (t6.1.trans (Heap.size_push ..));show Q (.ref g5.objs.size) _;rw [size5] at z7 pair7 size7 ⊢;refine hQ x y g7 k2 p1 p2 z7 (over _ _ D.TOz o5) (n1.frb g2 g7 b2 fun c hc o q=>?_) (n2.frb g4 g7 b4 fun c hc o q=>?_) pair7 size7 fun c o e1 e2 e3 e4 q=>over c o e1 (t5.extBut _ _ e2 (t4.extBut _ _ e4 (to3 c o e1 e2 e3 q)))
 ·obtain ⟨e1,e2,e3⟩:=hf1 c hc;exact over c o e1 (t5.extBut _ _ e2 (t4.extBut _ _ e3 (t3.extBut _ _ e2 q)))
 ·obtain ⟨e1,e2,_⟩:=hf2 c hc;exact over c o e1 (t5.extBut _ _ e2 q)
theorem lf {z TI TO i1 i2:Addr} {f1:List Addr} {Sa:Heap->Prop} {Q:Fin->Shared->Prop} (D:ZAp z TI TO i1 i2)
  (n1:Nd prog w A i1 f1 Sa) (hf1:∀ c ∈ f1,c≠z/\c≠TO/\c≠i2)
  (hz:IsZip s.heap z TI TO .none) (hTI:IsPair s.heap TI (.ref i1) (.ref i2)) (h1:Sa s.heap)
  (hE:∀ h' e tk,(∀ c o,c≠z->c≠TO->c≠i1->c≠i2->s.heap.get? c=some o->h'.get? c=some o)->(∃ o,h'.get? e=some o/\o.cls=.type "StopIteration")->E (.ref e) { s with heap:=h',toks:=tk }):
  wpAny (model prog w) A (Builtin.«zip.__next__» ⟨[.ref z],[]⟩) Q E s:=by
 obtain ⟨hp,gs,dr,k0,os⟩:=s;refine wpAny_bind (m:=slotArgs "__next__" 0 _) (wpAny_of_eq (a:=(Value.ref _,[])) rfl ?_);refine wpAny_bind (m:=field _ 2) (wpAny_field hz rfl (x:=Value.bool false) rfl (wpAny_bind (m:=field _ 3) (wpAny_field hz rfl (x:=Value.ref TI) rfl (wpAny_bind (m:=seqItems? _) (wpAny_seqItems hTI rfl ?_)))));refine wpAny_bind (m:=Builtin.SmallTypes.ownedTupleIsFree _) (wpAny_bind (wpAny_field hz rfl (x:=Value.none) rfl (wpAny_pure ?_)));refine wpAny_bind (wpAny_rule (wpAny_bind (wpAny_field hz rfl (x:=Value.ref TO) rfl (wpAny_bind (wpAny_setField_rec hz (by simp) fun g1 zg sg=>wpAny_bind ?_)))));simp only [List.zipIdx_cons,List.zipIdx_nil,List.forIn_cons,List.forIn_nil];have zg:IsZip g1 z TI TO .ellipsis:=zg;have sg:Heap.SameBut z hp g1:=sg;refine wpAny_bind (wpAny_bind (wpAny_onRaise (wpAny_bind (m:=Builtin.SmallTypes.nextOf (.ref i1)) (n1.step _ _ _ (n1.fra hp g1 h1 fun c hc o=>sg.extBut _ _ (hf1 c hc).1) fun g2 e t2 ⟨oe,qe,ce⟩=>?_))));have t2:Heap.ExtBut i1 g1 g2:=t2;have z2:IsZip g2 z TI TO .ellipsis:=t2 _ _ D.i1z.symm zg;have ne:e≠z:=fun q=>by subst q; rw [z2] at qe; cases qe; simp at ce
 refine wpAny_setField_rec z2 (by simp) fun g3 _ t3=>?_
 have t3:Heap.SameBut z g2 g3:=t3;exact hE g3 e k0 (fun c o e1 _ e3 _ q=>t3.extBut _ _ e1 (t2 _ _ e3 (sg.extBut _ _ e1 q))) ⟨oe,t3.extBut _ _ ne qe,ce⟩
theorem lb {z TI TO i1 i2:Addr} {f1 f2:List Addr} {Sa Sb Sc:Heap->Prop} {P1:Value->Prop} {a b:Value} {Q:Fin->Shared->Prop} (D:ZAp z TI TO i1 i2)
  (n1:Nx prog w A i1 f1 Sa Sb P1) (n2:Nd prog w A i2 f2 Sc) (hf1:∀ c ∈ f1,c≠z/\c≠TO/\c≠i2) (hf2:∀ c ∈ f2,c≠z/\c≠TO/\c≠i1)
  (hz:IsZip s.heap z TI TO .none) (hTI:IsPair s.heap TI (.ref i1) (.ref i2)) (hTO:IsPair s.heap TO a b) (h1:Sa s.heap) (h2:Sc s.heap)
  (hE:∀ h' e tk,(∀ c o,c≠z->c≠TO->c≠i1->c≠i2->s.heap.get? c=some o->h'.get? c=some o)->(∃ o,h'.get? e=some o/\o.cls=.type "StopIteration")->E (.ref e) { s with heap:=h',toks:=tk }):
  wpAny (model prog w) A (Builtin.«zip.__next__» ⟨[.ref z],[]⟩) Q E s:=by
 obtain ⟨hp,gs,dr,k0,os⟩:=s;refine wpAny_bind (m:=slotArgs "__next__" 0 _) (wpAny_of_eq (a:=(Value.ref _,[])) rfl ?_);refine wpAny_bind (m:=field _ 2) (wpAny_field hz rfl (x:=Value.bool false) rfl (wpAny_bind (m:=field _ 3) (wpAny_field hz rfl (x:=Value.ref TI) rfl (wpAny_bind (m:=seqItems? _) (wpAny_seqItems hTI rfl ?_)))));refine wpAny_bind (m:=Builtin.SmallTypes.ownedTupleIsFree _) (wpAny_bind (wpAny_field hz rfl (x:=Value.none) rfl (wpAny_pure ?_)));refine wpAny_bind (wpAny_rule (wpAny_bind (wpAny_field hz rfl (x:=Value.ref TO) rfl (wpAny_bind (wpAny_setField_rec hz (by simp) fun g1 zg sg=>wpAny_bind ?_)))));simp only [List.zipIdx_cons,List.zipIdx_nil,List.forIn_cons,List.forIn_nil];have zg:IsZip g1 z TI TO .ellipsis:=zg;have sg:Heap.SameBut z hp g1:=sg;refine wpAny_bind (wpAny_bind (wpAny_onRaise (wpAny_bind (m:=Builtin.SmallTypes.nextOf (.ref i1)) (n1.step _ _ _ (n1.fra hp g1 h1 fun c hc o=>sg.extBut _ _ (hf1 c hc).1) fun x g2 k1 p1 b2 t2=>wpAny_pure ?_))));have t2:Heap.SameBut i1 g1 g2:=t2;have o2:IsPair g2 TO a b:=t2.extBut _ _ D.TOi1 (sg.extBut _ _ D.TOz hTO);refine wpAny_bind (wpAny_seqItems o2 rfl (wpAny_bind (wpAny_updateSeq_pair o2 fun g3 _ t3=>wpAny_bind (wpAny_letGo (wpAny_pure ?_)))));have t3:Heap.SameBut TO g2 g3:=t3;have to3:∀ c o,c≠z->c≠TO->c≠i1->hp.get? c=some o->g3.get? c=some o:=fun c o e1 e2 e3 q=>t3.extBut _ _ e2 (t2.extBut _ _ e3 (sg.extBut _ _ e1 q))
 refine wpAny_bind (wpAny_bind (wpAny_onRaise (wpAny_bind (m:=Builtin.SmallTypes.nextOf (.ref i2)) (n2.step _ _ _ (n2.fra hp g3 h2 fun c hc o=>to3 c o (hf2 c hc).1 (hf2 c hc).2.1 (hf2 c hc).2.2) fun g4 e t4 ⟨oe,qe,ce⟩=>?_))));have t4:Heap.ExtBut i2 g3 g4:=t4;have z4:IsZip g4 z TI TO .ellipsis:=t4 _ _ D.i2z.symm (t3.extBut _ _ D.TOz.symm (t2.extBut _ _ D.i1z.symm zg));have ne:e≠z:=fun q=>by subst q; rw [z4] at qe; cases qe; simp at ce
 refine wpAny_setField_rec z4 (by simp) fun g5 _ t5=>?_
 have t5:Heap.SameBut z g4 g5:=t5;exact hE g5 e k1 (fun c o e1 e2 e3 e4 q=>t5.extBut _ _ e1 (t4 _ _ e4 (to3 c o e1 e2 e3 q))) ⟨oe,t5.extBut _ _ ne qe,ce⟩
theorem jX {z:Addr} {o:Obj} {Q:Option Value->Shared->Prop} (hz:s.heap.get? z=some o) (hc:o.cls=.type "zip")
  (h:wpAny (model prog w) A.in1 (Builtin.«zip.__next__» ⟨[.ref z],[]⟩) (fun fin s'=>∃ v,fin=.done (.ret v)/\Q (some v) s') (fun _ _=>False) s):wpAny (model prog w) A (pyNext (.ref z)) Q E s:=by
 have hT:s.TypeIs (.ref z) "zip" := ⟨_,hz,hc⟩;unfold pyNext;exact wpAny_bind (wpAny_attempt (wpAny_callSpecial?_slot (name:=Str.ofString "__next__") hT F.slot_zip_next
  (wpAny_call_entry F.slot_zip_next hT F.entry_zip_next (wpAny_mono h (fun fin s' ⟨v,e,q⟩=>⟨v,e,wpAny_pure q⟩) fun _ _ f=>f.elim) (F.args_zip_next_1 _))))
theorem fo {z:Addr} {o:Obj} {Q:Option Value->Shared->Prop} (hz:s.heap.get? z=some o) (hc:o.cls=.type "zip")
  (h:wpAny (model prog w) A.in1 (Builtin.«zip.__next__» ⟨[.ref z],[]⟩) (fun _ _=>False) (fun e s'=>∃ a,e=.ref a/\(∃ o,s'.heap.get? a=some o/\o.cls=.type "StopIteration")/\Q none s') s):wpAny (model prog w) A (pyNext (.ref z)) Q E s:=by
 have hT:s.TypeIs (.ref z) "zip" := ⟨_,hz,hc⟩;unfold pyNext;refine wpAny_bind (wpAny_attempt (wpAny_callSpecial?_slot (name:=Str.ofString "__next__") hT F.slot_zip_next
  (wpAny_call_entry F.slot_zip_next hT F.entry_zip_next (wpAny_mono h (fun _ _ f=>f.elim) fun e s' he=>?_) (F.args_zip_next_1 _))))
 obtain ⟨a,rfl,⟨o,ho,hc⟩,q⟩:=he;refine wpAny_bind (wpAny_isInstance (T := "StopIteration") (b:=true) ⟨o,ho,hc⟩ isSubtype_stop ?_);exact wpAny_pure q
end
inductive Src where
 | str (x:Str) | lst (a:Addr)
noncomputable def SrcGo (K:Frag) (H:Hp):Src->Nat->Prop
 | .str x,i=>i < x.cps.size
 | .lst a,i=>∃ xs v,SqL K H a xs/\xs[i]? = some v
noncomputable def SrcAt (K:Frag) (H:Hp):Src->Nat->V->Prop
 | .str x,i,v=>∃ c,x.cps[i]? = some c/\v=.str ⟨#[c]⟩
 | .lst a,i,v=>∀ xs,SqL K H a xs->xs[i]? = some v
noncomputable def SrcEnd (K:Frag) (H:Hp):Src->Nat->Prop
 | .str x,i=>x.cps.size<=i
 | .lst a,i=>∃ xs,SqL K H a xs/\xs.length<=i
noncomputable def SrcIt (h:Heap):Src->Addr->Nat->Prop
 | .str x,it,i=>∃ t,h.IsStrIter it (strIterType x) x t i
 | .lst a,it,i=>h.IsListIter it a i
noncomputable def SrcOf (K:Frag) (H:Hp):Src->V->Prop
 | .str x,v=>v=.str x
 | .lst a,v=>v=.ref a/\∃ xs,SqL K H a xs
theorem SrcIt.obj {h:Heap} {S:Src} {it:Addr} {i:Nat} (st:SrcIt h S it i):∃ o,h.get? it=some o/\(∀ v,o.data≠.cell v)/\o.cls≠.type "list" /\ o.cls≠.type "zip" /\ o.cls≠.type "tuple" := by
 cases S with
 | str x=>
  obtain ⟨t,o,e,c,d⟩:=st;refine ⟨o,e,(fun v z=>by rw [d] at z; cases z),?_⟩;rw [c];rcases bI x with q | q <;> rw [q] <;> decide
 | lst a=>
  obtain ⟨o,e,c,d⟩:=(show h.IsListIter it a i from st);refine ⟨o,e,(fun v z=>by rw [d] at z; cases z),?_⟩;rw [c];decide
theorem SrcIt.keep {h h':Heap} {S:Src} {it:Addr} {i:Nat} (st:SrcIt h S it i) (k:∀ o,h.get? it=some o->h'.get? it=some o):SrcIt h' S it i:=by
 cases S with
 | str x=>
  obtain ⟨t,o,e,r⟩:=st;exact ⟨t,o,k o e,r⟩
 | lst a=>exact Heap.IsListIter.at (show h.IsListIter it a i from st) k
section
variable {X:Cx} {pins:List (Addr × Obj)} {σ:St} {H:Hp} {s:Shared} {A:Around}
theorem ul (I:Inv X pins σ H s) (S:Src) {it:Addr} {i:Nat} (st:SrcIt s.heap S it i) (go:SrcGo X.K H S i):
  ∃ (f:List Addr) (Sa Sb:Heap->Prop) (P:Value->Prop),Nx X.prog X.w A it f Sa Sb P/\Sa s.heap/\(∀ c ∈ f,c=it\/∃ o,s.heap.get? c=some o/\o.cls=.type "list")/\(∀ h,Sb h->SrcIt h S it (i+1))/\∀ v,P v->∃ x,RelV x v/\SrcAt X.K H S i x:=by
 cases S with
 | str x=>
  obtain ⟨t,st⟩:=st;have hi:i < x.cps.size:=go;refine ⟨[it],fun h=>h.IsStrIter it (strIterType x) x t i,fun h=>h.IsStrIter it (strIterType x) x t (i+1),fun v=>∃ u,v=.str ⟨#[x.cps[i]]⟩ u,⟨?_,?_,?_⟩,st,fun c hc=>.inl (by simpa using hc),fun h q=>⟨t,q⟩,?_⟩
  ·rintro h h' ⟨o,e,r⟩ k;exact ⟨o,k it (by simp) o e,r⟩
  ·rintro h h' ⟨o,e,r⟩ k;exact ⟨o,k it (by simp) o e,r⟩
  ·intro s Q E st hQ;exact nO st (c:=x.cps[i]) (by simp [hi]) fun h' st' sb=>hQ _ h' _ ⟨_,rfl⟩ st' sb
  ·rintro v ⟨u,rfl⟩;exact ⟨.str ⟨#[x.cps[i]]⟩,⟨u,rfl⟩,_,by simp [hi],rfl⟩
 | lst a=>
  obtain ⟨xs,v,hq,hv⟩:=go;obtain ⟨its,rv,pl,hz⟩:=I.list hq;obtain ⟨u,hu,ru⟩:=rv.get hv;have st':s.heap.IsListIter it a i:=st;obtain ⟨o,e,c,n,hd⟩:=id pl.isList;have hne:a≠it:=by
   rintro rfl;obtain ⟨o',e',c',_⟩:=st';rw [e] at e';cases e';rw [c] at c';exact absurd c' (by decide)
  refine ⟨[it,a],fun h=>h.IsListIter it a i/\h.IsList a its.toArray,fun h=>h.IsListIter it a (i+1)/\h.IsList a its.toArray,fun z=>z=u,⟨?_,?_,?_⟩,⟨st',pl.isList⟩,?_,fun h q=>q.1,?_⟩
  ·rintro h h' ⟨s1,s2⟩ k;exact ⟨s1.at fun o e=>k it (by simp) o e,s2.at fun o e=>k a (by simp) o e⟩
  ·rintro h h' ⟨s1,s2⟩ k;exact ⟨s1.at fun o e=>k it (by simp) o e,s2.at fun o e=>k a (by simp) o e⟩
  ·intro s Q E st hQ;exact wpAny_nextOf_list_item st.1 st.2 (x:=u) (by simpa using hu) fun h' st' sb=>hQ _ h' s.toks rfl ⟨st',st.2.extBut sb.extBut hne⟩ sb
  ·intro c' hc;rcases (by simpa using hc:c'=it\/c'=a) with z | z
   ·exact .inl z
   ·subst z;exact .inr ⟨o,e,c⟩
  ·rintro z rfl;exact ⟨v,ru,fun ys hy=>by rw [I.list_inj hy hq]; exact hv⟩
theorem yk (I:Inv X pins σ H s) (hh:A.handled=none) (S:Src) {it:Addr} {i:Nat} (st:SrcIt s.heap S it i) (en:SrcEnd X.K H S i):
  ∃ (f:List Addr) (Sa:Heap->Prop),Nd X.prog X.w A it f Sa/\Sa s.heap/\(∀ c ∈ f,c=it\/∃ o,s.heap.get? c=some o/\o.cls=.type "list"):=by
 cases S with
 | str x=>
  obtain ⟨t,st⟩:=st;have hi:x.cps.size<=i:=en;refine ⟨[it],fun h=>h.IsStrIter it (strIterType x) x t i,⟨?_,?_⟩,st,fun c hc=>.inl (by simpa using hc)⟩
  ·rintro h h' ⟨o,e,r⟩ k;exact ⟨o,k it (by simp) o e,r⟩
  ·intro s Q E st hE;exact oN hh st (by simp [hi]) hE
 | lst a=>
  obtain ⟨xs,hq,hv⟩:=en;obtain ⟨its,rv,pl,hz⟩:=I.list hq;have st':s.heap.IsListIter it a i:=st;obtain ⟨o,e,c,n,hd⟩:=id pl.isList;have hl:=rv.length;refine ⟨[it,a],fun h=>h.IsListIter it a i/\h.IsList a its.toArray,⟨?_,?_⟩,⟨st',pl.isList⟩,?_⟩
  ·rintro h h' ⟨s1,s2⟩ k;exact ⟨s1.at fun o e=>k it (by simp) o e,s2.at fun o e=>k a (by simp) o e⟩
  ·intro s Q E st hE;exact wpAny_nextOf_list_end hh st.1 st.2 (by simp; omega) hE
  ·intro c' hc;rcases (by simpa using hc:c'=it\/c'=a) with z | z
   ·exact .inl z
   ·subst z;exact .inr ⟨o,e,c⟩
theorem Inv.turnedLaid {t':Nat} {its:List Addr} {h':Heap} {a:Addr} {o:HO} (I:Inv X pins σ H s) (k:∀ b ob,b ∉ its->s.heap.get? b=some ob->h'.get? b=some ob) (hf:∀ b ∈ its,FpOk X pins H b) (hp:s.heap.objs.size<=a)
  (new:ObjOk X.prog X.w (upd H a o) h' a o) (ht:0 < t':=by first | assumption | exact Nat.succ_pos _ | (apply Inv.tk; assumption) | omega):Inv X pins σ (upd H a o) { s with heap:=h',toks:=t' }:=by
 have hn:H a=none:=I.hok.fresh hp;have nit:∀ b u,H b=some u->b ∉ its:=fun b u e z=>by
  have q:=(hf b z).1;rw [q] at e;cases e
 have nea:∀ b ob,s.heap.get? b=some ob->b≠a:=fun b ob e=>Nat.ne_of_lt (Nat.lt_of_lt_of_le (Heap.lt_size e) hp)
 refine I.step (g':=s.gens) (d':=s.drawn) (ch:=its) (fun b hb=>?_) (fun b o _ _ hc e _=>k b o hc e) (fun b o _ _ hc e _=>⟨o.slots,k b o hc e⟩) (fun b ob _ e n=>by rw [aC (nea b ob e)]; exact n)
  (fun b o hc e=>⟨o,k b o hc e⟩) (fun _ _ e=>by rw [aC (bS e hn)]; exact e) (fun _ _ _ e=>by rw [aC (bS e hn)]; exact e) (fun b ps e=>⟨#[],by rw [aC (bS e hn),e]; simp⟩) (fun m hm=>?_) (fun b u e=>?_) I.bare
 ·obtain ⟨f0,f1,f2,f3,f4,f5⟩:=hf b hb;exact ⟨f3,f1,f4,f5⟩
 ·obtain ⟨o,es,ep,ho,r⟩:=hm;exact ⟨o,es,ep,k _ o (fun z=>(hf _ z).2.1 rfl) ho,r⟩
 ·by_cases hb:b=a
  ·subst hb;rw [ah] at e;cases e;exact new
  ·rw [aC hb] at e;refine (I.hok b u e).stay (fun c v hc q=>k c v ?_ q) (fun c q=>by rw [aC (bS q hn)]; exact q) fun c xs q=>by rw [aC (bS q hn)]; exact q
   rcases hc with z | z
   ·rw [z]; exact nit b u e
   ·exact nit c _ z
end
noncomputable def Itz (K:Frag) (S1 S2:Src):It:=⟨fun i H=>SrcGo K H S1 i/\SrcGo K H S2 i,fun i H v H'=>∃ T x y,v=.ref T/\H T=none/\H'=upd H T (.tup [x,y])/\SrcAt K H S1 i x/\SrcAt K H S2 i y,
 fun i H=>SrcEnd K H S1 i\/(SrcGo K H S1 i/\SrcEnd K H S2 i)⟩
def ZipSt (z TI TO i1 i2:Addr) (S1 S2:Src) (i:Nat) (h:Heap):Prop:=∃ a b,IsZip h z TI TO .none/\IsPair h TI (.ref i1) (.ref i2)/\IsPair h TO a b/\SrcIt h S1 i1 i/\SrcIt h S2 i2 i
theorem oD {h:Heap} {f:List Addr} {z TI TO i1 i2:Addr} {a b:Value} {S2:Src} {k:Nat} (hz:IsZip h z TI TO .none) (hTO:IsPair h TO a b) (h2:SrcIt h S2 i2 k) (n1:i1≠z) (n2:i1≠TO) (n3:i1≠i2)
  (m:∀ c ∈ f,c=i1\/∃ o,h.get? c=some o/\o.cls=.type "list"):∀ c ∈ f,c≠z/\c≠TO/\c≠i2:=fun c hc=>by
 rcases m c hc with e | ⟨o,e,c1⟩
 ·subst e;exact ⟨n1,n2,n3⟩
 ·refine ⟨?_,?_,?_⟩
  ·rintro rfl;rw [hz] at e;cases e;exact absurd (show Value.type "zip" = Value.type "list" from c1) (by decide)
  ·rintro rfl;rw [hTO] at e;cases e;exact absurd (show Value.type "tuple" = Value.type "list" from c1) (by decide)
  ·rintro rfl;obtain ⟨o',e',_,q,_⟩:=h2.obj;rw [e] at e';cases e';exact q c1
theorem xL {P:Program} {w:World} {K:Frag} {elts:List Expr} {kk:Nat} {pos:Pos} {z TI TO i1 i2:Addr} (D:ZAp z TI TO i1 i2) (S1 S2:Src):
  Turn P w K (.Tuple elts kk pos) (Itz K S1 S2) [z,TI,TO,i1,i2] z (ZipSt z TI TO i1 i2 S1 S2) where
 mem:=by simp
 obj:=fun i h st b hb=>by
  obtain ⟨a,c,hz,hTI,hTO,h1,h2⟩:=st;simp only [List.mem_cons,List.not_mem_nil,or_false] at hb;rcases hb with rfl | rfl | rfl | rfl | rfl
  ·exact ⟨_,hz,fun v q=>by have q':Data.fields _=Data.cell v:=q; cases q'⟩
  ·exact ⟨_,hTI,fun v q=>by have q':Data.seq _ _=Data.cell v:=q; cases q'⟩
  ·exact ⟨_,hTO,fun v q=>by have q':Data.seq _ _=Data.cell v:=q; cases q'⟩
  ·obtain ⟨o,e,q,_⟩:=h1.obj;exact ⟨o,e,q⟩
  ·obtain ⟨o,e,q,_⟩:=h2.obj;exact ⟨o,e,q⟩
 keep:=fun i h h' st k=>by
  obtain ⟨a,c,hz,hTI,hTO,h1,h2⟩:=st;exact ⟨a,c,k z (by simp) _ hz,k TI (by simp) _ hTI,k TO (by simp) _ hTO,h1.keep fun o e=>k i1 (by simp) o e,h2.keep fun o e=>k i2 (by simp) o e⟩
 item:=by
  intro X hP hw hK hc i pins s σ H E I hf st hg;subst hP hw hK;obtain ⟨a,b,hz,hTI,hTO,h1,h2⟩:=st;obtain ⟨g1,g2⟩:=hg;obtain ⟨f1,Sa,Sb,P1,n1,a1,m1,b1,r1⟩:=ul (A:=X.A.in1) I S1 h1 g1;obtain ⟨f2,Sc,Sd,P2,n2,a2,m2,b2,r2⟩:=ul (A:=X.A.in1) I S2 h2 g2;refine tokQ I.tk (jX hz rfl (ku D n1 n2 (oD hz hTO h2 D.i1z D.TOi1.symm D.i12 m1) (oD hz hTO h1 D.i2z D.TOi2.symm D.i12.symm m2) hz hTI hTO a1 a2 fun x y h' tk p1 p2 z1 z2 q1 q2 z3 z4 kp (htk:0 < tk)=>?_));obtain ⟨vx,rx,ax⟩:=r1 x p1;obtain ⟨vy,ry,ay⟩:=r2 y p2;have fresh:H s.heap.objs.size=none:=I.hok.fresh (Nat.le_refl _);have off:∀ {c o},s.heap.get? c=some o->c≠s.heap.objs.size:=fun e=>Nat.ne_of_lt (Heap.lt_size e)
  refine ⟨_,rfl,wpAny_letOwnedTupleGo_zip z1 fun h'' z1' sb=>?_⟩
  replace sb:Heap.SameBut z h' h'':=sb
  have hT:IsPair h'' s.heap.objs.size x y:=sb.extBut _ _ (Ne.symm (off hz)) z3;have I1:Inv X pins σ (upd H s.heap.objs.size (.tup [vx,vy])) { s with heap:=h'',toks:=tk }:=by
   refine I.turnedLaid (its:=[z,TO,i1,i2]) (fun c o hc' e=>?_) (fun c hc'=>hf c ?_) (Nat.le_refl _) ?_
   ·simp only [List.mem_cons,List.not_mem_nil,or_false,not_or] at hc';exact sb.extBut _ _ hc'.1 (kp c o hc'.1 hc'.2.1 hc'.2.2.1 hc'.2.2.2 e)
   ·simp only [List.mem_cons,List.not_mem_nil,or_false] at hc' ⊢;rcases hc' with q | q | q | q
    ·exact .inl q
    ·exact .inr (.inr (.inl q))
    ·exact .inr (.inr (.inr (.inl q)))
    ·exact .inr (.inr (.inr (.inr q)))
   ·exact ⟨by show 2<=sizeLine; decide,[x,y],.cons rx (.cons ry .nil),_,hT,rfl,_,rfl⟩
  refine ⟨.ref s.heap.objs.size,_,I1,rfl,⟨_,vx,vy,rfl,fresh,rfl,ax,ay⟩,⟨x,y,z1',?_,?_,?_,?_⟩,fun c hc'=>?_⟩
  ·exact sb.extBut _ _ D.TIz (kp _ _ D.TIz D.TITO D.TIi1 D.TIi2 hTI)
  ·exact sb.extBut _ _ D.TOz z2
  ·exact (b1 h' q1).keep fun o e=>sb.extBut _ _ D.i1z e
  ·exact (b2 h' q2).keep fun o e=>sb.extBut _ _ D.i2z e
  ·have ne:c≠s.heap.objs.size:=by
    simp only [List.mem_cons,List.not_mem_nil,or_false] at hc';rcases hc' with rfl | rfl | rfl | rfl | rfl
    ·exact off hz
    ·exact off hTI
    ·exact off hTO
    ·obtain ⟨o,e,_⟩:=h1.obj;exact off e
    ·obtain ⟨o,e,_⟩:=h2.obj;exact off e
   rw [aC ne];exact (hf c hc').1
 done:=by
  intro X hP hw hK hc i pins s σ H E I hf st hg;subst hP hw hK;obtain ⟨a,b,hz,hTI,hTO,h1,h2⟩:=st;have hh:X.A.in1.handled=none:=I.ok.hd hc;have fin:∀ (h':Heap) (tk:Nat),0 < tk->(∀ c o,c≠z->c≠TO->c≠i1->c≠i2->s.heap.get? c=some o->h'.get? c=some o)->Inv X pins σ H { s with heap:=h',toks:=tk }:=fun h' tk htk kp=>
   I.turnedL (its:=[z,TO,i1,i2]) (fun c o hc' e=>by
    simp only [List.mem_cons,List.not_mem_nil,or_false,not_or] at hc';exact kp c o hc'.1 hc'.2.1 hc'.2.2.1 hc'.2.2.2 e) (fun c hc'=>hf c (by
    simp only [List.mem_cons,List.not_mem_nil,or_false] at hc' ⊢;rcases hc' with q | q | q | q
    ·exact .inl q
    ·exact .inr (.inr (.inl q))
    ·exact .inr (.inr (.inr (.inl q)))
    ·exact .inr (.inr (.inr (.inr q)))))
  rcases hg with e1 | ⟨g1,e2⟩
  ·obtain ⟨f1,Sa,n1,a1,m1⟩:=yk I hh S1 h1 e1;exact tokQ I.tk (fo hz rfl (lf D n1 (oD hz hTO h2 D.i1z D.TOi1.symm D.i12 m1) hz hTI a1 fun h' e tk kp he=>⟨e,rfl,he,fun htk=>⟨rfl,fin h' tk htk kp⟩⟩))
  ·obtain ⟨f1,Sa,Sb,P1,n1,a1,m1,b1,r1⟩:=ul (A:=X.A.in1) I S1 h1 g1;obtain ⟨f2,Sc,n2,a2,m2⟩:=yk I hh S2 h2 e2;exact tokQ I.tk (fo hz rfl (lb D n1 n2 (oD hz hTO h2 D.i1z D.TOi1.symm D.i12 m1) (oD hz hTO h1 D.i2z D.TOi2.symm D.i12.symm m2) hz hTI hTO a1 a2 fun h' e tk kp he=>⟨e,rfl,he,fun htk=>⟨rfl,fin h' tk htk kp⟩⟩))
 self:=fun _ _ _ _ _ st h=>by
  obtain ⟨a,b,hz,_⟩:=st;exact wpAny_pyIter_zip hz h
noncomputable def srcVal:Src->Tok->Value
 | .str x,t=>.str x t
 | .lst a,_=>.ref a
noncomputable def srcObj:Src->Tok->Obj
 | .str x,t=>{ cls:=.type (strIterType x),data:=.fields #[.str x t,.int 0 0] }
 | .lst a,_=>{ cls:=.type "list_iterator",data:=.fields #[.ref a,.int 0 0] }
noncomputable def srcOk (h:Heap):Src->Prop
 | .str _=>True
 | .lst a=>∃ its,h.IsList a its
theorem srcOk.push {h:Heap} {S:Src} (ok:srcOk h S) (o:Obj):srcOk (h.push o) S:=by
 cases S with
 | str x=>trivial
 | lst a=>
  obtain ⟨its,q⟩:=ok;exact ⟨its,Heap.IsList.push q _⟩
theorem mh (S:Src) (t:Tok):(srcObj S t).isFreed=false:=by cases S <;> rfl
theorem qJ {h:Heap} {S:Src} {t:Tok} {it:Addr} (e:h.get? it=some (srcObj S t)):SrcIt h S it 0:=by
 cases S with
 | str x=>exact ⟨t,_,e,rfl,rfl⟩
 | lst a=>exact ⟨_,e,rfl,rfl⟩
section
variable {prog:Program} {w:World} {A:Around} {E:Value->Shared->Prop} {s:Shared}
theorem pC {S:Src} {t:Tok} {Q:Value->Shared->Prop} (ok:srcOk s.heap S) (hQ:Q (.ref s.heap.objs.size) { s with heap:=s.heap.push (srcObj S t) }):wpAny (model prog w) A (pyIter (srcVal S t)) Q E s:=by
 cases S with
 | str x=>exact wpAny_pyIter_strU hQ
 | lst a=>
  obtain ⟨its,q⟩:=ok;exact wpAny_pyIter_list q hQ
end
noncomputable abbrev zH1 (h:Heap) (S1:Src) (t1:Tok):Heap:=h.push (srcObj S1 t1)
noncomputable abbrev zH2 (h:Heap) (S1 S2:Src) (t1 t2:Tok):Heap:=(zH1 h S1 t1).push (srcObj S2 t2)
noncomputable abbrev zH3 (h:Heap) (S1 S2:Src) (t1 t2:Tok):Heap:=(zH2 h S1 S2 t1 t2).push { cls:=.type "tuple",data:=.seq #[.ref h.objs.size,.ref (zH1 h S1 t1).objs.size] }
noncomputable abbrev zH4 (h:Heap) (S1 S2:Src) (t1 t2:Tok):Heap:=(zH3 h S1 S2 t1 t2).push { cls:=.type "tuple",data:=.seq #[.none,.none] }
noncomputable abbrev zH5 (h:Heap) (S1 S2:Src) (t1 t2:Tok):Heap:=(zH4 h S1 S2 t1 t2).push { cls:=.type "zip",data:=.fields #[.none,.bool false,.bool false,.ref (zH2 h S1 S2 t1 t2).objs.size,.ref (zH3 h S1 S2 t1 t2).objs.size] }
theorem pE (S1 S2:Src) (t1 t2:Tok):
  Meets (Builtin.«zip.__new__» ⟨[.type "zip",srcVal S1 t1,srcVal S2 t2],[]⟩) (fun _ R s=>srcOk s.heap S1/\srcOk s.heap S2 /\
   R (.ok (.ret (.ref (zH4 s.heap S1 S2 t1 t2).objs.size))) { s with heap:=zH5 s.heap S1 S2 t1 t2 }):=
 .of_wp fun prog w A R s h=>by
  obtain ⟨hp,g,d,tk,os⟩:=s; obtain ⟨hl1,hl2,h⟩:=h;have hsub:=sub_zip;have hL1:srcOk (Shared.heap ⟨hp,g,d,tk,os⟩) S1:=hl1;have hL2:srcOk (Shared.heap ⟨hp.push (srcObj S1 t1),g,d,tk,os⟩) S2:=hl2.push _
  wp_walk using pC hL1,pC hL2
  exact ⟨_,rfl,h⟩
section
variable {prog:Program} {w:World} {A:Around} {E:Value->Shared->Prop} {s:Shared}
theorem wx {S1 S2:Src} {t1 t2:Tok} {Q:Value->Shared->Prop} (hl1:srcOk s.heap S1) (hl2:srcOk s.heap S2)
  (h:∀ h',ZipSt (s.heap.objs.size+4) (s.heap.objs.size+2) (s.heap.objs.size+3) s.heap.objs.size (s.heap.objs.size+1) S1 S2 0 h'->(∀ c o,s.heap.get? c=some o->h'.get? c=some o)->Q (.ref (s.heap.objs.size+4)) { s with heap:=h' }):
  wpAny (model prog w) A (call (.type "zip") [srcVal S1 t1,srcVal S2 t2]) Q E s:=by
 refine callType_new F.called_zip (by decide) (F.typeCall_zip_2 _ _) (F.newCall_zip_2 _ _) (fun obj=>F.args_object_init_3 obj _ _) F.entry_zip_new
  (pE S1 S2 t1 t2) ⟨hl1,hl2,?_⟩
 have z1:(zH1 s.heap S1 t1).objs.size=s.heap.objs.size+1:=Heap.size_push ..;have z2:(zH2 s.heap S1 S2 t1 t2).objs.size=s.heap.objs.size+2:=by rw [Heap.size_push,z1]
 have z3:(zH3 s.heap S1 S2 t1 t2).objs.size=s.heap.objs.size+3:=by rw [Heap.size_push,z2]
 have z4:(zH4 s.heap S1 S2 t1 t2).objs.size=s.heap.objs.size+4:=by rw [Heap.size_push,z3]
 have g5:(zH5 s.heap S1 S2 t1 t2).get? (zH4 s.heap S1 S2 t1 t2).objs.size=some _:=Heap.get?_push_size _ rfl;have g4:(zH5 s.heap S1 S2 t1 t2).get? (zH3 s.heap S1 S2 t1 t2).objs.size=some _:=Heap.get?_push_of_some _ (Heap.get?_push_size _ rfl);have g3:(zH5 s.heap S1 S2 t1 t2).get? (zH2 s.heap S1 S2 t1 t2).objs.size=some _:=Heap.get?_push_of_some _ (Heap.get?_push_of_some _ (Heap.get?_push_size _ rfl));have g2:(zH5 s.heap S1 S2 t1 t2).get? (zH1 s.heap S1 t1).objs.size=some (srcObj S2 t2):=Heap.get?_push_of_some _ (Heap.get?_push_of_some _ (Heap.get?_push_of_some _ (Heap.get?_push_size _ (mh _ _))));have g1:(zH5 s.heap S1 S2 t1 t2).get? s.heap.objs.size=some (srcObj S1 t1):=Heap.get?_push_of_some _ (Heap.get?_push_of_some _ (Heap.get?_push_of_some _ (Heap.get?_push_of_some _ (Heap.get?_push_size _ (mh _ _)))));show _/\_;rw [z2,z3,z4] at g5;rw [z1,z2] at g3;rw [z3] at g4;rw [z1] at g2;rw [z4];exact ⟨⟨_,g5,rfl⟩,h _ ⟨_,_,g5,g3,g4,qJ g1,qJ g2⟩ fun c o x=>
  Heap.get?_push_of_some _ (Heap.get?_push_of_some _ (Heap.get?_push_of_some _ (Heap.get?_push_of_some _ (Heap.get?_push_of_some _ x))))⟩
theorem uX (n:Nat):ZAp (n+4) (n+2) (n+3) n (n+1):=by
 constructor <;> exact fun h=>absurd (show (_:Nat)=_ from h) (by omega)
end
section
variable {X:Cx}
theorem qD {pins:List (Addr × Obj)} {σ:St} {H:Hp} {s:Shared} {S:Src} {v:V} {u:Value} (I:Inv X pins σ H s) (h:SrcOf X.K H S v) (r:RelV v u):∃ t,u=srcVal S t/\srcOk s.heap S:=by
 cases S with
 | str x=>
  have e:v=.str x:=h;subst e;obtain ⟨t,rfl⟩:=r;exact ⟨t,rfl,trivial⟩
 | lst a=>
  obtain ⟨e,xs,hq⟩:=h;subst e;cases r;obtain ⟨its,rv,pl,hz⟩:=I.list hq;exact ⟨0,rfl,_,pl.isList⟩
theorem xN:bootBuiltins "zip" = some (.type "zip"):=by decide +kernel
end
noncomputable def clOf (cells:List (Str × Addr)):List (Str × NameKind)->List (Str × Addr)->List (Str × Addr)
 | [],cs=>cs
 | (n,k)::r,cs=>clOf cells r (if (k == NameKind.free)=true then (n,(cells.lookup n).getD 0)::cs else cs)
theorem jW {scope:Scope} {env:Env} (h:∀ y ∈ scope.names,y.2=.free->∃ c,env.cells.lookup y.1=some c):closureFor scope env=pure (clOf env.cells scope.names []):=by
 unfold closureFor;have key:∀ (names:List (Str × NameKind)) (cs:List (Str × Addr)),(∀ y ∈ names,y.2=.free->∃ c,env.cells.lookup y.1=some c) ->
   (forIn names cs (fun x r=>match x with
    | (name,kind)=>if (kind == NameKind.free)=true then (do let __do_lift <- cellOf env name; pure (ForInStep.yield ((name,__do_lift)::r))) else pure (ForInStep.yield r)):Sem (List (Str × Addr)))=pure (clOf env.cells names cs):=by
  intro names
  induction names with
  | nil=>intro cs _; rfl
  | cons y r ih=>
   intro cs hy;obtain ⟨n,k⟩:=y;rw [List.forIn_cons];have hr:∀ y ∈ r,y.2=.free->∃ c,env.cells.lookup y.1=some c:=fun y hm=>hy y (List.mem_cons_of_mem _ hm)
   cases hk:(k == NameKind.free) with
   | true=>
    have hk':k=.free:=by simpa using hk
    obtain ⟨c,hc⟩:=hy (n,k) List.mem_cons_self hk';have ec:cellOf env n=pure c:=by unfold cellOf; rw [hc]
    have e1:(clOf env.cells ((n,k)::r) cs)=clOf env.cells r ((n,c)::cs):=by
     show clOf env.cells r (if (k == NameKind.free)=true then (n,(env.cells.lookup n).getD 0)::cs else cs)=_;rw [hk,if_pos rfl,show env.cells.lookup n=some c from hc];rfl
    rw [e1,<- ih _ hr];simp only [ec,hk,if_true,pure_bind]
   | false=>
    have e1:(clOf env.cells ((n,k)::r) cs)=clOf env.cells r cs:=by
     show clOf env.cells r (if (k == NameKind.free)=true then (n,(env.cells.lookup n).getD 0)::cs else cs)=_;rw [hk,if_neg Bool.false_ne_true]
    rw [e1,<- ih _ hr];simp only [hk,Bool.false_eq_true,if_false,pure_bind]
 have q:=key scope.names [] h
 first
  | exact q
  | (simp only [bind_pure]; exact q)
  | (rw [q]; rfl)
theorem oX {cells:List (Str × Addr)} {x:Str} {c:Addr}:∀ (names:List (Str × NameKind)) (cs:List (Str × Addr)),(∀ y ∈ names,y.2=.free->∃ c,cells.lookup y.1=some c)->(∀ x c,cs.lookup x=some c->cells.lookup x=some c) ->
  (clOf cells names cs).lookup x=some c->cells.lookup x=some c
 | [],cs,_,h,e=>h x c e
 | (n,k)::r,cs,hn,h,e=>by
  unfold clOf at e;refine oX r _ (fun y hm=>hn y (List.mem_cons_of_mem _ hm)) (fun x c q=>?_) e;split at q
  ·rename_i hk;have hk':k=.free:=by simpa using hk
   obtain ⟨c',hc⟩:=hn (n,k) List.mem_cons_self hk';rw [List.lookup_cons] at q;cases hx:(x == n) with
   | true=>
    rw [hx] at q;have hx':x=n:=by simpa using hx
    subst hx';rw [hc] at q;simp at q;rw [hc,q]
   | false=>
    rw [hx] at q;exact h x c q
  ·exact h x c q
theorem pG {cells:List (Str × Addr)} {x:Str}:∀ (names:List (Str × NameKind)) (cs:List (Str × Addr)),(cs.lookup x).isSome=true->((clOf cells names cs).lookup x).isSome=true
 | [],cs,h=>h
 | (n,k)::r,cs,h=>by
  unfold clOf;refine pG r _ ?_;split
  ·rw [List.lookup_cons];split
   ·rfl
   ·exact h
  ·exact h
theorem oB {cells:List (Str × Addr)} {x:Str}:∀ (names:List (Str × NameKind)) (cs:List (Str × Addr)),(x,NameKind.free) ∈ names->((clOf cells names cs).lookup x).isSome=true
 | [],_,h=>by cases h
 | (n,k)::r,cs,h=>by
  unfold clOf;rcases List.mem_cons.mp h with e | e
  ·cases e;refine pG r _ ?_;simp
  ·exact oB r _ e
theorem gZ (env:Env) (x:Str):∀ names:List (Str × NameKind),
  (names.map fun (n,k)=>if (k == NameKind.free && env.scope.kind == .function && env.kindOf n == some .cell) then (n,NameKind.cell) else (n,k)).lookup x =
   (names.lookup x).map fun k=>if (k == NameKind.free && env.scope.kind == .function && env.kindOf x == some .cell)=true then .cell else k
 | []=>rfl
 | (n,k)::r=>by
  have ih:=gZ env x r;simp only [List.map_cons];cases hx:(x == n) with
  | true=>
   have hx':x=n:=by simpa using hx
   subst hx';by_cases hc:(k == NameKind.free && env.scope.kind == .function && env.kindOf x == some .cell)=true
   ·rw [if_pos hc,List.lookup_cons,List.lookup_cons,hx];show some NameKind.cell=some (if (k == NameKind.free && env.scope.kind == .function && env.kindOf x == some .cell)=true then NameKind.cell else k);rw [if_pos hc]
   ·rw [if_neg hc,List.lookup_cons,List.lookup_cons,hx];show some k=some (if (k == NameKind.free && env.scope.kind == .function && env.kindOf x == some .cell)=true then NameKind.cell else k);rw [if_neg hc]
  | false=>
   by_cases hc:(k == NameKind.free && env.scope.kind == .function && env.kindOf n == some .cell)=true
   ·rw [if_pos hc];simp only [List.lookup_cons,hx];exact ih
   ·rw [if_neg hc];simp only [List.lookup_cons,hx];exact ih
structure CScope (scope:Scope):Prop where
 kind:scope.kind=.function
 nocell:∀ y ∈ scope.names,y.2≠.cell
 loc:∀ y ∈ scope.names,y.2=.local->scope.names.lookup y.1=some .local
noncomputable def cxC (X:Cx) (scope:Scope) (cl:List (Str × Addr)) (N':List Str) (C:Addr) (s:Shared) (H:Hp) (ex:List Addr):Cx:=
 { X with N:=N',s₀:=s,H₀:=H,env:=compEnvC scope cl C X.env,outer:=X.stack,ex:=ex,fn:=fun _=>false,pn:=[],xe:=fun _ _=>False }
noncomputable def compσ (nt:Nat) (fi:List Nat) (σ:St):St:=List.replicate nt none++fi.map fun j=>(σ[j]?).getD none
structure CNames (X:Cx) (scope:Scope) (nt:Nat) (fi:List Nat) (N':List Str):Prop where
 len:N'.length=nt+fi.length
 cap:∀ k j:Nat,fi[k]? = some j->∃ x,N'[nt+k]? = some x/\X.N[j]? = some x/\scope.names.lookup x=some .free
 fre:∀ y ∈ scope.names,y.2=.free->X.env.scope.names.lookup y.1=some .cell\/X.env.scope.names.lookup y.1=some .free
def GK (nt:Nat) (g:TG):Prop:=∀ x σ H Q,g x σ H Q->g x σ H fun σ' H'=>Q σ' H'/\σ'.length=σ.length/\σ'.drop nt=σ.drop nt
def PIf (X:Cx) (ifs:List Expr) (t:TT):Prop:=
 ∀ (pins:List (Addr × Obj)) (s:Shared) (σ:St) (H:Hp) (Q:Bool->Hp->Prop),Inv X pins σ H s->t σ H Q ->
  wpAny (model X.prog X.w) X.A (forIn ifs true fun c r=>if r=true then do let ok <- isTrue c X.env (eval c X.env); pure (ForInStep.yield ok) else pure (ForInStep.yield r)) (TP X pins σ Q) X.xe s
noncomputable def tYes:TT:=fun _ H Q=>Q true H
theorem bC {X:Cx}:PIf X [] tYes:=fun pins s σ H Q I h=>wpAny_tests_nil ⟨H,I,h⟩
theorem oq {X:Cx} {c:Expr} {t:TT} (h:PT X c t):PIf X [c] t:=fun pins s σ H Q I q=>wpAny_tests_one (h pins s σ H Q I q)
theorem cE {nt i:Nat} (hi:i < nt):GK nt (gName i):=fun x σ H Q h=>by
 refine ⟨h,?_,?_⟩
 ·rw [List.length_set]
 ·rw [List.drop_set_of_lt hi]
theorem jm {K:Frag} {nt i j n:Nat} (hi:i < nt) (hj:j < nt):GK nt (gTup K n (gCons (gName i) (gCons (gName j) gNil))):=fun x σ H Q h=>by
 obtain ⟨a,xs,e,hq,hl,v,r,e1,v',r',e2,e3,q⟩:=h;refine ⟨a,xs,e,hq,hl,v,r,e1,v',r',e2,e3,q,?_,?_⟩
 ·rw [List.length_set,List.length_set]
 ·rw [List.drop_set_of_lt hj,List.drop_set_of_lt hi]
section
variable {prog:Program} {w:World} {A:Around} {R:Result->Shared->Prop} {s:Shared}
theorem thnF {α:Type} {t:Sem α} {Q Q':α -> Shared->Prop} {M:Model} {E:Value->Shared->Prop} (h:wpAny M A t Q (fun _ _=>False) s) (hQ:∀ a s,Q a s->Q' a s):wpAny M A t Q' E s:=wpAny_mono h hQ fun _ _ f=>f.elim
theorem lV {elt target iter:Expr} {ifs:List Expr} {scope:Scope} {pos:Pos} {it acc:Value} {env:Env} (I:Nat->Shared->Prop)
  (turn:∀ n s,I n s->wpAny (model prog w) A (pyNext it) (fun r s₁=>match r with
   | none=>R (.ok .next) s₁
   | some v=>wpAny (model prog w) A (letOwnedTupleGo target it v) (fun _ s₂=>wpAny (model prog w) A (assign target env v) (fun _ s₃=>
     wpAny (model prog w) A (forIn ifs true fun c r=>if r=true then do let ok <- isTrue c env (eval c env); pure (ForInStep.yield ok) else pure (ForInStep.yield r)) (fun ok s₄=>
      if ok=true then wpAny (model prog w) A (eval elt env) (fun x s₅=>wpAny (model prog w) A (call (.builtin "list.append") [acc,x]) (fun _ s₆=>∃ m,m < n/\I m s₆) (fun _ _=>False) s₅) (fun _ _=>False) s₄
      else ∃ m,m < n/\I m s₄) (fun _ _=>False) s₃) (fun _ _=>False) s₂) (fun _ _=>False) s₁) (fun _ _=>False) s)
  (n:Nat) (h:I n s):codeAny (model prog w) A (.compLoop (.ListComp elt [⟨target,iter,ifs,0⟩] scope pos) 0 it acc env) R s:=by
 refine codeAny_loop rfl I (fun n s hI=>?_) n h;show wpAny _ A ((compTurn (.ListComp elt [⟨target,iter,ifs,0⟩] scope pos) 0 it acc env).onRaise (fun x=>do noteFrame x env; theTreesLotGoes x)) _ _ s;refine wpAny_noted ?_;rw [compTurn_list];refine wpAny_bind (wpAny_standAt (wpAny_bind (thnF (turn n s hI) fun r s₁ h₁=>?_)));cases r with
 | none=>exact wpAny_pure h₁
 | some v=>
  refine wpAny_bind (thnF h₁ fun _ s₂ h₂=>wpAny_bind (thnF h₂ fun _ s₃ h₃=>wpAny_bind (thnF h₃ fun ok s₄ h₄=>?_)));cases ok with
  | false=>exact wpAny_pure ⟨rfl,h₄⟩
  | true=>exact wpAny_bind (wpAny_bind (thnF h₄ fun x s₅ h₅=>wpAny_bind (thnF h₅ fun _ s₆ h₆=>wpAny_pure (wpAny_pure ⟨rfl,h₆⟩))))
end
noncomputable def tComp (nt:Nat) (fi:List Nat) (wi:TI) (g:TG) (tc:TT) (te:TE):TE:=fun σ H Q=>wi σ H fun J H1=>∀ D,H1 D=none ->
 ∃ W:Nat->Nat->List V->Hp->Prop,(∃ m,W 0 m [] (upd H1 D (.lst [])))/\∀ i m acc H2,W i m acc H2 ->
  (J.stop i H2/\Q (.ref D) H2)\/(J.go i H2/\∀ x H3,J.yld i H2 x H3->g x (compσ nt fi σ) H3 fun σ4 H4=>tc σ4 H4 fun b H5=>if b=true then
   te σ4 H5 fun v H6=>H6 D=some (.lst acc)/\acc.length < sizeLine/\∃ m',m' < m/\W (i+1) m' (acc++[v]) (upd H6 D (.lst (acc++[v]))) else ∃ m',m' < m/\W (i+1) m' acc H5)
theorem compσ_weak {nt:Nat} {fi:List Nat} {σ σ':St} (hl:σ'.length=(compσ nt fi σ).length) (hd:σ'.drop nt=(compσ nt fi σ).drop nt):∀ (i:Nat) v,(compσ nt fi σ)[i]? = some (some v)->σ'[i]? = some (some v):=fun i v e=>by
 by_cases hi:i < nt
 ·unfold compσ at e;rw [List.getElem?_append_left (by simpa using hi),List.getElem?_replicate] at e;split at e <;> cases e
 ·have ei:i=nt+(i - nt):=by omega
  have q:=congrArg (fun l=>l[i - nt]?) hd;simp only [List.getElem?_drop] at q;rw [<- ei] at q;rw [q];exact e
section
variable {X:Cx}
theorem sd {pins:List (Addr × Obj)} {σ:St} {H:Hp} {s:Shared} {scope:Scope} {nt:Nat} {fi:List Nat} {N':List Str} {fp:List Addr} {h₁:Heap} {m:Str->Option Value} {tk:Nat}
  (I:Inv X pins σ H s) (S:CScope scope) (cn:CNames X scope nt fi N') (hf:∀ b ∈ fp,FpOk X pins H b) (ho:∀ b ∈ fp,∃ o,s.heap.get? b=some o)
  (hns:h₁.Ns s.heap.objs.size m) (kp:∀ b o,s.heap.get? b=some o->h₁.get? b=some o) (htk:0 < tk):
  Inv (cxC X scope (clOf X.env.cells scope.names []) N' s.heap.objs.size s H fp) (X.pn++pins) (compσ nt fi σ) H { s with heap:=h₁,toks:=tk }:=by
 have hfr:∀ y ∈ scope.names,y.2=.free->∃ c,X.env.cells.lookup y.1=some c:=fun y hy e=>I.ok.has y.1 (cn.fre y hy e)
 have snd:∀ x c,(clOf X.env.cells scope.names []).lookup x=some c->X.env.cells.lookup x=some c:=fun x c e=>oX scope.names [] hfr (fun _ _ q=>by simp at q) e
 have offstk:∀ b,b≠X.env.locals->b ∉ X.fs->b ∉ frs X.stack:=fun b h1 h2 h3=>by
  rcases List.mem_cons.mp (I.stkSub b h3) with e | e
  ·exact h1 e
  ·exact h2 e
 have lt:∀ {b o},s.heap.get? b=some o->b≠s.heap.objs.size:=fun e=>Nat.ne_of_lt (Heap.lt_size e)
 have kinds:∀ x k,(relabel scope X.env).names.lookup x=some k->(k=.cell\/k=.free)->(x,NameKind.free) ∈ scope.names:=fun x k e hk=>by
  have e':(scope.names.map fun (n,k)=>if (k == NameKind.free && X.env.scope.kind == .function && X.env.kindOf n == some .cell) then (n,NameKind.cell) else (n,k)).lookup x=some k:=e;rw [gZ] at e';cases q:scope.names.lookup x with
  | none=>rw [q] at e'; cases e'
  | some k'=>
   have mem:(x,k') ∈ scope.names:=PySem.mem_of_lookup q;rw [q] at e';simp only [Option.map_some,Option.some.injEq] at e';split at e'
   ·rename_i hc;simp only [Bool.and_eq_true,beq_iff_eq] at hc;rw [hc.1.1] at mem;exact mem
   ·subst e';rcases hk with z | z
    ·subst z;exact absurd rfl (S.nocell _ mem)
    ·subst z;exact mem
 refine ⟨⟨I.ok.mod,S.kind,I.ok.glob,I.ok.blt,Nat.le_refl _,fun x y c e1 e2=>I.ok.inj x y c (snd x c e1) (snd y c e2),fun x hx=>?_,fun x c e=>(nomatch e),I.ok.hd,I.ok.frames,.inl rfl,fun b hb=>⟨?_,fun x c e=>(hf b hb).2.2.2.2.1 x c (snd x c e)⟩,I.bs,?_,fun b o e hb=>?_,fun b hb=>offstk b (hf b hb).2.1 (hf b hb).2.2.1,I.stack,I.stkFree⟩,
  rfl,I.bare,Un.kept kp,⟨m,hns,fun i x v e1 e2 e3=>?_⟩,fun x c e=>?_,I.hok.fresh (Nat.le_refl _),fun x c e=>I.freeC x c (snd x c e),fun p hp=>?_,I.hok.kept kp,?_,htk⟩
 ·have hx':(relabel scope X.env).names.lookup x=some .cell\/(relabel scope X.env).names.lookup x=some .free:=hx;have mem:(x,NameKind.free) ∈ scope.names:=by
   rcases hx' with q | q
   ·exact kinds x _ q (.inl rfl)
   ·exact kinds x _ q (.inr rfl)
  exact Option.isSome_iff_exists.mp (oB scope.names [] mem)
 ·obtain ⟨o,e⟩:=ho b hb;exact lt e
 ·exact Nat.le_trans I.ok.bsz I.sz
 ·rcases (hf b hb).2.2.2.1 with q | q
  ·exact I.ok.noex b o e q
  ·exact absurd (Nat.lt_of_lt_of_le (Heap.lt_size e) (Nat.le_trans I.ok.bsz q)) (Nat.lt_irrefl _)
 ·have hi:¬ i < nt:=fun hi=>by
   unfold compσ at e2;rw [List.getElem?_append_left (by simpa using hi),List.getElem?_replicate] at e2;split at e2 <;> cases e2
  have ei:i=nt+(i - nt):=by omega
  have e2':(fi.map fun j=>(σ[j]?).getD none)[i - nt]? = some (some v):=by
   unfold compσ at e2;rw [List.getElem?_append_right (by simpa using Nat.le_of_not_lt hi)] at e2;simpa using e2
  rw [List.getElem?_map] at e2';cases ej:fi[i - nt]? with
  | none=>rw [ej] at e2'; cases e2'
  | some j=>
   rw [ej] at e2';obtain ⟨x',n1,n2,n3⟩:=cn.cap (i - nt) j ej;rw [<- ei] at n1;have e1':N'[i]? = some x:=e1;rw [n1] at e1';cases e1';have ev:σ[j]? = some (some v):=by
    have e2':some ((σ[j]?).getD none)=some (some v):=e2';cases q:σ[j]? with
    | none=>rw [q] at e2'; simp at e2'
    | some w=>rw [q] at e2'; simp at e2'; rw [e2']
   have mem:(x,NameKind.free) ∈ scope.names:=PySem.mem_of_lookup n3;have vis:=cn.fre _ mem rfl;obtain ⟨m0,hn0,hl0⟩:=I.loc;obtain ⟨u,ru,lk⟩:=hl0 j x v n2 ev (.inr vis);refine ⟨u,ru,?_⟩;rcases lk with ⟨q,_⟩ | ⟨q,c,ec,o,hoc,hod⟩
   ·have q':X.env.scope.names.lookup x=some .local:=q;rcases vis with z | z
    ·have z':X.env.scope.names.lookup x=some .cell:=z;rw [q'] at z'; cases z'
    ·have z':X.env.scope.names.lookup x=some .free:=z;rw [q'] at z'; cases z'
   ·obtain ⟨c',ec'⟩:=Option.isSome_iff_exists.mp (oB (cells:=X.env.cells) scope.names [] mem);have ecc:=snd x c' ec';rw [ec] at ecc;cases ecc;refine .inr ⟨?_,c,ec',o,kp c o hoc,hod⟩;show (relabel scope X.env).names.lookup x=some .cell\/(relabel scope X.env).names.lookup x=some .free;have e4:(relabel scope X.env).names.lookup x=(scope.names.lookup x).map fun k=>if (k == NameKind.free && X.env.scope.kind == .function && X.env.kindOf x == some .cell)=true then .cell else k:=gZ X.env x scope.names
    rw [e4,n3];simp only [Option.map_some];split
    ·exact .inl rfl
    ·exact .inr rfl
 ·obtain ⟨v,o,hoc,hod⟩:=I.cell x c (snd x c e);exact ⟨v,o,kp c o hoc,hod⟩
 ·have hp':p ∈ X.pn++pins:=by
   have hp'':p ∈ ([]:List (Addr × Obj))++(X.pn++pins):=hp;simpa using hp''
  obtain ⟨e,n,ne,nf,d⟩:=I.pin p hp';exact ⟨kp _ _ e,n,lt e,offstk _ ne nf,d⟩
 ·show (compσ nt fi σ).length=N'.length;unfold compσ;rw [cn.len,List.length_append,List.length_replicate,List.length_map]
theorem sZ {pins:List (Addr × Obj)} {σ σ':St} {H H':Hp} {s s':Shared} {scope:Scope} {cl:List (Str × Addr)} {N':List Str} {fp:List Addr} {C:Addr} {P:List (Addr × Obj)} {h'':Heap}
  (I:Inv X pins σ H s) (hf:∀ b ∈ fp,FpOk X pins H b) (hC:s.heap.objs.size<=C) (J:Inv (cxC X scope cl N' C s H fp) P σ' H' s') (sb:Heap.SameBut C s'.heap h''):Inv X pins σ H' { s' with heap:=h'' }:=by
 have ne:∀ {b o},s.heap.get? b=some o->b≠C:=fun e=>Nat.ne_of_lt (Nat.lt_of_lt_of_le (Heap.lt_size e) hC)
 have u:Un (frs X.stack) fp H H' s.heap s'.heap:=J.base;refine I.call' (s':={ s' with heap:=h'' }) (ch:=fp) J.os ⟨fun b o e n hb hx=>?_,fun b o e n hb hx=>?_,u.free,fun b o e hx=>?_,u.tups,u.frzs,u.tbls⟩ (fun b o e=>?_) J.bare (fun b hb=>?_) J.tk
 ·exact (sb.2 b (ne e)).trans (u.keep b o e n hb hx)
 ·obtain ⟨sl,q⟩:=u.slot b o e n hb hx;exact ⟨sl,(sb.2 b (ne e)).trans q⟩
 ·obtain ⟨o',q⟩:=u.there b o e hx;exact ⟨o',(sb.2 b (ne e)).trans q⟩
 ·have fr:H' C=none:=J.free;refine (J.hok b o e).stay (fun c v hc q=>(sb.2 c ?_).trans q) (fun _ q=>q) fun _ _ q=>q
  rintro rfl;rcases hc with z | z
  ·subst z;rw [fr] at e;cases e
  ·rw [fr] at z;cases z
 ·obtain ⟨f0,f1,f2,f3,f4,f5⟩:=hf b hb;exact ⟨f3,f1,f4,f5⟩
theorem zc {elt tg iter:Expr} {ifs:List Expr} {scope:Scope} {pos:Pos} {wi:TI} {g:TG} {tc:TT} {te:TE} {nt:Nat} {fi:List Nat} {N':List Str} (hcalm:X.calm=true)
  (S:CScope scope) (cn:CNames X scope nt fi N') (gk:GK nt g) (hi:PI X tg iter wi)
  (hg:∀ cl C s H ex,PG (cxC X scope cl N' C s H ex) tg g) (hc:∀ cl C s H ex,PIf (cxC X scope cl N' C s H ex) ifs tc) (he:∀ cl C s H ex,PE (cxC X scope cl N' C s H ex) elt te)
  (hs:∀ x,foldedSetIterable iter X.env x=pure x:=by intro _; rfl):PE X (.ListComp elt [⟨tg,iter,ifs,0⟩] scope pos) (tComp nt fi wi g tc te):=by
 intro pins s σ H Q I h;have hfr:∀ y ∈ scope.names,y.2=.free->∃ c,X.env.cells.lookup y.1=some c:=fun y hy e=>I.ok.has y.1 (cn.fre y hy e)
 rw [eval_ListComp];refine wpAny_comprehension_free (use:=none) rfl hs (jW hfr) S.kind S.loc (thn (hi pins s σ H _ I h) fun v s1 h1=>thn h1 fun itv s2 h2=>?_);obtain ⟨it,fp,tn,J,H2,e,I2,T,st2,f2,hW⟩:=h2;subst e;have fD:H2 s2.heap.objs.size=none:=I2.hok.fresh (Nat.le_refl _);obtain ⟨W,⟨m0,w0⟩,turn⟩:=hW s2.heap.objs.size fD;refine wpAny_newObj_type (wpAny_newFunctionEnv S.nocell (by intro y hy; simp at hy) (fun h₁ hns₁ hsb₁=>?_) S.kind);have I3:Inv X pins σ (upd H2 s2.heap.objs.size (.lst [])) { s2 with heap:=s2.heap.push { cls:=.type "list",dict:=none,data:=.seq ([]:List Value).toArray } }:=I2.lnew (its:=[]) (t':=s2.toks) .nil (Nat.zero_le _);generalize hs3:({ s2 with heap:=s2.heap.push { cls:=.type "list",dict:=none,data:=.seq ([]:List Value).toArray } }:Shared)=s3 at I3 hns₁ hsb₁ ⊢;have hsz:s3.heap.objs.size=s2.heap.objs.size+1:=by rw [<- hs3]; exact Heap.size_push ..
 have ob2:∀ b ∈ fp,∃ o,s3.heap.get? b=some o:=fun b hb=>by
  obtain ⟨o,e,_⟩:=T.obj _ _ st2 b hb;rw [<- hs3];exact ⟨o,Heap.get?_push_of_some _ e⟩
 have f3:∀ b ∈ fp,FpOk X pins (upd H2 s2.heap.objs.size (.lst [])) b:=fun b hb=>by
  obtain ⟨o,e,_⟩:=T.obj _ _ st2 b hb;refine ⟨?_,(f2 b hb).2⟩;rw [aC (Nat.ne_of_lt (Heap.lt_size e))];exact (f2 b hb).1
 have kp:∀ b o,s3.heap.get? b=some o->h₁.get? b=some o:=fun b o e=>hsb₁.extBut b o (Nat.ne_of_lt (Heap.lt_size e)) (Heap.get?_push_of_some _ e)
 have st3:tn 0 h₁:=T.keep _ _ _ st2 fun b _ o e=>kp b o (by rw [<- hs3]; exact Heap.get?_push_of_some _ e)
 have J4:Inv (cxC X scope (clOf X.env.cells scope.names []) N' s3.heap.objs.size s3 (upd H2 s2.heap.objs.size (.lst [])) fp) (X.pn++pins) (compσ nt fi σ) (upd H2 s2.heap.objs.size (.lst [])) { s3 with heap:=h₁,toks:=s3.toks+([]:List (Str × Value)).length }:=
  sd I3 S cn f3 ob2 hns₁ kp I3.tk
 generalize hcl:clOf X.env.cells scope.names []=cl at J4 ⊢;generalize hH3:upd H2 s2.heap.objs.size (.lst [])=H3 at J4 I3 f3 w0;have stat:∀ {H':Hp},(∀ b ∈ fp,H' b=none)->∀ b ∈ fp,FpOk (cxC X scope cl N' s3.heap.objs.size s3 H3 fp) (X.pn++pins) H' b:=fun {H'} hn b hb=>by
  obtain ⟨g0,g1,g2,g3,g4,g5⟩:=f3 b hb;have ok:=J4.ok;refine ⟨hn b hb,(ok.exf b hb).1,ok.exfs b hb,.inl hb,(ok.exf b hb).2,fun p hp=>g5 p ?_⟩;have hp':p ∈ ([]:List (Addr × Obj))++(X.pn++pins):=hp;simpa using hp'
 have loop:∀ s₃:Shared,s₃ = { s3 with heap:=h₁,toks:=s3.toks+([]:List (Str × Value)).length } ->
   codeAny (model X.prog X.w) X.A (.compLoop (.ListComp elt [⟨tg,iter,ifs,0⟩] scope pos) 0 (.ref it) (.ref s2.heap.objs.size) (compEnvC scope cl s3.heap.objs.size X.env))
    (compPost (model X.prog X.w) X.A X.xe none (EP X pins σ Q) (.ref s2.heap.objs.size) s3.heap.objs.size) s₃:=by
  rintro s₃ rfl;refine lV (fun n s'=>∃ i acc H',Inv (cxC X scope cl N' s3.heap.objs.size s3 H3 fp) (X.pn++pins) (compσ nt fi σ) H' s'/\tn i s'.heap/\(∀ b ∈ fp,H' b=none)/\W i n acc H') ?_ m0
   ⟨0,[],H3,J4,st3,fun b hb=>(f3 b hb).1,w0⟩
  rintro n s5 ⟨i,acc,H5,I5,st5,fr5,w5⟩;rcases turn i n acc H5 w5 with ⟨stop,qn⟩ | ⟨go,step⟩
  ·refine thn (T.done (cxC X scope cl N' s3.heap.objs.size s3 H3 fp) rfl rfl rfl hcalm i (X.pn++pins) s5 (compσ nt fi σ) H5 (fun _ _=>False) I5 (stat fr5) st5 stop) fun r s6 ⟨hr,I6⟩=>?_
   subst hr;obtain ⟨m6,hn6,_⟩:=I6.loc;exact ⟨m6,hn6,fun h' sb=>⟨.ref s2.heap.objs.size,H5,sZ I3 f3 (Nat.le_refl _) I6 sb,rfl,qn⟩⟩
  ·refine thn (T.item (cxC X scope cl N' s3.heap.objs.size s3 H3 fp) rfl rfl rfl hcalm i (X.pn++pins) s5 (compσ nt fi σ) H5 (fun _ _=>False) I5 (stat fr5) st5 go) fun r s6 ⟨u,hr,h6⟩=>?_
   subst hr;refine thn h6 fun _ s7 ⟨x,H7,I7,r7,y7,st7,fr7⟩=>?_
   have I7':=I7.pinned (stat fr7) (T.obj _ _ st7);refine thn (hg _ _ _ _ _ _ s7 (compσ nt fi σ) H7 x u _ I7' r7 (gk _ _ _ _ (step x H7 y7))) fun _ s8 ⟨σ8,H8,I8,q8,l8,d8⟩=>?_
   refine thn (hc _ _ _ _ _ _ s8 σ8 H8 _ I8 q8) fun b s9 ⟨H9,I9,q9⟩=>?_
   have again:∀ {s':Shared} {H':Hp} {m':Nat} {acc':List V},Inv (cxC X scope cl N' s3.heap.objs.size s3 H3 fp) ((X.pn++pins)++pinsAt fp s7.heap) σ8 H' s'->m' < n->W (i+1) m' acc' H' ->
     ∃ m,m < n/\∃ i acc H',Inv (cxC X scope cl N' s3.heap.objs.size s3 H3 fp) (X.pn++pins) (compσ nt fi σ) H' s'/\tn i s'.heap/\(∀ b ∈ fp,H' b=none)/\W i m acc H':=fun {s' H' m' acc'} I' hm w'=>by
    refine ⟨m',hm,i+1,acc',H',I'.unpinned.weak l8.symm (compσ_weak l8 d8),T.keep _ _ _ st7 fun b hb o e=>(I'.pin (b,o) (List.mem_append_right _ (List.mem_append_right _ (fQ hb e)))).1,fun b hb=>?_,w'⟩;obtain ⟨o,e,d⟩:=T.obj _ _ st7 b hb;exact (I'.pin (b,o) (List.mem_append_right _ (List.mem_append_right _ (fQ hb e)))).2.1
   cases b with
   | false=>
    rw [if_neg Bool.false_ne_true] at q9 ⊢;obtain ⟨m',hm,w'⟩:=q9;exact again I9 hm w'
   | true=>
    rw [if_pos rfl] at q9 ⊢;refine thn (he _ _ _ _ _ _ s9 σ8 H9 _ I9 q9) fun uv s10 ⟨v10,H10,I10,r10,hD,hlt,m',hm,w'⟩=>?_
    refine thn (mW (X:=cxC X scope cl N' s3.heap.objs.size s3 H3 fp) _ s10 σ8 H10 (.ref s2.heap.objs.size) [v10] (.ref s2.heap.objs.size) [uv] (fun _ H'=>H'=upd H10 s2.heap.objs.size (.lst (acc++[v10]))) I10 rfl (.cons r10 .nil) ⟨_,acc,v10,rfl,rfl,hD,hlt,rfl⟩) fun _ s11 ⟨_,H11,I11,_,e11⟩=>?_
    subst e11;exact again I11 hm w'
 exact codeAny_compStart_list (loop _ rfl) (T.self _ 0 _ _ _ st3 (loop _ rfl))
end
noncomputable abbrev st (l:List Nat):Str:=⟨l.toArray⟩
theorem iH (l:List Nat):(st l).length=l.length:=by simp [Str.length]
theorem aM (l:List Nat):(st l).cps.toList=l:=rfl
theorem Bb (l m:List Nat):st l++st m=st (l++m):=by
 show Str.append (st l) (st m)=_;simp [Str.append]
theorem Bj {l m:List Nat}:st l=st m ↔ l=m:=by simp
theorem tT {ys:List Str}:∀ {us:List Value},Vals (ys.map V.str) us->StrsAre us ys:=by
 induction ys with
 | nil=>intro us r; cases r; exact .nil
 | cons y r ih=>
  intro us h;cases h with
  | cons r1 r2=>
   obtain ⟨t,rfl⟩:=r1;exact .cons y t (ih r2)
theorem pX (l:List Nat):Txt.join ⟨#[]⟩ (l.map fun k=>(⟨#[k]⟩:Str))=st l:=by
 have h:=join_plain_closes ⟨#[]⟩ (l.map fun k=>(⟨#[k]⟩:Str));rw [eq_of_beq h];exact join_ones l
section
variable {X:Cx}
noncomputable def rJoin (K:Frag):V->List V->Hp->VK->Prop:=fun x vs H Q=>∃ sep l ys,x=.str sep/\vs=[.ref l]/\SqL K H l (ys.map V.str)/\(ys.map (·.length)).sum+ys.length*sep.length<=16777216/\Q (.str (Txt.join sep ys)) H
theorem yK:MtR X "str.join" (rJoin X.K):=by
 intro pins s σ H x vs v us Q I rx rv h;obtain ⟨sep,l,ys,rfl,rfl,hq,hz,q⟩:=h;obtain ⟨t,rfl⟩:=rx;obtain ⟨u,rfl,ru⟩:=rv.one;cases ru;obtain ⟨its,r,pl,_⟩:=I.list hq;exact tokQ I.tk (join_list pl.isList (tT r) hz fun t' k (htk:0 < k)=>⟨.str _,H,I.tok _,⟨_,rfl⟩,q⟩)
theorem yf (l:List Nat):((l.map fun k=>(⟨#[k]⟩:Str)).map (·.length)).sum=l.length:=by
 induction l with
 | nil=>rfl
 | cons a r ih=>
  rw [List.map_cons,List.map_cons,List.sum_cons,ih,List.length_cons];show 1+r.length=r.length+1;omega
noncomputable def rJoin1 (K:Frag):V->List V->Hp->VK->Prop:=fun x vs H Q=>∃ l cs,x=.str (Str.ofString "")/\vs=[.ref l]/\SqL K H l (cs.map fun k=>V.str ⟨#[k]⟩)/\cs.length<=10000/\Q (.str (st cs)) H
theorem ma:Str.ofString "" = ⟨#[]⟩:=by decide +kernel
theorem xJ:MtR X "str.join" (rJoin1 X.K):=by
 intro pins s σ H x vs v us Q I rx rv h;obtain ⟨l,cs,rfl,rfl,hq,hz,q⟩:=h;refine yK pins s σ H _ _ v us Q I rx rv ⟨_,l,cs.map fun k=>⟨#[k]⟩,rfl,rfl,?_,?_,?_⟩
 ·rw [List.map_map];exact hq
 ·rw [yf,List.length_map,ma];show cs.length+cs.length*0<=16777216;omega
 ·rw [ma,pX];exact q
noncomputable def rSlS:V->Option Int->Option Int->Hp->VK->Prop:=fun x lo hi H Q=>∃ z,x=.str z/\z.length<=sizeLine/\Q (.str (Txt.slice z lo hi)) H
theorem wH:SlR X rSlS:=by
 intro pins s σ H x v vl vu lo hi sl Q I rx hs pl pu h;obtain ⟨z,rfl,hz,q⟩:=h;obtain ⟨t,rfl⟩:=rx;have fin:∀ t' k,0 < k->EP X pins σ Q (.str (Txt.slice z lo hi) t') { s with toks:=k }:=fun t' k htk=>⟨.str _,H,I.tok _,⟨_,rfl⟩,q⟩
 refine ⟨"str",_,F.slot_str_getitem.lookup,typeIs_str _ _ _,tokQ I.tk ?_⟩;obtain ⟨o,e1,e2,e3⟩:=id hs;cases pl with
 | none=>
  cases pu with
  | none=>exact wpAny_getItem_str_slice (l:=none) (u:=none) (st:=none) ⟨o,e1,e2,e3⟩ rfl (post_val_or_str ⟨Nat.le_trans (Txt.slice_le z _ _) hz,fin⟩)
  | int j tj=>exact wpAny_getItem_str_slice (l:=none) (u:=some (j,tj)) (st:=none) ⟨o,e1,e2,e3⟩ rfl (post_val_or_str ⟨Nat.le_trans (Txt.slice_le z _ _) hz,fin⟩)
 | int i ti=>
  cases pu with
  | none=>exact wpAny_getItem_str_slice (l:=some (i,ti)) (u:=none) (st:=none) ⟨o,e1,e2,e3⟩ rfl (post_val_or_str ⟨Nat.le_trans (Txt.slice_le z _ _) hz,fin⟩)
  | int j tj=>exact wpAny_getItem_str_slice (l:=some (i,ti)) (u:=some (j,tj)) (st:=none) ⟨o,e1,e2,e3⟩ rfl (post_val_or_str ⟨Nat.le_trans (Txt.slice_le z _ _) hz,fin⟩)
theorem oI (l:List Nat) (k:Nat) (h:k<=l.length):Txt.slice (st l) none (some (k:Int))=st (l.take k):=by
 have q:=slice_closes_to (x:=st l) (j:=(k:Int)) ⟨by omega,by simpa using h⟩;rw [eq_of_beq q];simp
theorem tJ (l:List Nat) (k:Nat) (h:k<=l.length):Txt.slice (st l) (some (k:Int)) none=st (l.drop k):=by
 have q:=slice_from_eq (x:=st l) (i:=(k:Int)) (b:=(l.length:Int)) (by omega) (by simpa [Str.length] using h) (by simp [Str.length]);rw [q];simp only [aM,Int.toNat_natCast];rw [List.take_of_length_le (by rw [List.length_drop]; omega)]
theorem py:OpR X (binaryOp .Mult) (fun x y H Q=>∃ z n,x=.str z/\y=.int n/\MulOk z n/\Q (.str (Txt.mul z n)) H):=by
 intro pins s σ H x y v u Q I rx ry h;obtain ⟨z,n,rfl,rfl,hok,q⟩:=h;obtain ⟨t,rfl⟩:=rx;obtain ⟨t',rfl⟩:=ry;exact tokQ I.tk (SB.mul hok fun t' k (htk:0 < k)=>⟨.str _,H,I.tok _,⟨_,rfl⟩,q⟩)
theorem mul1 (k n:Nat):Txt.mul ⟨#[k]⟩ (n:Int)=st (List.replicate n k):=by
 have q:=mul_one_list k (n:Int);rw [Int.toNat_natCast] at q;have e:∀ x:Str,x=⟨x.cps.toList.toArray⟩:=fun x=>by simp
 rw [e (Txt.mul ⟨#[k]⟩ (n:Int)),q]
theorem sO:CallR X (.builtin "isinstance") (fun xs H Q=>∃ x n t b,xs=[x,.ty n]/\TyOf X.K H x t/\PySem.W.kitOne X.K t (.type n)=some b/\Q (.bl b) H):=by
 intro pins s σ H xs us Q I r h;obtain ⟨x,n,t,b,rfl,ty,e,q⟩:=h;obtain ⟨u,w',rfl,r1,r2⟩:=vals2 r;cases r2;exact tokQ I.tk (vN I r1 ty e fun tk (htk:0 < tk)=>⟨.bl b,H,I.tok _,rfl,q⟩)
theorem vA (hu:X.A.units < cLine):OpR X (compareOp .Eq) (fun x y H Q=>∃ a b xs,x=.ref a/\y=.ref b/\SqL X.K H a xs/\SqL X.K H b []/\Q (.bl (decide (xs=[]))) H):=by
 intro pins s σ H x y v u Q I rx ry h;obtain ⟨a,b,xs,rfl,rfl,ha,hb,q⟩:=h;cases rx;cases ry;obtain ⟨its,r1,p1,_⟩:=I.list ha;obtain ⟨its2,r2,p2,_⟩:=I.list hb;cases r2;cases r1 with
 | nil=>exact SeqAt.eq_listAt (e:=fun _=>true) p1.isList p2.isList rfl hu (fun j h1 _=>absurd h1 (by simp)) ⟨.bl true,H,I,rfl,q⟩
 | cons rx rr=>exact SeqAt.eq_list_lengthsAt p1.isList p2.isList (by simp) hu ⟨.bl false,H,I,rfl,by simpa using q⟩
end
def Fn (K:Frag) (mg:Str->Option Value) (x:Str) (st:Stmt):Prop:=∃ f fd,Fun K x x st f fd/\mg x=some (.ref f)
def Callee (P:Program) (w:World) (K:Frag) (mg:Str->Option Value) (base:Heap) (k:Nat) (x:Str) (ps:List Str) (sp:Sp):Prop:=
 ∃ f fd,FnOk P w K mg base CX0 k f fd ps sp/\Binds K fd ps []/\keepIn K (.ref f)=true/\mg x=some (.ref f)
theorem Fn.cal {P:Program} {w:World} {K:Frag} {mg:Str->Option Value} {base:Heap} {x:Str} {st:Stmt} {N ps:List Str} {k:Nat} {sp:Sp} (F:Fn K mg x st) (S:FnScope N ps (defScope st)) (len:∀ vs H Q E,sp vs H Q E->vs.length=ps.length)
  (hb:∀ (kV doc pm:Value) (an:Option Addr) (cdv ct:Value) (us:List Value),us.length=ps.length->bindArgs (fnOf x x (defArgs st) (defBody st) (defScope st) .none kV doc pm an cdv ct) ⟨us,[]⟩=pure (ps.zip us))
  (hbody:∀ (f:Addr) (cdv:Value) (A:Around) (outer:List Env) (s:Shared) (H:Hp) (vs:List V) (Q:VK) (E:XK),Room k (A.deeper (envOfC x (defScope st) s.heap.objs.size f cdv))->sp vs H Q E ->
   ∃ t,PSs (cxOf CX0 P w K mg base N x (defScope st) f cdv A outer s H E).nox (defBody st) t/\t { nx:=fun _ H'=>Q .non H',rt:=Q } (start N vs) H):Callee P w K mg base (k+1) x ps sp:=by
 obtain ⟨f,fd,F,m⟩:=F;exact ⟨f,fd,F.ok S len (hbody f),F.binds hb,F.kp,m⟩
section
variable {X:Cx} {k:Nat} {x:Str} {ps:List Str} {sp:Sp} {p pos:Pos} {e:Expr} {es:List Expr} {t:TA}
theorem aq (C:Callee X.prog X.w X.K X.mg X.base k x ps sp) (hr:Room k X.A) (hg:Gl X x) (ha:PA X (e::es) t)
  (he:starEach (e::es) X.env=(false,eval e X.env)::starEach es X.env:=by rfl) (hpl:(backTo pos (starEach es X.env)).any (·.1)=false:=by rfl) (hd:(x == ("__debug__" : Str))=false:=by decide):PE X (.Call (.Name x p) (e::es) [] pos) (tCall sp [] E0 t):=by
 obtain ⟨f,fd,F,b,kp,m⟩:=C;exact uM F hr hg m kp b .nil pass0 ha (hdb:=hd) (he:=he) (hpl:=hpl)
end
noncomputable def tJoin (t u:TS):TS:=fun D σ H=>∃ J:St->Hp->Prop,t { D with nx:=J } σ H/\∀ σ' H',J σ' H'->u D σ' H'
theorem dX {X:Cx} {st:Stmt} {rest:List Stmt} {t u:TS} (h1:PS X st t) (h2:PSs X rest u):PSs X (st::rest) (tJoin t u):=by
 intro pins s σ H D I h;obtain ⟨J,hj,hr⟩:=h;refine wpAny_execs_cons (thn (h1 pins s σ H { D with nx:=J } I hj) fun f s1 q=>?_);cases f with
 | next=>
  obtain ⟨σ',H',I',q⟩:=q;exact h2 pins s1 σ' H' D I' (hr σ' H' q)
 | ret v=>exact q
 | brk=>exact q
 | cont=>exact q
theorem ai {H:Hp} {p:Addr} (h:H p=none) (o:HO):Same H (upd H p o):=fun b u q=>by rw [aC (bS q h)]; exact q
theorem aS {H H':Hp} {p:Addr} {o:HO} (s:Same H H') (h:H p=none):Same H (upd H' p o):=fun b u q=>by rw [aC (bS q h)]; exact s b u q
theorem sizeBig {n:Nat} (h:n<=100000):n < sizeLine:=Nat.lt_of_le_of_lt h (by decide)
def RowL (l:List Nat):Prop:=∀ c ∈ l,c=48\/c=49\/c=45
section
variable {X:Cx}
theorem PE.imp {e:Expr} {t t':TE} (h:PE X e t) (k:∀ σ H Q,t' σ H Q->t σ H Q):PE X e t':=fun pins s σ H Q I q=>h pins s σ H Q I (k σ H Q q)
theorem PT.imp {e:Expr} {t t':TT} (h:PT X e t) (k:∀ σ H Q,t' σ H Q->t σ H Q):PT X e t':=fun pins s σ H Q I q=>h pins s σ H Q I (k σ H Q q)
theorem PI.imp {tg e:Expr} {t t':TI} (h:PI X tg e t) (k:∀ σ H Q,t' σ H Q->t σ H Q):PI X tg e t':=fun pins s σ H Q I q=>h pins s σ H Q I (k σ H Q q)
theorem OpR.imp {f:Value->Value->Sem Value} {r r':R2} (h:OpR X f r) (k:∀ x y H Q,r' x y H Q->r x y H Q):OpR X f r':=fun pins s σ H x y v u Q I rx ry q=>h pins s σ H x y v u Q I rx ry (k x y H Q q)
theorem IxR.imp {r r':R2} (h:IxR X r) (k:∀ x y H Q,r' x y H Q->r x y H Q):IxR X r':=fun a b pins s σ H x y v u Q I rx ry q=>h a b pins s σ H x y v u Q I rx ry (k x y H Q q)
theorem SlR.imp {r r':V->Option Int->Option Int->Hp->VK->Prop} (h:SlR X r) (k:∀ x a b H Q,r' x a b H Q->r x a b H Q):SlR X r':=fun pins s σ H x v vl vu lo hi sl Q I rx hs pl pu q=>h pins s σ H x v vl vu lo hi sl Q I rx hs pl pu (k x lo hi H Q q)
noncomputable def cVar (i:Nat):TE:=fun σ H Q=>match σ[i]? with | some (some v)=>Q v H | _=>False
theorem qv (i:Nat) {x:Str} {pos:Pos} (hN:X.N[i]? = some x:=by rfl) (hv:Vis X.env.scope x:=by first | exact Or.inl rfl | exact Or.inr (Or.inl rfl) | exact Or.inr (Or.inr rfl)) (hd:(x == ("__debug__" : Str))=false:=by decide)
  (hcd:(x == ("__classdict__" : Str))=false:=by decide):PE X (.Name x pos) (cVar i):=(xu hN hv hd hcd).imp fun σ H Q q=>by
 unfold cVar at q;split at q
 ·exact ⟨_,by assumption,q⟩
 ·exact q.elim
theorem qs (l:List Nat) {x:Str} {j pos} (h:x=st l:=by decide +kernel):PE X (.Constant (.str x) j pos) (tC (.str (st l))):=by
 rw [<- h];exact xB
theorem cC (a:Str):st a.cps.toList=a:=by simp
noncomputable def kAdd:R2:=fun x y H Q=>match x,y with
 | .int i,.int j=>Q (.int (i+j)) H
 | .str a,.str b=>a.cps.toList.length+b.cps.toList.length<=100000/\Q (.str (st (a.cps.toList++b.cps.toList))) H
 | .ref l,.ref b=>∃ xs zs,H l=some (.lst xs)/\H b=some (.lst zs)/\xs.length+zs.length<=sizeLine/\∀ p,H p=none->Q (.ref p) (upd H p (.lst (xs++zs)))
 | _,_=>False
theorem ak:OpR X (binaryOp .Add) kAdd:=by
 intro pins s σ H x y v u Q I rx ry q;unfold kAdd at q;split at q
 ·exact A2 pins s σ H _ _ v u Q I rx ry ⟨_,_,rfl,rfl,q⟩
 ·obtain ⟨h,q⟩:=q;refine tW pins s σ H _ _ v u Q I rx ry ⟨_,_,rfl,rfl,?_,?_⟩
  ·have:(100000:Nat)<=sizeLine:=by decide
   simp only [Array.length_toList] at h;simp only [Str.length];omega
  ·rename_i a b;have e:a++b=st (a.cps.toList++b.cps.toList):=by
    rw [<- Bb,cC,cC]
   rw [e];exact q
 ·obtain ⟨xs,zs,h1,h2,h3,q⟩:=q;exact A0 pins s σ H _ _ v u Q I rx ry ⟨_,_,_,_,rfl,rfl,h1,h2,h3,q⟩
 ·exact q.elim
noncomputable def kI (C:Int->Int->Prop) (g:Int->Int->V):R2:=fun x y H Q=>match x,y with
 | .int i,.int j=>C i j/\Q (g i j) H
 | _,_=>False
noncomputable def kI0 (g:Int->Int->V):R2:=fun x y H Q=>match x,y with
 | .int i,.int j=>Q (g i j) H
 | _,_=>False
theorem um {C:Int->Int->Prop} {g:Int->Int->V}:∀ x y H Q,kI C g x y H Q->rI C g x y H Q:=fun x y H Q q=>by
 unfold kI at q;split at q
 ·exact ⟨_,_,rfl,rfl,q.1,q.2⟩
 ·exact q.elim
theorem om {g:Int->Int->V}:∀ x y H Q,kI0 g x y H Q->rI0 g x y H Q:=fun x y H Q q=>by
 unfold kI0 at q;split at q
 ·exact ⟨_,_,rfl,rfl,q⟩
 ·exact q.elim
noncomputable abbrev kSub:R2:=kI0 fun i j=>.int (i - j)
noncomputable abbrev kMod:R2:=kI (fun _ j=>0 < j) fun i j=>.int (i % j)
noncomputable abbrev kFdiv:R2:=kI CDiv fun i j=>.int (i / j)
noncomputable abbrev kPow:R2:=kI CPow fun i j=>.int (i ^ j.toNat)
theorem mi:OpR X (binaryOp .Sub) kSub:=As.imp om
theorem fA:OpR X (binaryOp .Mod) kMod:=Ay.imp um
theorem jg:OpR X (binaryOp .FloorDiv) kFdiv:=zM.imp um
theorem zC:OpR X (binaryOp .Pow) kPow:=Bg.imp um
noncomputable def kMul:R2:=fun x y H Q=>match x,y with
 | .int i,.int j=>CMul i j/\Q (.int (i*j)) H
 | .str a,.int n=>∃ c,a.cps.toList=[c]/\0<=n/\n<=10000/\Q (.str (st (List.replicate n.toNat c))) H
 | .ref l,.int k=>∃ xs,H l=some (.lst xs)/\0<=k/\k<=10000/\xs.length=1/\∀ p,H p=none->Q (.ref p) (upd H p (.lst (List.replicate k.toNat xs).flatten))
 | _,_=>False
theorem vX (k n:Nat) (hn:n<=10000):MulOk ⟨#[k]⟩ (n:Int):=by
 have hl:(⟨#[k]⟩:Str).length=1:=rfl;refine ⟨?_,fun _ _=>?_,fun _ _=>?_⟩
 ·rw [decide_eq_false (by omega),decide_eq_false (by omega)];rfl
 ·rw [hl];intro z;have:(2 ^ 63 - 1) / (n:Int) < 1:=by omega
  have h2:(n:Int)<=10000:=by omega
  have h1:¬ (n:Int) < 1:=by assumption
  have h3:1<=(2 ^ 63 - 1) / (n:Int):=by
   rw [Int.le_ediv_iff_mul_le (by omega)];omega
  omega
 ·rw [hl];unfold PySem.Builtin.Str.tooLong sizeLine;exact decide_eq_false (by rw [Int.toNat_natCast]; have:(2:Nat) ^ 24=16777216:=(by decide); omega)
theorem d4:OpR X (binaryOp .Mult) kMul:=by
 intro pins s σ H x y v u Q I rx ry q;unfold kMul at q;split at q
 ·exact Ao pins s σ H _ _ v u Q I rx ry ⟨_,_,rfl,rfl,q.1,q.2⟩
 ·obtain ⟨c,e,h0,h1,q⟩:=q;rename_i a n;obtain ⟨k,rfl⟩:∃ k:Nat,n=k:=⟨n.toNat,by omega⟩;have ea:a=⟨#[c]⟩:=by rw [<- cC a,e]
  subst ea;refine py pins s σ H _ _ v u Q I rx ry ⟨_,_,rfl,rfl,vX c k (by omega),?_⟩;rw [mul1];exact q
 ·obtain ⟨xs,h1,h2,h3,h4,q⟩:=q;refine w9 pins s σ H _ _ v u Q I rx ry ⟨_,_,_,rfl,rfl,h1,by omega,by omega,?_,q⟩;have:(10000:Nat)<=sizeLine:=by decide
  rw [h4];omega
 ·exact q.elim
noncomputable def kEq (neg:Bool):R2:=fun x y H Q=>match x,y with
 | .int i,.int j=>Q (.bl (neg ^^ decide (i=j))) H
 | .str a,.str b=>Q (.bl (neg ^^ decide (a.cps.toList=b.cps.toList))) H
 | .bl a,.bl b=>Q (.bl (neg ^^ decide (a=b))) H
 | .non,.non=>Q (.bl (neg ^^ true)) H
 | .non,.int _=>Q (.bl (neg ^^ false)) H
 | .int _,.non=>Q (.bl (neg ^^ false)) H
 | .non,.str _=>Q (.bl (neg ^^ false)) H
 | .str _,.non=>Q (.bl (neg ^^ false)) H
 | _,_=>False
theorem sM (a b:Str):decide (V.str a=V.str b)=decide (a.cps.toList=b.cps.toList):=by
 by_cases h:a.cps.toList=b.cps.toList
 ·have:a=b:=by rw [<- cC a,h,cC]
  subst this;simp
 ·rw [decide_eq_false h,decide_eq_false (fun z=>h (by cases z; rfl))]
theorem Bx:∀ x y H Q,kEq false x y H Q->rEq x y H Q:=fun x y H Q q=>by
 unfold kEq at q;split at q <;> first
  | exact q.elim
  | (refine ⟨rfl,?_⟩; first | (rw [sM]; simpa using q) | simpa using q)
theorem A5:∀ x y H Q,kEq true x y H Q->rNe x y H Q:=fun x y H Q q=>by
 unfold kEq at q;split at q <;> first
  | exact q.elim
  | (refine ⟨rfl,?_⟩; first | (rw [sM]; simpa using q) | simpa using q)
theorem bz:OpR X (compareOp .Eq) (kEq false):=BG.imp Bx
theorem oJ:OpR X (compareOp .NotEq) (kEq true):=BT.imp A5
noncomputable abbrev kLt:R2:=kI0 fun i j=>.bl (decide (i < j))
noncomputable abbrev kLe:R2:=kI0 fun i j=>.bl (decide (i<=j))
noncomputable abbrev kGt:R2:=kI0 fun i j=>.bl (decide (j < i))
theorem pF:OpR X (compareOp .Lt) kLt:=BP.imp om
theorem ye:OpR X (compareOp .LtE) kLe:=BA.imp om
theorem lI:OpR X (compareOp .Gt) kGt:=BH.imp om
noncomputable def kIs (neg:Bool):R2:=fun x y H Q=>match y with
 | .non=>Q (.bl (neg ^^ decide (x=.non))) H
 | _=>False
theorem ur:OpR X (compareOp .Is) (kIs false):=Aj.imp fun x y H Q q=>by
 unfold kIs at q;split at q
 ·exact ⟨rfl,by simpa using q⟩
 ·exact q.elim
noncomputable def kIn (K:Frag) (neg:Bool):R2:=fun x y H Q=>match x,y with
 | .str a,.str b=>∃ c,a.cps.toList=[c]/\Q (.bl (neg ^^ decide (c ∈ b.cps.toList))) H
 | x,.ref p=>∃ xs,(SqL K H p xs\/SqT K H p xs)/\flatV x=true/\xs.all flatV=true/\Q (.bl (neg ^^ inV x xs)) H
 | _,_=>False
theorem Bs:OpR X (compareOp .In) (kIn X.K false):=by
 intro pins s σ H x y v u Q I rx ry q;unfold kIn at q;split at q
 ·obtain ⟨c,e,q⟩:=q;rename_i a b;have ea:a=⟨#[c]⟩:=by rw [<- cC a,e]
  subst ea;refine vw pins s σ H _ _ v u Q I rx ry ⟨_,_,rfl,rfl,?_⟩;rw [StrLaws.found_one];simpa using q
 ·obtain ⟨xs,h1,h2,h3,q⟩:=q;exact wn pins s σ H _ _ v u Q I rx ry ⟨_,_,rfl,h1,h2,h3,by simpa using q⟩
 ·exact q.elim
theorem vS:OpR X (compareOp .NotIn) (kIn X.K true):=by
 intro pins s σ H x y v u Q I rx ry q;unfold kIn at q;split at q
 ·obtain ⟨c,e,q⟩:=q;rename_i a b;have ea:a=⟨#[c]⟩:=by rw [<- cC a,e]
  subst ea;refine rG pins s σ H _ _ v u Q I rx ry ⟨_,_,rfl,rfl,?_⟩;rw [StrLaws.found_one];simpa using q
 ·obtain ⟨xs,h1,h2,h3,q⟩:=q;exact qZ pins s σ H _ _ v u Q I rx ry ⟨_,_,rfl,h1,h2,h3,by simpa using q⟩
 ·exact q.elim
noncomputable def kIx (K:Frag):R2:=fun x y H Q=>match x,y with
 | .str z,.int i=>z.cps.toList.length<=100000/\∃ c,atI z.cps.toList i=some c/\Q (.str (st [c])) H
 | .ref p,.int i=>∃ xs v,(SqL K H p xs\/SqT K H p xs)/\atI xs i=some v/\Q v H
 | _,_=>False
theorem big5:(100000:Nat)<=sizeLine:=by decide
theorem strlen (z:Str):z.length=z.cps.toList.length:=by simp [Str.length]
theorem BZ:IxR X (kIx X.K):=Bi.imp fun x y H Q q=>by
 unfold kIx at q;split at q
 ·obtain ⟨h,c,e,q⟩:=q;exact .inr (.inr ⟨_,_,c,rfl,rfl,by rw [strlen]; exact Nat.le_trans h big5,e,q⟩)
 ·obtain ⟨xs,v,h | h,e,q⟩:=q
  ·exact .inl ⟨_,_,_,_,rfl,rfl,h,e,q⟩
  ·exact .inr (.inl ⟨_,_,_,_,rfl,rfl,h,e,q⟩)
 ·exact q.elim
noncomputable def kLen (K:Frag):List V->Hp->VK->Prop:=fun xs H Q=>match xs with
 | [.str z]=>z.cps.toList.length<=100000/\Q (.int z.cps.toList.length) H
 | [.ref p]=>∃ ys,(SqL K H p ys\/SqT K H p ys)/\Q (.int ys.length) H
 | _=>False
theorem vv:CallR X (.builtin "len") (kLen X.K):=by
 intro pins s σ H xs us Q I r q;unfold kLen at q;split at q
 ·obtain ⟨h,q⟩:=q;refine rB pins s σ H _ us Q I r ⟨_,rfl,by rw [strlen]; exact Nat.le_trans h big5,?_⟩;rw [strlen];exact q
 ·obtain ⟨ys,h,q⟩:=q;exact rz pins s σ H _ us Q I r ⟨_,_,rfl,h,q⟩
 ·exact q.elim
noncomputable def up (t:TE):TE:=fun σ H Q=>∃ Q0:VK,t σ H Q0/\∀ v H',Q0 v H'->Q v H'
noncomputable def up2 (r:R2):R2:=fun x y H Q=>∃ Q0:VK,r x y H Q0/\∀ v H',Q0 v H'->Q v H'
theorem EP.imp {pins:List (Addr × Obj)} {σ:St} {Q Q':VK} {u:Value} {s:Shared} (h:EP X pins σ Q u s) (k:∀ v H',Q v H'->Q' v H'):EP X pins σ Q' u s:=by
 obtain ⟨v,H',I,r,q⟩:=h;exact ⟨v,H',I,r,k v H' q⟩
theorem PE.mono {e:Expr} {t:TE} (h:PE X e t):PE X e (up t):=fun pins s σ H Q I ⟨Q0,q,k⟩=>thn (h pins s σ H Q0 I q) fun u s' z=>z.imp k
theorem OpR.mono {f:Value->Value->Sem Value} {r:R2} (h:OpR X f r):OpR X f (up2 r):=fun pins s σ H x y v u Q I rx ry ⟨Q0,q,k⟩=>thn (h pins s σ H x y v u Q0 I rx ry q) fun u s' z=>z.imp k
noncomputable def blK (Q:Bool->Hp->Prop):VK:=fun x H'=>match x with | .bl k=>Q k H' | _=>False
theorem tI {Q:Bool->Hp->Prop} {x:V} {H':Hp} (h:blK Q x H'):∃ k,x=.bl k/\Q k H':=by
 unfold blK at h;split at h
 ·exact ⟨_,rfl,h⟩
 ·exact h.elim
noncomputable def cTest (t:TE):TT:=fun σ H Q=>t σ H (blK Q)
theorem de {e:Expr} {t:TE} (h:PE X e t) (he:∀ whole,isTrue e X.env whole=(do let v <- whole; standAt e.pos; holding [v] (truthy v)):=by intro _; rfl):PT X e (cTest t):=
 (Bc h.mono he).imp fun σ H Q q=>⟨_,q,fun v H' z=>tI z⟩
variable {a b c:Expr} {ta tb tc:TE} {pos:Pos} {rest:List Expr}
theorem aB {op:CmpOp} {r:R2} (ho:OpR X (compareOp op) r) (ha:PE X a ta) (hb:PE X b tb) (hm:behindInMarks op b=false:=by first | exact nomark _ | rfl):PT X (.Compare a [op] [b] pos) (cTest (tOp r ta tb)):=
 (yW ho.mono ha.mono hb.mono hm).imp fun σ H Q q=>⟨_,q,fun x H1 z=>⟨_,z,fun y H2 z2=>⟨_,z2,fun v H' z3=>tI z3⟩⟩⟩
theorem gn {op:CmpOp} {r:R2} (ho:OpR X (compareOp op) r) (ha:PE X a ta) (hb:PE X b tb) (hm:behindInMarks op b=false:=by first | exact nomark _ | rfl):PE X (.Compare a [op] [b] pos) (tOp r ta tb):=zB ho ha hb hm
noncomputable def cAndV (ta tb:TE):TE:=fun σ H Q=>ta σ H (blK fun c H1=>if c=true then tb σ H1 Q else Q (.bl false) H1)
theorem iG (ha:PE X a ta) (hb:PE X (.BoolOp .And (b::rest) pos) tb):PE X (.BoolOp .And (a::b::rest) pos) (cAndV ta tb):=(Am ha.mono hb).imp fun σ H Q q=>⟨_,q,fun v H' z=>tI z⟩
variable {o e:Expr} {to te:TE} {apos cpos:Pos}
noncomputable def cApp (to te:TE):TE:=fun σ H Q=>to σ H fun x H1=>match x with
 | .ref l=>(∃ xs,H1 l=some (.lst xs))/\te σ H1 fun y H2=>∃ xs,H2 l=some (.lst xs)/\xs.length < sizeLine/\Q .non (upd H2 l (.lst (xs++[y])))
 | _=>False
theorem dh (ho:PE X o to) (he:PE X e te) (hbase:attributeBase o "append" X.env (eval o X.env)=eval o X.env:=by rfl)
  (hfew:((backTo cpos (starEach [e] X.env)).all (fun x=>!x.1) && (backToKw cpos (keywordEach [] X.env)).all (fun x=>x.1.isSome)
   && decide ([e].length+([]:List Keyword).length+(if ([]:List Keyword).isEmpty then 0 else 1) < 30))=true:=by rfl)
  (hline:(apos.endLine == cpos.line)=true:=by rfl) (hs:starEach [e] X.env=(false,eval e X.env)::starEach [] X.env:=by rfl) (hplain:(backTo cpos (starEach [] X.env)).any (·.1)=false:=by rfl):
  PE X (.Call (.Attribute o "append" apos) [e] [] cpos) (cApp to te):=
 (sW PySem.F.plainAttrs_list PySem.F.slot_list_append PySem.F.type_list_append mW ho.mono (aa he.mono ac hs) hbase hfew hline hs hplain).imp fun σ H Q q=>⟨_,q,fun x H1 z=>by
  split at z
  ·rename_i l;obtain ⟨⟨xs,h⟩,z⟩:=z;refine ⟨.inl ⟨rfl,_,SqL.of h⟩,_,z,fun y H2 z2=>?_⟩;obtain ⟨xs2,h2,h3,z3⟩:=z2;exact ⟨l,xs2,y,rfl,rfl,h2,h3,z3⟩
  ·exact z.elim⟩
noncomputable def cJoin1 (K:Frag) (te:TE):TE:=fun σ H Q=>te σ H fun x H1=>match x with
 | .ref l=>∃ cs:List Nat,SqL K H1 l (cs.map fun k=>V.str (st [k]))/\cs.length<=10000/\Q (.str (st cs)) H1
 | _=>False
theorem xg {j:Nat} {p1:Pos} (he:PE X e te) (hfew:((backTo cpos (starEach [e] X.env)).all (fun x=>!x.1) && (backToKw cpos (keywordEach [] X.env)).all (fun x=>x.1.isSome)
   && decide ([e].length+([]:List Keyword).length+(if ([]:List Keyword).isEmpty then 0 else 1) < 30))=true:=by rfl)
  (hline:(apos.endLine == cpos.line)=true:=by rfl) (hs:starEach [e] X.env=(false,eval e X.env)::starEach [] X.env:=by rfl) (hplain:(backTo cpos (starEach [] X.env)).any (·.1)=false:=by rfl)
  (hbase:attributeBase (.Constant (.str (Str.ofString "")) j p1) "join" X.env (eval (.Constant (.str (Str.ofString "")) j p1) X.env)=eval (.Constant (.str (Str.ofString "")) j p1) X.env:=by rfl):
  PE X (.Call (.Attribute (.Constant (.str (Str.ofString "")) j p1) "join" apos) [e] [] cpos) (cJoin1 X.K te):=
 (sW PySem.F.plainAttrs_str PySem.F.slot_str_join PySem.F.type_str_join xJ xB (aa he.mono ac hs) hbase hfew hline hs hplain).imp fun σ H Q q=>⟨rfl,_,q,fun x H1 z=>by
  split at z
  ·obtain ⟨cs,h,h2,z⟩:=z;exact ⟨_,cs,rfl,rfl,h,h2,z⟩
  ·exact z.elim⟩
end
section
variable {X:Cx} {tg a b e:Expr} {te ta tb:TE} {pos p:Pos}
noncomputable def cIter (K:Frag) (te:TE):TI:=fun σ H R=>te σ H fun x H1=>match x with
 | .str z=>R (Its z) H1
 | .ref a=>((∃ xs,SqL K H1 a xs)/\R (Itl K a) H1)\/((∃ xs,SqT K H1 a xs)/\R (Itt K a) H1)
 | _=>False
theorem yU (he:PE X e te):PI X tg e (cIter X.K te):=by
 intro pins s σ H R I h;refine thn (he pins s σ H _ I h) fun v s1 ⟨y,H1,I1,r1,q1⟩=>?_
 dsimp only at q1;split at q1
 ·rename_i x;obtain ⟨t,rfl⟩:=r1;refine wpAny_pyIter_strU ?_;refine ⟨s1.heap.objs.size,[s1.heap.objs.size],_,Its x,H1,rfl,I1.kept (t':=s1.toks) fun b o e=>Heap.get?_push_of_some _ e,wM x t _,⟨_,Heap.get?_push_size _ rfl,rfl,rfl⟩,fun b hb=>?_,q1⟩;have e:b=s1.heap.objs.size:=by simpa using hb
  subst e;exact I1.fpOk (Nat.le_refl _) (I1.hok.fresh (Nat.le_refl _))
 ·rename_i l;cases r1;rcases q1 with ⟨⟨xs,hq⟩,q⟩ | ⟨⟨xs,hq⟩,q⟩
  ·obtain ⟨its,rv,p,hz⟩:=I1.list hq;refine wpAny_pyIter_list p.isList ?_;refine ⟨s1.heap.objs.size,[s1.heap.objs.size],_,_,H1,rfl,I1.kept (t':=s1.toks) fun b o e=>Heap.get?_push_of_some _ e,vT l _,⟨_,Heap.get?_push_size _ rfl,rfl,rfl⟩,fun b hb=>?_,q⟩;have e:b=s1.heap.objs.size:=by simpa using hb
   subst e;exact I1.fpOk (Nat.le_refl _) (I1.hok.fresh (Nat.le_refl _))
  ·obtain ⟨its,rv,p,hz⟩:=I1.tuple hq;refine wpAny_pyIter_tuple (show s1.heap.IsTuple l its.toArray from p) ?_;refine ⟨s1.heap.objs.size,[s1.heap.objs.size],_,_,H1,rfl,I1.kept (t':=s1.toks) fun b o e=>Heap.get?_push_of_some _ e,uw l _,⟨_,Heap.get?_push_size _ rfl,rfl,rfl⟩,fun b hb=>?_,q⟩;have e:b=s1.heap.objs.size:=by simpa using hb
   subst e;exact I1.fpOk (Nat.le_refl _) (I1.hok.fresh (Nat.le_refl _))
 ·exact q1.elim
noncomputable def cRng1 (te:TE):TI:=fun σ H R=>te σ H fun x H1=>match x with
 | .int j=>-1000000<=j/\j<=1000000/\R (Itr 0 j.toNat) H1
 | _=>False
theorem bA (hg:Gl X "range") (hm:X.mg "range" = none) (ha:PE X a ta) (hs:starEach [a] X.env=[(false,eval a X.env)]:=by rfl):PI X tg (.Call (.Name "range" p) [a] [] pos) (cRng1 ta):=
 (wA hg hm (aa ha.mono ac hs) hs).imp fun σ H R q=>⟨_,q,fun x H1 z=>by
  split at z
  ·exact ⟨_,rfl,by omega,by omega,z.2.2⟩
  ·exact z.elim⟩
def srcK (K:Frag) (H:Hp) (v:V) (R:Src->Prop):Prop:=match v with
 | .str x=>R (.str x)
 | .ref a=>(∃ xs,SqL K H a xs)/\R (.lst a)
 | _=>False
theorem uJ {K:Frag} {H:Hp} {v:V} {R:Src->Prop} (h:srcK K H v R):∃ S,SrcOf K H S v/\R S:=by
 unfold srcK at h;split at h
 ·exact ⟨.str _,rfl,h⟩
 ·exact ⟨.lst _,⟨rfl,h.1⟩,h.2⟩
 ·exact h.elim
end
def loopW (J:It) (g:TG) (tb:TS) (D:Ends) (σ:St) (H:Hp):Prop:=∃ W:Nat->Nat->St->Hp->Prop,(∃ m,W 0 m σ H)/\∀ i m σ H,W i m σ H ->
 (J.stop i H/\D.nx σ H)\/(J.go i H/\∃ N:St->Hp->Prop,(∀ σ' H',N σ' H'->∃ m',m' < m/\W (i+1) m' σ' H')/\∀ x H',J.yld i H x H'->g x σ H' fun σ2 H2=>tb { D with nx:=N,ct:=N,bk:=D.nx } σ2 H2)
noncomputable def cFor (wi:TI) (g:TG) (tb:TS):TS:=fun D σ H=>wi σ H fun J H1=>loopW J g tb D σ H1
theorem br {X:Cx} {tg iter:Expr} {body:List Stmt} {wi:TI} {g:TG} {tb:TS} {pos:Pos} (hp:PassesOwn (model X.prog X.w) X.A X.env X.xe) (hc:X.calm=true) (hi:PI X tg iter wi) (hg:PG X tg g) (hb:PSs X body tb)
  (hs:∀ x,foldedSetIterable iter X.env x=pure x:=by intro _; rfl):PS X (.For tg iter body [] pos) (cFor wi g tb):=A3 hp hc hi hg hb hs
section
variable {K:Frag} {g:TG} {tb:TS} {D:Ends} {σ:St} {H:Hp}
noncomputable abbrev Ends.turn (D:Ends) (N:St->Hp->Prop):Ends:={ D with nx:=N,ct:=N,bk:=D.nx }
theorem wQ {l:List Nat} (Pv:Nat->St->Hp->Prop) (h0:Pv 0 σ H) (hs:∀ i c σ H,l[i]? = some c->Pv i σ H->g (.str (st [c])) σ H fun σ2 H2=>tb (D.turn (Pv (i+1))) σ2 H2) (hd:∀ σ H,Pv l.length σ H->D.nx σ H):
  loopW (Its (st l)) g tb D σ H:=
 AO (n:=l.length) Pv h0 (fun i σ H hi _=>by show i < (st l).cps.size; simpa using hi) (fun σ H _=>by show (st l).cps.size<=l.length; simp)
  (fun i σ H x H' hi p y=>by
   obtain ⟨rfl,c,hc,rfl⟩:=y;exact hs i c σ _ (by simpa using hc) p) hd
theorem bw {p:Addr} {xs:List V} (Pv:Nat->St->Hp->Prop) (h0:Pv 0 σ H) (hl:∀ i σ H,i<=xs.length->Pv i σ H->SqL K H p xs)
  (hs:∀ i x σ H,xs[i]? = some x->Pv i σ H->g x σ H fun σ2 H2=>tb (D.turn (Pv (i+1))) σ2 H2) (hd:∀ σ H,Pv xs.length σ H->D.nx σ H):loopW (Itl K p) g tb D σ H:=xV Pv h0 hl hs hd
theorem tH {α:Type} (item:α -> V) (xs:List α) {p:Addr} (Pv:Nat->St->Hp->Prop) (h0:Pv 0 σ H) (hl:∀ i σ H,i<=xs.length->Pv i σ H->SqL K H p (xs.map item))
  (hs:∀ i x σ H,xs[i]? = some x->Pv i σ H->g (item x) σ H fun σ2 H2=>tb (D.turn (Pv (i+1))) σ2 H2) (hd:∀ σ H,Pv xs.length σ H->D.nx σ H):loopW (Itl K p) g tb D σ H:=
 bw (xs:=xs.map item) Pv h0 (fun i σ H hi=>hl i σ H (by simpa using hi)) (fun i x σ H hx p=>by
  rw [List.getElem?_map] at hx;obtain ⟨y,hy,rfl⟩:=Option.map_eq_some_iff.mp hx;exact hs i y σ H hy p) (fun σ H p=>hd σ H (by simpa using p))
theorem tm {p:Addr} {xs:List V} (Pv:Nat->St->Hp->Prop) (h0:Pv 0 σ H) (hl:∀ i σ H,i<=xs.length->Pv i σ H->SqT K H p xs)
  (hs:∀ i x σ H,xs[i]? = some x->Pv i σ H->g x σ H fun σ2 H2=>tb (D.turn (Pv (i+1))) σ2 H2) (hd:∀ σ H,Pv xs.length σ H->D.nx σ H):loopW (Itt K p) g tb D σ H:=zK Pv h0 hl hs hd
theorem c9 {lo:Int} {n:Nat} (Pv:Nat->St->Hp->Prop) (h0:Pv 0 σ H) (hs:∀ i σ H,i < n->Pv i σ H->g (.int (lo+i)) σ H fun σ2 H2=>tb (D.turn (Pv (i+1))) σ2 H2) (hd:∀ σ H,Pv n σ H->D.nx σ H):
  loopW (Itr lo n) g tb D σ H:=vt Pv h0 hs hd
end
def compW (J:It) (g:TG) (tc:TT) (te:TE) (σc:St) (D:Addr) (Q:VK) (H:Hp):Prop:=
 ∃ W:Nat->Nat->List V->Hp->Prop,(∃ m,W 0 m [] (upd H D (.lst [])))/\∀ i m acc H2,W i m acc H2 ->
  (J.stop i H2/\Q (.ref D) H2)\/(J.go i H2/\∀ x H3,J.yld i H2 x H3->g x σc H3 fun σ4 H4=>tc σ4 H4 fun b H5=>if b=true then
   te σ4 H5 fun v H6=>H6 D=some (.lst acc)/\acc.length < sizeLine/\∃ m',m' < m/\W (i+1) m' (acc++[v]) (upd H6 D (.lst (acc++[v]))) else ∃ m',m' < m/\W (i+1) m' acc H5)
noncomputable def cComp (nt:Nat) (fi:List Nat) (wi:TI) (g:TG) (tc:TT) (te:TE):TE:=fun σ H Q=>wi σ H fun J H1=>∀ D,H1 D=none->compW J g tc te (compσ nt fi σ) D Q H1
theorem bU {X:Cx} {elt tg iter:Expr} {ifs:List Expr} {scope:Scope} {pos:Pos} {wi:TI} {g:TG} {tc:TT} {te:TE} {nt:Nat} {fi:List Nat} {N':List Str} (hcalm:X.calm=true)
  (S:CScope scope) (cn:CNames X scope nt fi N') (gk:GK nt g) (hi:PI X tg iter wi)
  (hg:∀ cl C s H ex,PG (cxC X scope cl N' C s H ex) tg g) (hc:∀ cl C s H ex,PIf (cxC X scope cl N' C s H ex) ifs tc) (he:∀ cl C s H ex,PE (cxC X scope cl N' C s H ex) elt te)
  (hs:∀ x,foldedSetIterable iter X.env x=pure x:=by intro _; rfl):PE X (.ListComp elt [⟨tg,iter,ifs,0⟩] scope pos) (cComp nt fi wi g tc te):=zc hcalm S cn gk hi hg hc he hs
section
variable {K:Frag} {J:It} {g:TG} {tc:TT} {te:TE} {σc:St} {D:Addr} {Q:VK} {H:Hp}
theorem gy {α:Type} (f:Nat->List α) (n:Nat):(List.range (n+1)).flatMap f=(List.range n).flatMap f++f n:=by
 rw [List.range_succ,List.flatMap_append];simp
theorem pz {α:Type} (f:Nat->List α) (hf:∀ i,(f i).length<=1) (n:Nat):((List.range n).flatMap f).length<=n:=by
 induction n with
 | zero=>simp
 | succ n ih=>
  rw [gy,List.length_append];have:=hf n;omega
theorem rn {n:Nat} (f:Nat->List V) (hfree:H D=none) (hn:n<=100000) (hf:∀ i,(f i).length<=1) (hy:∀ i H x H',J.yld i H x H'->Same H H')
  (hgo:∀ i H',i < n->Same H H'->J.go i H') (hst:∀ H',Same H H'->J.stop n H')
  (hs:∀ i H1 x H2 (out:VK) (non:Hp->Prop),i < n->Same H H1->J.yld i H1 x H2->(∀ v H6,f i=[v]->Same H2 H6->out v H6)->(∀ H5,f i=[]->Same H2 H5->non H5) ->
   g x σc H2 fun σ4 H4=>tc σ4 H4 fun b H5=>if b=true then te σ4 H5 out else non H5)
  (hq:∀ H',Same H H'->H' D=some (.lst ((List.range n).flatMap f))->Q (.ref D) H'):compW J g tc te σc D Q H:=by
 refine ⟨fun i m acc H2=>m=n - i/\i<=n/\acc=(List.range i).flatMap f/\Same H H2/\H2 D=some (.lst acc),⟨n,by simp,Nat.zero_le _,by simp,ai hfree _,ah⟩,?_⟩;rintro i m acc H2 ⟨rfl,hi,rfl,sm,hD⟩;by_cases hlt:i < n
 ·refine .inr ⟨hgo i H2 hlt sm,fun x H3 y=>?_⟩;have s23:=hy i H2 x H3 y;refine hs i H2 x H3 _ _ hlt sm y (fun v H6 e s6=>?_) fun H5 e s5=>?_
  ·refine ⟨s6 _ _ (s23 _ _ hD),Nat.lt_of_le_of_lt (pz f hf i) (sizeBig (by omega)),n - (i+1),by omega,rfl,hlt,?_,?_,ah⟩
   ·rw [gy,e]
   ·exact aS (sm.trans (s23.trans s6)) hfree
  ·refine ⟨n - (i+1),by omega,rfl,hlt,?_,sm.trans (s23.trans s5),s5 _ _ (s23 _ _ hD)⟩;rw [gy,e,List.append_nil]
 ·have e:i=n:=by omega
  subst e;exact .inl ⟨hst H2 sm,hq H2 sm hD⟩
noncomputable def atH {α β:Type} (xs:List α) (h:α -> List β) (i:Nat):List β:=((xs[i]?).map h).getD []
theorem r9 {α β:Type} {xs:List α} {h:α -> List β} {i:Nat} {x:α} (e:xs[i]? = some x):atH xs h i=h x:=by simp [atH,e]
theorem uI {α β:Type} {xs:List α} {h:α -> List β} (hf:∀ x,(h x).length<=1) (i:Nat):(atH xs h i).length<=1:=by
 unfold atH;cases xs[i]? with
 | none=>simp
 | some x=>simpa using hf x
theorem uO {α β:Type} (xs:List α) (h:α -> List β):(List.range xs.length).flatMap (atH xs h)=xs.flatMap h:=by
 induction xs with
 | nil=>rfl
 | cons a xs ih=>
  rw [List.length_cons,List.range_succ_eq_map,List.flatMap_cons,List.flatMap_map,List.flatMap_cons,<- ih];rfl
section
variable {α:Type} (item:α -> V) (xs:List α) (h:α -> List V)
theorem fh {p:Addr} (hfree:H D=none) (hl:SqL K H p (xs.map item)) (hn:xs.length<=100000) (hf:∀ x,(h x).length<=1)
  (hs:∀ x H1 (out:VK) (non:Hp->Prop),x ∈ xs->Same H H1->(∀ v H6,h x=[v]->Same H1 H6->out v H6)->(∀ H5,h x=[]->Same H1 H5->non H5) ->
   g (item x) σc H1 fun σ4 H4=>tc σ4 H4 fun b H5=>if b=true then te σ4 H5 out else non H5)
  (hq:∀ H',Same H H'->H' D=some (.lst (xs.flatMap h))->Q (.ref D) H'):compW (Itl K p) g tc te σc D Q H:=by
 refine rn (n:=xs.length) (atH xs h) hfree hn (uI hf) (fun i H x H' y=>?_) (fun i H' hi s=>?_) (fun H' s=>?_) (fun i H1 x H2 out non hi s y ho hnn=>?_) fun H' s q=>?_
 ·rw [y.1];exact Same.refl _
 ·exact ⟨_,item xs[i],s.seq hl,by simp [hi]⟩
 ·exact ⟨_,s.seq hl,by simp⟩
 ·obtain ⟨rfl,y⟩:=y;have e:=y _ (s.seq hl);rw [List.getElem?_map,List.getElem?_eq_getElem hi] at e;have e2:item xs[i]=x:=Option.some.inj e;subst e2;simp only [r9 (List.getElem?_eq_getElem hi)] at ho hnn;exact hs xs[i] _ out non (List.getElem_mem hi) s ho hnn
 ·rw [uO] at q;exact hq H' s q
theorem rZ {l:List Nat} {h:Nat->List V} (hfree:H D=none) (hn:l.length<=100000) (hf:∀ x,(h x).length<=1)
  (hs:∀ c H1 (out:VK) (non:Hp->Prop),c ∈ l->Same H H1->(∀ v H6,h c=[v]->Same H1 H6->out v H6)->(∀ H5,h c=[]->Same H1 H5->non H5) ->
   g (.str (st [c])) σc H1 fun σ4 H4=>tc σ4 H4 fun b H5=>if b=true then te σ4 H5 out else non H5)
  (hq:∀ H',Same H H'->H' D=some (.lst (l.flatMap h))->Q (.ref D) H'):compW (Its (st l)) g tc te σc D Q H:=by
 refine rn (n:=l.length) (atH l h) hfree hn (uI hf) (fun i H x H' y=>?_) (fun i H' hi s=>?_) (fun H' s=>?_) (fun i H1 x H2 out non hi s y ho hnn=>?_) fun H' s q=>?_
 ·rw [y.1];exact Same.refl _
 ·show i < (st l).cps.size;simpa using hi
 ·show (st l).cps.size<=l.length;simp
 ·obtain ⟨rfl,c,hc,rfl⟩:=y;have e:l[i]? = some c:=by simpa using hc
  simp only [r9 e] at ho hnn;exact hs c _ out non (List.mem_of_getElem? e) s ho hnn
 ·rw [uO] at q;exact hq H' s q
theorem lH {lo:Int} {n:Nat} {h:Nat->List V} (hfree:H D=none) (hn:n<=100000) (hf:∀ x,(h x).length<=1)
  (hs:∀ i H1 (out:VK) (non:Hp->Prop),i < n->Same H H1->(∀ v H6,h i=[v]->Same H1 H6->out v H6)->(∀ H5,h i=[]->Same H1 H5->non H5) ->
   g (.int (lo+i)) σc H1 fun σ4 H4=>tc σ4 H4 fun b H5=>if b=true then te σ4 H5 out else non H5)
  (hq:∀ H',Same H H'->H' D=some (.lst ((List.range n).flatMap h))->Q (.ref D) H'):compW (Itr lo n) g tc te σc D Q H:=by
 refine rn (n:=n) h hfree hn hf (fun i H x H' y=>?_) (fun i H' hi s=>hi) (fun H' s=>Nat.le_refl _) (fun i H1 x H2 out non hi s y ho hnn=>?_) hq
 ·rw [y.1];exact Same.refl _
 ·obtain ⟨rfl,rfl⟩:=y;exact hs i _ out non hi s ho hnn
end
end
noncomputable def cnOk (N:List Str) (sc scope:Scope) (nt:Nat) (fi:List Nat) (N':List Str):Bool:=
 N'.length == nt+fi.length && ((List.range fi.length).all fun k=>match fi[k]? with
  | some j=>match N'[nt+k]?,N[j]? with
   | some x,some y=>x == y && scope.names.lookup x == some NameKind.free
   | _,_=>false
  | none=>false) && scope.names.all fun y=>y.2 != NameKind.free || (sc.names.lookup y.1 == some NameKind.cell || sc.names.lookup y.1 == some NameKind.free)
theorem cnames {X:Cx} {N:List Str} {sc scope:Scope} {nt:Nat} {fi:List Nat} {N':List Str} (hN:X.N=N) (hsc:X.env.scope=sc) (h:cnOk N sc scope nt fi N'=true):CNames X scope nt fi N':=by
 unfold cnOk at h;simp only [Bool.and_eq_true,List.all_eq_true,List.mem_range,beq_iff_eq] at h;obtain ⟨⟨h1,h2⟩,h3⟩:=h;refine ⟨h1,fun k j e=>?_,fun y hy e=>?_⟩
 ·have hk:k < fi.length:=(List.getElem?_eq_some_iff.mp e).1;have q:=h2 k hk;rw [e] at q;dsimp only at q;split at q
  ·rename_i x y e1 e2;simp only [Bool.and_eq_true,beq_iff_eq] at q;obtain ⟨rfl,q⟩:=q;exact ⟨_,e1,by rw [hN]; exact e2,q⟩
  ·cases q
 ·have q:=h3 y hy;rw [e] at q;rw [hsc];simpa using q
theorem cscope {scope:Scope} (hk:scope.kind=.function) (h:(scope.names.all fun y=>y.2 != NameKind.cell && (y.2 != NameKind.local || scope.names.lookup y.1 == some NameKind.local))=true):CScope scope:=by
 simp only [List.all_eq_true,Bool.and_eq_true] at h;refine ⟨hk,fun y hy e=>?_,fun y hy e=>?_⟩
 ·have:=(h y hy).1;rw [e] at this;exact absurd this (by decide)
 ·have:=(h y hy).2;rw [e] at this;simpa using this
theorem aN:bootBuiltins "len" = some (.builtin "len"):=by decide +kernel
theorem xj:bootBuiltins "sum" = some (.builtin "sum"):=by decide +kernel
theorem AV:bootBuiltins "any" = some (.builtin "any"):=by decide +kernel
theorem xI:bootBuiltins "min" = some (.builtin "min"):=by decide +kernel
theorem Az:bootBuiltins "max" = some (.builtin "max"):=by decide +kernel
theorem vj:bootBuiltins "sorted" = some (.builtin "sorted"):=by decide +kernel
theorem kU:bootBuiltins "isinstance" = some (.builtin "isinstance"):=by decide +kernel
theorem kj:bootBuiltins "str" = some (.type "str"):=by decide +kernel
theorem xr:bootBuiltins "int" = some (.type "int"):=by decide +kernel
theorem og:bootBuiltins "bool" = some (.type "bool"):=by decide +kernel
theorem lP:bootBuiltins "list" = some (.type "list"):=by decide +kernel
theorem lZ:bootBuiltins "tuple" = some (.type "tuple"):=by decide +kernel
theorem Ap:bootBuiltins "set" = some (.type "set"):=by decide +kernel
inductive Ty where
 | bool | int | str | list | tuple
noncomputable def Ty.nm:Ty->String
 | .bool => "bool" | .int => "int" | .str => "str" | .list => "list" | .tuple => "tuple"
noncomputable def Ty.isBl:Ty->Bool
 | .bool=>true | .int=>true | _=>false
noncomputable def Ty.isInt:Ty->Bool
 | .int=>true | _=>false
noncomputable def Ty.isStr:Ty->Bool
 | .str=>true | _=>false
noncomputable def Ty.isLst:Ty->Bool
 | .list=>true | _=>false
noncomputable def Ty.isTup:Ty->Bool
 | .tuple=>true | _=>false
section
variable {K:Frag}
theorem zf (n:Ty):PySem.W.kitOne K (.type "NoneType") (.type n.nm)=some false:=by cases n <;> with_unfolding_all rfl
theorem AQ (n:Ty):PySem.W.kitOne K (.type "bool") (.type n.nm)=some n.isBl:=by cases n <;> with_unfolding_all rfl
theorem zL (n:Ty):PySem.W.kitOne K (.type "int") (.type n.nm)=some n.isInt:=by cases n <;> with_unfolding_all rfl
theorem yI (n:Ty):PySem.W.kitOne K (.type "str") (.type n.nm)=some n.isStr:=by cases n <;> with_unfolding_all rfl
theorem zA (n:Ty):PySem.W.kitOne K (.type "list") (.type n.nm)=some n.isLst:=by cases n <;> with_unfolding_all rfl
theorem zi (n:Ty):PySem.W.kitOne K (.type "tuple") (.type n.nm)=some n.isTup:=by cases n <;> with_unfolding_all rfl
end
section
variable {X:Cx} {a b e:Expr} {ta tb te:TE} {pos p p2:Pos}
theorem Ab {x:Str} {n:String} (hg:Gl X x) (hm:X.mg x=none) (hv:bootBuiltins x=some (.type n)) (hn:x ≠ "__name__" := by decide) (hd:(x == ("__debug__" : Str))=false:=by decide):PE X (.Name x pos) (tC (.ty n)):=y6 (v:=.ty n) hg hm hv rfl hn hd
noncomputable def cIsI (n:Ty) (ta:TE):TE:=fun σ H Q=>ta σ H fun x H1=>match x with
 | .non=>Q (.bl false) H1
 | .bl _=>Q (.bl n.isBl) H1
 | .int _=>Q (.bl n.isInt) H1
 | .str _=>Q (.bl n.isStr) H1
 | .ref p=>((∃ xs,H1 p=some (.lst xs))/\Q (.bl n.isLst) H1)\/((∃ xs,H1 p=some (.tup xs))/\Q (.bl n.isTup) H1)
 | _=>False
theorem aZ {x:Str} (n:Ty) (hg:Gl X "isinstance") (hm:X.mg "isinstance" = none) (ha:PE X a ta) (hg2:Gl X x) (hm2:X.mg x=none) (hv2:bootBuiltins x=some (.type n.nm)) (hn2:x ≠ "__name__" := by decide) (hd2:(x == ("__debug__" : Str))=false:=by decide)
  (hs:starEach [a,.Name x p2] X.env=(false,eval a X.env)::starEach [.Name x p2] X.env:=by rfl) (hpl:(backTo pos (starEach [.Name x p2] X.env)).any (·.1)=false:=by rfl):PE X (.Call (.Name "isinstance" p) [a,.Name x p2] [] pos) (cIsI n ta):=
 (av sO hg hm kU (aa ha.mono (aa (Ab hg2 hm2 hv2 hn2 hd2) ac) hs) (he:=hs) (hpl:=hpl)).imp fun σ H Q q=>⟨_,q,fun v H1 z=>by
  show ∃ x n t b,[v,V.ty _]=[x,.ty n]/\TyOf X.K H1 x t/\PySem.W.kitOne X.K t (.type n)=some b/\Q (.bl b) H1;split at z
  ·exact ⟨_,_,_,_,rfl,.non,zf n,z⟩
  ·exact ⟨_,_,_,_,rfl,.bl _,AQ n,z⟩
  ·exact ⟨_,_,_,_,rfl,.int _,zL n,z⟩
  ·exact ⟨_,_,_,_,rfl,.str _,yI n,z⟩
  ·rcases z with ⟨⟨xs,h⟩,z⟩ | ⟨⟨xs,h⟩,z⟩
   ·exact ⟨_,_,_,_,rfl,.lst h,zA n,z⟩
   ·exact ⟨_,_,_,_,rfl,.tup h,zi n,z⟩
  ·exact z.elim⟩
noncomputable def kSl (K:Frag):V->Option Int->Option Int->Hp->VK->Prop:=fun x lo hi H Q=>match x with
 | .str z=>match lo,hi with
  | none,some j=>z.cps.toList.length<=100000/\0<=j/\j<=z.cps.toList.length/\Q (.str (st (z.cps.toList.take j.toNat))) H
  | some i,none=>z.cps.toList.length<=100000/\0<=i/\i<=z.cps.toList.length/\Q (.str (st (z.cps.toList.drop i.toNat))) H
  | _,_=>False
 | .ref a=>∃ xs,SqL K H a xs/\∀ p,H p=none->Q (.ref p) (upd H p (.lst (cutV xs lo hi)))
 | _=>False
theorem BY:SlR X (kSl X.K):=by
 refine (SlR.or wH yE).imp fun x lo hi H Q q=>?_
 unfold kSl at q;split at q
 ·rename_i z;split at q
  ·obtain ⟨h,h0,h1,q⟩:=q;rename_i j;obtain ⟨k,rfl⟩:∃ k:Nat,j=k:=⟨j.toNat,by omega⟩;refine .inl ⟨z,rfl,by rw [strlen]; exact Nat.le_trans h big5,?_⟩;have e:=oI z.cps.toList k (by omega);rw [cC] at e;rw [e];simpa using q
  ·obtain ⟨h,h0,h1,q⟩:=q;rename_i j;obtain ⟨k,rfl⟩:∃ k:Nat,j=k:=⟨j.toNat,by omega⟩;refine .inl ⟨z,rfl,by rw [strlen]; exact Nat.le_trans h big5,?_⟩;have e:=tJ z.cps.toList k (by omega);rw [cC] at e;rw [e];simpa using q
  ·exact q.elim
 ·obtain ⟨xs,h,q⟩:=q;exact .inr ⟨_,_,rfl,h,q⟩
 ·exact q.elim
noncomputable def kEqNil (K:Frag):R2:=fun x y H Q=>match x,y with
 | .ref a,.ref b=>∃ xs,SqL K H a xs/\SqL K H b []/\Q (.bl (decide (xs=[]))) H
 | _,_=>False
theorem Bp (hu:X.A.units < cLine):OpR X (compareOp .Eq) (kEqNil X.K):=(vA hu).imp fun x y H Q q=>by
 unfold kEqNil at q;split at q
 ·obtain ⟨xs,h1,h2,q⟩:=q;exact ⟨_,_,_,rfl,rfl,h1,h2,q⟩
 ·exact q.elim
theorem hu1 {k:Nat} {A:Around} (hr:Room k A):A.units < cLine:=hr.units0
noncomputable def cNeg (ta:TE):TE:=fun σ H Q=>ta σ H fun x H1=>match x with
 | .int i=>Q (.int (-i)) H1
 | _=>False
theorem Al (ha:PE X a ta):PE X (.UnaryOp .USub a pos) (cNeg ta):=(BO AS ha.mono).imp fun σ H Q q=>⟨_,q,fun v H1 z=>by
 split at z
 ·exact ⟨_,rfl,z⟩
 ·exact z.elim⟩
end
section
variable {X:Cx} {a b e:Expr} {ta tb te:TE} {pos p apos cpos:Pos}
theorem ixE (K:Frag) (h:X.K=K):IxR X (kIx K):=by subst h; exact BZ
theorem slE (K:Frag) (h:X.K=K):SlR X (kSl K):=by subst h; exact BY
theorem lenE (K:Frag) (h:X.K=K):CallR X (.builtin "len") (kLen K):=by subst h; exact vv
theorem inE (K:Frag) (h:X.K=K):OpR X (compareOp .In) (kIn K false):=by subst h; exact Bs
theorem notinE (K:Frag) (h:X.K=K):OpR X (compareOp .NotIn) (kIn K true):=by subst h; exact vS
theorem eqNilE (K:Frag) (h:X.K=K) (hu:X.A.units < cLine):OpR X (compareOp .Eq) (kEqNil K):=by subst h; exact Bp hu
theorem joinE (K:Frag) (h:X.K=K) {j:Nat} {p1:Pos} (he:PE X e te) (hfew:((backTo cpos (starEach [e] X.env)).all (fun x=>!x.1) && (backToKw cpos (keywordEach [] X.env)).all (fun x=>x.1.isSome)
   && decide ([e].length+([]:List Keyword).length+(if ([]:List Keyword).isEmpty then 0 else 1) < 30))=true:=by rfl)
  (hline:(apos.endLine == cpos.line)=true:=by rfl) (hs:starEach [e] X.env=(false,eval e X.env)::starEach [] X.env:=by rfl) (hplain:(backTo cpos (starEach [] X.env)).any (·.1)=false:=by rfl)
  (hbase:attributeBase (.Constant (.str (Str.ofString "")) j p1) "join" X.env (eval (.Constant (.str (Str.ofString "")) j p1) X.env)=eval (.Constant (.str (Str.ofString "")) j p1) X.env:=by rfl):
  PE X (.Call (.Attribute (.Constant (.str (Str.ofString "")) j p1) "join" apos) [e] [] cpos) (cJoin1 K te):=by subst h; exact xg he hfew hline hs hplain hbase
theorem iterE (K:Frag) (h:X.K=K) {tg:Expr} (he:PE X e te):PI X tg e (cIter K te):=by subst h; exact yU he
theorem tupE (K:Frag) (h:X.K=K) {es:List Expr} {k:Nat} {t:TGs} {n:Nat} (hc:X.calm=true) (hp:PGs X es t) (hn:(assignEach es X.env).length=n:=by rfl) (hst:(assignEach es X.env).findIdx? (·.1)=none:=by rfl):PG X (.Tuple es k pos) (gTup K n t):=by subst h; exact xQ hc hp hn hst
end
section
variable {t u:TS} {te ta tb:TE} {tc:TT} {D:Ends} {σ:St} {H:Hp} {Q:VK} {R:Bool->Hp->Prop} {i:Nat} {v:V}
theorem xp:cVar i σ H Q=(match σ[i]? with | some (some v)=>Q v H | _=>False):=rfl
theorem BX:tC v σ H Q=Q v H:=rfl
theorem BB {r:R2}:tOp r ta tb σ H Q=ta σ H fun x H1=>tb σ H1 fun y H2=>r x y H2 Q:=rfl
theorem yV {a b:Int}:kAdd (.int a) (.int b) H Q=Q (.int (a+b)) H:=rfl
theorem zP {a b:List Nat}:kAdd (.str (st a)) (.str (st b)) H Q=(a.length+b.length<=100000/\Q (.str (st (a++b))) H):=rfl
theorem za {a b:Addr}:kAdd (.ref a) (.ref b) H Q=∃ xs zs,H a=some (.lst xs)/\H b=some (.lst zs)/\xs.length+zs.length<=sizeLine/\∀ p,H p=none->Q (.ref p) (upd H p (.lst (xs++zs))):=rfl
theorem BW {C:Int->Int->Prop} {g:Int->Int->V} {a b:Int}:kI C g (.int a) (.int b) H Q=(C a b/\Q (g a b) H):=rfl
theorem BK {g:Int->Int->V} {a b:Int}:kI0 g (.int a) (.int b) H Q=Q (g a b) H:=rfl
theorem zD {a b:Int}:kMul (.int a) (.int b) H Q=(CMul a b/\Q (.int (a*b)) H):=rfl
theorem zp {c:Nat} {n:Int}:kMul (.str (st [c])) (.int n) H Q=(0<=n/\n<=10000/\Q (.str (st (List.replicate n.toNat c))) H):=by
 show (∃ d,[c]=[d]/\0<=n/\n<=10000/\Q (.str (st (List.replicate n.toNat d))) H)=_;refine propext ⟨?_,fun h=>⟨c,rfl,h⟩⟩;rintro ⟨d,e,h⟩;cases e;exact h
theorem Ax {n:Bool} {a b:Int}:kEq n (.int a) (.int b) H Q=Q (.bl (n ^^ decide (a=b))) H:=rfl
theorem xU {n:Bool} {a b:List Nat}:kEq n (.str (st a)) (.str (st b)) H Q=Q (.bl (n ^^ decide (a=b))) H:=rfl
theorem AX {n:Bool} {a b:Bool}:kEq n (.bl a) (.bl b) H Q=Q (.bl (n ^^ decide (a=b))) H:=rfl
theorem zV {n:Bool} {b:Str}:kEq n .non (.str b) H Q=Q (.bl (n ^^ false)) H:=rfl
theorem zu {n:Bool} {b:Str}:kEq n (.str b) .non H Q=Q (.bl (n ^^ false)) H:=rfl
theorem zF {n:Bool}:kEq n .non .non H Q=Q (.bl (n ^^ true)) H:=rfl
theorem BL {n:Bool} {x:V}:kIs n x .non H Q=Q (.bl (n ^^ decide (x=.non))) H:=rfl
theorem Bl {K:Frag} {n:Bool} {c:Nat} {b:List Nat}:kIn K n (.str (st [c])) (.str (st b)) H Q=Q (.bl (n ^^ decide (c ∈ b))) H:=by
 show (∃ d,[c]=[d]/\Q (.bl (n ^^ decide (d ∈ b))) H)=_;refine propext ⟨?_,fun h=>⟨c,rfl,h⟩⟩;rintro ⟨d,e,h⟩;cases e;exact h
theorem A9 {K:Frag} {n:Bool} {x:V} {p:Addr}:kIn K n x (.ref p) H Q=∃ xs,(SqL K H p xs\/SqT K H p xs)/\flatV x=true/\xs.all flatV=true/\Q (.bl (n ^^ inV x xs)) H:=by
 cases x <;> rfl
theorem Bf {K:Frag} {l:List Nat} {j:Int}:kIx K (.str (st l)) (.int j) H Q=(l.length<=100000/\∃ c,atI l j=some c/\Q (.str (st [c])) H):=rfl
theorem Bh {K:Frag} {p:Addr} {j:Int}:kIx K (.ref p) (.int j) H Q=∃ xs v,(SqL K H p xs\/SqT K H p xs)/\atI xs j=some v/\Q v H:=rfl
theorem zJ {K:Frag} {l:List Nat}:kLen K [.str (st l)] H Q=(l.length<=100000/\Q (.int l.length) H):=rfl
theorem yX {K:Frag} {p:Addr}:kLen K [.ref p] H Q=∃ ys,(SqL K H p ys\/SqT K H p ys)/\Q (.int ys.length) H:=rfl
theorem zI {K:Frag} {l:List Nat} {j:Int}:kSl K (.str (st l)) none (some j) H Q=(l.length<=100000/\0<=j/\j<=l.length/\Q (.str (st (l.take j.toNat))) H):=rfl
theorem vZ {K:Frag} {l:List Nat} {j:Int}:kSl K (.str (st l)) (some j) none H Q=(l.length<=100000/\0<=j/\j<=l.length/\Q (.str (st (l.drop j.toNat))) H):=rfl
theorem AU {K:Frag} {p:Addr} {lo hi:Option Int}:kSl K (.ref p) lo hi H Q=∃ xs,SqL K H p xs/\∀ q,H q=none->Q (.ref q) (upd H q (.lst (cutV xs lo hi))):=rfl
theorem BM {r:V->Option Int->Option Int->Hp->VK->Prop} {tl th:TO}:tSl r te tl th σ H Q=te σ H fun x H1=>tl σ H1 fun l H2=>th σ H2 fun u H3=>r x l u H3 Q:=rfl
theorem vK {Q:Option Int->Hp->Prop}:tNoPart σ H Q=Q none H:=rfl
noncomputable def cPart (t:TE):TO:=fun σ H Q=>t σ H fun x H1=>match x with | .int i=>Q (some i) H1 | _=>False
theorem zb {Q:Option Int->Hp->Prop}:cPart te σ H Q=te σ H fun x H1=>match x with | .int i=>Q (some i) H1 | _=>False:=rfl
theorem Bu:cNeg ta σ H Q=ta σ H fun x H1=>match x with | .int i=>Q (.int (-i)) H1 | _=>False:=rfl
theorem xO {K:Frag} {a b:Addr}:kEqNil K (.ref a) (.ref b) H Q=∃ xs,SqL K H a xs/\SqL K H b []/\Q (.bl (decide (xs=[]))) H:=rfl
theorem Bt {n:Ty}:cIsI n ta σ H Q=ta σ H fun x H1=>match x with
 | .non=>Q (.bl false) H1
 | .bl _=>Q (.bl n.isBl) H1
 | .int _=>Q (.bl n.isInt) H1
 | .str _=>Q (.bl n.isStr) H1
 | .ref p=>((∃ xs,H1 p=some (.lst xs))/\Q (.bl n.isLst) H1)\/((∃ xs,H1 p=some (.tup xs))/\Q (.bl n.isTup) H1)
 | _=>False:=rfl
theorem zG:cTest te σ H R=te σ H (blK R):=rfl
theorem BU {b:Bool}:blK R (.bl b) H=R b H:=rfl
theorem zx:cAndV ta tb σ H Q=ta σ H (blK fun c H1=>if c=true then tb σ H1 Q else Q (.bl false) H1):=rfl
theorem Bm {t u:TT}:tAnd t u σ H R=t σ H fun c H1=>if c=true then u σ H1 R else R false H1:=rfl
theorem BN {t u:TT}:tOr t u σ H R=t σ H fun c H1=>if c=true then R true H1 else u σ H1 R:=rfl
theorem Bd {t:TT}:tNot t σ H R=t σ H fun c H1=>R (!c) H1:=rfl
theorem Bq:tYes σ H R=R true H:=rfl
theorem AW:cApp ta te σ H Q=ta σ H fun x H1=>match x with
 | .ref l=>(∃ xs,H1 l=some (.lst xs))/\te σ H1 fun y H2=>∃ xs,H2 l=some (.lst xs)/\xs.length < sizeLine/\Q .non (upd H2 l (.lst (xs++[y])))
 | _=>False:=rfl
theorem x6 {K:Frag}:cJoin1 K te σ H Q=te σ H fun x H1=>match x with
 | .ref l=>∃ cs:List Nat,SqL K H1 l (cs.map fun k=>V.str (st [k]))/\cs.length<=10000/\Q (.str (st cs)) H1
 | _=>False:=rfl
theorem Bw {R:List V->Hp->Prop}:tNil σ H R=R [] H:=rfl
theorem zS {t:TA} {R:List V->Hp->Prop}:tCons ta t σ H R=ta σ H fun x H1=>t σ H1 fun xs H2=>R (x::xs) H2:=rfl
theorem yO {sp:Sp} {E:XK} {t:TA}:tCall sp [] E t σ H Q=t σ H fun vs H1=>sp vs H1 Q E:=by
 unfold tCall;simp only [List.append_nil]
theorem BJ {r:List V->Hp->VK->Prop} {t:TA}:tCB r t σ H Q=t σ H fun vs H1=>r vs H1 Q:=rfl
theorem Ar {t:TA}:tLst t σ H Q=t σ H fun xs H1=>xs.length<=sizeLine/\∀ p,H1 p=none->Q (.ref p) (upd H1 p (.lst xs)):=rfl
theorem AY {t:TA}:tTup t σ H Q=t σ H fun xs H1=>xs.length<=sizeLine/\∀ p,H1 p=none->Q (.ref p) (upd H1 p (.tup xs)):=rfl
theorem zy:tNext D σ H=D.nx σ H:=rfl
theorem An:tSeq t u D σ H=t { D with nx:=u D } σ H:=rfl
theorem y0:tDrop te D σ H=te σ H fun _ H1=>D.nx σ H1:=rfl
theorem A8:tRet te D σ H=te σ H D.rt:=rfl
theorem yD:tRetN D σ H=D.rt .non H:=rfl
theorem Bk:tIfS tc t u D σ H=tc σ H fun b H1=>if b=true then t D σ H1 else u D σ H1:=rfl
theorem Au {g:TG}:tAsg te g D σ H=te σ H fun x H1=>g x σ H1 D.nx:=rfl
theorem ze {R:St->Hp->Prop}:gName i v σ H R=R (σ.set i (some v)) H:=rfl
theorem zt:tJoin t u D σ H=∃ J:St->Hp->Prop,t { D with nx:=J } σ H/\∀ σ' H',J σ' H'->u D σ' H':=rfl
theorem AJ {wi:TI} {g:TG}:cFor wi g t D σ H=wi σ H fun J H1=>loopW J g t D σ H1:=rfl
theorem yP {K:Frag} {R:It->Hp->Prop}:cIter K te σ H R=te σ H fun x H1=>match x with
 | .str z=>R (Its z) H1
 | .ref a=>((∃ xs,SqL K H1 a xs)/\R (Itl K a) H1)\/((∃ xs,SqT K H1 a xs)/\R (Itt K a) H1)
 | _=>False:=rfl
theorem zT {R:It->Hp->Prop}:cRng1 te σ H R=te σ H fun x H1=>match x with
 | .int j=>-1000000<=j/\j<=1000000/\R (Itr 0 j.toNat) H1
 | _=>False:=rfl
theorem yS {K:Frag} {z:Str} {R:Src->Prop}:srcK K H (.str z) R=R (.str z):=rfl
theorem zw {K:Frag} {p:Addr} {R:Src->Prop}:srcK K H (.ref p) R=((∃ xs,SqL K H p xs)/\R (.lst p)):=rfl
theorem yA {nt:Nat} {fi:List Nat} {wi:TI} {g:TG}:cComp nt fi wi g tc te σ H Q=wi σ H fun J H1=>∀ D,H1 D=none->compW J g tc te (compσ nt fi σ) D Q H1:=rfl
end
theorem BR {CX:CXT} {P:Program} {w:World} {K:Frag} {mg:Str->Option Value} {base:Heap} {N:List Str} {qual:Str} {scope:Scope} {f:Addr} {cd:Value} {A:Around} {outer:List Env} {s:Shared} {H:Hp} {E:XK}:(cxOf CX P w K mg base N qual scope f cd A outer s H E).K=K:=rfl
theorem AD {X:Cx} {scope:Scope} {cl:List (Str × Addr)} {N':List Str} {C:Addr} {s:Shared} {H:Hp} {ex:List Addr}:(cxC X scope cl N' C s H ex).K=X.K:=rfl
theorem BS {a b:Nat}:(([a]:List Nat)=[b])=(a=b):=by simp
theorem fu {X:Cx} {e:Expr} {te:TE} (h:PE X e te):PO X (some e) (cPart te):=fun pins s σ H Q I q=>zr h.mono pins s σ H Q I ⟨_,q,fun v H1 z=>by
 split at z
 ·exact ⟨_,rfl,z⟩
 ·exact z.elim⟩
end L2
namespace Mir
open PySem L2
noncomputable def cell (ns:List Int) (k:Nat):Int:=(ns[k]?).getD 0
noncomputable def num (c:Int):Nat->Int
 | 0=>c % 2147483647+1
 | i+1=>(num c i*48271+7*(i:Int)*(i:Int)+3) % 2147483647
noncomputable def stream (c:Int) (n:Nat):List Int:=(List.range n).map fun i=>num c (i+1) / 16
noncomputable def bit (m:Int):Nat:=if m % 2=0 then 48 else 49
noncomputable def rowSign (l e:Int):Nat:=if e % l > 0 then 45 else bit (e / 64)
noncomputable def row (c:Int) (w:Nat) (l:Int):List Nat:=(stream c w).map (rowSign l)
noncomputable def within (one other:List Nat):Bool:=(one.zip other).all fun p=>p.2 == 45 || p.2 == p.1
end Mir
namespace L2
open PySem PySem.Spec PyProof.Rows
theorem z_pos {K:Params->Frag} {as:List Addr} {n t:Nat} {w:World} {s:Shared} (y:PySem.W.X.obsZ as s=PySem.W.X.valZ K n t w) (e:∀ P,as=(K P).map (·.1)) (ht:0 < t):(K w.params).In s.heap/\0 < s.toks:=by
 obtain ⟨_,h,_,q⟩:=PySem.W.X.z_facts e y;exact ⟨h,by rw [q]; exact ht⟩
section
variable {prog:Program} {w:World} {A:Around} {E:Value->Shared->Prop} {s:Shared}
theorem IsList.extBut' {h h':Heap} {a l:Addr} {items:Array Value} (hl:h.IsList l items) (he:Heap.ExtBut a h h') (hne:l≠a):h'.IsList l items:=by
 obtain ⟨o,ho,r⟩:=hl;exact ⟨o,he l o hne ho,r⟩
theorem sL {it t:Addr} {items:Array Value} (apart:t≠it):∀ (mid front back:List Value) (s:Shared) (Q:List Value->Shared->Prop),items.toList=front++(mid++back)->s.heap.IsListIter it t front.length->s.heap.IsList t items ->
  (∀ g:Heap,g.IsListIter it t (front.length+mid.length)->Heap.SameBut it s.heap g->Q mid { s with heap:=g })->wpAny (model prog w) A (draw (.ref it) mid.length) Q E s
 | [],front,_,s,Q,_,at0,_,k=>wpAny_pure (k s.heap at0 (Heap.SameBut.refl ..))
 | x::mid,front,back,s,Q,e,at0,il,k=>by
  have here:items[front.length]? = some x:=by
   rw [<- Array.getElem?_toList,e,List.getElem?_append_right (Nat.le_refl _),Nat.sub_self];rfl
  refine wpAny_bind (m:=pyNext (.ref it)) (wpAny_pyNext_list_item at0 il here fun g1 at1 t1=>?_);refine wpAny_bind (wpAny_holding (sL apart mid (front++[x]) back _ _ (by rw [e]; simp) (by rw [List.length_append]; exact at1) (IsList.extBut' il t1.extBut apart) fun g2 at2 t2=>wpAny_pure (k g2 ?_ (t1.trans t2))));have sum:(front++[x]).length+mid.length=front.length+(x::mid).length:=by
   simp only [List.length_append,List.length_cons,List.length_nil];omega
  rw [sum] at at2;exact at2
theorem mV {t:Addr} {items:Array Value} {Q:List Value->Shared->Prop} (hh:A.handled=none) (ht:s.heap.IsList t items)
  (k:∀ g,Heap.ExtBut s.heap.objs.size s.heap g->Q items.toList { s with heap:=g }):wpAny (model prog w) A (unpackItems (.ref t) items.size none) Q E s:=by
 have below:t≠s.heap.objs.size:=Nat.ne_of_lt (let ⟨_,q,_⟩:=ht; Heap.lt_size q);have still:(s.heap.push { cls:=.type "list_iterator",data:=.fields #[.ref t,.int 0 0] }).IsList t items:=let ⟨o,q,r⟩:=ht; ⟨o,Heap.get?_push_of_some _ q,r⟩
 unfold unpackItems notIterableAtAll;refine wpAny_bind (wpAny_bind (wpAny_specialOf ht.typeIs slot_list_iter.lookup (wpAny_pure ?_)));rw [if_neg (by decide)];refine wpAny_bind (wpAny_holding (wpAny_pyIter_list ht ?_));have whole:=sL (prog:=prog) (w:=w) (A:=A) (E:=E) (items:=items) below items.toList [] [] { s with heap:=s.heap.push { cls:=.type "list_iterator",data:=.fields #[.ref t,.int 0 0] } };rw [Array.length_toList] at whole;refine wpAny_bind (wpAny_holding (whole _ (by simp) ⟨_,Heap.get?_push_size _ rfl,rfl,rfl⟩ still fun g1 at1 t1=>?_));rw [if_neg (by simp)];refine wpAny_bind (wpAny_holding (wpAny_pyNext_list_end hh at1 (IsList.extBut' still t1.extBut below) (by simp) fun g2 t2=>?_));rw [if_neg (by simp)];exact wpAny_pure (k g2 fun b o nb q=>t2 b o nb (t1.extBut b o nb (Heap.get?_push_of_some _ q)))
theorem lX {env:Env} {elts:List Expr} {x1} {pos:Pos} {t:Addr} {items:Array Value} {Q:Unit->Shared->Prop} (hh:A.handled=none) (ht:s.heap.IsList t items)
  (hn:(assignEach elts env).length=items.size) (hstar:(assignEach elts env).findIdx? (·.1)=none)
  (h:∀ h',Heap.ExtBut s.heap.objs.size s.heap h'->wpAny (model prog w) A (assignInOrder ((assignEach elts env).map (·.2)) items.toList) Q E { s with heap:=h' }):
  wpAny (model prog w) A (assign (.Tuple elts x1 pos) env (.ref t)) Q E s:=by
 rw [assign_Tuple];refine wpAny_bind (wpAny_standAt ?_);unfold unpack;rw [hn,hstar];exact wpAny_bind (wpAny_holding (mV hh ht h))
end
section
variable {X:Cx} {pos:Pos}
noncomputable def gSeq (K:Frag) (n:Nat) (t:TGs):TG:=fun v σ H Q=>match v with
 | .ref a=>∃ xs,(SqL K H a xs\/SqT K H a xs)/\xs.length=n/\t xs σ H Q
 | _=>False
theorem seqE (K:Frag) (hK:X.K=K) {es:List Expr} {k:Nat} {t:TGs} {n:Nat} (hc:X.calm=true) (h:PGs X es t)
  (hn:(assignEach es X.env).length=n:=by rfl) (hst:(assignEach es X.env).findIdx? (·.1)=none:=by rfl):PG X (.Tuple es k pos) (gSeq K n t):=by
 subst hK;intro pins s σ H v u Q I r hw;unfold gSeq at hw;split at hw
 ·rename_i a;obtain ⟨xs,hq,hl,hw⟩:=hw;rcases hq with hq | hq
  ·cases r;obtain ⟨its,rv,ht,hz⟩:=I.list hq;refine lX (I.ok.hd hc) ht.isList (by simp [hn,<- hl,rv.length]) hst fun h' hx=>?_
   have I1:Inv X pins σ H { s with heap:=h' }:=I.kept (t':=s.toks) fun b o e=>hx b o (Nat.ne_of_lt (Heap.lt_size e)) e
   exact h pins _ σ H xs _ Q I1 (by simpa using rv) hw
  ·exact xQ hc h hn hst pins s σ H _ u Q I r ⟨_,xs,rfl,hq,hl,hw⟩
 ·exact hw.elim
end
section
variable {t:TG} {u:TGs} {σ:St} {H:Hp} {Q:St->Hp->Prop} {v:V} {r:List V} {K:Frag} {n:Nat} {p:Addr}
theorem yG:gCons t u (v::r) σ H Q=t v σ H fun σ' H'=>u r σ' H' Q:=by
 refine propext ⟨?_,fun h=>⟨v,r,rfl,h⟩⟩;rintro ⟨v',r',e,h⟩;cases e;exact h
theorem Be:gNil [] σ H Q=Q σ H:=propext ⟨fun h=>h.2,fun h=>⟨rfl,h⟩⟩
theorem AB:gSeq K n u (.ref p) σ H Q=∃ xs,(SqL K H p xs\/SqT K H p xs)/\xs.length=n/\u xs σ H Q:=rfl
end
noncomputable def rep (c d:Nat) (l:List Nat):List Nat:=l.map fun k=>if k=c then d else k
section
variable {X:Cx} {o e:Expr} {to te:TE} {apos cpos p1 p2:Pos} {j1 j2:Nat}
noncomputable def kList (K:Frag):List V->Hp->VK->Prop:=fun xs H Q=>match xs with
 | [.str z]=>z.cps.toList.length<=100000/\∀ p,H p=none->Q (.ref p) (upd H p (.lst (z.cps.toList.map fun c=>V.str (st [c]))))
 | [.ref a]=>∃ ys,(SqL K H a ys\/SqT K H a ys)/\∀ p,H p=none->Q (.ref p) (upd H p (.lst ys))
 | _=>False
theorem uf {x:Str} {acc:Array Value} (h:ItemsOf (SignAt x) acc x.cps.size):Vals (x.cps.toList.map fun c=>V.str (st [c])) acc.toList:=by
 obtain ⟨hs,hi⟩:=h;have key:∀ (l:List Nat) (us:List Value),l.length=us.length->(∀ (j:Nat) (v:Value),us[j]? = some v->∃ (c:Nat) (u:Tok),l[j]? = some c/\v=Value.str ⟨#[c]⟩ u)->Vals (l.map fun c=>V.str (st [c])) us:=by
  intro l
  induction l with
  | nil=>
   intro us hl _;cases us with
   | nil=>exact .nil
   | cons=>cases hl
  | cons a l ih=>
   intro us hl hq;cases us with
   | nil=>cases hl
   | cons v us=>
    obtain ⟨c,u,e,rfl⟩:=hq 0 v rfl;cases e;exact .cons ⟨u,rfl⟩ (ih us (by simpa using hl) fun j w hj=>hq (j+1) w hj)
 refine key _ _ (by simp [hs]) fun j v hj=>?_
 obtain ⟨c,u,e,rfl⟩:=hi j v (by simpa using hj);exact ⟨c,u,by simpa using e,rfl⟩
theorem uB (K:Frag) (hK:X.K=K) (hc:X.calm=true):CallR X (.type "list") (kList K):=by
 subst hK;intro pins s σ H xs us Q I r q;unfold kList at q;split at q
 ·obtain ⟨hl,q⟩:=q;rename_i z;obtain ⟨u,rfl,t,rfl⟩:=vals1 r;have hz:z.cps.size<=sizeLine:=by
   have:=big5;simp only [Array.length_toList] at hl;omega
  refine tokQ I.tk (call_list_str (I.ok.hd hc) z t (fun h' tk acc c' kp ho hi (htk:0 < tk)=>?_) hz);refine ⟨.ref s.heap.objs.size,_,I.laid (a:=s.heap.objs.size) (o:=.lst (z.cps.toList.map fun c=>V.str (st [c]))) kp (Nat.le_refl _) ⟨?_,acc.toList,c',uf hi,by simpa using ho⟩,rfl,q _ I.fresh⟩;rw [List.length_map];simpa using hz
 ·obtain ⟨ys,h,q⟩:=q;exact rS pins s σ H _ us Q I r ⟨_,ys,rfl,h,q⟩
 ·exact q.elim
theorem yc {K:Frag} {l:List Nat} {H:Hp} {Q:VK}:kList K [.str (st l)] H Q=(l.length<=100000/\∀ p,H p=none->Q (.ref p) (upd H p (.lst (l.map fun c=>V.str (st [c]))))):=rfl
theorem xv {K:Frag} {a:Addr} {H:Hp} {Q:VK}:kList K [.ref a] H Q=∃ ys,(SqL K H a ys\/SqT K H a ys)/\∀ p,H p=none->Q (.ref p) (upd H p (.lst ys)):=rfl
end
section
variable {X:Cx} {a:Expr} {ta:TE} {p pos:Pos}
end
section
variable {X:Cx}
noncomputable def kSum (K:Frag):List V->Hp->VK->Prop:=fun xs H Q=>match xs with
 | [.ref p]=>∃ ns:List Int,SqL K H p (ns.map V.int)/\Q (.int ns.sum) H
 | _=>False
theorem qC (K:Frag) (hK:X.K=K) (hc:X.calm=true):CallR X (.builtin "sum") (kSum K):=by
 subst hK;intro pins s σ H xs us Q I r q;unfold kSum at q;split at q
 ·obtain ⟨ns,hq,q⟩:=q;obtain ⟨u,rfl,ru⟩:=vals1 r;cases ru;obtain ⟨its,rv,pl,_⟩:=I.list hq;have hi:=pD rv;obtain ⟨xs,e⟩:=hi.allInts.items;have hn:=hi.numsOf;refine tokQ I.tk (sum_intListG (I.ok.hd hc) (xs:=xs) (by rw [<- e]; exact pl.isList) fun h' tk t' kp (htk:0 < tk)=>?_);have e2:preSum (numAt xs) xs.size=ns.sum:=by
   rw [preSum_eq,List.take_of_length_le (by simp),<- nums_intItems,<- e];show (numsOf its).sum=ns.sum;rw [hn]
  rw [e2];exact ⟨.int ns.sum,H,I.kept kp,⟨_,rfl⟩,q⟩
 ·exact q.elim
theorem At {K:Frag} {p:Addr} {H:Hp} {Q:VK}:kSum K [.ref p] H Q=∃ ns:List Int,SqL K H p (ns.map V.int)/\Q (.int ns.sum) H:=rfl
end
theorem ue (t:SetTable) (es:Array (Int × Value)) (h:Int) (x:Value):(layNew t es h x).2.1.led=t.led/\(t.plain=false->(layNew t es h x).2.1.plain=false):=by
 unfold layNew;split
 ·rename_i slot wd e;show ((t.put slot).1.orStandIn _).led=_/\(_->((t.put slot).1.orStandIn _).plain=false);unfold SetTable.orStandIn;split
  ·exact ⟨rfl,fun q=>q⟩
  ·exact ⟨rfl,fun _=>rfl⟩
 ·exact ⟨rfl,fun _=>rfl⟩
theorem wZ {mask finger moves:Nat} {led plain:Bool} {hs:Array Int} {r:SetTable × Array Nat} (h:SetTable.laid mask finger moves led plain hs=some r):r.1.led=led/\r.1.plain=plain:=by
 unfold SetTable.laid at h;cases q:SetTable.layClean mask hs with
 | none=>rw [q] at h; cases h
 | some ow=>
  rw [q] at h;cases h;exact ⟨rfl,rfl⟩
theorem qO (t:SetTable) (es:Array (Int × Value)) (n:Nat):(relayAll t es n).2.1.led=t.led/\(t.plain=false->(relayAll t es n).2.1.plain=false):=by
 unfold relayAll;split
 ·rename_i t' order e;have q:=wZ e;dsimp only;split
  ·exact ⟨q.1,fun z=>q.2.trans z⟩
  ·exact ⟨rfl,fun _=>rfl⟩
 ·exact ⟨rfl,fun _=>rfl⟩
section
variable {prog:Program} {w:World} {A:Around} {E:Value->Shared->Prop} {s:Shared}
noncomputable def addT (ss:List Str) (x:Str):List Str:=if x ∈ ss then ss else ss++[x]
theorem oh {a:Addr} {es es':Array (Int × Value)} {ep:Nat} {t t':SetTable} (ho:s.heap.get? a=some { cls:=.type "set",dict:=none,data:=.set es ep t,slots:=#[] }):
  (s.heap.update a (Obj.putSet es' t')).get? a=some { cls:=.type "set",dict:=none,data:=.set es' (ep+1) t',slots:=#[] }:=
 Heap.get?_update_self (Obj.putSet es' t') ho rfl
end
noncomputable def dd (l:List Str):List Str:=l.foldl addT []
section
variable {prog:Program} {w:World} {A:Around} {R:Result->Shared->Prop} {I:Addr} {fp wr:List Addr} {G:Array GenState->Array GenState->Prop} {n:Nat} {P:Nat->Value->Prop} {St:Nat->Shared->Prop}
end
noncomputable abbrev ledW (w:World):Bool:=!w.params.followText "set-order"
noncomputable abbrev setObj0 (w:World):Obj:={ cls:=.type "set",dict:=none,data:=.set #[] 0 (.fresh 0 0 (ledW w)) }
section
variable {prog:Program} {w:World} {A:Around} {E:Value->Shared->Prop} {s:Shared}
theorem vD (a:Value) {Q:Value->Shared->Prop} (h:Q (.ref s.heap.objs.size) { s with heap:=s.heap.push (setObj0 w) }):
  codeAny (model prog w) A (.call (.builtin "set.__new__") ⟨[.type "set",a],[]⟩) (wants Q E) s:=by
 refine codeAny_of_tree ?_;show wpAny _ A.in1 (checkBuiltinCall "set.__new__" ⟨[.type "set",a],[]⟩>>=fun _=>again (.builtin "set.__new__" ⟨[.type "set",a],[]⟩)) _ _ s;refine wpAny_bind (wpAny_of_eq (PySem.F.newCall_set_1 a) (wpAny_pure ⟨plainId_quiet PySem.F.plain_set_new _,codeAny_builtin PySem.F.entry_set_new ?_⟩));rw [Around.under_plainId PySem.F.plain_set_new _];unfold Builtin.«set.__new__» Builtin.Frozenset.newClass;have sb:=sub_set_self;obtain ⟨hp,g,d,tk,os⟩:=s;dsimp only
 wp_walk
 refine wpAny_askSetting (wpAny_pure ?_);dsimp only;simp only [newObj];exact wpAny_bind (wpAny_alloc (wpAny_pure (wpAny_pure h)))
theorem p9 {v:Value} {Q:Value->Shared->Prop}
  (h:∀ A₁:Around,A₁.handled=A.handled->codeAny (model prog w) A₁ (.call (.builtin "set.__new__") ⟨[.type "set",v],[]⟩)
   (wants (fun made s₁=>(∃ b,made=.ref b)/\s₁.TypeIs made "set" /\ ∀ A₂:Around,A₂.handled=A.handled->codeAny (model prog w) A₂ (.call (.builtin "set.__init__") ⟨[made,v],[]⟩) (wants (fun r s₂=>r=.none/\Q made s₂) E) s₁) E) s):
  wpAny (model prog w) A (call (.type "set") [v]) Q E s:=by
 have C:=PySem.F.called_set;obtain ⟨_,_,hmro⟩:=C.mro;have k1:=C.made;have k2:=C.sub;have k3:=C.notType;have k4:=C.canCreate;have k5:=PySem.F.typeCall_set_1 v;apply wpAny_call;apply codeAny_of_tree;change wpAny _ _ (callAny (.type "set") _) _ _ _;apply wpAny_pure;refine ⟨Code.quiet_builtin _ (by decide +kernel),?_⟩;apply codeAny_builtin PySem.F.entry_type_call;rw [Around.under_plain (weight_type_call_type "set" [v] []) rfl]
 repeat (any_goals (first | assumption | wp_step))
 refine codeAny_mono (h A.in1 rfl) ?_;intro r₁ s₁ g₁
 match r₁,g₁ with
 | .error _,g₁=>exact g₁
 | .ok (.ret made),⟨⟨b,eb⟩,hT,g⟩=>
  subst eb;have k6:=C.init.lookup;have k7:=C.init.bind (.ref b)
  repeat (any_goals (first | assumption | wp_step))
  refine codeAny_mono (g A.in1 rfl) ?_;intro r₂ s₂ g₂
  match r₂,g₂ with
  | .error _,g₂=>exact g₂
  | .ok (.ret _),⟨e,q⟩=>
   subst e
   repeat (any_goals (first | assumption | wp_step))
end
theorem dH:Slot "set_iterator" "__next__" "set_iterator.__next__":=
 .of (owner := "set_iterator") (n := "__next__") (by rw [typeLookup_type,builtinLookup_eq_fast]; kernel_rfl) (by decide +kernel) (by decide +kernel) (by decide +kernel) (by first | exact .inl (by decide +kernel) | exact .inr (by decide +kernel)) (by rw [isSubtype_type]; kernel_rfl)
theorem mM:entryFor table "set_iterator.__next__" = some Builtin.«set_iterator.__next__»:=entryFor_of_tree (by kernel_rfl)
theorem nR (a:Value):argsOk "set_iterator.__next__" ⟨[a],[]⟩:=by unfold argsOk; kernel_rfl
theorem jV:Slot "set_iterator" "__iter__" "set_iterator.__iter__":=
 .of (owner := "set_iterator") (n := "__iter__") (by rw [typeLookup_type,builtinLookup_eq_fast]; kernel_rfl) (by decide +kernel) (by decide +kernel) (by decide +kernel) (by first | exact .inl (by decide +kernel) | exact .inr (by decide +kernel)) (by rw [isSubtype_type]; kernel_rfl)
theorem oP:entryFor table "set.__iter__" = some Builtin.«frozenset.__iter__»:=
 entryFor_alias (id' := "frozenset.__iter__") (by kernel_rfl) rfl (by decide +kernel) (by kernel_rfl)
theorem gT {α:Type}:∀ {l:List α} {i:Nat} (hi:i < l.length),(l[i]::l.eraseIdx i).Perm l
 | _::_,0,_=>List.Perm.refl _
 | x::l,i+1,hi=>by
  have:=gT (l:=l) (i:=i) (Nat.lt_of_succ_lt_succ hi);simp only [List.getElem_cons_succ,List.eraseIdx_cons_succ];exact (List.Perm.swap x _ _).trans (List.Perm.cons x this)
section
variable {M:Model} {A:Around} {E:Value->Shared->Prop}
theorem uu {src:Source} {n:Nat} {s:Shared} {Q:Nat->Shared->Prop} (hn:n≠0) (h:∀ i d,i < n->Q i { s with drawn:=d }):wpAny M A (choose src n) Q E s:=fun Γ p _=>by
 unfold choose;rw [Sem.wp_choose];exact ⟨hn,h _ _ (Nat.mod_lt _ (Nat.pos_of_ne_zero hn))⟩
theorem tN {α:Type}:∀ (n:Nat) (xs:List α) (s:Shared) (Q:List α -> Shared->Prop),xs.length=n->(∀ ys d,ys.Perm xs->Q ys { s with drawn:=d })->wpAny M A (drawOrder n xs) Q E s:=by
 intro n
 induction n with
 | zero=>
  intro xs s Q hl h;rw [List.length_eq_zero_iff] at hl;subst hl;exact wpAny_pure (h [] s.drawn (List.Perm.refl _))
 | succ n ih=>
  intro xs s Q hl h;obtain ⟨x,xs,rfl⟩:=List.exists_cons_of_length_eq_add_one hl;unfold drawOrder;refine wpAny_bind (uu (by simp) fun i d hi=>?_);have hg:(x::xs)[i]? = some (x::xs)[i]:=List.getElem?_eq_getElem hi;rw [hg];refine wpAny_bind (ih _ _ _ ?_ fun ys d' hp=>wpAny_pure (h _ d' ?_))
  ·rw [List.length_eraseIdx_of_lt hi];simpa using hl
  ·exact (List.Perm.cons _ hp).trans (gT hi)
end
theorem uP {α:Type} (f:Nat->Nat):∀ (n k:Nat) (l:List α) (out:Array α),l.length=n->(pickOrder.go f n k l out).toList.Perm (out.toList++l)
 | 0,_,[],out,_=>by simp [pickOrder.go]
 | n+1,k,x::l,out,hl=>by
  unfold pickOrder.go;have hi:f k % (x::l).length < (x::l).length:=Nat.mod_lt _ (by simp);rw [List.getElem?_eq_getElem hi];refine (uP f n (k+1) _ _ ?_).trans ?_
  ·rw [List.length_eraseIdx_of_lt hi];simpa using hl
  ·rw [Array.toList_push,List.append_assoc];exact List.Perm.append_left _ (gT hi)
theorem mQ {α:Type} (f:Nat->Nat) (xs:Array α):(pickOrder f xs).toList.Perm xs.toList:=by
 unfold pickOrder;exact (uP f xs.size 0 xs.toList #[] (by simp)).trans (by simp)
section
variable {prog:Program} {w:World} {A:Around} {E:Value->Shared->Prop} {s:Shared}
theorem lx {α:Type} {Q:α -> Shared->Prop} (hh:A.handled=none)
  (h:∀ h' e,(∀ b o,s.heap.get? b=some o->h'.get? b=some o)->(∃ o,h'.get? e=some o/\o.cls=.type "StopIteration")->E (.ref e) { s with heap:=h' }):
  wpAny (model prog w) A (newExc (.type "StopIteration") []>>=fun e=>(raiseNew e:Sem α)) Q E s:=by
 refine wpAny_bind ?_;simp only [newExc,newTuple];refine wpAny_bind (wpAny_newObj_type ?_ (by size_fits));refine wpAny_bind (m:=firstArgMember _ _) (wpAny_of_eq (a:=Value.none) (by first | rfl | (simp only [firstArgMember]; rfl)) ?_);refine wpAny_newObj_type ?_ (by size_fits);simp only [raiseNew];refine wpAny_bind (wpAny_handled ?_);rw [hh];exact wpAny_bind (wpAny_pure (wpAny_throw (h _ _ (fun b o e=>Heap.get?_push_of_some _ (Heap.get?_push_of_some _ e)) ⟨_,Heap.get?_push_size _ rfl,rfl⟩)))
noncomputable abbrev itObj (first:Value) (i:Nat) (a:Addr) (n ep:Nat):Obj:={ cls:=.type "set_iterator",dict:=none,data:=.fields #[first,.int i 0,.ref a,.int n 0,.int ep 0],slots:=#[] }
noncomputable abbrev setObj (es:Array (Int × Value)) (ep:Nat) (t:SetTable):Obj:={ cls:=.type "set",dict:=none,data:=.set es ep t,slots:=#[] }
theorem jH {it:Addr} {o:Obj} {Q:Option Value->Shared->Prop} (hz:s.heap.get? it=some o) (hc:o.cls=.type "set_iterator")
  (h:wpAny (model prog w) A.in1 (Builtin.«set_iterator.__next__» ⟨[.ref it],[]⟩) (fun fin s'=>∃ v,fin=.done (.ret v)/\Q (some v) s')
   (fun e s'=>∃ a,e=.ref a/\(∃ o,s'.heap.get? a=some o/\o.cls=.type "StopIteration")/\Q none s') s):wpAny (model prog w) A (pyNext (.ref it)) Q E s:=by
 have hT:s.TypeIs (.ref it) "set_iterator" := ⟨_,hz,hc⟩;unfold pyNext;refine wpAny_bind (wpAny_attempt (wpAny_callSpecial?_slot (name:=Str.ofString "__next__") hT dH
  (wpAny_call_entry dH hT mM (wpAny_mono h (fun fin s' ⟨v,e,q⟩=>⟨v,e,wpAny_pure q⟩) fun e s' he=>?_) (nR _))))
 obtain ⟨a,rfl,⟨o,ho,hc⟩,q⟩:=he;exact wpAny_bind (wpAny_isInstance (T := "StopIteration") (b:=true) ⟨o,ho,hc⟩ isSubtype_stop (wpAny_pure q))
end
section
variable {prog:Program} {w:World} {A:Around} {E:Value->Shared->Prop} {s:Shared} {it a:Addr} {es:Array (Int × Value)} {n ep i:Nat} {t:SetTable}
theorem kW {slot nx:Nat} {x:Value} {Q:Option Value->Shared->Prop} (hit:s.heap.get? it=some (itObj (.int slot 0) i a n ep)) (ha:s.heap.get? a=some (setObj es ep t)) (hf:t.fits es.size=true) (hz:es.size=n)
  (hn:∀ (E':Value->Shared->Prop) (Q':Option (Value × Nat)->Shared->Prop),Q' (some (x,nx)) s->wpAny (model prog w) A.in1 (setNext a slot i ep) Q' E' s)
  (hQ:∀ h',h'.get? it=some (itObj (.int nx 0) (i+1) a n ep)->Heap.SameBut it s.heap h'->Q (some x) { s with heap:=h' }):wpAny (model prog w) A (pyNext (.ref it)) Q E s:=by
 refine jH hit rfl ?_;unfold Builtin.«set_iterator.__next__» slotArgs;simp -iota only [List.isEmpty_nil,Bool.not_true,Bool.false_eq_true,↓reduceIte,bind_assoc,List.length_nil,bne_self_eq_false];refine wpAny_bind (wpAny_pure ?_);dsimp only;refine wpAny_bind (wpAny_fieldsOf hit rfl ?_);dsimp only;refine wpAny_bind (wpAny_setEntries_of ha rfl hf ?_);rw [show ((es.size:Int) != (n:Int))=false by simp [hz]];simp -iota only [Bool.false_eq_true,↓reduceIte];refine wpAny_bind (hn _ _ ?_);dsimp only;refine wpAny_bind (wpAny_setField_rec hit (by simp) fun h1 g1 s1=>?_);refine wpAny_bind (wpAny_setField_rec (s:={ s with heap:=h1 }) g1 (by simp) fun h2 g2 s2=>?_);refine wpAny_pure ⟨x,rfl,hQ h2 ?_ (s1.trans s2)⟩;rw [g2];simp [rawInt]
theorem mf {slot:Nat} {Q:Option Value->Shared->Prop} (hh:A.handled=none) (hit:s.heap.get? it=some (itObj (.int slot 0) i a n ep)) (ha:s.heap.get? a=some (setObj es ep t)) (hf:t.fits es.size=true) (hz:es.size=n)
  (hn:∀ (E':Value->Shared->Prop) (Q':Option (Value × Nat)->Shared->Prop),Q' none s->wpAny (model prog w) A.in1 (setNext a slot i ep) Q' E' s)
  (hQ:∀ h',Heap.ExtBut it s.heap h'->Q none { s with heap:=h' }):wpAny (model prog w) A (pyNext (.ref it)) Q E s:=by
 refine jH hit rfl ?_;unfold Builtin.«set_iterator.__next__» slotArgs;simp -iota only [List.isEmpty_nil,Bool.not_true,Bool.false_eq_true,↓reduceIte,bind_assoc,List.length_nil,bne_self_eq_false];refine wpAny_bind (wpAny_pure ?_);dsimp only;refine wpAny_bind (wpAny_fieldsOf hit rfl ?_);dsimp only;refine wpAny_bind (wpAny_setEntries_of ha rfl hf ?_);rw [show ((es.size:Int) != (n:Int))=false by simp [hz]];simp -iota only [Bool.false_eq_true,↓reduceIte];refine wpAny_bind (hn _ _ ?_);dsimp only;refine wpAny_bind (wpAny_setField_rec hit (by simp) fun h1 g1 s1=>?_);exact lx (A:=A.in1) (s:={ s with heap:=h1 }) hh fun h2 e k c=>⟨e,rfl,c,hQ h2 fun b o nb q=>k b o (s1.extBut b o nb q)⟩
theorem qk {T:Addr} {ps:Array Value} {p:Nat} {x:Value} {Q:Option Value->Shared->Prop} (hit:s.heap.get? it=some (itObj (.ref T) i a n ep)) (ha:s.heap.get? a=some (setObj es ep t)) (hf:t.fits es.size=true) (hz:es.size=n)
  (hT:s.heap.get? T=some (seqObj "tuple" ps 0)) (hp:ps[i]? = some (.int p 0)) (hx:es[p]?.map (·.2)=some x)
  (hQ:∀ h',h'.get? it=some (itObj (.ref T) (i+1) a n ep)->Heap.SameBut it s.heap h'->Q (some x) { s with heap:=h' }):wpAny (model prog w) A (pyNext (.ref it)) Q E s:=by
 refine jH hit rfl ?_;unfold Builtin.«set_iterator.__next__» slotArgs;simp -iota only [List.isEmpty_nil,Bool.not_true,Bool.false_eq_true,↓reduceIte,bind_assoc,List.length_nil,bne_self_eq_false];refine wpAny_bind (wpAny_pure ?_);dsimp only;refine wpAny_bind (wpAny_fieldsOf hit rfl ?_);dsimp only;refine wpAny_bind (wpAny_setEntries_of ha rfl hf ?_);rw [show ((es.size:Int) != (n:Int))=false by simp [hz]];simp -iota only [Bool.false_eq_true,↓reduceIte];refine wpAny_bind (wpAny_seqItems hT rfl ?_);dsimp only;rw [Int.toNat_natCast,hp];dsimp only;refine wpAny_bind ?_;unfold setNextDrawn;refine wpAny_bind (wpAny_setState_of ha rfl hf ?_);dsimp only;rw [Int.toNat_natCast,Int.toNat_natCast];simp only [bne_self_eq_false,Bool.false_eq_true,↓reduceIte];cases he:es[p]? with
 | none=>rw [he] at hx; cases hx
 | some e=>
  rw [he] at hx;obtain ⟨h0,y⟩:=e;cases hx;refine wpAny_pure ?_;refine wpAny_bind (wpAny_setField_rec hit (by simp) fun h1 g1 s1=>?_);refine wpAny_pure ⟨y,rfl,hQ h1 ?_ s1⟩;rw [g1];simp [rawInt]
theorem rk {T:Addr} {ps:Array Value} {Q:Option Value->Shared->Prop} (hh:A.handled=none) (hit:s.heap.get? it=some (itObj (.ref T) i a n ep)) (ha:s.heap.get? a=some (setObj es ep t)) (hf:t.fits es.size=true) (hz:es.size=n)
  (hT:s.heap.get? T=some (seqObj "tuple" ps 0)) (hp:ps[i]? = none)
  (hQ:∀ h',Heap.ExtBut it s.heap h'->Q none { s with heap:=h' }):wpAny (model prog w) A (pyNext (.ref it)) Q E s:=by
 refine jH hit rfl ?_;unfold Builtin.«set_iterator.__next__» slotArgs;simp -iota only [List.isEmpty_nil,Bool.not_true,Bool.false_eq_true,↓reduceIte,bind_assoc,List.length_nil,bne_self_eq_false];refine wpAny_bind (wpAny_pure ?_);dsimp only;refine wpAny_bind (wpAny_fieldsOf hit rfl ?_);dsimp only;refine wpAny_bind (wpAny_setEntries_of ha rfl hf ?_);rw [show ((es.size:Int) != (n:Int))=false by simp [hz]];simp -iota only [Bool.false_eq_true,↓reduceIte];refine wpAny_bind (wpAny_seqItems hT rfl ?_);dsimp only;rw [Int.toNat_natCast,hp];dsimp only;refine wpAny_bind (wpAny_setField_rec hit (by simp) fun h1 g1 s1=>?_);refine wpAny_bind (wpAny_setField_rec (s:={ s with heap:=h1 }) g1 (by simp) fun h2 g2 s2=>?_);exact lx (A:=A.in1) (s:={ s with heap:=h2 }) hh fun h3 e k c=>⟨e,rfl,c,hQ h3 fun b o nb q=>k b o (s2.extBut b o nb (s1.extBut b o nb q))⟩
end
section
variable {prog:Program} {w:World} {A:Around} {E:Value->Shared->Prop} {s:Shared} {it a:Addr} {es:Array (Int × Value)} {n ep i:Nat} {t:SetTable}
theorem oj {Q:Bool->Shared->Prop} (h:Q (w.params.followText "set-order") s):wpAny (model prog w) A setsByText Q E s:=by
 unfold setsByText;exact wpAny_bind (wpAny_askSetting (wpAny_pure h))
theorem lS {slot:Nat} {Q:Option (Value × Nat)->Shared->Prop} (hb:w.params.followText "set-order" = true) (ha:s.heap.get? a=some (setObj es ep t)) (hf:t.fits es.size=true)
  (h:Q (((pickOrder (w.params.setOrder a ep) es)[i]?).map fun e=>(e.2,slot)) s):wpAny (model prog w) A (setNext a slot i ep) Q E s:=by
 unfold setNext;refine wpAny_bind (wpAny_setState_of ha rfl hf ?_);dsimp only;refine wpAny_bind (oj ?_);rw [hb,if_pos rfl];simp only [bne_self_eq_false,Bool.false_eq_true,↓reduceIte];unfold setWalk;refine wpAny_bind (wpAny_bind (wpAny_setState_of ha rfl hf ?_));dsimp only;refine wpAny_bind (oj ?_);rw [hb,if_pos rfl];refine wpAny_bind (wpAny_askSetting ?_);exact wpAny_pure (wpAny_pure h)
theorem nj:entryFor table "set_iterator.__iter__" = some Builtin.«dict_keyiterator.__iter__»:=
 entryFor_alias (id' := "dict_keyiterator.__iter__") (by kernel_rfl) rfl (by decide +kernel) (by kernel_rfl)
theorem nY (a:Value):argsOk "set_iterator.__iter__" ⟨[a],[]⟩:=by unfold argsOk; kernel_rfl
theorem lJ {Q:Value->Shared->Prop} (hT:s.TypeIs (.ref it) "set_iterator") (h:Q (.ref it) s):wpAny (model prog w) A (pyIter (.ref it)) Q E s:=by
 refine wpAny_pyIter_slot hT jV (wpAny_call_entry jV hT nj ?_ (nY _));show wpAny _ _ (ret (.ref it)) _ _ s;exact wpAny_pure ⟨_,rfl, "set_iterator",_,hT,dH.lookup,h⟩
theorem tQ (hh:A.handled=none) (hne:a≠it) (hb:w.params.followText "set-order" = true) (hf:t.fits es.size=true) (hz:es.size=n):
  Walks prog w A it [it,a] [it] n (fun i v=>((pickOrder (w.params.setOrder a ep) es)[i]?).map (·.2)=some v) (fun i h=>h.get? it=some (itObj (.int 0 0) i a n ep)/\h.get? a=some (setObj es ep t)) where
 sub:=fun b hb=>by simp at hb; simp [hb]
 frame:=fun _ _ _ st k=>⟨k it (by simp) _ st.1,k a (by simp) _ st.2⟩
 item:=fun i s Q E hi st hQ=>by
  have hs:(pickOrder (w.params.setOrder a ep) es).size=n:=by
   have:=(mQ (w.params.setOrder a ep) es).length_eq;simpa [hz] using this
  have hg:(pickOrder (w.params.setOrder a ep) es)[i]? = some ((pickOrder (w.params.setOrder a ep) es)[i]'(by omega)):=Array.getElem?_eq_getElem _;refine kW (slot:=0) (nx:=0) (x:=((pickOrder (w.params.setOrder a ep) es)[i]'(by omega)).2) st.1 st.2 hf hz (fun E' Q' q=>lS hb st.2 hf (by rw [hg]; exact q)) fun h' g sb=>?_
  exact hQ _ h' s.toks (by rw [hg]; rfl) ⟨g,sb.extBut _ _ hne st.2⟩ fun b o hb e=>sb.extBut b o (fun z=>hb (by simp [z])) e
 done:=fun s Q E st hQ=>by
  have hs:(pickOrder (w.params.setOrder a ep) es).size=n:=by
   have:=(mQ (w.params.setOrder a ep) es).length_eq;simpa [hz] using this
  have hg:(pickOrder (w.params.setOrder a ep) es)[n]? = none:=Array.getElem?_eq_none (by omega);exact mf (slot:=0) hh st.1 st.2 hf hz (fun E' Q' q=>lS hb st.2 hf (by rw [hg]; exact q)) fun h' k=>hQ h' s.toks fun b o hb e=>k b o (fun z=>hb (by simp [z])) e
 self:=fun i s Q E st hQ=>lJ ⟨_,st.1,rfl⟩ hQ
end
section
variable {prog:Program} {w:World} {A:Around} {E:Value->Shared->Prop} {s:Shared} {it a:Addr} {es:Array (Int × Value)} {n ep i:Nat} {t:SetTable}
theorem wm (hf:t.fits n=true):t.place.size=n:=by
 unfold SetTable.fits at hf;simp only [Bool.and_eq_true,beq_iff_eq] at hf;exact hf.1
noncomputable def atPlaces (es:Array (Int × Value)) (ys:List Nat):List Value:=ys.map fun p=>((es[p]?).map (·.2)).getD .none
theorem tD {T:Addr} {ys:List Nat} (hh:A.handled=none) (hne:a≠it) (hT:T≠it) (hf:t.fits es.size=true) (hz:es.size=n) (hp:ys.Perm (List.range n)):
  Walks prog w A it [it,a,T] [it] n (fun i v=>(atPlaces es ys)[i]? = some v) (fun i h=>h.get? it=some (itObj (.ref T) i a n ep)/\h.get? a=some (setObj es ep t)/\h.get? T=some (seqObj "tuple" (ys.map fun (k:Nat)=>rawInt k).toArray 0)) where
 sub:=fun b hb=>by simp at hb; simp [hb]
 frame:=fun _ _ _ st k=>⟨k it (by simp) _ st.1,k a (by simp) _ st.2.1,k T (by simp) _ st.2.2⟩
 item:=fun i s Q E hi st hQ=>by
  have hlen:ys.length=n:=by have:=hp.length_eq; simpa using this
  have hi':i < ys.length:=by omega
  have hlt:ys[i] < es.size:=by
   have:=hp.mem_iff.mp (List.getElem_mem hi');rw [hz];simpa using this
  have hx:es[ys[i]]?.map (·.2)=some (es[ys[i]].2):=by rw [Array.getElem?_eq_getElem hlt]; rfl
  refine qk (p:=ys[i]) (x:=es[ys[i]].2) st.1 st.2.1 hf hz st.2.2 (by simp [rawInt,hi']) hx fun h' g sb=>?_
  refine hQ _ h' s.toks ?_ ⟨g,sb.extBut _ _ hne st.2.1,sb.extBut _ _ hT st.2.2⟩ fun b o hb e=>sb.extBut b o (fun z=>hb (by simp [z])) e
  unfold atPlaces;rw [List.getElem?_map,List.getElem?_eq_getElem hi'];simp [hlt]
 done:=fun s Q E st hQ=>by
  have hlen:ys.length=n:=by have:=hp.length_eq; simpa using this
  exact rk hh st.1 st.2.1 hf hz st.2.2 (by simp [hlen]) fun h' k=>hQ h' s.toks fun b o hb e=>k b o (fun z=>hb (by simp [z])) e
 self:=fun i s Q E st hQ=>lJ ⟨_,st.1,rfl⟩ hQ
theorem tK (es:Array (Int × Value)):atPlaces es (List.range es.size)=es.toList.map (·.2):=by
 unfold atPlaces;apply List.ext_getElem
 ·simp
 ·intro i h1 h2;have:i < es.size:=by simpa using h1
  simp [this]
end
section
variable {prog:Program} {w:World} {A:Around} {E:Value->Shared->Prop} {s:Shared}
theorem Walks.cast {it:Addr} {fp wr:List Addr} {n m:Nat} {P P':Nat->Value->Prop} {St:Nat->Heap->Prop} (W:Walks prog w A it fp wr n P St) (e:n=m) (hP:∀ i v,P i v ↔ P' i v):Walks prog w A it fp wr m P' St:=by
 obtain rfl:P=P':=funext fun i=>funext fun v=>propext (hP i v)
 subst e;exact W
end
section
variable {prog:Program} {w:World} {A:Around} {E:Value->Shared->Prop} {s:Shared}
theorem xC {r:Addr} {Q:Bool->Shared->Prop} (hT:s.TypeIs (.ref r) "set") (h:Q false s):wpAny (model prog w) A (Builtin.List.listLengthHint (.ref r)) Q E s:=by
 unfold Builtin.List.listLengthHint;refine wpAny_bind (wpAny_specialOf hT PySem.F.slot_set_len.lookup ?_);generalize hid:("set.__len__" : String)=nm
 wp_delta
 rw [show splitId nm=some ("set", "__len__") from by subst hid; decide +kernel];subst hid;refine wpAny_bind (wpAny_isInstance (T := "set") (b:=true) hT (by rw [isSubtype_type]; kernel_rfl) ?_);refine wpAny_ite_split (fun z=>absurd z (by decide)) fun _=>?_
 refine wpAny_ite_split (fun _=>?_) fun z=>absurd (by decide +kernel) z
 exact wpAny_bind (wpAny_typeOf hT (wpAny_pure h))
end
noncomputable def ins (x:List Nat):List (List Nat)->List (List Nat)
 | []=>[x]
 | y::r=>if x=y then y::r else if x < y then x::y::r else y::ins x r
section
variable {prog:Program} {w:World} {A:Around} {E:Value->Shared->Prop} {s:Shared}
end
section
variable {X:Cx}
theorem Inv.drew {pins:List (Addr × Obj)} {σ:St} {H:Hp} {s:Shared} (I:Inv X pins σ H s) (d:Drawn):Inv X pins σ H { s with drawn:=d }:=
 ⟨I.ok,I.os,I.bare,I.base,I.loc,I.cell,I.free,I.freeC,I.pin,I.hok,I.len,I.tk⟩
end
inductive D where
 | f (v:V) | l (xs:List D) | t (xs:List D)
mutual
noncomputable def eqD:D->D->Bool
 | .f x,.f y=>eqV x y
 | .l xs,.l ys=>eqDs xs ys
 | .t xs,.t ys=>eqDs xs ys
 | .f _,.l _=>false
 | .f _,.t _=>false
 | .l _,.f _=>false
 | .l _,.t _=>false
 | .t _,.f _=>false
 | .t _,.l _=>false
noncomputable def eqDs:List D->List D->Bool
 | [],[]=>true
 | x::xs,y::ys=>eqD x y && eqDs xs ys
 | [],_::_=>false
 | _::_,[]=>false
end
noncomputable def Deep (K:Frag) (H:Hp):Nat->V->D->Prop
 | 0,v,d=>d=.f v/\flatV v=true
 | n+1,v,d=>(d=.f v/\flatV v=true)\/(∃ a vs ds,v=.ref a/\d=.l ds/\SqL K H a vs/\Paired (Deep K H n) vs ds)\/(∃ a vs ds,v=.ref a/\d=.t ds/\SqT K H a vs/\Paired (Deep K H n) vs ds)
theorem j4:∀ {xs ys:List D},xs.length≠ys.length->eqDs xs ys=false
 | [],[],h=>absurd rfl h
 | [],_::_,_=>by rw [eqDs]
 | _::_,[],_=>by rw [eqDs]
 | x::xs,y::ys,h=>by
  rw [eqDs,j4 (xs:=xs) (ys:=ys) (fun e=>h (by simp [e])),Bool.and_false]
theorem sk {v:V} (h:flatV v=true):eqV v v=true:=by
 cases v <;> simp_all [flatV,eqV]
section
variable {X:Cx} {pins:List (Addr × Obj)} {σ:St} {H:Hp} {s:Shared}
theorem wg {A:Around} {l:Addr} {items:Array Value} {y:V} {v:Value} (hl:s.heap.IsList l items) (hu:A.units < cLine) (r:RelV y v) (f:flatV y=true):SeqAt.EqAt A s (.ref l) v false:=by
 cases y with
 | non=>cases r; exact .list_none hl hu
 | bl b=>cases r; exact .list_bool b hl hu
 | int i=>obtain ⟨t,rfl⟩:=r; exact .list_int i t hl hu
 | str x=>obtain ⟨t,rfl⟩:=r; exact .list_str x t hl hu
 | _=>exact absurd (show false=true from f) Bool.false_ne_true
theorem vV {A:Around} {l:Addr} {items:Array Value} {y:V} {v:Value} (hl:s.heap.IsList l items) (hu:A.units < cLine) (r:RelV y v) (f:flatV y=true):SeqAt.EqAt A s v (.ref l) false:=by
 cases y with
 | non=>cases r; exact .none_list hl hu
 | bl b=>cases r; exact .bool_list b hl hu
 | int i=>obtain ⟨t,rfl⟩:=r; exact .int_list i t hl hu
 | str x=>obtain ⟨t,rfl⟩:=r; exact .str_list x t hl hu
 | _=>exact absurd (show false=true from f) Bool.false_ne_true
theorem tU {A:Around} {l:Addr} {items:Array Value} {y:V} {v:Value} (hl:s.heap.IsTuple l items) (hu:A.units < cLine) (r:RelV y v) (f:flatV y=true):SeqAt.EqAt A s (.ref l) v false:=by
 cases y with
 | non=>cases r; exact .tuple_none hl hu
 | bl b=>cases r; exact .tuple_bool b hl hu
 | int i=>obtain ⟨t,rfl⟩:=r; exact .tuple_int i t hl hu
 | str x=>obtain ⟨t,rfl⟩:=r; exact .tuple_str x t hl hu
 | _=>exact absurd (show false=true from f) Bool.false_ne_true
theorem uo {A:Around} {l:Addr} {items:Array Value} {y:V} {v:Value} (hl:s.heap.IsTuple l items) (hu:A.units < cLine) (r:RelV y v) (f:flatV y=true):SeqAt.EqAt A s v (.ref l) false:=by
 cases y with
 | non=>cases r; exact .none_tuple hl hu
 | bl b=>cases r; exact .bool_tuple b hl hu
 | int i=>obtain ⟨t,rfl⟩:=r; exact .int_tuple i t hl hu
 | str x=>obtain ⟨t,rfl⟩:=r; exact .str_tuple x t hl hu
 | _=>exact absurd (show false=true from f) Bool.false_ne_true
theorem sV (I:Inv X pins σ H s) {a:Addr} {vs ws:List V} (h:SqL X.K H a vs) (k:SqT X.K H a ws):False:=by
 obtain ⟨_,_,p1,_⟩:=I.list h;obtain ⟨_,_,p2,_⟩:=I.tuple k;exact SeqAt.ne_of_list_tuple p1.isList p2 rfl
theorem nh (I:Inv X pins σ H s):∀ (n:Nat) (v:V) (d d':D),Deep X.K H n v d->Deep X.K H n v d'->eqD d d'=true
 | 0,v,d,d',⟨e,f⟩,⟨e',_⟩=>by subst e; subst e'; rw [eqD]; exact sk f
 | n+1,v,d,d',h,h'=>by
  have pr:∀ (vs:List V) (ds ds':List D),Paired (Deep X.K H n) vs ds->Paired (Deep X.K H n) vs ds'->eqDs ds ds'=true:=by
   intro vs
   induction vs with
   | nil=>intro ds ds' p q; cases p; cases q; rw [eqDs]
   | cons v vs ih=>
    intro ds ds' p q;cases p with
    | cons p1 p2=>cases q with
     | cons q1 q2=>rw [eqDs,nh I n v _ _ p1 q1,ih _ _ p2 q2]; rfl
  rcases h with ⟨e,f⟩ | ⟨a,vs,ds,rfl,rfl,ha,p⟩ | ⟨a,vs,ds,rfl,rfl,ha,p⟩
  ·rcases h' with ⟨e',_⟩ | ⟨a',vs',ds',rfl,_⟩ | ⟨a',vs',ds',rfl,_⟩
   ·subst e; subst e'; rw [eqD]; exact sk f
   ·exact absurd (show false=true from f) Bool.false_ne_true
   ·exact absurd (show false=true from f) Bool.false_ne_true
  ·rcases h' with ⟨_,f⟩ | ⟨a',vs',ds',e,rfl,ha',p'⟩ | ⟨a',vs',ds',e,rfl,ha',p'⟩
   ·exact absurd (show false=true from f) Bool.false_ne_true
   ·cases e;obtain rfl:=I.list_inj ha ha';rw [eqD]; exact pr vs ds ds' p p'
   ·cases e;exact (sV I ha ha').elim
  ·rcases h' with ⟨_,f⟩ | ⟨a',vs',ds',e,rfl,ha',p'⟩ | ⟨a',vs',ds',e,rfl,ha',p'⟩
   ·exact absurd (show false=true from f) Bool.false_ne_true
   ·cases e;exact (sV I ha' ha).elim
   ·cases e;obtain rfl:=I.tuple_inj ha ha';rw [eqD]; exact pr vs ds ds' p p'
noncomputable def eqNth (ds ds':List D) (j:Nat):Bool:=match ds[j]?,ds'[j]? with
 | some d,some d'=>eqD d d'
 | _,_=>true
theorem ja:∀ {ds ds':List D},ds.length=ds'.length->(List.range ds.length).all (eqNth ds ds')=eqDs ds ds'
 | [],[],_=>by rw [eqDs]; rfl
 | d::ds,d'::ds',h=>by
  have ih:=ja (ds:=ds) (ds':=ds') (by simpa using h);rw [List.length_cons,List.range_succ_eq_map,List.all_cons,List.all_map,eqDs];have e:eqNth (d::ds) (d'::ds') 0=eqD d d':=rfl;have e2:(eqNth (d::ds) (d'::ds') ∘ Nat.succ)=eqNth ds ds':=funext fun j=>by simp [eqNth]
  rw [e,e2,ih]
theorem aD {α β:Type} {F:α -> β -> Prop}:∀ {l:List α} {m:List β},Paired F l m->∀ {j:Nat} {x:α},l[j]? = some x->∃ y,m[j]? = some y/\F x y
 | _,_,.nil,j,x,h=>by simp at h
 | _,_,.cons p r,0,x,h=>by simp at h; subst h; exact ⟨_,rfl,p⟩
 | _,_,.cons p r,j+1,x,h=>by simpa using aD r (j:=j) (by simpa using h)
theorem jd (I:Inv X pins σ H s):∀ (n:Nat) (A:Around) (x y:V) (dx dy:D) (u v:Value),A.units+n < cLine->Deep X.K H n x dx->Deep X.K H n y dy->RelV x u->RelV y v->SeqAt.EqAt A s u v (eqD dx dy)
 | 0,A,x,y,dx,dy,u,v,_,⟨e,f⟩,⟨e',f'⟩,ru,rv=>by subst e; subst e'; rw [eqD]; exact ud ru rv f f'
 | n+1,A,x,y,dx,dy,u,v,hu,hx,hy,ru,rv=>by
  have hu0:A.units < cLine:=by omega
  have items:∀ (vs ws:List V) (ds ds':List D) (us us':List Value),Paired (Deep X.K H n) vs ds->Paired (Deep X.K H n) ws ds'->Vals vs us->Vals ws us' ->
    ∀ j (h1:j < us.toArray.size) (h2:j < us'.toArray.size),SeqAt.EqAt A.in1 s us.toArray[j] us'.toArray[j] (eqNth ds ds' j):=by
   intro vs ws ds ds' us us' p q r r' j h1 h2;have l1:=r.length;have l2:=r'.length;simp only [List.size_toArray] at h1 h2;have g1:vs[j]? = some (vs[j]'(by omega)):=List.getElem?_eq_getElem _;have g2:ws[j]? = some (ws[j]'(by omega)):=List.getElem?_eq_getElem _;obtain ⟨d,hd,fd⟩:=aD p g1;obtain ⟨d',hd',fd'⟩:=aD q g2;obtain ⟨c,hc,rc⟩:=r.get g1;obtain ⟨c',hc',rc'⟩:=r'.get g2;have e1:us.toArray[j]=c:=by rw [List.getElem?_eq_getElem h1] at hc; simpa using hc
   have e2:us'.toArray[j]=c':=by rw [List.getElem?_eq_getElem h2] at hc'; simpa using hc'
   rw [e1,e2];unfold eqNth;rw [hd,hd'];exact jd I n A.in1 _ _ d d' c c' (by rw [Around.in1_units]; omega) fd fd' rc rc'
  rcases hx with ⟨e,f⟩ | ⟨a,vs,ds,rfl,rfl,ha,p⟩ | ⟨a,vs,ds,rfl,rfl,ha,p⟩
  ·subst e;rcases hy with ⟨e',f'⟩ | ⟨b,ws,ds',rfl,rfl,hb,q⟩ | ⟨b,ws,ds',rfl,rfl,hb,q⟩
   ·subst e'; rw [eqD]; exact ud ru rv f f'
   ·cases rv;obtain ⟨_,_,pl,_⟩:=I.list hb;rw [eqD]; exact vV pl.isList hu0 ru f
   ·cases rv;obtain ⟨_,_,pl,_⟩:=I.tuple hb;rw [eqD]; exact uo pl hu0 ru f
  ·cases ru;obtain ⟨us,r1,pl,_⟩:=I.list ha;rcases hy with ⟨e',f'⟩ | ⟨b,ws,ds',rfl,rfl,hb,q⟩ | ⟨b,ws,ds',rfl,rfl,hb,q⟩
   ·subst e'; rw [eqD]; exact wg pl.isList hu0 rv f'
   ·cases rv;by_cases eab:a=b
    ·subst eab;have:=nh I (n+1) (.ref a) (.l ds) (.l ds') (.inr (.inl ⟨a,vs,ds,rfl,rfl,ha,p⟩)) (.inr (.inl ⟨a,ws,ds',rfl,rfl,hb,q⟩));rw [this];exact SeqAt.EqAt.same _
    ·obtain ⟨us',r2,pl2,_⟩:=I.list hb;have l1:=r1.length;have l2:=r2.length;have l3:=p.length;have l4:=q.length;rw [eqD];by_cases el:ds.length=ds'.length
     ·rw [<- ja el,show ds.length=us.toArray.size by simp only [List.size_toArray]; omega];exact .of_refs eab (.lists pl.isList pl2.isList (by simp only [List.size_toArray]; omega) hu0 (items vs ws ds ds' us us' p q r1 r2))
     ·rw [j4 el];exact .of_refs eab (.lists_lengths pl.isList pl2.isList (by simp only [List.size_toArray,bne_iff_ne,ne_eq]; omega) hu0)
   ·cases rv;obtain ⟨_,_,pl2,_⟩:=I.tuple hb;rw [eqD]; exact .list_tuple pl.isList pl2 hu0
  ·cases ru;obtain ⟨us,r1,pl,_⟩:=I.tuple ha;rcases hy with ⟨e',f'⟩ | ⟨b,ws,ds',rfl,rfl,hb,q⟩ | ⟨b,ws,ds',rfl,rfl,hb,q⟩
   ·subst e'; rw [eqD]; exact tU pl hu0 rv f'
   ·cases rv;obtain ⟨_,_,pl2,_⟩:=I.list hb;rw [eqD]; exact .tuple_list pl pl2.isList hu0
   ·cases rv;by_cases eab:a=b
    ·subst eab;have:=nh I (n+1) (.ref a) (.t ds) (.t ds') (.inr (.inr ⟨a,vs,ds,rfl,rfl,ha,p⟩)) (.inr (.inr ⟨a,ws,ds',rfl,rfl,hb,q⟩));rw [this];exact SeqAt.EqAt.same _
    ·obtain ⟨us',r2,pl2,_⟩:=I.tuple hb;have l1:=r1.length;have l2:=r2.length;have l3:=p.length;have l4:=q.length;rw [eqD];have key:eqDs ds ds'=((List.range (min us.toArray.size us'.toArray.size)).all (eqNth ds ds') && us.toArray.size == us'.toArray.size):=by
      by_cases el:ds.length=ds'.length
      ·rw [<- ja el,show min us.toArray.size us'.toArray.size=ds.length by simp only [List.size_toArray]; omega,show (us.toArray.size == us'.toArray.size)=true by simp only [List.size_toArray,beq_iff_eq]; omega,Bool.and_true]
      ·rw [j4 el,show (us.toArray.size == us'.toArray.size)=false by simp only [List.size_toArray,beq_eq_false_iff_ne,ne_eq]; omega,Bool.and_false]
     rw [key];exact .of_refs eab (.tuples pl pl2 hu0 (items vs ws ds ds' us us' p q r1 r2))
end
section
variable {X:Cx} {pins:List (Addr × Obj)} {σ:St} {H:Hp} {s:Shared}
theorem pq (I:Inv X pins σ H s) {n:Nat} {A:Around} (hu:A.units+n+1 < cLine) {vs ws:List V} {ds ds':List D} {us us':List Value} (p:Paired (Deep X.K H n) vs ds) (q:Paired (Deep X.K H n) ws ds') (r:Vals vs us) (r':Vals ws us'):
  ∀ j (h1:j < us.toArray.size) (h2:j < us'.toArray.size),SeqAt.EqAt A.in1 s us.toArray[j] us'.toArray[j] (eqNth ds ds' j):=by
 intro j h1 h2;have l1:=r.length;have l2:=r'.length;simp only [List.size_toArray] at h1 h2;have g1:vs[j]? = some (vs[j]'(by omega)):=List.getElem?_eq_getElem _;have g2:ws[j]? = some (ws[j]'(by omega)):=List.getElem?_eq_getElem _;obtain ⟨d,hd,fd⟩:=aD p g1;obtain ⟨d',hd',fd'⟩:=aD q g2;obtain ⟨c,hc,rc⟩:=r.get g1;obtain ⟨c',hc',rc'⟩:=r'.get g2;have e1:us.toArray[j]=c:=by rw [List.getElem?_eq_getElem h1] at hc; simpa using hc
 have e2:us'.toArray[j]=c':=by rw [List.getElem?_eq_getElem h2] at hc'; simpa using hc'
 rw [e1,e2];unfold eqNth;rw [hd,hd'];exact jd I n A.in1 _ _ d d' c c' (by rw [Around.in1_units]; omega) fd fd' rc rc'
noncomputable def kEqD (K:Frag) (neg:Bool):R2:=fun x y H Q=>match x,y with
 | .ref a,.ref b=>∃ n dx dy,n<=100/\Deep K H n (.ref a) dx/\Deep K H n (.ref b) dy/\Q (.bl (neg ^^ eqD dx dy)) H
 | _,_=>False
theorem vh {us us':List Value} {ds ds':List D} (l1:ds.length=us.length) (l2:ds'.length=us'.length):((List.range (min us.toArray.size us'.toArray.size)).all (eqNth ds ds') && us.toArray.size == us'.toArray.size)=eqDs ds ds':=by
 by_cases el:ds.length=ds'.length
 ·rw [<- ja el,show min us.toArray.size us'.toArray.size=ds.length by simp only [List.size_toArray]; omega,show (us.toArray.size == us'.toArray.size)=true by simp only [List.size_toArray,beq_iff_eq]; omega,Bool.and_true]
 ·rw [j4 el,show (us.toArray.size == us'.toArray.size)=false by simp only [List.size_toArray,beq_eq_false_iff_ne,ne_eq]; omega,Bool.and_false]
theorem eqDE (K:Frag) (hK:X.K=K) {k:Nat} (hr:Room k X.A):OpR X (compareOp .Eq) (kEqD K false):=by
 subst hK;intro pins s σ H x y v u Q I rx ry h;unfold kEqD at h;split at h
 ·rename_i a b;obtain ⟨n,dx,dy,hn,hx,hy,q⟩:=h;cases rx;cases ry;simp only [Bool.false_bne] at q;have hu:=hr.un;cases n with
  | zero=>exact absurd (show false=true from hx.2) Bool.false_ne_true
  | succ n=>
   rcases hx with ⟨_,f⟩ | ⟨a',vs,ds,e,rfl,ha,p⟩ | ⟨a',vs,ds,e,rfl,ha,p⟩
   ·exact absurd (show false=true from f) Bool.false_ne_true
   ·cases e;obtain ⟨us,r1,pl,_⟩:=I.list ha;have l1:=r1.length;have l3:=p.length;rcases hy with ⟨_,f⟩ | ⟨b',ws,ds',e,rfl,hb,p'⟩ | ⟨b',ws,ds',e,rfl,hb,p'⟩
    ·exact absurd (show false=true from f) Bool.false_ne_true
    ·cases e;obtain ⟨us',r2,pl2,_⟩:=I.list hb;have l2:=r2.length;have l4:=p'.length;rw [eqD] at q;by_cases el:ds.length=ds'.length
     ·refine SeqAt.eq_listAt (e:=eqNth ds ds') pl.isList pl2.isList (by simp only [List.size_toArray]; omega) (by omega) (pq I (by omega) p p' r1 r2) ?_;rw [show us.toArray.size=ds.length by simp only [List.size_toArray]; omega,ja el];exact ⟨.bl _,H,I,rfl,q⟩
     ·refine SeqAt.eq_list_lengthsAt pl.isList pl2.isList (by simp only [List.size_toArray,bne_iff_ne,ne_eq]; omega) (by omega) ?_;rw [j4 el] at q;exact ⟨.bl _,H,I,rfl,q⟩
    ·cases e;obtain ⟨us',r2,pl2,_⟩:=I.tuple hb;rw [eqD] at q;exact SeqAt.RcAt.list_tuple pl.isList pl2 (by omega) _ _ _ _ ⟨.bl _,H,I,rfl,q⟩
   ·cases e;obtain ⟨us,r1,pl,_⟩:=I.tuple ha;have l1:=r1.length;have l3:=p.length;rcases hy with ⟨_,f⟩ | ⟨b',ws,ds',e,rfl,hb,p'⟩ | ⟨b',ws,ds',e,rfl,hb,p'⟩
    ·exact absurd (show false=true from f) Bool.false_ne_true
    ·cases e;obtain ⟨us',r2,pl2,_⟩:=I.list hb;rw [eqD] at q;exact SeqAt.RcAt.tuple_list pl pl2.isList (by omega) _ _ _ _ ⟨.bl _,H,I,rfl,q⟩
    ·cases e;obtain ⟨us',r2,pl2,_⟩:=I.tuple hb;have l2:=r2.length;have l4:=p'.length;rw [eqD] at q;refine SeqAt.eq_tupleAt (e:=eqNth ds ds') pl pl2 (by omega) (pq I (by omega) p p' r1 r2) ?_;rw [vh (by omega) (by omega)];exact ⟨.bl _,H,I,rfl,q⟩
 ·exact h.elim
end
section
variable {X:Cx}
noncomputable def kNeNil (K:Frag):R2:=fun x y H Q=>match x,y with
 | .ref a,.ref b=>∃ xs,SqL K H a xs/\SqL K H b []/\Q (.bl (!decide (xs=[]))) H
 | _,_=>False
theorem neNilE (K:Frag) (hK:X.K=K) (hu:X.A.units < cLine):OpR X (compareOp .NotEq) (kNeNil K):=by
 subst hK;intro pins s σ H x y v u Q I rx ry h;unfold kNeNil at h;split at h
 ·obtain ⟨xs,ha,hb,q⟩:=h;cases rx;cases ry;obtain ⟨its,r1,p1,_⟩:=I.list ha;obtain ⟨its2,r2,p2,_⟩:=I.list hb;cases r2;cases r1 with
  | nil=>exact SeqAt.RcNeAt.lists (e:=fun _=>true) p1.isList p2.isList rfl hu (fun j h1 _=>absurd h1 (by simp)) _ _ _ _ ⟨.bl false,H,I,rfl,by simpa using q⟩
  | cons rx rr=>exact SeqAt.RcNeAt.lists_lengths p1.isList p2.isList (by simp) hu _ _ _ _ ⟨.bl true,H,I,rfl,by simpa using q⟩
 ·exact h.elim
theorem xt {K:Frag} {a b:Addr} {H:Hp} {Q:VK}:kNeNil K (.ref a) (.ref b) H Q=∃ xs,SqL K H a xs/\SqL K H b []/\Q (.bl (!decide (xs=[]))) H:=rfl
theorem AZ {K:Frag} {n:Bool} {a b:Addr} {H:Hp} {Q:VK}:kEqD K n (.ref a) (.ref b) H Q=∃ k dx dy,k<=100/\Deep K H k (.ref a) dx/\Deep K H k (.ref b) dy/\Q (.bl (n ^^ eqD dx dy)) H:=rfl
noncomputable def kAny (K:Frag):List V->Hp->VK->Prop:=fun xs H Q=>match xs with
 | [.ref p]=>∃ bs:List Bool,SqL K H p (bs.map V.bl)/\Q (.bl (bs.any id)) H
 | _=>False
theorem oA {bs:List Bool}:∀ {us:List Value},Vals (bs.map V.bl) us->us=bs.map Value.bool:=by
 induction bs with
 | nil=>intro us h; cases h; rfl
 | cons b bs ih=>
  intro us h;cases h with
  | cons r t=>cases r; rw [ih t]; rfl
theorem ww (K:Frag) (hK:X.K=K) (hc:X.calm=true):CallR X (.builtin "any") (kAny K):=by
 subst hK;intro pins s σ H xs us Q I r q;unfold kAny at q;split at q
 ·rename_i p;obtain ⟨bs,hq,q⟩:=q;obtain ⟨u,rfl,ru⟩:=vals1 r;cases ru;obtain ⟨its,rv,pl,_⟩:=I.list hq;obtain rfl:=oA rv;have hl:s.heap.IsList p (bs.map Value.bool).toArray:=pl.isList;have hp:p < s.heap.objs.size:=by obtain ⟨o,ho,_⟩:=hl; exact Heap.lt_size ho
  refine tokQ I.tk (call_any_walk (wpAny_pyIter_list hl ?_));refine ⟨_,_,_,_,_,_,fun i=>(bs[i]?).getD false,rfl,Walks.list (A:=X.A.in1) (I.ok.hd hc) _ p (Nat.ne_of_lt hp) (bs.map Value.bool).toArray,⟨⟨_,Heap.get?_push_size _ rfl,rfl,rfl⟩,hl.push _⟩,?_,fun h' tk k (htk:0 < tk)=>?_⟩
  ·intro i v s' Q' E' hP hQ';have hi:bs[i]?.map Value.bool=some v:=by simpa using hP
   cases hb:bs[i]? with
   | none=>rw [hb] at hi; cases hi
   | some b=>
    have e:(fun i=>(bs[i]?).getD false) i=b:=by simp [hb]
    rw [e] at hQ';rw [hb] at hi;cases hi;exact wpAny_truthy_bool hQ'
  ·have e:((List.range (bs.map Value.bool).toArray.size).any fun i=>(bs[i]?).getD false)=bs.any id:=by
    simp only [List.size_toArray,List.length_map];rw [Bool.eq_iff_iff,List.any_eq_true,List.any_eq_true];constructor
    ·rintro ⟨i,hi,h⟩;have hi:i < bs.length:=by simpa using hi
     rw [List.getElem?_eq_getElem hi] at h;exact ⟨bs[i],List.getElem_mem hi,h⟩
    ·rintro ⟨b,hb,h⟩;obtain ⟨i,hi,rfl⟩:=List.getElem_of_mem hb;exact ⟨i,by simpa using hi,by rw [List.getElem?_eq_getElem hi]; exact h⟩
   rw [e];refine ⟨.bl _,H,I.kept (fun b o q=>k b o ?_ (Heap.get?_push_of_some _ q)),rfl,q⟩;intro z;have:=Heap.lt_size q;rw [List.mem_singleton.mp z] at this;exact Nat.lt_irrefl _ this
 ·exact q.elim
theorem Aq {K:Frag} {p:Addr} {H:Hp} {Q:VK}:kAny K [.ref p] H Q=∃ bs:List Bool,SqL K H p (bs.map V.bl)/\Q (.bl (bs.any id)) H:=rfl
end
section
variable {X:Cx}
noncomputable def cListRng (te:TE):TE:=fun σ H Q=>te σ H fun x H1=>match x with
 | .int j=>-(2 ^ 62)<=j/\j<=10000/\∀ p,H1 p=none->Q (.ref p) (upd H1 p (.lst ((List.range j.toNat).map fun (i:Nat)=>V.int i)))
 | _=>False
theorem uh {acc:Array Value} {n:Nat} (h:ItemsOf (fun i v=>∃ t,v=Value.int ((0:Int)+(i:Int)*1) t) acc n):Vals ((List.range n).map fun (i:Nat)=>V.int i) acc.toList:=by
 obtain ⟨hs,hi⟩:=h;have key:∀ (l:List Value) (k:Nat),(∀ (j:Nat) (v:Value),l[j]? = some v->∃ t,v=Value.int ((k+j:Nat):Int) t)->Vals ((List.range' k l.length).map fun (i:Nat)=>V.int i) l:=by
  intro l
  induction l with
  | nil=>intro k _; exact .nil
  | cons v l ih=>
   intro k h;obtain ⟨t,e⟩:=h 0 v rfl;rw [List.length_cons,List.range'_succ,List.map_cons];refine .cons ⟨t,by simpa using e⟩ (ih (k+1) fun j v hj=>?_);obtain ⟨t,e⟩:=h (j+1) v (by simpa using hj);exact ⟨t,by rw [e]; congr 1; omega⟩
 have:=key acc.toList 0 fun j v hj=>by
  obtain ⟨t,e⟩:=hi j v (by simpa using hj);exact ⟨t,by rw [e]; congr 1; omega⟩
 rw [Array.length_toList,hs,<- List.range_eq_range'] at this;exact this
theorem ut {e:Expr} {te:TE} {p p2 pos pos2:Pos} (hc:X.calm=true) (hg:Gl X "list") (hm:X.mg "list" = none) (hg2:Gl X "range") (hm2:X.mg "range" = none) (he:PE X e te)
  (hs:starEach [e] X.env=[(false,eval e X.env)]:=by rfl)
  (hs2:starEach [Expr.Call (.Name "range" p2) [e] [] pos2] X.env=[(false,eval (Expr.Call (.Name "range" p2) [e] [] pos2) X.env)]:=by rfl):
  PE X (.Call (.Name "list" p) [.Call (.Name "range" p2) [e] [] pos2] [] pos) (cListRng te):=by
 intro pins s σ H Q I h;refine wpAny_Call_Name_kw (hZ I hg hm lP ?_ (by decide) (by decide));refine PyProof.Rows.callWith_type1 ?_ hs2 rfl;rw [hs2];show wpAny _ _ (spliced [(false,eval (Expr.Call (.Name "range" p2) [e] [] pos2) X.env)]) _ _ s;refine Calls.spliced_cons ?_;refine wpAny_Call_Name_kw (hZ I hg2 hm2 boot_range ?_ (by decide) (by decide));refine PyProof.Rows.callWith_type1 ?_ hs rfl;rw [hs];show wpAny _ _ (spliced [(false,eval e X.env)]) _ _ s;refine Calls.spliced_cons (thn (he pins s σ H _ I h) fun u s1 ⟨x,H1,I1,r1,q1⟩=>Calls.spliced_nil ?_)
 match x,r1,q1 with
 | .int j,⟨t,ht⟩,⟨a1,a2,a3⟩=>
  subst ht;refine call_range_1 (Calls.spliced_nil ?_);have I2:Inv X pins σ H1 { s1 with heap:=s1.heap.push { cls:=.type "range",data:=.fields #[.int 0 s1.toks,.int j t,.int 1 (s1.toks+1)] },toks:=s1.toks+1+1 }:=I1.kept fun b o q=>Heap.get?_push_of_some _ q
  have hsz:Builtin.Range.rangeSize 0 j 1=((j.toNat:Nat):Int):=by rw [rangeSize_one]; split <;> omega
  refine tokQ I2.tk (call_list_range (n:=j.toNat) (I.ok.hd hc) (IsRange.new ..) (small_one (by decide) (by decide) a1 (by omega)) hsz (by omega) fun h' tk acc c' old ho hi (htk:0 < tk)=>?_);exact ⟨.ref _,_,I2.laid (o:=.lst ((List.range j.toNat).map fun (i:Nat)=>V.int i)) (t':=tk) old (Nat.le_refl _) ⟨by rw [List.length_map,List.length_range,sizeLine_eq]; omega,acc.toList,c',uh hi,by simpa using ho⟩,rfl,a3 _ I2.fresh⟩
theorem tZ {te:TE} {σ:St} {H:Hp} {Q:VK}:cListRng te σ H Q=te σ H fun x H1=>match x with
 | .int j=>-(2 ^ 62)<=j/\j<=10000/\∀ p,H1 p=none->Q (.ref p) (upd H1 p (.lst ((List.range j.toNat).map fun (i:Nat)=>V.int i)))
 | _=>False:=rfl
end
noncomputable abbrev tx (l:List Nat):V:=V.str (st l)
section
variable {K:Frag} {g:TG} {tc:TT} {te:TE} {σc:St} {D:Addr} {Q:VK} {H:Hp}
theorem xk {α:Type} (item:α -> V) (xs:List α) (keep:α -> Bool) (R:α -> V->Hp->Prop) {p:Addr} (hfree:H D=none) (hl:SqL K H p (xs.map item)) (hn:xs.length<=100000)
  (mono:∀ x v H1 H2 acc,H1 D=some (.lst acc)->(∀ b o,b≠D->H1 b=some o->H2 b=some o)->R x v H1->R x v H2)
  (hs:∀ x H1 (out:VK) (non:Hp->Prop),x ∈ xs->Same H H1->(∀ v H6,keep x=true->Same H1 H6->R x v H6->out v H6)->(∀ H5,keep x=false->Same H1 H5->non H5) ->
   g (item x) σc H1 fun σ4 H4=>tc σ4 H4 fun b H5=>if b=true then te σ4 H5 out else non H5)
  (hq:∀ H' vs,Same H H'->H' D=some (.lst vs)->Paired (fun x v=>R x v H') (xs.filter keep) vs->Q (.ref D) H'):compW (Itl K p) g tc te σc D Q H:=by
 refine ⟨fun i m acc H2=>m=xs.length - i/\i<=xs.length/\Paired (fun x v=>R x v H2) ((xs.take i).filter keep) acc/\Same H H2/\H2 D=some (.lst acc),⟨xs.length,by simp,Nat.zero_le _,.nil,ai hfree _,ah⟩,?_⟩;rintro i m acc H2 ⟨rfl,hi,pr,sm,hD⟩;have len:acc.length<=i:=by
  have a:=pr.length;have b:=List.length_filter_le keep (xs.take i);rw [List.length_take] at b;omega
 by_cases hlt:i < xs.length
 ·refine .inr ⟨⟨_,item xs[i],sm.seq hl,by simp [hlt]⟩,fun x H3 y=>?_⟩;obtain ⟨rfl,y⟩:=y;have e:=y _ (sm.seq hl);rw [List.getElem?_map,List.getElem?_eq_getElem hlt] at e;have e2:item xs[i]=x:=Option.some.inj e;subst e2;have ht:xs.take (i+1)=xs.take i++[xs[i]]:=by rw [List.take_add_one,List.getElem?_eq_getElem hlt]; rfl
  refine hs xs[i] _ _ _ (List.getElem_mem hlt) sm (fun v H6 k s6 r=>?_) fun H5 k s5=>?_
  ·refine ⟨s6 _ _ hD,Nat.lt_of_le_of_lt len (sizeBig (by omega)),xs.length - (i+1),by omega,rfl,hlt,?_,?_,ah⟩
   ·have m1:∀ x v,R x v H6->R x v (upd H6 D (.lst (acc++[v]))):=fun x v r=>mono x v H6 _ acc (s6 _ _ hD) (fun b o nb q=>by rw [aC nb]; exact q) r
    rw [ht,List.filter_append];have f1:[xs[i]].filter keep=[xs[i]]:=by simp [k]
    rw [f1];have lift:∀ {l:List α} {vs:List V},Paired (fun x v=>R x v H3) l vs->Paired (fun x v'=>R x v' (upd H6 D (.lst (acc++[v])))) l vs:=by
     intro l vs pp
     induction pp with
     | nil=>exact .nil
     | cons r _ ih=>exact .cons (mono _ _ H3 _ acc hD (fun b o nb q=>by rw [aC nb]; exact s6 _ _ q) r) ih
    have app:∀ {l:List α} {vs:List V} {x:α} {v':V} {F:α -> V->Prop},Paired F l vs->F x v'->Paired F (l++[x]) (vs++[v']):=by
     intro l vs x v' F pp r
     induction pp with
     | nil=>exact .cons r .nil
     | cons r' _ ih=>exact .cons r' ih
    exact app (lift pr) (m1 _ _ r)
   ·exact aS (sm.trans s6) hfree
  ·refine ⟨xs.length - (i+1),by omega,rfl,hlt,?_,sm.trans s5,s5 _ _ hD⟩;rw [ht,List.filter_append];have f1:[xs[i]].filter keep=[]:=by simp [k]
   rw [f1,List.append_nil];have lift:∀ {l:List α} {vs:List V},Paired (fun x v=>R x v H3) l vs->Paired (fun x v'=>R x v' H5) l vs:=by
    intro l vs pp
    induction pp with
    | nil=>exact .nil
    | cons r _ ih=>exact .cons (mono _ _ H3 _ acc hD (fun b o _ q=>s5 _ _ q) r) ih
   exact lift pr
 ·have e:i=xs.length:=by omega
  subst e;rw [List.take_length] at pr;exact .inl ⟨⟨_,sm.seq hl,by simp⟩,hq H2 acc sm hD pr⟩
end
section
variable {X:Cx}
noncomputable def kMulL:R2:=fun x y H Q=>match x,y with
 | .ref l,.int k=>∃ xs,H l=some (.lst xs)/\0<=k/\k<=10000/\xs.length<=100/\∀ p,H p=none->Q (.ref p) (upd H p (.lst (List.replicate k.toNat xs).flatten))
 | _,_=>False
theorem zN:OpR X (binaryOp .Mult) kMulL:=w9.imp fun x y H Q q=>by
 unfold kMulL at q;split at q
 ·rename_i l k;obtain ⟨xs,h1,h2,h3,h4,q⟩:=q;have h5:xs.length*k.toNat<=100*10000:=Nat.mul_le_mul h4 (by omega);exact ⟨l,k,xs,rfl,rfl,h1,by omega,by omega,Nat.le_trans h5 (by rw [sizeLine_eq]; decide),q⟩
 ·exact q.elim
theorem zo {l:Addr} {k:Int} {H:Hp} {Q:VK}:kMulL (.ref l) (.int k) H Q=∃ xs,H l=some (.lst xs)/\0<=k/\k<=10000/\xs.length<=100/\∀ p,H p=none->Q (.ref p) (upd H p (.lst (List.replicate k.toNat xs).flatten)):=rfl
end
theorem AC {to ti:TE} {t:TSet} {v:V} {σ:St} {H:Hp} {Q:St->Hp->Prop}:gSub to ti t v σ H Q=to σ H fun o H1=>ti σ H1 fun i H2=>t o i v H2 fun H3=>Q σ H3:=rfl
theorem yL {p:Addr} {k:Int} {v:V} {H:Hp} {Q:Hp->Prop}:rSetL (.ref p) (.int k) v H Q=∃ xs j,H p=some (.lst xs)/\ixN xs.length k=some j/\Q (upd H p (.lst (xs.set j v))):=by
 refine propext ⟨?_,?_⟩
 ·rintro ⟨p',xs,k',j,e1,e2,h⟩;cases e1;cases e2;exact ⟨xs,j,h⟩
 ·rintro ⟨xs,j,h⟩;exact ⟨p,xs,k,j,rfl,rfl,h⟩
section
variable {X:Cx} {o e:Expr} {to te:TE} {apos cpos:Pos}
end
section
variable {X:Cx} {tg a b c:Expr} {ta tb tc:TE} {pos p:Pos}
end
section
variable {g:TG} {tb:TS} {D:Ends} {σ:St} {H:Hp}
end
section
variable {X:Cx} {a:Expr} {ta:TE} {p pos:Pos}
end
section
variable {prog:Program} {w:World} {A:Around} {E:Value->Shared->Prop} {s:Shared}
end
section
variable {X:Cx}
end
end L2
namespace L2
open PySem PySem.Spec PyProof.Rows PySem.Builtin PySem.Builtin.Str
theorem se {n k:Nat} (h:n<=k):strSliceIndices none (some (k:Int)) 1 n=strSliceIndices none (some (n:Int)) 1 n:=by
 have e1:¬ ((k:Int) < 0):=by omega
 have e2:¬ ((n:Int) < 0):=by omega
 have e3:min (k:Int) (n:Int)=n:=by omega
 simp only [strSliceIndices,e1,e2,if_false,show (1:Int) > 0 by decide,if_true,e3,Int.min_self]
theorem vW (l:List Nat) (k:Nat):Txt.slice (st l) none (some (k:Int))=st (l.take k):=by
 by_cases h:k<=l.length
 ·exact oI l k h
 ·have e:Txt.slice (st l) none (some (k:Int))=Txt.slice (st l) none (some (l.length:Int)):=by
   unfold Txt.slice;have hl:(st l).length=l.length:=by simp [Str.length]
   rw [hl,se (show l.length<=k by omega)]
  rw [e,oI l l.length (Nat.le_refl _),List.take_length,List.take_of_length_le (by omega)]
section
variable {X:Cx}
noncomputable def kSlF:V->Option Int->Option Int->Hp->VK->Prop:=fun x lo hi H Q=>match x,lo,hi with
 | .str z,none,some j=>z.cps.toList.length<=100000/\0<=j/\Q (.str (st (z.cps.toList.take j.toNat))) H
 | _,_,_=>False
theorem slF:SlR X kSlF:=wH.imp fun x lo hi H Q q=>by
 unfold kSlF at q;split at q
 ·obtain ⟨h,h0,q⟩:=q;rename_i z j;obtain ⟨k,rfl⟩:∃ k:Nat,j=k:=⟨j.toNat,by omega⟩;refine ⟨z,rfl,by rw [strlen]; exact Nat.le_trans h big5,?_⟩;have e:=vW z.cps.toList k;rw [cC] at e;rw [e];simpa using q
 ·exact q.elim
theorem AF {l:List Nat} {j:Int} {H:Hp} {Q:VK}:kSlF (.str (st l)) none (some j) H Q=(l.length<=100000/\0<=j/\Q (.str (st (l.take j.toNat))) H):=rfl
end
end L2
namespace L2
open PySem PySem.Spec PyProof.Rows
section
variable {X:Cx}
theorem kK {i:Nat} {x:Str} {pos' spos:Pos} {elt tg iter:Expr} {ifs:List Expr} {scope:Scope} {pos:Pos} {wi:TI} {g:TG} {tc:TT} {te:TE} {nt:Nat} {fi:List Nat} {N':List Str} (hN:X.N.Nodup) (hi0:X.N[i]? = some x) (hx:Loc X.env.scope x) (hcalm:X.calm=true)
  (S:CScope scope) (cn:CNames X scope nt fi N') (gk:GK nt g) (hi:PI X tg iter wi)
  (hg:∀ cl C s H ex,PG (cxC X scope cl N' C s H ex) tg g) (hc:∀ cl C s H ex,PIf (cxC X scope cl N' C s H ex) ifs tc) (he:∀ cl C s H ex,PE (cxC X scope cl N' C s H ex) elt te)
  (hsw:swapsWith (.ListComp elt [⟨tg,iter,ifs,0⟩] scope pos) (some (.Name x pos')) spos.line X.env=pure true:=by rfl)
  (hs:∀ x,foldedSetIterable iter X.env x=pure x:=by intro _; rfl) (hf:X.fn x=true\/X.env.scope.names.lookup x=some .local:=by first | exact .inl rfl | exact .inr rfl | assumption):
  PS X (.Assign [.Name x pos'] (.ListComp elt [⟨tg,iter,ifs,0⟩] scope pos) spos) (tAsg (cComp nt fi wi g tc te) (gName i)):=by
 intro pins s σ H D I h;have hfr:∀ y ∈ scope.names,y.2=.free->∃ c,X.env.cells.lookup y.1=some c:=fun y hy e=>I.ok.has y.1 (cn.fre y hy e)
 rw [exec_Assign_Name_used _ _ _ _ hsw];refine wpAny_bind (wpAny_standAt (wpAny_bind ?_));change wpAny _ X.A (do let _ <- comprehension (.ListComp elt [⟨tg,iter,ifs,0⟩] scope pos) scope X.env _ (newList []) false (eval iter X.env) (some (assign (.Name x pos') X.env))) _ _ s;refine wpAny_bind (thn (Q:=fun _ s'=>∃ σ' H',Inv X pins σ' H' s'/\D.nx σ' H') ?_ fun _ s' q=>wpAny_pure (wpAny_pure q));refine wpAny_comprehension_free (use:=some (assign (.Name x pos') X.env)) rfl hs (jW hfr) S.kind S.loc (thn (hi pins s σ H _ I h) fun v s1 h1=>thn h1 fun itv s2 h2=>?_);obtain ⟨it,fp,tn,J,H2,e,I2,T,st2,f2,hW⟩:=h2;subst e;have fD:H2 s2.heap.objs.size=none:=I2.hok.fresh (Nat.le_refl _);obtain ⟨W,⟨m0,w0⟩,turn⟩:=hW s2.heap.objs.size fD;refine wpAny_newObj_type (wpAny_newFunctionEnv S.nocell (by intro y hy; simp at hy) (fun h₁ hns₁ hsb₁=>?_) S.kind);have I3:Inv X pins σ (upd H2 s2.heap.objs.size (.lst [])) { s2 with heap:=s2.heap.push { cls:=.type "list",dict:=none,data:=.seq ([]:List Value).toArray } }:=I2.lnew (its:=[]) (t':=s2.toks) .nil (Nat.zero_le _);generalize hs3:({ s2 with heap:=s2.heap.push { cls:=.type "list",dict:=none,data:=.seq ([]:List Value).toArray } }:Shared)=s3 at I3 hns₁ hsb₁ ⊢;have hsz:s3.heap.objs.size=s2.heap.objs.size+1:=by rw [<- hs3]; exact Heap.size_push ..
 have ob2:∀ b ∈ fp,∃ o,s3.heap.get? b=some o:=fun b hb=>by
  obtain ⟨o,e,_⟩:=T.obj _ _ st2 b hb;rw [<- hs3];exact ⟨o,Heap.get?_push_of_some _ e⟩
 have f3:∀ b ∈ fp,FpOk X pins (upd H2 s2.heap.objs.size (.lst [])) b:=fun b hb=>by
  obtain ⟨o,e,_⟩:=T.obj _ _ st2 b hb;refine ⟨?_,(f2 b hb).2⟩;rw [aC (Nat.ne_of_lt (Heap.lt_size e))];exact (f2 b hb).1
 have kp:∀ b o,s3.heap.get? b=some o->h₁.get? b=some o:=fun b o e=>hsb₁.extBut b o (Nat.ne_of_lt (Heap.lt_size e)) (Heap.get?_push_of_some _ e)
 have st3:tn 0 h₁:=T.keep _ _ _ st2 fun b _ o e=>kp b o (by rw [<- hs3]; exact Heap.get?_push_of_some _ e)
 have J4:Inv (cxC X scope (clOf X.env.cells scope.names []) N' s3.heap.objs.size s3 (upd H2 s2.heap.objs.size (.lst [])) fp) (X.pn++pins) (compσ nt fi σ) (upd H2 s2.heap.objs.size (.lst [])) { s3 with heap:=h₁,toks:=s3.toks+([]:List (Str × Value)).length }:=
  sd I3 S cn f3 ob2 hns₁ kp I3.tk
 generalize hcl:clOf X.env.cells scope.names []=cl at J4 ⊢;generalize hH3:upd H2 s2.heap.objs.size (.lst [])=H3 at J4 I3 f3 w0;have stat:∀ {H':Hp},(∀ b ∈ fp,H' b=none)->∀ b ∈ fp,FpOk (cxC X scope cl N' s3.heap.objs.size s3 H3 fp) (X.pn++pins) H' b:=fun {H'} hn b hb=>by
  obtain ⟨g0,g1,g2,g3,g4,g5⟩:=f3 b hb;have ok:=J4.ok;refine ⟨hn b hb,(ok.exf b hb).1,ok.exfs b hb,.inl hb,(ok.exf b hb).2,fun p hp=>g5 p ?_⟩;have hp':p ∈ ([]:List (Addr × Obj))++(X.pn++pins):=hp;simpa using hp'
 have loop:∀ s₃:Shared,s₃ = { s3 with heap:=h₁,toks:=s3.toks+([]:List (Str × Value)).length } ->
   codeAny (model X.prog X.w) X.A (.compLoop (.ListComp elt [⟨tg,iter,ifs,0⟩] scope pos) 0 (.ref it) (.ref s2.heap.objs.size) (compEnvC scope cl s3.heap.objs.size X.env))
    (compPost (model X.prog X.w) X.A X.xe (some (assign (.Name x pos') X.env)) (fun _ s'=>∃ σ' H',Inv X pins σ' H' s'/\D.nx σ' H') (.ref s2.heap.objs.size) s3.heap.objs.size) s₃:=by
  rintro s₃ rfl;refine lV (fun n s'=>∃ i acc H',Inv (cxC X scope cl N' s3.heap.objs.size s3 H3 fp) (X.pn++pins) (compσ nt fi σ) H' s'/\tn i s'.heap/\(∀ b ∈ fp,H' b=none)/\W i n acc H') ?_ m0
   ⟨0,[],H3,J4,st3,fun b hb=>(f3 b hb).1,w0⟩
  rintro n s5 ⟨ii,acc,H5,I5,st5,fr5,w5⟩;rcases turn ii n acc H5 w5 with ⟨stop,qn⟩ | ⟨go,step⟩
  ·refine thn (T.done (cxC X scope cl N' s3.heap.objs.size s3 H3 fp) rfl rfl rfl hcalm ii (X.pn++pins) s5 (compσ nt fi σ) H5 (fun _ _=>False) I5 (stat fr5) st5 stop) fun r s6 ⟨hr,I6⟩=>?_
   subst hr;obtain ⟨m6,hn6,_⟩:=I6.loc;have I7:Inv X pins σ H5 s6:=sZ I3 f3 (Nat.le_refl _) I6 (Heap.SameBut.refl _ s6.heap);have fC:FpOk X pins H5 s3.heap.objs.size:=I3.fpOk (Nat.le_refl _) I6.free;obtain ⟨c0,c1,c2,c3,c4,c5⟩:=fC;refine wpAny_assign_Name (qM I7 hN hi0 hx (v:=.ref s2.heap.objs.size) rfl (fun s8 I8 ⟨a,sb,ha⟩=>?_) hf);have na:a≠s3.heap.objs.size:=by
    rcases ha with rfl | ha
    ·exact c1.symm
    ·exact c4 x a ha
   refine ⟨m6,hn6.sameBut sb na.symm,fun h' sb'=>⟨_,H5,?_,qn⟩⟩;exact I8.turned (t':=s8.toks) (fun b o nb e=>(sb'.2 b nb).trans e) c0 c1 c3 c4 c5
  ·refine thn (T.item (cxC X scope cl N' s3.heap.objs.size s3 H3 fp) rfl rfl rfl hcalm ii (X.pn++pins) s5 (compσ nt fi σ) H5 (fun _ _=>False) I5 (stat fr5) st5 go) fun r s6 ⟨u,hr,h6⟩=>?_
   subst hr;refine thn h6 fun _ s7 ⟨y,H7,I7,r7,y7,st7,fr7⟩=>?_
   have I7':=I7.pinned (stat fr7) (T.obj _ _ st7);refine thn (hg _ _ _ _ _ _ s7 (compσ nt fi σ) H7 y u _ I7' r7 (gk _ _ _ _ (step y H7 y7))) fun _ s8 ⟨σ8,H8,I8,q8,l8,d8⟩=>?_
   refine thn (hc _ _ _ _ _ _ s8 σ8 H8 _ I8 q8) fun b s9 ⟨H9,I9,q9⟩=>?_
   have again:∀ {s':Shared} {H':Hp} {m':Nat} {acc':List V},Inv (cxC X scope cl N' s3.heap.objs.size s3 H3 fp) ((X.pn++pins)++pinsAt fp s7.heap) σ8 H' s'->m' < n->W (ii+1) m' acc' H' ->
     ∃ m,m < n/\∃ i acc H',Inv (cxC X scope cl N' s3.heap.objs.size s3 H3 fp) (X.pn++pins) (compσ nt fi σ) H' s'/\tn i s'.heap/\(∀ b ∈ fp,H' b=none)/\W i m acc H':=fun {s' H' m' acc'} I' hm w'=>by
    refine ⟨m',hm,ii+1,acc',H',I'.unpinned.weak l8.symm (compσ_weak l8 d8),T.keep _ _ _ st7 fun b hb o e=>(I'.pin (b,o) (List.mem_append_right _ (List.mem_append_right _ (fQ hb e)))).1,fun b hb=>?_,w'⟩;obtain ⟨o,e,d⟩:=T.obj _ _ st7 b hb;exact (I'.pin (b,o) (List.mem_append_right _ (List.mem_append_right _ (fQ hb e)))).2.1
   cases b with
   | false=>
    rw [if_neg Bool.false_ne_true] at q9 ⊢;obtain ⟨m',hm,w'⟩:=q9;exact again I9 hm w'
   | true=>
    rw [if_pos rfl] at q9 ⊢;refine thn (he _ _ _ _ _ _ s9 σ8 H9 _ I9 q9) fun uv s10 ⟨v10,H10,I10,r10,hD,hlt,m',hm,w'⟩=>?_
    refine thn (mW (X:=cxC X scope cl N' s3.heap.objs.size s3 H3 fp) _ s10 σ8 H10 (.ref s2.heap.objs.size) [v10] (.ref s2.heap.objs.size) [uv] (fun _ H'=>H'=upd H10 s2.heap.objs.size (.lst (acc++[v10]))) I10 rfl (.cons r10 .nil) ⟨_,acc,v10,rfl,rfl,hD,hlt,rfl⟩) fun _ s11 ⟨_,H11,I11,_,e11⟩=>?_
    subst e11;exact again I11 hm w'
 exact codeAny_compStart_list (loop _ rfl) (T.self _ 0 _ _ _ st3 (loop _ rfl))
end
structure Fly (P:Program) (w:World) (outer:List Env) (H H':Hp) (h h':Heap) (ea C:Addr):Prop where
 un:Un (frs outer) [] H H' h h'
 hok:HOk P w H' h'
 new:∀ b o,h.get? b=some o->b≠ea
 fr:H' ea=none
 fl:∃ B a0,Heap.FlyingW B outer ea (.ref C) a0 h'/\∀ b,((∃ o,h.get? b=some o)/\b ∉ frs outer)\/H' b≠none->∃ o,B.get? b=some o
noncomputable def XR (P:Program) (w:World):CXT:=fun outer H s E e s'=>
 ∃ ea C H',e=.ref ea/\0 < s'.toks/\s'.os=s.os/\AllBare s'.gens/\Fly P w outer H H' s.heap s'.heap ea C/\E (.ref C) none H'
theorem Fly.on {P:Program} {w:World} {outer:List Env} {H H':Hp} {h h' h2:Heap} {ea C:Addr} (F:Fly P w outer H H' h h' ea C) {B:Heap} {a0:Value}
  (fl1:Heap.FlyingW B outer ea (.ref C) a0 h') (inB:∀ b,((∃ o,h.get? b=some o)/\b ∉ frs outer)\/H' b≠none->∃ o,B.get? b=some o)
  (ff:∀ b ∈ frs outer,H b=none) (fl2:Heap.FlyingW B outer ea (.ref C) a0 h2) (up:h'.UpToSlots h2):Fly P w outer H H' h h2 ea C:=by
 have same:∀ b o,((∃ o,h.get? b=some o)/\b ∉ frs outer)\/H' b≠none->h'.get? b=some o->h2.get? b=some o:=fun b o hb e=>by
  obtain ⟨o',eB⟩:=inB b hb;have e1:=fl1.1 b o' eB;rw [e] at e1; cases e1;exact fl2.1 b o eB
 have sl:∀ b o,b ∈ frs outer->h'.get? b=some o->∃ sl,h2.get? b=some { o with slots:=sl }:=fun b o hb e=>by
  obtain ⟨_,o',ho',hd⟩:=fl1.2.2.1.mem hb;rw [e] at ho'; cases ho';exact up b o e hd
 refine ⟨⟨fun b o e n hf hx=>same b o (.inl ⟨⟨o,e⟩,hf⟩) (F.un.keep b o e n hf hx),fun b o e n hf hx=>?_,F.un.free,fun b o e hx=>?_,F.un.tups,F.un.frzs,F.un.tbls⟩,fun a o e=>?_,F.new,F.fr,B,a0,fl2,inB⟩
 ·obtain ⟨s1,e1⟩:=F.un.slot b o e n hf hx;obtain ⟨s2,e2⟩:=sl b _ hf e1;exact ⟨s2,e2⟩
 ·obtain ⟨o1,e1⟩:=F.un.there b o e hx;by_cases hf:b ∈ frs outer
  ·obtain ⟨s2,e2⟩:=sl b _ hf e1;exact ⟨_,e2⟩
  ·exact ⟨o1,same b o1 (.inl ⟨⟨o,e⟩,hf⟩) e1⟩
 ·refine (F.hok a o e).stay (fun b u hb q=>same b u (.inr ?_) q) (fun _ q=>q) fun _ _ q=>q
  rcases hb with rfl | hb
  ·rw [e]; simp
  ·rw [hb]; simp
section
variable {X:Cx} {pins:List (Addr × Obj)} {σ:St} {H:Hp} {s:Shared}
theorem sS {env:Env} {l:List Env} {L:Addr} (hf:env.frame=some L):frs (env::l)=L::frs l:=by unfold frs; rw [List.filterMap_cons,hf]
theorem Inv.leave (I:Inv X pins σ H s) (hex:X.ex=[]) {B h2:Heap} {ea C:Addr} {a0:Value} (hB:B.StaysIn s.heap) (up:s.heap.UpToSlots h2)
  (inB:∀ b,((∃ o,X.s₀.heap.get? b=some o)/\b ∉ frs X.outer)\/H b≠none->∃ o,B.get? b=some o) (fl:Heap.FlyingW B X.outer ea (.ref C) a0 h2)
  (new:∀ b o,X.s₀.heap.get? b=some o->b≠ea) (fr:H ea=none):Fly X.prog X.w X.outer X.H₀ H X.s₀.heap h2 ea C:=by
 have nx:∀ b:Addr,b ∉ X.ex:=fun b z=>by rw [hex] at z; cases z
 have same:∀ b o,((∃ o,X.s₀.heap.get? b=some o)/\b ∉ frs X.outer)\/H b≠none->s.heap.get? b=some o->h2.get? b=some o:=fun b o hb e=>by
  obtain ⟨o',eB⟩:=inB b hb;have e1:=hB b o' eB;rw [e] at e1; cases e1;exact fl.1 b o eB
 have sl:∀ b o,b ∈ frs X.outer->s.heap.get? b=some o->∃ sl,h2.get? b=some { o with slots:=sl }:=fun b o hb e=>by
  obtain ⟨_,o',ho',hd⟩:=I.funs.mem hb;rw [e] at ho'; cases ho';exact up b o e hd
 refine ⟨⟨fun b o e n hf _=>same b o (.inl ⟨⟨o,e⟩,hf⟩) (I.base.keep b o e n hf (nx b)),fun b o e n hf _=>?_,fun b o e n _=>I.base.free b o e n (nx b),fun b o e _=>?_,I.base.tups,I.base.frzs,I.base.tbls⟩,fun a o e=>?_,new,fr,B,a0,fl,inB⟩
 ·obtain ⟨s1,e1⟩:=I.base.slot b o e n hf (nx b);obtain ⟨s2,e2⟩:=sl b _ hf e1;exact ⟨s2,e2⟩
 ·obtain ⟨o1,e1⟩:=I.base.there b o e (nx b);by_cases hf:b ∈ frs X.outer
  ·obtain ⟨s2,e2⟩:=sl b _ hf e1;exact ⟨_,e2⟩
  ·exact ⟨o1,same b o1 (.inl ⟨⟨o,e⟩,hf⟩) e1⟩
 ·refine (I.hok a o e).stay (fun b u hb q=>same b u (.inr ?_) q) (fun _ q=>q) fun _ _ q=>q
  rcases hb with rfl | hb
  ·rw [e]; simp
  ·rw [hb]; simp
end
def Raises (X:Cx) (E:XK):Prop:=∀ (pins:List (Addr × Obj)) (σ:St) (H:Hp) (s:Shared) (h':Heap) (e C:Addr) (vs:List Value),
 Inv X pins σ H s->Heap.MadeExcOf s.heap h' e (.ref C) vs->E (.ref C) none H->X.xe (.ref e) { s with heap:=h' }
section
variable {P:Program} {w:World} {K:Frag} {mg:Str->Option Value} {base:Heap} {N:List Str} {qual:Str} {scope:Scope} {f:Addr} {cd:Value} {A:Around} {outer:List Env} {s₀:Shared} {H₀:Hp} {E:XK}
theorem dM:Raises (cxOf (XR P w) P w K mg base N qual scope f cd A outer s₀ H₀ E) E:=by
 intro pins σ H s h' e C vs I M q
 let X:Cx:=cxOf (XR P w) P w K mg base N qual scope f cd A outer s₀ H₀ E
 have I:Inv X pins σ H s:=I;have hf:X.env.frame=some X.env.locals:=rfl;have hst:X.stack=X.env::X.outer:=rfl;show wpAny (model P w) X.A (leaving X.env (.ref e)) (fun _ s''=>XR P w outer H₀ s₀ E (.ref e) s'') (fun e' s''=>XR P w outer H₀ s₀ E e' s'') { s with heap:=h' };have hin:∀ env ∈ X.stack,∀ a,env.frame=some a->a ∈ frs X.stack:=fun env he a ha=>List.mem_filterMap.mpr ⟨env,he,ha⟩
 refine wpAny_leaves_madeW (s:={ s with heap:=h' }) (base:=PySem.W.hideAll s.heap (frs X.stack)) (h:=s.heap) (env:=X.env) (outer:=X.outer) (L:=X.env.locals) I.ok.frames hf (fun b o z=>PySem.W.of_hideAll _ z) (PySem.W.funFrames_hide I.stack hin) M fun h2 t fl _ _ up=>?_
 have up1:s.heap.UpToSlots h2:=(Heap.UpToSlots.of_keeps M.keeps).trans up;have ne:∀ b o,s.heap.get? b=some o->b≠e:=fun b o q z=>by rw [z,M.new] at q; cases q
 refine ⟨e,C,H,rfl,I.tk,I.os,I.bare,I.leave rfl (fun b o z=>PySem.W.of_hideAll _ z) up1 (fun b hb=>?_) fl (fun b o z=>?_) ?_,q⟩
 ·rcases hb with ⟨⟨o,eo⟩,nf⟩ | hb
  ·obtain ⟨o1,e1⟩:=I.base.there b o eo (by intro z; cases z);refine ⟨o1,PySem.W.hideAll_get _ e1 ?_⟩;rw [hst,sS hf];intro z;rcases List.mem_cons.mp z with z | z
   ·exact absurd (Nat.lt_of_lt_of_le (Heap.lt_size eo) I.ok.above) (by rw [z]; exact Nat.lt_irrefl _)
   ·exact nf z
  ·cases eb:H b with
   | none=>exact absurd eb hb
   | some u=>
    have lt:=I.hok.lt eb;cases eo:s.heap.get? b with
    | none=>
     exfalso;have:=(I.hok b u eb);cases u with
     | lst xs=>obtain ⟨_,_,_,_,e⟩:=this; rw [eo] at e; cases e
     | tup xs=>obtain ⟨_,_,_,_,e,_⟩:=this; rw [eo] at e; cases e
     | dK kvs=>obtain ⟨_,_,_,_,o,_,_,e,_⟩:=this; rw [eo] at e; cases e
     | dT kvs=>obtain ⟨_,_,_,_,o,_,_,e,_⟩:=this; rw [eo] at e; cases e
     | set S n=>obtain ⟨o,_,_,_,e,_⟩:=this; rw [eo] at e; cases e
     | ins C dx fs=>obtain ⟨_,_,_,e,_⟩:=this; rw [eo] at e; cases e
     | own y=>obtain ⟨_,e⟩:=this; rw [eo] at e; cases e
     | xd fs=>obtain ⟨_,⟨_,_,_,e,_⟩,_⟩:=this; rw [eo] at e; cases e
     | rng lo hi=>obtain ⟨_,_,_,e⟩:=this; rw [eo] at e; cases e
     | frz ob u=>obtain ⟨e,_⟩:=this; rw [eo] at e; cases e
     | tbl ps=>obtain ⟨_,e,_⟩:=this; rw [eo] at e; cases e
     | met f y=>have e:s.heap.get? b=some _:=this; rw [eo] at e; cases e
     | ext φ=>obtain ⟨_,⟨_,e⟩,_⟩:=this; rw [eo] at e; cases e
    | some o=>
     refine ⟨o,PySem.W.hideAll_get _ eo fun z=>?_⟩;exact hb (I.stkFree b z)
 ·obtain ⟨o1,e1⟩:=I.base.there b o z (by intro z; cases z);exact ne b o1 e1
 ·cases eb:H e with
  | none=>rfl
  | some u=>
   exfalso;have:=(I.hok e u eb);have eo:=M.new;cases u with
   | lst xs=>obtain ⟨_,_,_,_,e⟩:=this; rw [eo] at e; cases e
   | tup xs=>obtain ⟨_,_,_,_,e,_⟩:=this; rw [eo] at e; cases e
   | dK kvs=>obtain ⟨_,_,_,_,o,_,_,e,_⟩:=this; rw [eo] at e; cases e
   | dT kvs=>obtain ⟨_,_,_,_,o,_,_,e,_⟩:=this; rw [eo] at e; cases e
   | set S n=>obtain ⟨o,_,_,_,e,_⟩:=this; rw [eo] at e; cases e
   | ins C dx fs=>obtain ⟨_,_,_,e,_⟩:=this; rw [eo] at e; cases e
   | own y=>obtain ⟨_,e⟩:=this; rw [eo] at e; cases e
   | xd fs=>obtain ⟨_,⟨_,_,_,e,_⟩,_⟩:=this; rw [eo] at e; cases e
   | rng lo hi=>obtain ⟨_,_,_,e⟩:=this; rw [eo] at e; cases e
   | frz ob u=>obtain ⟨e,_⟩:=this; rw [eo] at e; cases e
   | tbl ps=>obtain ⟨_,e,_⟩:=this; rw [eo] at e; cases e
   | met f y=>have e:s.heap.get? _=some _:=this; rw [eo] at e; cases e
   | ext φ=>obtain ⟨_,⟨_,e⟩,_⟩:=this; rw [eo] at e; cases e
theorem bn:Passes (XR P w) (cxOf (XR P w) P w K mg base N qual scope f cd A outer s₀ H₀ E) E:=by
 intro pins σ H s e s' I h
 let X:Cx:=cxOf (XR P w) P w K mg base N qual scope f cd A outer s₀ H₀ E
 have I:Inv X pins σ H s:=I;obtain ⟨ea,C,H',rfl,tk,os,bare,F,q⟩:=h;have hf:X.env.frame=some X.env.locals:=rfl;have hst:X.stack=X.env::X.outer:=rfl;show wpAny (model P w) X.A (leaving X.env (.ref ea)) (fun _ s''=>XR P w outer H₀ s₀ E (.ref ea) s'') (fun e' s''=>XR P w outer H₀ s₀ E e' s'') s';obtain ⟨B,a0,fl,inB⟩:=F.fl;have I2:Inv X pins σ H' s':=I.call' os F.un F.hok bare (fun b z=>nomatch z) tk;refine wpAny_leaves_onW (env:=X.env) (outer:=X.outer) (L:=X.env.locals) I.ok.frames hf fl fun h2 fl2 up=>?_
 refine ⟨ea,C,H',rfl,tk,os.trans I.os,bare,I2.leave rfl fl.1 up (fun b hb=>inB b ?_) fl2 (fun b o z=>?_) F.fr,q⟩
 ·rcases hb with ⟨⟨o,eo⟩,nf⟩ | hb
  ·obtain ⟨o1,e1⟩:=I.base.there b o eo (by intro z; cases z);refine .inl ⟨⟨o1,e1⟩,?_⟩;show b ∉ frs X.stack;rw [hst,sS hf];intro z;rcases List.mem_cons.mp z with z | z
   ·exact absurd (Nat.lt_of_lt_of_le (Heap.lt_size eo) I.ok.above) (by rw [z]; exact Nat.lt_irrefl _)
   ·exact nf z
  ·exact .inr hb
 ·obtain ⟨o1,e1⟩:=I.base.there b o z (by intro z; cases z);exact F.new b o1 e1
end
abbrev bmV:List Value:=[.type "ValueError",.type "Exception",.type "BaseException",.type "object"]
structure XCl (K:Frag) (C:Addr):Prop where
 ex:PySem.W.excIn K C bmV "ValueError.__new__" = true
 ty:PySem.W.typeIn K (.ref C)=some (.type "type")
 mb:PySem.W.mroIn K C (.type "BaseException")=some true
 ga:findIn K (.ref C) "__getattribute__" = some (some (.builtin "BaseException.__getattribute__"))
 gh:findIn K (.ref C) "__getattr__" = some none
 ca:findIn K (.ref C) "__class__" = some (some (.builtin "object.__class__"))
 gt:PySem.W.specialIn K (.builtin "object.__class__") "__get__" = some (some (.builtin "getset_descriptor.__get__"))
 tk:PySem.W.takesIn K (.builtin "object.__class__")=some true
 mo:PySem.W.mroIn K C (.type "object")=some true
theorem XCl.own {K:Frag} {h:Heap} {C:Addr} (c:XCl K C) (X:K.In h):OwnCls "x" C bmV "ValueError.__new__" (fun _=>some (.ref C)) h:=by
 have q:=c.ex;refine ⟨rfl,?_⟩;revert q;unfold PySem.W.excIn;rcases hk:K.lookup C with _ | ⟨oc,odd,oda,osl⟩
 ·intro q; cases q
 ·intro q;split at q
  case h_2=>cases q
  case h_1 dd cdt sl eo=>
   cases eo;split at q
   case h_2=>cases q
   case h_1 C' bm a0 a1 a2 a3 n a5 em es=>
    simp only [Bool.and_eq_true,beq_iff_eq,Bool.not_eq_true'] at q;obtain ⟨⟨⟨⟨⟨e1,e2⟩,e3⟩,e4⟩,e5⟩,e6⟩:=q;subst e1 e2;obtain ⟨f1,f2,f3,f4,f5,f6,f7,f8,f9,f10,f11⟩:=cdt;dsimp only at em e3 e5 e6;subst em e3;have el:osl=#[a0,a1,a2,a3,some (.builtin "ValueError.__new__"),a5]:=by
     rcases osl with ⟨l⟩
     simp only at es;rw [es]
    subst el;exact ⟨bm,f4,f1,f5,f2,f6,f7,f8,f9,f10,odd,a0,a1,a2,a3,a5,_,X _ _ hk,.of_isNs (PySem.W.isNs_of_in X e5),PySem.W.nsMap_none_of_in X e5 e6,PySem.W.tail_of_in X e4⟩
section
variable {X:Cx} {x:Str} {C:Addr} {np cpos pos:Pos} {e:Expr} {es:List Expr} {t:TA} {E:XK}
noncomputable def tRaise (C:Addr) (E:XK) (t:TA):TS:=fun _ σ H=>t σ H fun vs H1=>vs.length<=sizeLine/\E (.ref C) none H1
theorem eQ (hc:X.calm=true) (hx:Raises X E) (hg:Gl X x) (hm:X.mg x=some (.ref C)) (c:XCl X.K C) (ha:PA X (e::es) t) (hdb:(x == ("__debug__" : Str))=false:=by decide)
  (he:starEach (e::es) X.env=(false,eval e X.env)::starEach es X.env:=by rfl) (hpl:(backTo cpos (starEach es X.env)).any (·.1)=false:=by rfl):
  PS X (.Raise (some (.Call (.Name x np) (e::es) [] cpos)) none pos) (tRaise C E t):=by
 intro pins s σ H D I h;obtain ⟨tl,N,nm,q,bs,hdct,sn,sub,ab,col,dd,k0,k1,k2,k3,k5,mN,hC,hN,hni,T⟩:=(c.own I.mod.kin).obj;refine wpAny_Raise_call_subU (k5:=k5) (k3:=k3) (k2:=k2) (k1:=k1) (k0:=k0) (dd:=dd) (col:=col) (ab:=ab) (sub:=sub) (sn:=sn) (hdct:=hdct) (bs:=bs) (q:=q) (C:=C) (nm:=nm) (N:=N) (bm:=tl) (mN:=mN) PySem.F.excBase_ValueError (by decide) PySem.F.excBase_ValueError (T.hasType PySem.F.excBase_ValueError.hasBase) (I.ok.hd hc) ?_ hni (jP I hg hm ⟨rfl,?_⟩ hdb)
 ·rw [he];show (false || (backTo cpos (starEach es X.env)).any (·.1))=false;rw [hpl]; rfl
 ·have hp:=ha cpos pins s σ H _ I h;rw [he] at hp ⊢;refine Calls.evalArgs_plain (wpAny_mono hp (fun us s2 hq=>?_) fun _ _ y=>y);obtain ⟨vs,H1,I1,r,z,q1⟩:=hq;exact ⟨rfl,by rw [<- r.length]; exact z,I1.bk _ _ hC,hN.keeps I1.bk,T.keeps I1.bk,fun h' ea M=>hx pins σ H1 s2 h' ea C us I1 M q1⟩
end
section
variable {K:Frag} {M:Model} {h:Heap} {C D e:Addr}
theorem XCl.isType (d:XCl K D) (X:K.In h):PySem.W.Looks M h (isType (.ref D)) true:=by
 obtain ⟨tl,N,nm,q,bs,hdct,sn,sub,ab,col,dd,k0,k1,k2,k3,k5,mN,hC,hN,hni,T⟩:=(d.own X).obj;intro A Q E s k z;unfold PySem.isType loadHead;exact wpAny_bind (wpAny_loadPart (k D _ hC) (wpAny_pure z))
theorem mS (X:K.In h) (d:XCl K D) (m:PySem.W.mroIn K C (.ref D)=some true) (he:∃ o,h.get? e=some o/\o.cls=.ref C):PySem.W.Looks M h (excMatches (.ref e) (.ref D)) true:=by
 obtain ⟨oe,e1,e2⟩:=he;have T:PySem.W.Looks M h (typeOf (.ref e)) (.ref C):=e2 ▸ (PySem.W.Looks.ld e1).andThen .now;have TD:PySem.W.Looks M h (typeOf (.ref D)) (.type "type"):=PySem.W.looks_typeIn X d.ty;have S:=PySem.W.looks_mroIn (M:=M) X m;have SB:=PySem.W.looks_mroIn (M:=M) X d.mb;have NT:PySem.W.Looks M h (isInstance (.ref D) (.type "tuple")) false:=TD.andThen (.of_pure tc_notTuple);have IE:PySem.W.Looks M h (isExcClass (.ref D)) true:=by
  intro A Q E s k z;unfold isExcClass;refine wpAny_bind (d.isType X A _ E s k ?_);exact SB A Q E s k z
 intro A Q E s k q;unfold excMatches;refine wpAny_bind (NT A _ E s k ?_);simp only [Bool.false_eq_true,if_false];refine wpAny_bind (wpAny_pure ?_);simp only [List.forIn_cons,List.forIn_nil];refine wpAny_bind (wpAny_bind (wpAny_bind (IE A _ E s k ?_)));simp only [Bool.not_true,Bool.false_eq_true,if_false];refine wpAny_pure (wpAny_pure (wpAny_bind (T A _ E s k ?_)));refine wpAny_bind (wpAny_bind (wpAny_bind (S A _ E s k ?_)));simp only [if_true];exact wpAny_pure (wpAny_pure (wpAny_pure q))
end
noncomputable def Cx.tries (X:Cx) (W:St->XK) (p:List (Addr × Obj)):Cx:=
 { X with pn:=X.pn++p,xe:=fun e s'=>∃ σ H s,Inv X p σ H s/\XR X.prog X.w X.stack H s (W σ) e s' }
noncomputable def Cx.hand (X:Cx) (ea:Addr):Cx:={ X with A:=X.A.mark (some (.ref ea)),calm:=false,xe:=fun _ _=>False }
section
variable {X:Cx} {W:St->XK} {p pins:List (Addr × Obj)} {σ:St} {H:Hp} {s:Shared}
theorem Cx.Ok.tries (k:X.Ok):(X.tries W p).Ok:=
 ⟨k.mod,k.kind,k.glob,k.blt,k.above,k.inj,k.has,k.cab,k.hd,k.frames,k.stk,k.exf,k.bs,k.bsz,k.noex,k.exfs,k.funs,k.frf⟩
theorem Cx.Ok.untries (k:(X.tries W p).Ok):X.Ok:=
 ⟨k.mod,k.kind,k.glob,k.blt,k.above,k.inj,k.has,k.cab,k.hd,k.frames,k.stk,k.exf,k.bs,k.bsz,k.noex,k.exfs,k.funs,k.frf⟩
theorem Inv.tries (I:Inv X p σ H s):Inv (X.tries W p) [] σ H s:=
 ⟨I.ok.tries,I.os,I.bare,I.base,I.loc,I.cell,I.free,I.freeC,fun q hq=>I.pin q (by rw [List.append_nil] at hq; exact hq),I.hok,I.len,I.tk⟩
theorem Inv.untries (I:Inv (X.tries W p) pins σ H s):Inv X p σ H s:=
 ⟨I.ok.untries,I.os,I.bare,I.base,I.loc,I.cell,I.free,I.freeC,fun q hq=>I.pin q (List.mem_append_left _ hq),I.hok,I.len,I.tk⟩
theorem Cx.Ok.hand (k:X.Ok) (ea:Addr):(X.hand ea).Ok:=
 ⟨k.mod,k.kind,k.glob,k.blt,k.above,k.inj,k.has,k.cab,fun z=>(nomatch z),k.frames,k.stk,k.exf,k.bs,k.bsz,k.noex,k.exfs,k.funs,k.frf⟩
theorem Inv.hand (I:Inv X p σ H s) (ea:Addr):Inv (X.hand ea) p σ H s:=
 ⟨I.ok.hand ea,I.os,I.bare,I.base,I.loc,I.cell,I.free,I.freeC,I.pin,I.hok,I.len,I.tk⟩
theorem Inv.unhand {ea:Addr} (k:X.Ok) (I:Inv (X.hand ea) p σ H s):Inv X p σ H s:=
 ⟨k,I.os,I.bare,I.base,I.loc,I.cell,I.free,I.freeC,I.pin,I.hok,I.len,I.tk⟩
end
def PassesT (CX:CXT) (X:Cx) (W:St->XK):Prop:=∀ (pins:List (Addr × Obj)) (σ:St) (H:Hp) (s:Shared) (e:Value) (s':Shared),Inv X pins σ H s->CX X.stack H s (W σ) e s'->X.xe e s'
theorem passesT {X:Cx} {W:St->XK} {p:List (Addr × Obj)}:PassesT (XR X.prog X.w) (X.tries W p) W:=fun _ σ H s _ _ I h=>⟨σ,H,s,I.untries,h⟩
section
variable {X:Cx} {CX:CXT} {k:Nat} {f:Addr} {fd:FuncData} {ps:List Str} {sp:Sp} {dvs:List V} {ds:List Value} {W:St->XK} {x:Str} {p pos:Pos} {e:Expr} {es:List Expr} {t:TA}
noncomputable def tCallT (sp:Sp) (dvs:List V) (W:St->XK) (t:TA):TE:=fun σ H Q=>t σ H fun vs H1=>sp (vs++dvs) H1 Q (W σ)
theorem yN {pins:List (Addr × Obj)} {σ:St} {H:Hp} {s:Shared} {Q:VK} {us:List Value} {vs:List V} (F:FnOk X.prog X.w X.K X.mg X.base CX k f fd ps sp) (hr:Room k X.A) (hb:Binds X.K fd ps ds) (hd:Vals dvs ds) (hx:PassesT CX X W)
  (I:Inv X pins σ H s) (r:Vals vs us) (h:sp (vs++dvs) H Q (W σ)):wpAny (model X.prog X.w) X.A (call (.ref f) us) (EP X pins σ Q) X.xe s:=by
 have r2:Vals (vs++dvs) (us++ds):=r.append hd;have hl:ps.length=(us++ds).length:=(F.len _ _ _ _ h).symm.trans r2.length;have R:=F.run X.A X.stack s H ⟨us,[]⟩ (us++ds) (vs++dvs) Q (W σ) hr I.env0 (hb s us I.kIn hl.symm) r2 h;refine wpAny_call (codeAny_mono R fun r s' hq=>?_);rcases r with er | fl
 ·exact hx pins σ H s er s' I hq
 ·cases fl with
  | ret u=>exact I.after hq
  | _=>exact hq.elim
theorem xK (F:FnOk X.prog X.w X.K X.mg X.base CX k f fd ps sp) (hr:Room k X.A) (hg:Gl X x) (hm:X.mg x=some (.ref f)) (hk:keepIn X.K (.ref f)=true) (hb:Binds X.K fd ps ds) (hd:Vals dvs ds) (hx:PassesT CX X W)
  (ha:PA X (e::es) t) (hdb:(x == ("__debug__" : Str))=false:=by decide) (he:starEach (e::es) X.env=(false,eval e X.env)::starEach es X.env:=by rfl) (hpl:(backTo pos (starEach es X.env)).any (·.1)=false:=by rfl):
  PE X (.Call (.Name x p) (e::es) [] pos) (tCallT sp dvs W t):=fun pins s σ H Q I h=>
 wpAny_Call_Name_kw (jP I hg hm (PySem.W.callWith_K (h₀:=X.base) I.ok.mod.kin hk (thn (ha pos pins s σ H _ I h) fun us s1 ⟨vs,H1,I1,r,q⟩=>⟨I1.kIn,yN F hr hb hd hx I1 r q⟩) he hpl) hdb)
end
noncomputable def XO (C ea:Addr):HO:=.ext fun h=>∃ o,h.get? ea=some o/\o.cls=.ref C
theorem XO.ok {P:Program} {w:World} {H:Hp} {h:Heap} {C ea:Addr} (e:∃ o,h.get? ea=some o/\o.cls=.ref C):ObjOk P w H h ea (XO C ea):=
 ⟨e,let ⟨o,e1,_⟩:=e; ⟨o,e1⟩,fun _ _ ⟨o,e1,e2⟩ k=>⟨o,k o e1,e2⟩⟩
structure Caught (K:Frag) (C D:Addr):Prop where
 sub:PySem.W.mroIn K C (.ref D)=some true
noncomputable def tTryAs (K:Frag) (D:Addr) (i:Nat) (tb:(St->XK)->TS) (th:Addr->TS):TS:=fun R σ H=>
 tb (fun σ' cv _ H'=>∃ C,cv=.ref C/\Caught K C D/\∀ ea,H' ea=none ->
  th ea { nx:=fun σ2 H2=>R.nx (σ2.set i none) H2,rt:=R.rt,bk:=fun σ2 H2=>R.bk (σ2.set i none) H2,ct:=fun σ2 H2=>R.ct (σ2.set i none) H2 } (σ'.set i (some (.ref ea))) (upd H' ea (XO C ea))) R σ H
theorem Inv.unname {M:Model} {A:Around} {E:Value->Shared->Prop} {X:Cx} {pins:List (Addr × Obj)} {σ:St} {H:Hp} {s:Shared} {i:Nat} {n:Str} {pos:Pos} {Q:Unit->Shared->Prop} (I:Inv X pins σ H s) (hN:X.N.Nodup) (hi:X.N[i]? = some n) (hl:X.env.kindOf n=some .local)
  (h:∀ s',Inv X pins (σ.set i none) H s'->Q () s'):wpAny M A (do bindName X.env n .none; unbindBehindTheSuite X.env n pos) Q E s:=by
 obtain ⟨m,hn,hv⟩:=id I.loc;have hiσ:i < σ.length:=by rw [I.len]; exact (List.getElem?_eq_some_iff.mp hi).1
 refine wpAny_nameGoes_keeps hl hn (by rw [I.ok.kind]; rfl) fun h' v hn' hs=>h _ ?_
 obtain ⟨oL,_,_,hoL,_⟩:=id hn;have out:∀ b,b < X.s₀.heap.objs.size->b≠X.env.locals:=fun b z q=>absurd (Nat.lt_of_lt_of_le z I.ok.above) (by rw [q]; exact Nat.lt_irrefl _)
 refine ⟨I.ok,I.os,I.bare,⟨fun b o e z hb hx=>(hs.2 b (out b (Heap.lt_size e))).trans (I.base.keep b o e z hb hx),fun b o e z hb hx=>?_,I.base.free,fun b o e hx=>?_,I.base.tups,I.base.frzs,I.base.tbls⟩,⟨_,hn',fun j y v' e1 e2 e3=>?_⟩,fun y c e=>?_,I.free,I.freeC,fun q hq=>?_,fun b ob e=>?_,by simpa using I.len,Nat.succ_pos _⟩
 ·obtain ⟨sl,e1⟩:=I.base.slot b o e z hb hx;exact ⟨sl,(hs.2 b (out b (Heap.lt_size e))).trans e1⟩
 ·obtain ⟨o',e1⟩:=I.base.there b o e hx;exact ⟨o',(hs.2 b (out b (Heap.lt_size e))).trans e1⟩
 ·have hj:j≠i:=fun z=>by subst z; rw [List.getElem?_set_self hiσ] at e2; cases e2
  rw [List.getElem?_set_ne (Ne.symm hj)] at e2;obtain ⟨u',r',q⟩:=hv j y v' e1 e2 e3;refine ⟨u',r',?_⟩;rcases q with ⟨k,e⟩ | ⟨k,c,e,z⟩
  ·refine .inl ⟨k,?_⟩;have:y≠n:=fun e=>hj (oH hN e1 (e ▸ hi))
   simp [this,e]
  ·exact .inr ⟨k,c,e,z.sameBut hs (I.cne y c e)⟩
 ·obtain ⟨w',z⟩:=I.cell y c e;exact ⟨w',z.sameBut hs (I.cne y c e)⟩
 ·obtain ⟨e,z,ne,nf,d⟩:=I.pin q hq;exact ⟨(hs.2 q.1 ne).trans e,z,ne,nf,d⟩
 ·refine (I.hok b ob e).stay (fun c w' hc q=>(hs.2 c ?_).trans q) (fun _ q=>q) fun _ _ q=>q
  rintro rfl;rcases hc with rfl | hc
  ·rw [I.free] at e; cases e
  ·rw [I.free] at hc; cases hc
theorem xR {X:Cx} {body suite:List Stmt} {b₀:Stmt} {x n:Str} {np hpos pos:Pos} {D:Addr} {i:Nat} {tb:(St->XK)->TS} {th:Addr->TS} (hb:∀ W p,PSs (X.tries W p) body (tb W)) (hh:∀ ea,PSs (X.hand ea) (b₀ :: suite) (th ea))
  (hst:X.stack=X.env::X.outer) (hfr:X.env.frame=some X.env.locals) (hg:Gl X x) (hm:X.mg x=some (.ref D)) (d:XCl X.K D) (hN:X.N.Nodup) (hi:X.N[i]? = some n) (hl:X.env.kindOf n=some .local) (hdb:(x == ("__debug__" : Str))=false:=by decide):
  PS X (.Try body [.ExceptHandler (some (.Name x np)) (some n) (b₀ :: suite) hpos] [] [] pos) (tTryAs X.K D i tb th):=by
 intro pins s σ H R I h;refine wpAny_Try_except (wpAny_mono (hb _ pins [] s σ H R I.tries h) (fun f s1 q=>?_) fun e s1 q=>?_)
 ·have q:SP X pins R f s1:=by
   cases f with
   | next=>obtain ⟨σ',H',I',z⟩:=q; exact ⟨σ',H',I'.untries,z⟩
   | brk=>obtain ⟨σ',H',I',z⟩:=q; exact ⟨σ',H',I'.untries,z⟩
   | cont=>obtain ⟨σ',H',I',z⟩:=q; exact ⟨σ',H',I'.untries,z⟩
   | ret u=>obtain ⟨v,σ',H',I',r,z⟩:=q; exact ⟨v,σ',H',I'.untries,r,z⟩
  cases f with
  | next=>exact wpAny_execs_nil q
  | _=>exact q
 ·obtain ⟨σ1,H1,s0,I1,ea,C,H',rfl,tk,os,bare,F,C',eC,cau,k⟩:=q;cases eC;obtain ⟨B,a0,fl,inB⟩:=F.fl;have ff:∀ b ∈ frs X.stack,H1 b=none:=I1.stkFree;have hfs:X.A.frames=some (X.env::X.outer):=by rw [<- hst]; exact I1.ok.frames
  refine wpAny_looks_onW (env:=X.env) (outer:=X.outer) (L:=X.env.locals) hfs hfr (by rw [<- hst]; exact fl) fun h4 held4 up4=>?_
  refine wpAny_landsW held4 fun h5 fl5 up5=>?_
  have F5:Fly X.prog X.w X.stack H1 H' s0.heap h5 ea C:=F.on fl inB ff (by rw [hst]; exact fl5) (up4.trans up5);have I5:Inv X pins σ1 H' { s1 with heap:=h5 }:=I1.call' (s':={ s1 with heap:=h5 }) os F5.un F5.hok bare (fun b z=>nomatch z) tk;refine wpAny_handleBy_cons (codeAny_handlers_test ?_) (by intro q; cases q);refine jP (I5.hand ea) hg hm ?_ hdb;refine mS I5.kIn d cau.sub fl5.there _ _ _ _ (fun _ _ z=>z) ?_;refine codeAny_handlers_suite_as ?_;refine lands_againW fl5 fun h6 fl6 up6=>?_
  have F6:Fly X.prog X.w X.stack H1 H' s0.heap h6 ea C:=F5.on (by rw [hst]; exact fl5) inB ff (by rw [hst]; exact fl6) up6;have ne6:∀ b,H' b≠none->b≠ea:=fun b z q=>by rw [q,F6.fr] at z; exact z rfl
  have U6:Un (frs X.stack) [] H1 (upd H' ea (XO C ea)) s0.heap h6:=by
   refine ⟨F6.un.keep,F6.un.slot,fun b o e z hx=>?_,F6.un.there,fun b xs e=>?_,fun b o u e=>?_,fun b ps e=>?_⟩
   ·rw [aC (F6.new b o e)]; exact F6.un.free b o e z hx
   ·have q:=F6.un.tups b xs e;rw [aC (ne6 b (by rw [q]; simp))]; exact q
   ·have q:=F6.un.frzs b o u e;rw [aC (ne6 b (by rw [q]; simp))]; exact q
   ·obtain ⟨more,q⟩:=F6.un.tbls b ps e;exact ⟨more,by rw [aC (ne6 b (by rw [q]; simp))]; exact q⟩
  have O6:HOk X.prog X.w (upd H' ea (XO C ea)) h6:=fun b o e=>by
   by_cases hbe:b=ea
   ·subst hbe;rw [ah] at e; cases e;exact XO.ok fl6.there
   ·rw [aC hbe] at e;refine (F6.hok b o e).stay (fun _ _ _ q=>q) (fun c q=>?_) fun c xs q=>?_
    ·rw [aC (ne6 c (by rw [q]; simp))]; exact q
    ·rw [aC (ne6 c (by rw [q]; simp))]; exact q
  have I6:Inv X pins σ1 (upd H' ea (XO C ea)) { s1 with heap:=h6 }:=I1.call' (s':={ s1 with heap:=h6 }) os U6 O6 bare (fun b z=>nomatch z) tk;refine pj (X:=X.hand ea) (v:=.ref ea) (I6.hand ea) hN hi (.inl hl) rfl (fun s7 I7=>?_) (.inr hl);refine wpAny_mono (hh ea pins s7 _ _ _ I7 (k ea F6.fr)) (fun f s8 q=>?_) fun _ _ z=>z.elim
  cases f with
  | next=>obtain ⟨σ',H',I',z⟩:=q; exact (I'.unhand I.ok).unname hN hi hl fun s9 I9=>⟨_,_,I9,z⟩
  | brk=>obtain ⟨σ',H',I',z⟩:=q; exact (I'.unhand I.ok).unname hN hi hl fun s9 I9=>⟨_,_,I9,z⟩
  | cont=>obtain ⟨σ',H',I',z⟩:=q; exact (I'.unhand I.ok).unname hN hi hl fun s9 I9=>⟨_,_,I9,z⟩
  | ret u=>obtain ⟨v,σ',H',I',r,z⟩:=q; exact (I'.unhand I.ok).unname hN hi hl fun s9 I9=>⟨v,_,_,I9,r,z⟩
end L2
namespace L2
open PySem PySem.Spec PySem.Calls PyProof.Rows PySem.W Builtin Builtin.ObjectAttr Builtin.Getset_descriptor
section
variable {prog:Program} {w:World} {A:Around} {E:Value->Shared->Prop} {K:Frag} {x C:Addr} {o:Obj} {h:Heap} {g:Array GenState} {d:Drawn} {t:Nat} {os:OsState}
theorem uq {R:Result->Shared->Prop} (X:K.In h) (c:XCl K C) (hx:h.get? x=some o) (hc:o.cls=.ref C) (hq:R (.ok (.ret (.ref C))) ⟨h,g,d,t,os⟩):
  codeAny (model prog w) A (.call (.builtin "getset_descriptor.__get__") ⟨[.builtin "object.__class__",.ref x,.ref C],[]⟩) R ⟨h,g,d,t,os⟩:=by
 have L0:Looks (model prog w) h (typeOf (.ref x)) (.ref C):=hc ▸ (Looks.ld hx).andThen .now;have L1:=looks_mroIn (M:=model prog w) X c.mo;refine codeAny_call_builtin KF.slot_gs.plain KF.entry_gs (KF.slot_gs.check _ _ _ _ _ _ _ _ KF.type_class (KF.args_gs _ _ _) ?_);unfold Builtin.«getset_descriptor.__get__»;unfold descrGet;rw [dga_obj];apply wpAny_bind;apply wpAny_pure;unfold descrGetter descrCheckInstance;unfold descrNameAndClass;unfold isInstance;simp only [KF.owner_class]
 repeat lk
 refine ⟨Code.quiet_builtin _ (by decide +kernel),?_⟩;apply codeAny_builtin KF.entry_class;unfold Builtin.«object.__class__»;unfold shownTypeOf
 repeat lk
 exact hq
theorem so (X:K.In h) (c:XCl K C):Looks (model prog w) h (find (.ref x) (.ref C) "__class__") (Found.bind (.builtin "getset_descriptor.__get__") (.builtin "object.__class__")):=by
 have L1:=looks_findIn (M:=model prog w) X c.ca;have L2:Looks (model prog w) h (getOf (some (.builtin "object.__class__"))) (some (.builtin "getset_descriptor.__get__")):=looks_specialIn X c.gt;have L3:Looks (model prog w) h (dataDescriptor? (some (.builtin "object.__class__")) (some (.builtin "getset_descriptor.__get__"))) (some (.builtin "getset_descriptor.__get__",.builtin "object.__class__")):=(looks_takesIn (M:=model prog w) X c.tk).andThen .now;exact L1.andThen (L2.andThen (L3.andThen (Looks.tag .now)))
theorem rL {tk:Tok} {Q:Fin->Shared->Prop} (X:K.In h) (c:XCl K C) (hx:h.get? x=some o) (hc:o.cls=.ref C) (hq:Q (.done (.ret (.ref C))) ⟨h,g,d,t,os⟩):
  wpAny (model prog w) A (Builtin.«object.__getattribute__» ⟨[.ref x,.str "__class__" tk],[]⟩) Q E ⟨h,g,d,t,os⟩:=by
 have L0:Looks (model prog w) h (typeOf (.ref x)) (.ref C):=hc ▸ (Looks.ld hx).andThen .now;have L1:=so (prog:=prog) (w:=w) (x:=x) X c;unfold Builtin.«object.__getattribute__»;apply wpAny_bind;apply wpAny_pure;dsimp only;apply wpAny_bind;apply wpAny_pure;refine wpAny_bind (L0.at (wpAny_bind (L1.at ?_)));dsimp only;show wpAny _ _ (holding [Value.builtin "object.__class__"] (call (Value.builtin "getset_descriptor.__get__") [Value.builtin "object.__class__",.ref x,.ref C])>>=ret) _ _ _;exact wpAny_bind (wpAny_holding (wpAny_call (uq X c hx hc (wpAny_pure hq))))
theorem vq {M:Model} {nv:Value} {Q:Unit->Shared->Prop} (X:K.In h) (c:XCl K C) (hx:h.get? x=some o) (hc:o.cls=.ref C) (hq:Q () ⟨h,g,d,t,os⟩):
  wpAny M A (checkBuiltinCall "BaseException.__getattribute__" ⟨[.ref x,nv],[]⟩) Q E ⟨h,g,d,t,os⟩:=by
 have LI:Looks M h (isInstance (.ref x) (.type "BaseException")) true:=(hc ▸ (Looks.ld hx).andThen .now:Looks M h (typeOf (.ref x)) (.ref C)).andThen (looks_mroIn (M:=M) X c.mb);have kd:builtinKind "BaseException.__getattribute__" = some .slot:=by decide +kernel
 have sp:splitId "BaseException.__getattribute__" = some ("BaseException", "__getattribute__"):=by decide +kernel
 have ag:=PySem.F.args_bexc_ga (.ref x) nv;simp only [checkBuiltinCall,kd,sp];refine wpAny_bind (LI.at ?_);simp only [Bool.not_true,Bool.false_eq_true,if_false]
 repeat (any_goals (first | assumption | wp_step))
theorem wB {tk:Tok} {Q:Value->Shared->Prop} (X:K.In h) (c:XCl K C) (hx:h.get? x=some o) (hc:o.cls=.ref C) (hq:Q (.ref C) ⟨h,g,d,t,os⟩):
  wpAny (model prog w) A (getAttrBy (.ref x) (.str "__class__" tk) false) Q E ⟨h,g,d,t,os⟩:=by
 have L0:Looks (model prog w) h (typeOf (.ref x)) (.ref C):=hc ▸ (Looks.ld hx).andThen .now;have L1:=looks_findIn (M:=model prog w) X c.ga;have L2:=looks_findIn (M:=model prog w) X c.gh;have L3:=looks_mroIn (M:=model prog w) X c.mb;have LI:Looks (model prog w) h (isInstance (.ref x) (.type "BaseException")) true:=L0.andThen L3;unfold getAttrBy;refine wpAny_holding (wpAny_bind (L0.at (wpAny_bind (L1.at ?_))));dsimp only;have nga:(Value.builtin "BaseException.__getattribute__" == Value.builtin "object.__getattribute__")=false:=by decide +kernel
 rw [if_neg (by rw [nga,Bool.and_false]; decide)];unfold getAttrByItsOwn hookBefore;refine wpAny_bind (L2.at ?_);refine wpAny_bind (wpAny_attempt (wpAny_holding ?_));unfold callGetattribute;rw [if_neg (by decide)];unfold boundAndCalled;rw [PySem.F.attrBase_ValueError.ga.bind];refine wpAny_bind (wpAny_pure ?_);refine wpAny_call (codeAny_call_builtin PySem.F.attrBase_ValueError.ga.plain PySem.F.entry_bexc_ga ?_);refine vq X c hx hc ?_;have ok:wpAny (model prog w) A.in1 (Builtin.«object.__getattribute__» ⟨[.ref x,.str "__class__" tk],[]⟩) (fun fin s'=>fin=.done (.ret (.ref C))/\s'=⟨h,g,d,t,os⟩) (fun _ _=>False) ⟨h,g,d,t,os⟩:=rL X c hx hc ⟨rfl,rfl⟩;refine wpAny_mono ok (fun fin s' z=>?_) fun _ _ z=>z.elim
 obtain ⟨rfl,rfl⟩:=z;dsimp only;exact handed_on rfl hq
theorem sf {Q:Option Value->Shared->Prop} (X:K.In h) (c:XCl K C) (hx:h.get? x=some o) (hc:o.cls=.ref C) (hq:Q (some (.ref C)) ⟨h,g,d,t+1,os⟩):
  wpAny (model prog w) A (getAttr? (.ref x) "__class__") Q E ⟨h,g,d,t,os⟩:=by
 unfold getAttr? getAttrBy?;refine wpAny_bind (wpAny_mkText ?_);refine wpAny_bind (wpAny_attempt (wB X c hx hc ?_));exact wpAny_pure hq
theorem xi (c:XCl K C):KitX K (.ref x) (.ref C) (fun h=>∃ o,h.get? x=some o/\o.cls=.ref C) where
 ty:=fun _ _ _ ⟨_,e1,e2⟩=>e2 ▸ (Looks.ld e1).andThen .now
 it:=fun _ _ X _=>c.isType X
 ne:=fun h tp dd its n sl X htp=>by
  obtain ⟨tl,N,nm,q,bs,hdct,sn,sub,ab,col,dd',k0,k1,k2,k3,k5,mN,hC,_⟩:=(c.own X).obj;refine Bool.eq_false_iff.mpr fun q=>?_
  have e:C=tp:=Value.ref.inj (beq_iff_eq.mp q);rw [e] at hC;have z:=congrArg Obj.data (Option.some.inj (hC.symm.trans htp));cases z
 ca:=fun {_ _ _ _ _ s} X ⟨_,e1,e2⟩ k=>by
  obtain ⟨h,g,d,t,os⟩:=s;exact sf X c e1 e2 k
end
theorem zQ {K:Frag} {C D:Addr} {b:Bool} (c:XCl K D) (m:mroIn K C (.ref D)=some b) (hb:b=false->C≠D):kitOne K (.ref C) (.ref D)=some b:=by
 unfold kitOne;by_cases q:((Value.ref C == Value.ref D)=true)
 ·rw [if_pos q];have e:C=D:=Value.ref.inj (beq_iff_eq.mp q);cases b with
  | true=>rfl
  | false=>exact absurd e (hb rfl)
 ·rw [if_neg q];unfold kitCls;dsimp only;have hc:(clsIn K D).isSome=true:=by
   have:=c.mb;unfold mroIn at this;cases e:clsIn K D with
   | none=>rw [e] at this; cases this
   | some cd=>rfl
  rw [if_pos (by rw [hc,c.ty]; simp)];exact m
theorem x4 {K:Frag} {C:Addr} {b:Bool} (m:mroIn K C (.type "ValueError")=some b):kitOne K (.ref C) (.type "ValueError")=some b:=by
 unfold kitOne;rw [if_neg (by intro q; cases beq_iff_eq.mp q)];unfold kitCls;dsimp only;rw [if_pos (by decide +kernel)];exact m
section
variable {X:Cx} {pins:List (Addr × Obj)} {σ:St} {H:Hp} {s:Shared}
theorem Inv.exc (I:Inv X pins σ H s) {ea C:Addr} (e:H ea=some (XO C ea)):∃ o,s.heap.get? ea=some o/\o.cls=.ref C:=(I.hok ea _ e).1
noncomputable def V.cv:V->Option Value
 | .ref a=>some (.ref a)
 | .ty n=>some (.type n)
 | _=>none
theorem V.cv_of {v:V} {u c:Value} (r:RelV v u) (e:v.cv=some c):u=c:=by
 cases v with
 | ref a=>cases e; exact r
 | ty n=>cases e; exact r
 | _=>cases e
theorem vm:CallR X (.builtin "isinstance") (fun xs H Q=>∃ ea C v d b,xs=[.ref ea,v]/\v.cv=some d/\H ea=some (XO C ea)/\XCl X.K C/\kitOne X.K (.ref C) d=some b/\Q (.bl b) H):=by
 intro pins s σ H xs us Q I r h;obtain ⟨ea,C,v,d,b,rfl,ev,e,c,m,q⟩:=h;obtain ⟨u,u',rfl,r1,r2⟩:=vals2 r;cases r1;cases V.cv_of r2 ev;exact tokQ I.tk (kia_one (xi c) I.kIn (I.exc e) m (fun z=>nomatch z) fun tk (htk:0 < tk)=>⟨.bl b,H,I.tok _,rfl,q⟩)
end
end L2
namespace L2
open PySem PySem.Spec PyProof.Rows
def CalleeX (P:Program) (w:World) (K:Frag) (mg:Str->Option Value) (base:Heap) (k:Nat) (x:Str) (ps:List Str) (sp:Sp):Prop:=
 ∃ f fd,FnOk P w K mg base (XR P w) k f fd ps sp/\Binds K fd ps []/\keepIn K (.ref f)=true/\mg x=some (.ref f)
theorem Fn.calX {P:Program} {w:World} {K:Frag} {mg:Str->Option Value} {base:Heap} {x:Str} {st:Stmt} {N ps:List Str} {k:Nat} {sp:Sp} (F:Fn K mg x st) (S:FnScope N ps (defScope st)) (len:∀ vs H Q E,sp vs H Q E->vs.length=ps.length)
  (hb:∀ (kV doc pm:Value) (an:Option Addr) (cdv ct:Value) (us:List Value),us.length=ps.length->bindArgs (fnOf x x (defArgs st) (defBody st) (defScope st) .none kV doc pm an cdv ct) ⟨us,[]⟩=pure (ps.zip us))
  (hbody:∀ (f:Addr) (cdv:Value) (A:Around) (outer:List Env) (s:Shared) (H:Hp) (vs:List V) (Q:VK) (E:XK),Room k (A.deeper (envOfC x (defScope st) s.heap.objs.size f cdv))->sp vs H Q E ->
   ∃ t,PSs (cxOf (XR P w) P w K mg base N x (defScope st) f cdv A outer s H E) (defBody st) t/\t { nx:=fun _ H'=>Q .non H',rt:=Q } (start N vs) H):CalleeX P w K mg base (k+1) x ps sp:=by
 obtain ⟨f,fd,F,m⟩:=F;have hB:=F.binds hb;have hK:=F.kp;obtain ⟨oc,od,kV,doc,pm,an,cdv,ct,osl,rfl,lk,hcd⟩:=F.ex;exact ⟨f,_,zY lk hcd S len (hbody f cdv),hB,hK,m⟩
section
variable {X:Cx} {k:Nat} {x:Str} {ps:List Str} {sp:Sp} {p pos:Pos} {e:Expr} {es:List Expr} {t:TA} {E:XK} {W:St->XK}
theorem dW (C:CalleeX X.prog X.w X.K X.mg X.base k x ps sp) (hr:Room k X.A) (hx:Passes (XR X.prog X.w) X E) (hg:Gl X x) (ha:PA X (e::es) t)
  (he:starEach (e::es) X.env=(false,eval e X.env)::starEach es X.env:=by rfl) (hpl:(backTo pos (starEach es X.env)).any (·.1)=false:=by rfl) (hd:(x == ("__debug__" : Str))=false:=by decide):PE X (.Call (.Name x p) (e::es) [] pos) (tCall sp [] E t):=by
 obtain ⟨f,fd,F,b,kp,m⟩:=C;exact uM F hr hg m kp b .nil hx ha (hdb:=hd) (he:=he) (hpl:=hpl)
theorem Ak (C:CalleeX X.prog X.w X.K X.mg X.base k x ps sp) (hr:Room k X.A) (hx:PassesT (XR X.prog X.w) X W) (hg:Gl X x) (ha:PA X (e::es) t)
  (he:starEach (e::es) X.env=(false,eval e X.env)::starEach es X.env:=by rfl) (hpl:(backTo pos (starEach es X.env)).any (·.1)=false:=by rfl) (hd:(x == ("__debug__" : Str))=false:=by decide):PE X (.Call (.Name x p) (e::es) [] pos) (tCallT sp [] W t):=by
 obtain ⟨f,fd,F,b,kp,m⟩:=C;exact xK F hr hg m kp b .nil hx ha (hdb:=hd) (he:=he) (hpl:=hpl)
theorem CalleeX.calm {P:Program} {w:World} {K:Frag} {mg:Str->Option Value} {base:Heap} {k:Nat} {x:Str} {ps:List Str} {sp:Sp} (C:CalleeX P w K mg base k x ps sp):
  Callee P w K mg base k x ps (fun vs H Q _=>sp vs H Q E0):=by
 obtain ⟨f,fd,F,b,kp,m⟩:=C;refine ⟨f,fd,⟨fun vs H Q _ h=>F.len vs H Q E0 h,fun A outer s H args us vs Q E hr e0 hb hv h=>?_⟩,b,kp,m⟩;refine codeAny_mono (F.run A outer s H args us vs Q E0 hr e0 hb hv h) fun r s' q=>?_
 rcases r with er | fl
 ·obtain ⟨_,_,_,_,_,_,_,_,z⟩:=q;exact z.elim
 ·cases fl with
  | ret u=>exact q
  | _=>exact q.elim
end
section
variable {X:Cx} {a c:Expr} {es:List Expr} {ta:TE} {pos p tpos:Pos} {x1:Nat}
noncomputable def cIsX (K:Frag) (d:Value) (ta:TE):TE:=fun σ H Q=>ta σ H fun x H1=>match x with
 | .ref ea=>∃ C b,H1 ea=some (XO C ea)/\XCl K C/\PySem.W.kitOne K (.ref C) d=some b/\Q (.bl b) H1
 | _=>False
theorem fF {v:V} {d:Value} (K:Frag) (hK:X.K=K) (ev:v.cv=some d) (hg:Gl X "isinstance") (hm:X.mg "isinstance" = none) (ha:PE X a ta) (hc:PE X c (tC v))
  (hs:starEach [a,c] X.env=(false,eval a X.env)::starEach [c] X.env:=by rfl) (hs2:starEach [c] X.env=(false,eval c X.env)::starEach [] X.env:=by rfl) (hpl:(backTo pos (starEach [c] X.env)).any (·.1)=false:=by rfl):PE X (.Call (.Name "isinstance" p) [a,c] [] pos) (cIsX K d ta):=by
 subst hK;refine (av vm hg hm kU (aa ha.mono (aa hc ac hs2) hs) (he:=hs) (hpl:=hpl)).imp fun σ H Q q=>⟨_,q,fun x H1 z=>?_⟩
 split at z
 ·obtain ⟨C,b,h1,h2,h3,z⟩:=z;exact ⟨_,C,v,d,b,rfl,ev,h1,h2,h3,z⟩
 ·exact z.elim
end
noncomputable abbrev TJ:=Nat->St->Hp->(Hp->Prop)->Prop
def PJ (X:Cx) (es:List Expr) (t:TJ):Prop:=∀ (acc:Str) (pins:List (Addr × Obj)) (s:Shared) (σ:St) (H:Hp) (Q:Hp->Prop),acc.length<=sizeLine->Inv X pins σ H s->t acc.length σ H Q ->
 Joins (model X.prog X.w) X.A X.xe (evalEach es X.env) acc (fun out s1=>out.length<=sizeLine/\∃ H1,Inv X pins σ H1 s1/\Q H1) s
noncomputable def jNil:TJ:=fun _ _ H Q=>Q H
noncomputable def jCons (te:TE) (tj:TJ):TJ:=fun n σ H Q=>te σ H fun x H1=>match x with
 | .str y=>n+y.length<=sizeLine/\tj (n+y.length) σ H1 Q
 | _=>False
section
variable {X:Cx} {e v1 v2:Expr} {es rest:List Expr} {te:TE} {tj:TJ} {pos:Pos}
theorem jA:PJ X [] jNil:=fun acc pins s σ H Q hz I q=>⟨hz,H,I,q⟩
theorem bV (he:PE X e te) (hr:PJ X es tj) (hs:evalEach (e::es) X.env=eval e X.env::evalEach es X.env:=by rfl):PJ X (e::es) (jCons te tj):=by
 intro acc pins s σ H Q hz I q;rw [hs];refine thn (he pins s σ H _ I q) fun u s1 ⟨x,H1,I1,r,z⟩=>?_
 dsimp only at z;split at z
 ·rename_i y;obtain ⟨t,rfl⟩:=r;have hl:(acc++y).length=acc.length+y.length:=strLen_append _ _;exact ⟨y,t,rfl,by rw [hl]; exact z.1,hr (acc++y) pins s1 σ H1 Q (by rw [hl]; exact z.1) I1 (by rw [hl]; exact z.2)⟩
 ·exact z.elim
noncomputable def cFS (tj:TJ):TE:=fun σ H Q=>tj 0 σ H fun H1=>∀ z,Q (.str z) H1
theorem lY (h:PJ X (v1::v2::rest) tj):PE X (.JoinedStr (v1::v2::rest) pos) (cFS tj):=by
 intro pins s σ H Q I q;have J:=h Str.empty pins s σ H _ (by decide) I q;refine wpAny_JoinedStr ?_;have mono:∀ {P R:Str->Shared->Prop} (l:List (Sem Value)) (acc:Str) (s:Shared),(∀ o s,P o s->R o s)->Joins (model X.prog X.w) X.A X.xe l acc P s->Joins (model X.prog X.w) X.A X.xe l acc R s:=by
  intro P R l
  induction l with
  | nil=>intro acc s k z; exact k _ _ z
  | cons x r ih=>
   intro acc s k z;exact thn z fun v s1 ⟨y,t,e,hz,z⟩=>⟨y,t,e,hz,ih _ _ k z⟩
 exact mono _ _ _ (fun out s1 ⟨hz,H1,I1,z⟩=>⟨hz,⟨.str out,H1,I1.tok _,⟨_,rfl⟩,z out⟩⟩) J
noncomputable def cFmtR (tv:TE):TE:=fun σ H Q=>tv σ H fun x H1=>match x with
 | .str y=>(∀ c ∈ y.cps.toList,c < 16 ^ 8)/\y.length<=100000/\∀ z:Str,z.length<=10*y.length+2->Q (.str z) H1
 | _=>False
theorem n8 (hv:PE X e te):PE X (.FormattedValue e 114 none pos) (cFmtR te):=by
 intro pins s σ H Q I q;refine wpAny_FormattedValue_repr (thn (hv pins s σ H _ I q) fun u s1 ⟨x,H1,I1,r,z⟩=>?_);dsimp only at z;split at z
 ·rename_i y;obtain ⟨t,rfl⟩:=r;obtain ⟨h1,h2,z⟩:=z;have hl:=PySem.StrLaws.reprText_len y h1;have hs:(reprText y).length<=sizeLine:=Nat.le_trans hl (Nat.le_trans (by omega:10*y.length+2<=1000002) (by decide));refine wpAny_pyReprObj_str ?_ hs;exact tokQ (Nat.succ_pos _) (formatField_str (fun t' tk (htk:0 < tk)=>⟨.str (reprText y),H1,I1.tok _,⟨_,rfl⟩,z _ hl⟩) hs)
 ·exact z.elim
end
noncomputable def xA (K:Frag) (x:Str):Addr:=match nsIn K mainGlobals x with
 | some (some (.ref a))=>a
 | _=>0
theorem uT {K:Frag} {x:Str} {C:Addr} (e:nsIn K mainGlobals x=some (some (.ref C))):xA K x=C:=by unfold xA; rw [e]
def Xn (K:Frag) (mg:Str->Option Value) (x:Str):Prop:=mg x=some (.ref (xA K x))/\XCl K (xA K x)
def Xm (K:Frag) (x y:Str) (b:Bool):Prop:=PySem.W.mroIn K (xA K x) (.ref (xA K y))=some b/\(b=false->xA K x≠xA K y)
def Xv (K:Frag) (x:Str):Prop:=PySem.W.mroIn K (xA K x) (.type "ValueError")=some true
theorem Xn.kit {K:Frag} {mg:Str->Option Value} {x y:Str} {b:Bool} (m:Xm K x y b) (n:Xn K mg y):PySem.W.kitOne K (.ref (xA K x)) (.ref (xA K y))=some b:=zQ n.2 m.1 m.2
theorem Xv.kit {K:Frag} {x:Str} (m:Xv K x):PySem.W.kitOne K (.ref (xA K x)) (.type "ValueError")=some true:=x4 m
theorem Xm.caught {K:Frag} {x y:Str} (m:Xm K x y true):Caught K (xA K x) (xA K y):=⟨m.1⟩
theorem ql:bootBuiltins "ValueError" = some (.type "ValueError"):=by decide +kernel
section
variable {K:Frag} {h:Heap} {mg:Str->Option Value} {x y:Str} {C D:Addr}
theorem BD (X:K.In h) (G:h.Ns mainGlobals mg) (n:nsIn K mainGlobals x=some (some (.ref C))) (ex:PySem.W.excIn K C bmV "ValueError.__new__" = true) (ty:PySem.W.typeIn K (.ref C)=some (.type "type")) (mb:PySem.W.mroIn K C (.type "BaseException")=some true)
  (ga:findIn K (.ref C) "__getattribute__" = some (some (.builtin "BaseException.__getattribute__"))) (gh:findIn K (.ref C) "__getattr__" = some none) (ca:findIn K (.ref C) "__class__" = some (some (.builtin "object.__class__"))) (mo:PySem.W.mroIn K C (.type "object")=some true)
  (gt:PySem.W.specialIn K (.builtin "object.__class__") "__get__" = some (some (.builtin "getset_descriptor.__get__"))) (tk:PySem.W.takesIn K (.builtin "object.__class__")=some true):Xn K mg x:=by
 unfold Xn;rw [uT n];exact ⟨mg_of X G n,⟨ex,ty,mb,ga,gh,ca,gt,tk,mo⟩⟩
theorem jb {b:Bool} (n:nsIn K mainGlobals x=some (some (.ref C))) (n':nsIn K mainGlobals y=some (some (.ref D))) (m:PySem.W.mroIn K C (.ref D)=some b) (d:b=false->C≠D):Xm K x y b:=by
 unfold Xm;rw [uT n,uT n'];exact ⟨m,d⟩
theorem qt (n:nsIn K mainGlobals x=some (some (.ref C))) (m:PySem.W.mroIn K C (.type "ValueError")=some true):Xv K x:=by
 unfold Xv;rw [uT n];exact m
end
theorem i6 {X:Cx} {K:Frag} {x:Str} {pos:Pos} (n:Xn K X.mg x) (hg:Gl X x) (hd:(x == ("__debug__" : Str))=false:=by decide):PE X (.Name x pos) (tC (.ref (xA K x))):=zv (v:=.ref (xA K x)) hg n.1 rfl hd
theorem yb {sp:Sp} {W:St->XK} {t:TA} {σ:St} {H:Hp} {Q:VK}:tCallT sp [] W t σ H Q=t σ H fun vs H1=>sp vs H1 Q (W σ):=by
 unfold tCallT;simp only [List.append_nil]
theorem wY {C:Addr} {E:XK} {t:TA} {D:Ends} {σ:St} {H:Hp}:tRaise C E t D σ H=t σ H fun vs H1=>vs.length<=sizeLine/\E (.ref C) none H1:=rfl
theorem BI {tj:TJ} {σ:St} {H:Hp} {Q:VK}:cFS tj σ H Q=tj 0 σ H fun H1=>∀ z,Q (.str z) H1:=rfl
theorem AA {n:Nat} {σ:St} {H:Hp} {Q:Hp->Prop}:jNil n σ H Q=Q H:=rfl
theorem yH {te:TE} {tj:TJ} {n:Nat} {σ:St} {H:Hp} {Q:Hp->Prop}:jCons te tj n σ H Q=te σ H fun x H1=>match x with
 | .str y=>n+y.length<=sizeLine/\tj (n+y.length) σ H1 Q
 | _=>False:=rfl
theorem yB {tv:TE} {σ:St} {H:Hp} {Q:VK}:cFmtR tv σ H Q=tv σ H fun x H1=>match x with
 | .str y=>(∀ c ∈ y.cps.toList,c < 16 ^ 8)/\y.length<=100000/\∀ z:Str,z.length<=10*y.length+2->Q (.str z) H1
 | _=>False:=rfl
theorem Av {K:Frag} {d:Value} {ta:TE} {σ:St} {H:Hp} {Q:VK}:cIsX K d ta σ H Q=ta σ H fun x H1=>match x with
 | .ref ea=>∃ C b,H1 ea=some (XO C ea)/\XCl K C/\PySem.W.kitOne K (.ref C) d=some b/\Q (.bl b) H1
 | _=>False:=rfl
theorem xl {K:Frag} {D:Addr} {i:Nat} {tb:(St->XK)->TS} {th:Addr->TS} {R:Ends} {σ:St} {H:Hp}:tTryAs K D i tb th R σ H =
 tb (fun σ' cv _ H'=>∃ C,cv=.ref C/\Caught K C D/\∀ ea,H' ea=none ->
  th ea { nx:=fun σ2 H2=>R.nx (σ2.set i none) H2,rt:=R.rt,bk:=fun σ2 H2=>R.bk (σ2.set i none) H2,ct:=fun σ2 H2=>R.ct (σ2.set i none) H2 } (σ'.set i (some (.ref ea))) (upd H' ea (XO C ea))) R σ H:=rfl
end L2
namespace L2
open PySem PySem.Spec PyProof.Rows PySem.Builtin PySem.Builtin.Str
section
variable {X:Cx}
end
end L2
namespace L2
open PySem PySem.Spec PyProof.Rows
section
variable {K:Frag} {g:TG} {tc:TT} {te:TE} {σc:St} {D:Addr} {Q:VK} {H:Hp}
theorem rQ {α β:Type} {F:α -> β -> Prop} {l:List α} {m:List β} {x:α} {y:β} (h:Paired F l m) (r:F x y):Paired F (l++[x]) (m++[y]):=by
 induction h with
 | nil=>exact .cons r .nil
 | cons r' _ ih=>exact .cons r' ih
theorem vL {lo:Int} {n:Nat} (R:Nat->V->Hp->Prop) (hfree:H D=none) (hn:n<=100000)
  (mono:∀ x v H1 H2 acc,H1 D=some (.lst acc)->(∀ b o,b≠D->H1 b=some o->H2 b=some o)->R x v H1->R x v H2)
  (hs:∀ i H1 (out:VK) (non:Hp->Prop),i < n->Same H H1->(∀ v H6,Same H1 H6->R i v H6->out v H6) ->
   g (.int (lo+i)) σc H1 fun σ4 H4=>tc σ4 H4 fun b H5=>if b=true then te σ4 H5 out else non H5)
  (hq:∀ H' vs,Same H H'->H' D=some (.lst vs)->Paired (fun x v=>R x v H') (List.range n) vs->Q (.ref D) H'):compW (Itr lo n) g tc te σc D Q H:=by
 refine ⟨fun i m acc H2=>m=n - i/\i<=n/\Paired (fun x v=>R x v H2) (List.range i) acc/\Same H H2/\H2 D=some (.lst acc),⟨n,by simp,Nat.zero_le _,.nil,ai hfree _,ah⟩,?_⟩;rintro i m acc H2 ⟨rfl,hi,pr,sm,hD⟩;have len:acc.length=i:=by rw [<- pr.length,List.length_range]
 by_cases hlt:i < n
 ·refine .inr ⟨hlt,fun x H3 y=>?_⟩;obtain ⟨rfl,rfl⟩:=y;refine hs i _ _ _ hlt sm fun v H6 s6 r=>?_
  refine ⟨s6 _ _ hD,Nat.lt_of_le_of_lt (Nat.le_of_eq len) (sizeBig (by omega)),n - (i+1),by omega,rfl,hlt,?_,aS (sm.trans s6) hfree,ah⟩;have lift:∀ {l:List Nat} {vs:List V},Paired (fun x v=>R x v H3) l vs->Paired (fun x v'=>R x v' (upd H6 D (.lst (acc++[v])))) l vs:=fun pp=>
   L2.Paired.mapP pp fun _ _ r=>mono _ _ H3 _ acc hD (fun b o nb q=>by rw [aC nb]; exact s6 _ _ q) r
  rw [List.range_succ];exact rQ (lift pr) (mono _ _ H6 _ acc (s6 _ _ hD) (fun b o nb q=>by rw [aC nb]; exact q) r)
 ·have e:i=n:=by omega
  subst e;exact .inl ⟨Nat.le_refl _,hq H2 acc sm hD pr⟩
end
structure RoomH (k:Nat) (A:Around):Prop where
 dp:A.depth+3*k+5 < recursionLimit
 un:A.units+16*k+200 < cLine
theorem Room.h {k:Nat} {A:Around} (r:Room k A):RoomH k A:=⟨r.dp,r.un⟩
theorem RoomH.mark {k:Nat} {A:Around} (r:RoomH k A) (v:Option Value):RoomH k (A.mark v):=⟨r.dp,r.un⟩
theorem RoomH.mono {j k:Nat} {A:Around} (r:RoomH k A) (h:j<=k):RoomH j A:=⟨by have:=r.dp; omega,by have:=r.un; omega⟩
noncomputable def Cx.loud (X:Cx):Cx:={ X with calm:=false,xe:=fun _ _=>False }
theorem Inv.loud {X:Cx} {p:List (Addr × Obj)} {σ:St} {H:Hp} {s:Shared} (I:Inv X p σ H s):Inv X.loud p σ H s:=
 ⟨⟨I.ok.mod,I.ok.kind,I.ok.glob,I.ok.blt,I.ok.above,I.ok.inj,I.ok.has,I.ok.cab,fun z=>(nomatch z),I.ok.frames,I.ok.stk,I.ok.exf,I.ok.bs,I.ok.bsz,I.ok.noex,I.ok.exfs,I.ok.funs,I.ok.frf⟩,I.os,I.bare,I.base,I.loc,I.cell,I.free,I.freeC,I.pin,I.hok,I.len,I.tk⟩
structure FnOkH (P:Program) (w:World) (K:Frag) (mg:Str->Option Value) (base:Heap) (k:Nat) (f:Addr) (fd:FuncData) (ps:List Str) (sp:Sp):Prop where
 len:∀ vs H Q E,sp vs H Q E->vs.length=ps.length
 run:∀ (A:Around) (outer:List Env) (s:Shared) (H:Hp) (args:Args) (us:List Value) (vs:List V) (Q:VK) (E:XK),RoomH k A->Env0 P w K mg base A outer s H->BindsTo s fd args (ps.zip us)->Vals vs us->sp vs H Q E ->
  codeAny (model P w) A (.call (.ref f) args) (CR CX0 outer P w H s Q E) s
theorem Ai {P:Program} {w:World} {K:Frag} {mg:Str->Option Value} {base:Heap} {k:Nat} {f:Addr} {name qual:Str} {params:Arguments} {body:List Stmt} {scope:Scope} {dV kV doc pm cdv ct oc:Value} {an od:Option Addr}
  {osl:Array (Option Value)} {N ps:List Str} {sp:Sp} (lk:K.lookup f=some ⟨oc,od,.func (fnOf name qual params body scope dV kV doc pm an cdv ct),osl⟩) (hcd:codeIn K cdv qual=true) (S:FnScope N ps scope)
  (len:∀ vs H Q E,sp vs H Q E->vs.length=ps.length)
  (hbody:∀ (A:Around) (outer:List Env) (s:Shared) (H:Hp) (vs:List V) (Q:VK) (E:XK),RoomH k (A.deeper (envOfC qual scope s.heap.objs.size f cdv))->sp vs H Q E ->
   ∃ t,PSs (cxOf CX0 P w K mg base N qual scope f cdv A outer s H E).loud body t/\t { nx:=fun _ H'=>Q .non H',rt:=Q } (start N vs) H):
  FnOkH P w K mg base (k+1) f (fnOf name qual params body scope dV kV doc pm an cdv ct) ps sp where
 len:=len
 run:=fun A outer s H args us vs Q E hr e0 hb r hsp=>by
  have hl:=len _ _ _ _ hsp;have keep:∀ b o,base.get? b=some o->s.heap.get? b=some o:=fun b o e=>(e0.bs b o e).1
  have KX:K.In s.heap:=e0.mod.kin.keeps keep;have lim:s.heap.NoLimit:=e0.mod.nolimit.keeps keep;have loc:∀ y ∈ ps.zip us,scope.names.lookup y.1=some .local\/(scope.names.lookup y.1=some .cell/\((cellsFrom (s.heap.objs.size+1) scope.names []).lookup y.1).isSome=true):=by
   rintro ⟨n,v⟩ hy;exact (S.par n (List.of_mem_zip hy).1).imp id fun q=>⟨q,PySem.W.cellsFrom_some _ _ _ (.inl q)⟩
  have hd:A.depth < recursionLimit:=by have:=hr.dp; omega
  refine codeAny_call_function hd (KX _ _ lk) rfl S.co S.gen rfl (PySem.W.codeRec_of KX hcd) (hb _ _ _ _ (tokQ e0.tk (wpAny_newFunctionEnv_cells S.kind loc fun env he s1 x htk=>?_)));subst he;refine ⟨lim.keeps x.toInCall.keep,codeAny_func ?_⟩;have hr2:RoomH k (A.deeper (envOfC qual scope s.heap.objs.size f cdv)):=⟨by have:=hr.dp; show A.depth+1+3*k+5 < _; omega,by have:=hr.un; show A.units+3+16*k+200 < _; omega⟩;obtain ⟨t,ht,hq⟩:=hbody A outer s H vs Q E hr2 hsp;have e1:Env0 P w K mg base { A with handled:=none } outer s H:=⟨e0.frames,e0.mod,e0.bs,e0.bsz,e0.funs,e0.frf,e0.hok,e0.bare,e0.tk⟩;have I0:Inv (cxOf CX0 P w K mg base N qual scope f cdv { A with handled:=none } outer s H E) [] (start N vs) H s1:=qF S rfl e1 hl r x htk;have I1:=I0.loud;have I:Inv (cxOf CX0 P w K mg base N qual scope f cdv A outer s H E).loud [] (start N vs) H s1:=
   ⟨⟨I1.ok.mod,I1.ok.kind,I1.ok.glob,I1.ok.blt,I1.ok.above,I1.ok.inj,I1.ok.has,I1.ok.cab,fun z=>(nomatch z),Around.frames_deeper e0.frames,I1.ok.stk,I1.ok.exf,I1.ok.bs,I1.ok.bsz,I1.ok.noex,I1.ok.exfs,I1.ok.funs,I1.ok.frf⟩,I1.os,I1.bare,I1.base,I1.loc,I1.cell,I1.free,I1.freeC,I1.pin,I1.hok,I1.len,I1.tk⟩
  refine wpAny_mono (ht [] s1 (start N vs) H _ I hq) (fun fl s' hs=>?_) fun e s' hs=>hs.elim
  have fin:∀ {σ':St} {H':Hp} {v:V} {u:Value},Inv (cxOf CX0 P w K mg base N qual scope f cdv A outer s H E).loud [] σ' H' s'->RelV v u->Q v H'->CE outer P w H s Q u s':=
   fun {σ' H' v u} J rv q=>⟨v,H',J.tk,J.os,J.bare,J.base,J.hok,rv,q⟩
  cases fl with
  | ret u=>obtain ⟨v,σ',H',J,rv,q⟩:=hs; exact fin J rv q
  | next=>obtain ⟨σ',H',J,q⟩:=hs; exact fin (v:=V.non) (u:=Value.none) J rfl q
  | brk=>obtain ⟨_,_,_,q⟩:=hs; exact q.elim
  | cont=>obtain ⟨_,_,_,q⟩:=hs; exact q.elim
def CalleeH (P:Program) (w:World) (K:Frag) (mg:Str->Option Value) (base:Heap) (k:Nat) (x:Str) (ps:List Str) (sp:Sp):Prop:=
 ∃ f fd,FnOkH P w K mg base k f fd ps sp/\Binds K fd ps []/\keepIn K (.ref f)=true/\mg x=some (.ref f)
theorem Fn.calH {P:Program} {w:World} {K:Frag} {mg:Str->Option Value} {base:Heap} {x:Str} {st:Stmt} {N ps:List Str} {k:Nat} {sp:Sp} (F:Fn K mg x st) (S:FnScope N ps (defScope st)) (len:∀ vs H Q E,sp vs H Q E->vs.length=ps.length)
  (hb:∀ (kV doc pm:Value) (an:Option Addr) (cdv ct:Value) (us:List Value),us.length=ps.length->bindArgs (fnOf x x (defArgs st) (defBody st) (defScope st) .none kV doc pm an cdv ct) ⟨us,[]⟩=pure (ps.zip us))
  (hbody:∀ (f:Addr) (cdv:Value) (A:Around) (outer:List Env) (s:Shared) (H:Hp) (vs:List V) (Q:VK) (E:XK),RoomH k (A.deeper (envOfC x (defScope st) s.heap.objs.size f cdv))->sp vs H Q E ->
   ∃ t,PSs (cxOf CX0 P w K mg base N x (defScope st) f cdv A outer s H E).loud (defBody st) t/\t { nx:=fun _ H'=>Q .non H',rt:=Q } (start N vs) H):CalleeH P w K mg base (k+1) x ps sp:=by
 obtain ⟨f,fd,F,m⟩:=F;have hB:=F.binds hb;have hK:=F.kp;obtain ⟨oc,od,kV,doc,pm,an,cdv,ct,osl,rfl,lk,hcd⟩:=F.ex;exact ⟨f,_,Ai lk hcd S len (hbody f cdv),hB,hK,m⟩
section
variable {X:Cx} {k:Nat} {x:Str} {ps:List Str} {sp:Sp} {p pos:Pos} {e:Expr} {es:List Expr} {t:TA}
theorem AH (C:CalleeH X.prog X.w X.K X.mg X.base k x ps sp) (hr:RoomH k X.A) (hg:Gl X x) (ha:PA X (e::es) t)
  (he:starEach (e::es) X.env=(false,eval e X.env)::starEach es X.env:=by rfl) (hpl:(backTo pos (starEach es X.env)).any (·.1)=false:=by rfl) (hd:(x == ("__debug__" : Str))=false:=by decide):PE X (.Call (.Name x p) (e::es) [] pos) (tCall sp [] E0 t):=by
 obtain ⟨f,fd,F,b,kp,m⟩:=C;intro pins s σ H Q I h;refine wpAny_Call_Name_kw (jP I hg m (PySem.W.callWith_K (h₀:=X.base) I.ok.mod.kin kp (thn (ha pos pins s σ H _ I h) fun us s1 ⟨vs,H1,I1,r,q⟩=>⟨I1.kIn,?_⟩) he hpl) hd);have q:sp vs H1 Q E0:=by dsimp only at q; rw [List.append_nil] at q; exact q
 have hl:(us++[]).length=ps.length:=by rw [List.append_nil,<- r.length]; exact F.len _ _ _ _ q
 have bd:=b s1 us I1.kIn hl;rw [List.append_nil] at bd;refine wpAny_call (codeAny_mono (F.run X.A X.stack s1 H1 ⟨us,[]⟩ us vs Q E0 hr I1.env0 bd r q) fun r s' hq=>?_);rcases r with er | fl
 ·exact hq.elim
 ·cases fl with
  | ret u=>exact I1.after hq
  | _=>exact hq.elim
end
section
variable {κ:Type} [DecidableEq κ]
end
section
variable {P:Program} {w:World} {H:Hp} {h:Heap} {a:Addr}
end
section
variable {X:Cx} {pins:List (Addr × Obj)} {σ:St} {H:Hp} {s:Shared} {a:Addr} {y v:V} {u r:Value} {o:Option V} {A:Around} {E:Value->Shared->Prop}
end
section
variable {X:Cx} {pins:List (Addr × Obj)} {σ:St} {H:Hp} {s:Shared} {a:Addr} {kvs:List (Key × V)} {k:Key} {u:Value} {A:Around} {E:Value->Shared->Prop}
end
section
variable {X:Cx} {o i e value:Expr} {pos pos' tpos:Pos} {td ty tv:TE}
end
section
variable {X:Cx} {pos:Pos}
end
section
variable {X:Cx} {pins:List (Addr × Obj)} {σ:St} {H:Hp} {s:Shared} {a:Addr} {y d:V} {u r:Value} {o:Option V} {A:Around} {E:Value->Shared->Prop}
end
section
variable {X:Cx} {o e f:Expr} {apos cpos:Pos} {td ty tx:TE}
end
section
variable {X:Cx} {pins:List (Addr × Obj)} {σ:St} {H:Hp} {s:Shared} {a:Addr} {kvs:List (Key × V)} {A:Around} {E:Value->Shared->Prop}
end
section
variable {X:Cx} {pins:List (Addr × Obj)} {σ:St} {H:Hp} {s:Shared} {a:Addr} {y:V} {u:Value} {A:Around} {E:Value->Shared->Prop}
end
section
variable {X:Cx}
end
section
variable {κ:Type} [DecidableEq κ]
end
section
variable {X:Cx} {o i e value:Expr} {pos pos' apos cpos:Pos} {td ty tv ta:TE}
end
theorem sN {ts:List Str} {b:Nat} (h:∀ t ∈ ts,t.length<=b):piled ts<=(b+2)*ts.length:=by
 induction ts with
 | nil=>simp [piled]
 | cons t r ih=>
  rw [piled_cons,List.length_cons,Nat.mul_succ];have:=ih fun x hx=>h x (List.mem_cons_of_mem _ hx)
  have:=h t List.mem_cons_self;omega
theorem nC:∀ (ts:List Str) (k:Nat) (acc:Str),(textFrom k acc ts).length<=acc.length+piled ts
 | [],k,acc=>by simp [textFrom,piled]
 | t::ts,k,acc=>by
  rw [textFrom,piled_cons];have:=nC ts (k+1) (acc++(if k > 0 then ", " else "" : String)++t);have e:(acc++(if k > 0 then ", " else "" : String)++t).length<=acc.length+2+t.length:=by
   rw [strLen_append,strLen_append];split
   ·exact Nat.le_refl _
   ·show acc.length+0+t.length<=_; omega
  omega
theorem sR {ts:List Str} {b:Nat} (h:∀ t ∈ ts,t.length<=b):(listText ts).length<=(b+2)*ts.length+2:=by
 unfold listText;rw [strLen_append];have h1:=nC ts 0 "[";have h2:=sN h;have e1:("[" : Str).length=1:=rfl;have e2:("]" : Str).length=1:=rfl;omega
theorem qW {ts:List Str} {b:Nat} (h:∀ t ∈ ts,t.length<=b):(tupleText ts).length<=(b+2)*ts.length+3:=by
 unfold tupleText;rw [strLen_append,strLen_append];have h2:=sN h;have e1:("(" : Str).length=1:=rfl;have e3:((if ts.length == 1 then ",)" else ")" : String):Str).length<=2:=by split <;> decide
 by_cases hn:ts=[]
 ·subst hn;have:(Str.join ", " ([]:List Str)).length=0:=rfl;omega
 ·have:=join_length_add ts hn;omega
section
variable {X:Cx} {e:Expr} {te:TE} {pos:Pos}
def Few (ls:List (List Nat)):Prop:=ls.length<=100/\∀ l ∈ ls,l.length<=100/\∀ c ∈ l,c < 16 ^ 8
theorem xT {ls:List (List Nat)} (h:Few ls):∀ t ∈ ls.map fun l=>reprText (st l),t.length<=1002:=fun t ht=>by
 obtain ⟨l,hl,rfl⟩:=List.mem_map.mp ht;obtain ⟨h1,h2⟩:=h.2 l hl;have:=PySem.StrLaws.reprText_len (st l) (by rw [aM]; exact h2);have e:(st l).length=l.length:=by simp [Str.length]
 omega
theorem oV:∀ {ls:List (List Nat)} {us:List Value},Vals (ls.map fun l=>V.str (st l)) us->∃ _:List Nat,us.length=ls.length/\∀ (i:Nat) u,us[i]? = some u->∃ l t,ls[i]? = some l/\u=Value.str (st l) t
 | [],_,.nil=>⟨[],rfl,fun i u h=>by simp at h⟩
 | l::ls,_,.cons r t=>by
  obtain ⟨ts,h1,h2⟩:=oV t;obtain ⟨tk,rfl⟩:=r;refine ⟨[],by rw [List.length_cons,List.length_cons,h1],fun i u h=>?_⟩;cases i with
  | zero=>simp only [List.getElem?_cons_zero,Option.some.injEq] at h; exact ⟨l,tk,rfl,h.symm⟩
  | succ i=>rw [List.getElem?_cons_succ] at h; exact h2 i u h
end
section
variable {X:Cx}
variable {o e f:Expr} {to te tf:TE} {apos cpos:Pos}
end
section
variable {X:Cx} {e:Expr} {te:TE} {apos cpos:Pos}
end
section
variable {X:Cx}
end
section
variable {X:Cx} {pins:List (Addr × Obj)} {σ:St} {H:Hp} {s:Shared} {a:Addr} {y v:V} {u r:Value} {A:Around} {E:Value->Shared->Prop}
end
section
variable {X:Cx} {o e f:Expr} {apos cpos:Pos} {td ty tx:TE}
end
section
variable {X:Cx} {o:Expr} {to:TE} {apos cpos:Pos}
end
section
variable {X:Cx}
end
section
variable {K:Frag} {g:TG} {tc:TT} {te:TE} {σc:St} {D:Addr} {Q:VK} {H:Hp} {td ty:TE}
end
section
variable {K:Frag} {J:It} {g:TG} {tc:TT} {te:TE} {σc:St} {D:Addr} {Q:VK} {H:Hp}
theorem sE {α:Type} (xs:List α) (keep:α -> Bool) (R:α -> V->Hp->Prop) (hfree:H D=none) (hn:xs.length<=100000) (hgo:∀ i H1,i < xs.length->Same H H1->J.go i H1) (hst:∀ H1,Same H H1->J.stop xs.length H1)
  (hy:∀ i H1 v H2,i < xs.length->J.yld i H1 v H2->Same H1 H2)
  (mono:∀ x v H1 H2 acc,H1 D=some (.lst acc)->(∀ b o,b≠D->H1 b=some o->H2 b=some o)->R x v H1->R x v H2)
  (hs:∀ i x v H1 H2 (out:VK) (non:Hp->Prop),xs[i]? = some x->Same H H1->J.yld i H1 v H2->(∀ v H6,keep x=true->Same H2 H6->R x v H6->out v H6)->(∀ H5,keep x=false->Same H2 H5->non H5) ->
   g v σc H2 fun σ4 H4=>tc σ4 H4 fun b H5=>if b=true then te σ4 H5 out else non H5)
  (hq:∀ H' vs,Same H H'->H' D=some (.lst vs)->Paired (fun x v=>R x v H') (xs.filter keep) vs->Q (.ref D) H'):compW J g tc te σc D Q H:=by
 refine ⟨fun i m acc H2=>m=xs.length - i/\i<=xs.length/\Paired (fun x v=>R x v H2) ((xs.take i).filter keep) acc/\Same H H2/\H2 D=some (.lst acc),⟨xs.length,by simp,Nat.zero_le _,.nil,ai hfree _,ah⟩,?_⟩;rintro i m acc H2 ⟨rfl,hi,pr,sm,hD⟩;have len:acc.length<=i:=by
  have a:=pr.length;have b:=List.length_filter_le keep (xs.take i);rw [List.length_take] at b;omega
 by_cases hlt:i < xs.length
 ·refine .inr ⟨hgo i H2 hlt sm,fun x H3 y=>?_⟩;have s3:=hy i H2 x H3 hlt y;have ht:xs.take (i+1)=xs.take i++[xs[i]]:=by rw [List.take_add_one,List.getElem?_eq_getElem hlt]; rfl
  have hD3:=s3 _ _ hD;refine hs i xs[i] x _ _ _ _ (List.getElem?_eq_getElem hlt) sm y (fun v H6 k s6 r=>?_) fun H5 k s5=>?_
  ·refine ⟨s6 _ _ hD3,Nat.lt_of_le_of_lt len (sizeBig (by omega)),xs.length - (i+1),by omega,rfl,hlt,?_,?_,ah⟩
   ·have m1:∀ x v,R x v H6->R x v (upd H6 D (.lst (acc++[v]))):=fun x v r=>mono x v H6 _ acc (s6 _ _ hD3) (fun b o nb q=>by rw [aC nb]; exact q) r
    rw [ht,List.filter_append];have f1:[xs[i]].filter keep=[xs[i]]:=by simp [k]
    rw [f1];have lift:∀ {l:List α} {vs:List V},Paired (fun x v=>R x v H2) l vs->Paired (fun x v'=>R x v' (upd H6 D (.lst (acc++[v])))) l vs:=by
     intro l vs pp
     induction pp with
     | nil=>exact .nil
     | cons r _ ih=>exact .cons (mono _ _ H2 _ acc hD (fun b o nb q=>by rw [aC nb]; exact s6 _ _ (s3 _ _ q)) r) ih
    have app:∀ {l:List α} {vs:List V} {x:α} {v':V} {F:α -> V->Prop},Paired F l vs->F x v'->Paired F (l++[x]) (vs++[v']):=by
     intro l vs x v' F pp r
     induction pp with
     | nil=>exact .cons r .nil
     | cons r' _ ih=>exact .cons r' ih
    exact app (lift pr) (m1 _ _ r)
   ·exact aS (sm.trans (s3.trans s6)) hfree
  ·refine ⟨xs.length - (i+1),by omega,rfl,hlt,?_,sm.trans (s3.trans s5),s5 _ _ hD3⟩;rw [ht,List.filter_append];have f1:[xs[i]].filter keep=[]:=by simp [k]
   rw [f1,List.append_nil];have lift:∀ {l:List α} {vs:List V},Paired (fun x v=>R x v H2) l vs->Paired (fun x v'=>R x v' H5) l vs:=by
    intro l vs pp
    induction pp with
    | nil=>exact .nil
    | cons r _ ih=>exact .cons (mono _ _ H2 _ acc hD (fun b o _ q=>s5 _ _ (s3 _ _ q)) r) ih
   exact lift pr
 ·have e:i=xs.length:=by omega
  subst e;rw [List.take_length] at pr;exact .inl ⟨hst H2 sm,hq H2 acc sm hD pr⟩
end
section
variable {X:Cx} {e:Expr} {te:TE} {pos:Pos}
end
section
variable {X:Cx} {o e:Expr} {to te:TE} {apos cpos:Pos}
noncomputable def cPopAt (to te:TE):TE:=fun σ H Q=>to σ H fun x H1=>match x with
 | .ref l=>(∃ xs,H1 l=some (.lst xs))/\te σ H1 fun y H2=>match y with
  | .int i=>∃ (xs:List V) (k:Nat) (v:V),i=(k:Int)/\H2 l=some (.lst xs)/\xs.length<=100000/\xs[k]? = some v/\Q v (upd H2 l (.lst (xs.eraseIdx k)))
  | _=>False
 | _=>False
theorem sB (ho:PE X o to) (he:PE X e te) (hbase:attributeBase o "pop" X.env (eval o X.env)=eval o X.env:=by rfl)
  (hfew:((backTo cpos (starEach [e] X.env)).all (fun x=>!x.1) && (backToKw cpos (keywordEach [] X.env)).all (fun x=>x.1.isSome) && decide ([e].length+([]:List Keyword).length+(if ([]:List Keyword).isEmpty then 0 else 1) < 30))=true:=by rfl)
  (hline:(apos.endLine == cpos.line)=true:=by rfl) (hs:starEach [e] X.env=(false,eval e X.env)::starEach [] X.env:=by rfl) (hplain:(backTo cpos (starEach [] X.env)).any (·.1)=false:=by rfl):
  PE X (.Call (.Attribute o "pop" apos) [e] [] cpos) (cPopAt to te):=
 (sW PySem.F.plainAttrs_list PySem.F.slot_list_pop PySem.F.type_list_pop xh ho.mono (aa he.mono ac hs) hbase hfew hline hs hplain).imp fun σ H Q q=>⟨_,q,fun x H1 z=>by
  split at z
  ·rename_i l;obtain ⟨⟨xs,h⟩,z⟩:=z;refine ⟨.inl ⟨rfl,_,SqL.of h⟩,_,z,fun y H2 z2=>?_⟩;split at z2
   ·obtain ⟨xs2,k,v,rfl,h2,h3,h4,z3⟩:=z2;have hk:k < xs2.length:=(List.getElem?_eq_some_iff.mp h4).1;exact ⟨l,xs2,k,k,v,rfl,rfl,h2,by omega,by omega,by unfold seqIndex?; simp; omega,h4,z3⟩
   ·exact z2.elim
  ·exact z.elim⟩
theorem wP {σ:St} {H:Hp} {Q:VK}:cPopAt to te σ H Q=to σ H fun x H1=>match x with
 | .ref l=>(∃ xs,H1 l=some (.lst xs))/\te σ H1 fun y H2=>match y with
  | .int i=>∃ (xs:List V) (k:Nat) (v:V),i=(k:Int)/\H2 l=some (.lst xs)/\xs.length<=100000/\xs[k]? = some v/\Q v (upd H2 l (.lst (xs.eraseIdx k)))
  | _=>False
 | _=>False:=rfl
end
end L2
namespace L2
open PySem PySem.Spec PyProof.Rows PySem.W
end L2
namespace L2
open PySem PySem.Spec PyProof.Rows
section
variable {prog:Program} {w:World} {A:Around} {s:Shared} {E:Value->Shared->Prop}
end
section
variable {X:Cx} {pins:List (Addr × Obj)} {σ:St} {H:Hp} {s:Shared}
end
theorem dC {α β:Type} {R:α -> β -> Prop}:∀ {l:List α} {m:List β},Paired R l m->∀ b ∈ m,∃ a ∈ l,R a b
 | _,_,.nil,b,h=>absurd h List.not_mem_nil
 | _,_,.cons q r,b,h=>by
  rcases List.mem_cons.mp h with e | h
  ·rw [e]; exact ⟨_,List.mem_cons_self ..,q⟩
  ·obtain ⟨a,h1,h2⟩:=dC r b h;exact ⟨a,List.mem_cons_of_mem _ h1,h2⟩
theorem dE {key:V->Nat}:∀ {xs:List V} {vs:List Value},Vals xs vs->Paired (fun (p:Int × Value) x=>p.1=key x/\RelV x p.2) ((xs.map fun x=>(key x:Int)).zip vs) xs
 | _,_,.nil=>.nil
 | _,_,.cons a r=>.cons ⟨rfl,a⟩ (dE r)
section
variable {X:Cx}
end
section
variable {X:Cx}
end
noncomputable def tupEq (H:Hp) (zs:List V) (y:V):Bool:=match y with
 | .ref t=>match H t with
  | some (.tup ys)=>eqDs (ys.map D.f) (zs.map D.f)
  | _=>false
 | _=>false
noncomputable def tupEqU (H:Hp) (zs:List V) (u:Value):Bool:=match u with
 | .ref t=>tupEq H zs (.ref t)
 | _=>false
def FlatT (H:Hp) (y:V):Prop:=∃ t ys,y=.ref t/\H t=some (.tup ys)/\ys.all flatV=true
theorem fM {K:Frag} {H:Hp}:∀ {ys:List V},ys.all flatV=true->Paired (Deep K H 0) ys (ys.map D.f)
 | [],_=>.nil
 | y::ys,h=>by
  rw [List.all_cons,Bool.and_eq_true] at h;exact .cons ⟨rfl,h.1⟩ (fM h.2)
theorem lC {H:Hp} {zs:List V}:∀ {xs:List V} {us:List Value},Vals xs us->(∀ y ∈ xs,FlatT H y)->us.any (tupEqU H zs)=xs.any (tupEq H zs)
 | _,_,.nil,_=>rfl
 | y::xs,u::us,.cons r t,f=>by
  obtain ⟨a,ys,rfl,_⟩:=f _ List.mem_cons_self;cases r;rw [List.any_cons,List.any_cons,lC t fun z hz=>f z (List.mem_cons_of_mem _ hz)];rfl
section
variable {X:Cx}
noncomputable def kInT (K:Frag):R2:=fun x y H Q=>match x,y with
 | .ref r,.ref p=>∃ zs xs,SqL K H p xs/\H r=some (.tup zs)/\zs.all flatV=true/\(∀ y ∈ xs,FlatT H y)/\Q (.bl (xs.any (tupEq H zs))) H
 | _,_=>False
theorem xY (K:Frag) (hK:X.K=K) {k:Nat} (hr:Room k X.A):OpR X (compareOp .In) (kInT K):=by
 subst hK;intro pins s σ H x y v u Q I rx ry q;unfold kInT at q;split at q
 ·rename_i r p;obtain ⟨zs,xs,hq,hz,fz,fs,q⟩:=q;cases rx;cases ry;obtain ⟨its,rv,pl,_⟩:=I.list hq;refine SeqAt.in_listAt (tupEqU H zs) pl.isList (fun w hw=>?_) ⟨.bl _,H,I,rfl,?_⟩
  ·have hw:w ∈ its:=by simpa using hw
   obtain ⟨y,hy,ry⟩:=dC rv w hw;obtain ⟨t,ys,rfl,ht,fy⟩:=fs y hy;cases ry;have:=jd I 1 X.A.in1 (.ref t) (.ref r) (.t (ys.map D.f)) (.t (zs.map D.f)) (.ref t) (.ref r) (by have:=hr.un; show X.A.units+1+1 < _; omega) (.inr (.inr ⟨t,ys,_,rfl,rfl,SqT.of ht,fM fy⟩)) (.inr (.inr ⟨r,zs,_,rfl,rfl,SqT.of hz,fM fz⟩)) rfl rfl;have e:tupEqU H zs (.ref t)=eqD (.t (ys.map D.f)) (.t (zs.map D.f)):=by
    show tupEq H zs (.ref t)=_;unfold tupEq;simp only [ht];rw [eqD]
   rw [e];exact this
  ·rw [show its.toArray.any (tupEqU H zs)=its.any (tupEqU H zs) by simp,lC rv fs];exact q
 ·exact q.elim
theorem A6 {K:Frag} {r p:Addr} {H:Hp} {Q:VK}:kInT K (.ref r) (.ref p) H Q=∃ zs xs,SqL K H p xs/\H r=some (.tup zs)/\zs.all flatV=true/\(∀ y ∈ xs,FlatT H y)/\Q (.bl (xs.any (tupEq H zs))) H:=rfl
end
section
variable {X:Cx} {k:Nat} {x m:Str} {ps:List Str} {sp:Sp} {p pos apos:Pos} {e o:Expr} {es:List Expr} {ta:TE} {t:TA}
noncomputable def kTupL (K:Frag):List V->Hp->VK->Prop:=fun xs H Q=>match xs with
 | [.ref p]=>∃ ys,SqL K H p ys/\∀ l,H l=none->Q (.ref l) (upd H l (.tup ys))
 | _=>False
theorem v4 (K:Frag) (hK:X.K=K):CallR X (.type "tuple") (kTupL K):=by
 subst hK;intro pins s σ H xs us Q I r q;unfold kTupL at q;split at q
 ·obtain ⟨ys,h,q⟩:=q;exact qh pins s σ H _ us Q I r ⟨_,ys,rfl,.inl ⟨h,q⟩⟩
 ·exact q.elim
theorem zR {K:Frag} {p:Addr} {H:Hp} {Q:VK}:kTupL K [.ref p] H Q=∃ ys,SqL K H p ys/\∀ l,H l=none->Q (.ref l) (upd H l (.tup ys)):=rfl
end
section
variable {X:Cx}
noncomputable def kMax2:List V->Hp->VK->Prop:=fun xs H Q=>match xs with
 | [.int a,.int b]=>Q (.int (if a < b then b else a)) H
 | _=>False
noncomputable def kMin2:List V->Hp->VK->Prop:=fun xs H Q=>match xs with
 | [.int a,.int b]=>Q (.int (if b < a then b else a)) H
 | _=>False
theorem tY (hc:X.calm=true):CallR X (.builtin "max") kMax2:=by
 intro pins s σ H xs us Q I r q;unfold kMax2 at q;split at q
 ·exact vU hc pins s σ H _ us Q I r ⟨_,_,rfl,q⟩
 ·exact q.elim
theorem o6 (hc:X.calm=true):CallR X (.builtin "min") kMin2:=by
 intro pins s σ H xs us Q I r q;unfold kMin2 at q;split at q
 ·exact vp hc pins s σ H _ us Q I r ⟨_,_,rfl,q⟩
 ·exact q.elim
theorem zn {a b:Int} {H:Hp} {Q:VK}:kMax2 [.int a,.int b] H Q=Q (.int (if a < b then b else a)) H:=rfl
theorem yJ {a b:Int} {H:Hp} {Q:VK}:kMin2 [.int a,.int b] H Q=Q (.int (if b < a then b else a)) H:=rfl
noncomputable def cListRng2 (te tf:TE):TE:=fun σ H Q=>te σ H fun x H1=>tf σ H1 fun y H2=>match x,y with
 | .int i,.int j=>-1000<=i/\i<=1000 /\ -1000<=j/\j<=100000/\∀ p,H2 p=none->Q (.ref p) (upd H2 p (.lst ((List.range (j - i).toNat).map fun (k:Nat)=>V.int (i+k))))
 | _,_=>False
theorem rY {acc:Array Value} {n:Nat} {a:Int} (h:ItemsOf (fun i v=>∃ t,v=Value.int (a+(i:Int)*1) t) acc n):Vals ((List.range n).map fun (i:Nat)=>V.int (a+i)) acc.toList:=by
 obtain ⟨hs,hi⟩:=h;have:∀ (l:List Value) (k:Nat),(∀ (j:Nat) (v:Value),l[j]? = some v->∃ t,v=Value.int (a+((k+j:Nat):Int)) t)->Vals ((List.range' k l.length).map fun (i:Nat)=>V.int (a+i)) l:=by
  intro l
  induction l with
  | nil=>intro k _; exact .nil
  | cons v l ih=>
   intro k hv;rw [List.length_cons,List.range'_succ,List.map_cons];refine .cons ?_ (ih (k+1) fun j u hu=>?_)
   ·obtain ⟨t,e⟩:=hv 0 v rfl;exact ⟨t,by simpa using e⟩
   ·obtain ⟨t,e⟩:=hv (j+1) u (by simpa using hu);exact ⟨t,by rw [e]; congr 3; omega⟩
 have:=this acc.toList 0 fun j v hv=>by
  obtain ⟨t,e⟩:=hi j v (by simpa using hv);exact ⟨t,by rw [e]; simp⟩
 rw [Array.length_toList,hs,<- List.range_eq_range'] at this;exact this
theorem sy {e f:Expr} {te tf:TE} {p p2 pos pos2:Pos} (hc:X.calm=true) (hg:Gl X "list") (hm:X.mg "list" = none) (hg2:Gl X "range") (hm2:X.mg "range" = none) (he:PE X e te) (hf:PE X f tf)
  (hs:starEach [e,f] X.env=[(false,eval e X.env),(false,eval f X.env)]:=by rfl)
  (hs2:starEach [Expr.Call (.Name "range" p2) [e,f] [] pos2] X.env=[(false,eval (Expr.Call (.Name "range" p2) [e,f] [] pos2) X.env)]:=by rfl)
  (hs3:starEach [e,f] X.env=(false,eval e X.env)::starEach [f] X.env:=by rfl) (hs4:(backTo pos2 (starEach [f] X.env)).any (·.1)=false:=by rfl):
  PE X (.Call (.Name "list" p) [.Call (.Name "range" p2) [e,f] [] pos2] [] pos) (cListRng2 te tf):=by
 intro pins s σ H Q I h;refine wpAny_Call_Name_kw (hZ I hg hm lP ?_ (by decide) (by decide));refine PyProof.Rows.callWith_type1 ?_ hs2 rfl;rw [hs2];show wpAny _ _ (spliced [(false,eval (Expr.Call (.Name "range" p2) [e,f] [] pos2) X.env)]) _ _ s;refine Calls.spliced_cons ?_;refine wpAny_Call_Name_kw (hZ I hg2 hm2 boot_range ?_ (by decide) (by decide));refine PyProof.Rows.callWith_type1 ?_ hs3 hs4;rw [hs];show wpAny _ _ (spliced [(false,eval e X.env),(false,eval f X.env)]) _ _ s;refine Calls.spliced_cons (thn (he pins s σ H _ I h) fun u s1 ⟨x,H1,I1,r1,q1⟩=>Calls.spliced_cons (thn (hf pins s1 σ H1 _ I1 q1) fun u2 s2 ⟨y,H2,I2,r2,q2⟩=>Calls.spliced_nil ?_));have key:∃ i j,x=.int i/\y=.int j:=by
  cases x <;> cases y <;> first | exact ⟨_,_,rfl,rfl⟩ | exact False.elim q2
 obtain ⟨i,j,rfl,rfl⟩:=key;obtain ⟨t,ht⟩:=r1;obtain ⟨t2,ht2⟩:=r2;obtain ⟨a0,a1,a2,a3,a4⟩:=q2;subst ht;subst ht2;refine call_range_2 (Calls.spliced_nil ?_);have I3:Inv X pins σ H2 { s2 with heap:=s2.heap.push { cls:=.type "range",data:=.fields #[.int i t,.int j t2,.int 1 s2.toks] },toks:=s2.toks+1 }:=I2.kept fun b o q=>Heap.get?_push_of_some _ q
 have hsz:Builtin.Range.rangeSize i j 1=(((j - i).toNat:Nat):Int):=by rw [rangeSize_one]; split <;> omega
 refine tokQ I3.tk (call_list_range (n:=(j - i).toNat) (I.ok.hd hc) (IsRange.new ..) (small_one (by omega) (by omega) (by omega) (by omega)) hsz (by omega) fun h' tk acc c' old ho hi (htk:0 < tk)=>?_);exact ⟨.ref _,_,I3.laid (o:=.lst ((List.range (j - i).toNat).map fun (k:Nat)=>V.int (i+k))) (t':=tk) old (Nat.le_refl _) ⟨by rw [List.length_map,List.length_range,sizeLine_eq]; omega,acc.toList,c',rY hi,by simpa using ho⟩,rfl,a4 _ (I3.hok.fresh (Nat.le_refl _))⟩
theorem sx {te tf:TE} {σ:St} {H:Hp} {Q:VK}:cListRng2 te tf σ H Q=te σ H fun x H1=>tf σ H1 fun y H2=>match x,y with
 | .int i,.int j=>-1000<=i/\i<=1000 /\ -1000<=j/\j<=100000/\∀ p,H2 p=none->Q (.ref p) (upd H2 p (.lst ((List.range (j - i).toNat).map fun (k:Nat)=>V.int (i+k))))
 | _,_=>False:=rfl
end
section
variable {X:Cx} {a b c:Expr} {ta tb tc:TE} {pos:Pos}
theorem yT {te:TE} {σ:St} {H:Hp} {Q:Bool->Hp->Prop}:tTest te σ H Q=te σ H fun z H3=>∃ k,z=.bl k/\Q k H3:=rfl
end
section
variable {K:Frag} {α:Type} {xs:List α} {item:α -> V} {h:α -> List V} {H:Hp} {D:Addr} {σc:St} {Q:VK}
end
end L2
namespace L2
open PySem
section
variable {K:Frag} {h:Heap} {mg:Str->Option Value} {x m qual:Str} {C f:Addr} {fd:FuncData} {st:Stmt}
end
end L2
namespace L2
open PySem PySem.Spec PyProof.Rows
section
variable {X:Cx} {o e f:Expr} {to te tf:TE} {apos cpos:Pos}
noncomputable def insAt (xs:List V) (k:Nat) (y:V):List V:=xs.take k++y::xs.drop k
noncomputable def rInsert:V->List V->Hp->VK->Prop:=fun x vs H Q=>∃ (l:Addr) (xs:List V) (i:Int) (k:Nat) (y:V),x=.ref l/\vs=[.int i,y]/\i=(k:Int)/\H l=some (.lst xs)/\k<=xs.length/\xs.length < 100000/\Q .non (upd H l (.lst (insAt xs k y)))
theorem yZ (l:List Value) (k:Nat) (y:Value):(l.toArray.extract 0 k).push y++l.toArray.extract k=(l.take k++y::l.drop k).toArray:=by
 apply Array.toList_inj.mp;have:(l.drop k).take (l.length - k)=l.drop k:=List.take_of_length_le (by simp);simp [this]
theorem wk:MtM X "list.insert" rInsert:=by
 intro pins s σ H x vs v us Q I rx rv h;obtain ⟨l,xs,i,k,y,rfl,rfl,hi,hH,hk,hz,q⟩:=h;cases rx;obtain ⟨u,u2,rfl,ru,ru2⟩:=Vals.two rv;obtain ⟨t,rfl⟩:=ru;obtain ⟨z,its,n,r,hl,e⟩:=I.lstM hH;have hb:=big5;have h1:-(2 ^ 63)<=i:=by rw [hi]; exact Int.le_trans (by decide) (Int.natCast_nonneg k)
 have h2:i < 2 ^ 63:=by rw [hi]; exact Int.lt_of_le_of_lt (Int.ofNat_le.mpr (Nat.le_trans hk (Nat.le_of_lt hz))) (by decide)
 have h3:¬(!Builtin.List.listFitsIndex i)=true:=by rw [show Builtin.List.listFitsIndex i=true from fitsIndex_both h1 h2]; decide
 have h4:its.toArray.size<=sizeLine:=by rw [List.size_toArray]; omega
 refine call_meets F.slot_list_insert ⟨_,e,rfl⟩ F.entry_list_insert (F.args_list_insert_3 _ _ _) (AutoSeq1.list_insert_list_int_val_1 l its.toArray n i t u2 h3 h4) ⟨e,?_⟩;refine ⟨.non,_,I.lset (its':=its.take k++u2::its.drop k) hH e ?_ ((r.take k).append (.cons ru2 (r.drop k))) ?_,rfl,q⟩
 ·show (its.toArray.extract 0 (if i < 0 then (i+(its.toArray.size:Int)).toNat else min i.toNat its.toArray.size)).push u2++its.toArray.extract (if i < 0 then (i+(its.toArray.size:Int)).toNat else min i.toNat its.toArray.size)=_;rw [if_neg (by omega),show min i.toNat its.toArray.size=k by rw [List.size_toArray]; omega,yZ]
 ·rw [List.length_append,List.length_cons,List.length_take,List.length_drop];omega
noncomputable def cInsert (to te tf:TE):TE:=fun σ H Q=>to σ H fun x H1=>match x with
 | .ref l=>(∃ xs,H1 l=some (.lst xs))/\te σ H1 fun y H2=>tf σ H2 fun z H3=>match y with
  | .int i=>∃ (xs:List V) (k:Nat),i=(k:Int)/\H3 l=some (.lst xs)/\k<=xs.length/\xs.length < 100000/\Q .non (upd H3 l (.lst (insAt xs k z)))
  | _=>False
 | _=>False
theorem eE (ho:PE X o to) (he:PE X e te) (hf:PE X f tf) (hbase:attributeBase o "insert" X.env (eval o X.env)=eval o X.env:=by rfl)
  (hfew:((backTo cpos (starEach [e,f] X.env)).all (fun x=>!x.1) && (backToKw cpos (keywordEach [] X.env)).all (fun x=>x.1.isSome) && decide ([e,f].length+([]:List Keyword).length+(if ([]:List Keyword).isEmpty then 0 else 1) < 30))=true:=by rfl)
  (hline:(apos.endLine == cpos.line)=true:=by rfl) (hs:starEach [e,f] X.env=(false,eval e X.env)::starEach [f] X.env:=by rfl) (hs2:starEach [f] X.env=(false,eval f X.env)::starEach [] X.env:=by rfl) (hplain:(backTo cpos (starEach [f] X.env)).any (·.1)=false:=by rfl):PE X (.Call (.Attribute o "insert" apos) [e,f] [] cpos) (cInsert to te tf):=
 (sW PySem.F.plainAttrs_list PySem.F.slot_list_insert PySem.F.type_list_insert wk ho.mono (aa he.mono (aa hf.mono ac hs2) hs) hbase hfew hline hs hplain).imp fun σ H Q q=>⟨_,q,fun x H1 z=>by
  split at z
  ·rename_i l;obtain ⟨⟨xs,h⟩,z⟩:=z;refine ⟨.inl ⟨rfl,_,SqL.of h⟩,_,z,fun y H2 z2=>⟨_,z2,fun w H3 z3=>?_⟩⟩;split at z3
   ·obtain ⟨xs2,k,rfl,h2,h3,h4,z4⟩:=z3;exact ⟨l,xs2,_,k,w,rfl,rfl,rfl,h2,h3,h4,z4⟩
   ·exact z3.elim
  ·exact z.elim⟩
theorem vC {σ:St} {H:Hp} {Q:VK}:cInsert to te tf σ H Q=to σ H fun x H1=>match x with
 | .ref l=>(∃ xs,H1 l=some (.lst xs))/\te σ H1 fun y H2=>tf σ H2 fun z H3=>match y with
  | .int i=>∃ (xs:List V) (k:Nat),i=(k:Int)/\H3 l=some (.lst xs)/\k<=xs.length/\xs.length < 100000/\Q .non (upd H3 l (.lst (insAt xs k z)))
  | _=>False
 | _=>False:=rfl
noncomputable def kAll (K:Frag):List V->Hp->VK->Prop:=fun xs H Q=>match xs with
 | [.ref p]=>∃ bs:List Bool,SqL K H p (bs.map V.bl)/\Q (.bl (bs.all id)) H
 | _=>False
theorem qQ (K:Frag) (hK:X.K=K) (hc:X.calm=true):CallR X (.builtin "all") (kAll K):=by
 subst hK;intro pins s σ H xs us Q I r q;unfold kAll at q;split at q
 ·rename_i p;obtain ⟨bs,hq,q⟩:=q;obtain ⟨u,rfl,ru⟩:=vals1 r;cases ru;obtain ⟨its,rv,pl,_⟩:=I.list hq;obtain rfl:=oA rv;have hl:s.heap.IsList p (bs.map Value.bool).toArray:=pl.isList;have hp:p < s.heap.objs.size:=by obtain ⟨o,ho,_⟩:=hl; exact Heap.lt_size ho
  refine tokQ I.tk (call_all_walk (wpAny_pyIter_list hl ?_));refine ⟨_,_,_,_,_,_,fun i=>(bs[i]?).getD true,rfl,Walks.list (A:=X.A.in1) (I.ok.hd hc) _ p (Nat.ne_of_lt hp) (bs.map Value.bool).toArray,⟨⟨_,Heap.get?_push_size _ rfl,rfl,rfl⟩,hl.push _⟩,?_,fun h' tk k (htk:0 < tk)=>?_⟩
  ·intro i v s' Q' E' hP hQ';have hi:bs[i]?.map Value.bool=some v:=by simpa using hP
   cases hb:bs[i]? with
   | none=>rw [hb] at hi; cases hi
   | some b=>
    have e:(fun i=>(bs[i]?).getD true) i=b:=by simp [hb]
    rw [e] at hQ';rw [hb] at hi;cases hi;exact wpAny_truthy_bool hQ'
  ·have e:((List.range (bs.map Value.bool).toArray.size).all fun i=>(bs[i]?).getD true)=bs.all id:=by
    simp only [List.size_toArray,List.length_map];rw [Bool.eq_iff_iff,List.all_eq_true,List.all_eq_true];constructor
    ·intro h b hb;obtain ⟨i,hi,rfl⟩:=List.getElem_of_mem hb;have:=h i (by simpa using hi);rw [List.getElem?_eq_getElem hi] at this;exact this
    ·intro h i hi;have hi:i < bs.length:=by simpa using hi
     rw [List.getElem?_eq_getElem hi];exact h _ (List.getElem_mem hi)
   rw [e];refine ⟨.bl _,H,I.kept (fun b o q=>k b o ?_ (Heap.get?_push_of_some _ q)),rfl,q⟩;intro z;have:=Heap.lt_size q;rw [List.mem_singleton.mp z] at this;exact Nat.lt_irrefl _ this
 ·exact q.elim
theorem Aw {K:Frag} {p:Addr} {H:Hp} {Q:VK}:kAll K [.ref p] H Q=∃ bs:List Bool,SqL K H p (bs.map V.bl)/\Q (.bl (bs.all id)) H:=rfl
noncomputable def kStr:List V->Hp->VK->Prop:=fun xs H Q=>match xs with
 | [.int i]=>(i=0\/i=1)/\Q (.str (st [48+i.toNat])) H
 | _=>False
theorem vJ:CallR X (.type "str") kStr:=by
 intro pins s σ H xs us Q I r q;unfold kStr at q;split at q
 ·rename_i i;obtain ⟨hi,q⟩:=q;obtain ⟨u,rfl,t,rfl⟩:=vals1 r;refine P.str_of_int ?_ ⟨.str (st [48+i.toNat]),H,I.tok _,⟨s.toks,?_⟩,q⟩
  ·rcases hi with rfl | rfl <;> decide
  ·rcases hi with rfl | rfl
   ·exact congrArg (Value.str · s.toks) (by decide +kernel)
   ·exact congrArg (Value.str · s.toks) (by decide +kernel)
 ·exact q.elim
theorem AN {i:Int} {H:Hp} {Q:VK}:kStr [.int i] H Q=((i=0\/i=1)/\Q (.str (st [48+i.toNat])) H):=rfl
end
section
variable {X:Cx} {e:Expr} {te:TE} {lo hi:Option Expr} {st:Expr} {tl th ts:TO} {p2 pos:Pos}
end
def Rise (xs:Array Nat):Prop:=∀ a b,a < b->∀ (hb:b < xs.size) (ha:a < xs.size),xs[a] < xs[b]
theorem pI {xs:Array Nat} {j:Nat} (hr:Rise xs):∀ (fuel lo hi:Nat),hi - lo<=fuel->lo<=hi->hi<=xs.size->(∀ i (h:i < xs.size),i < lo->xs[i] < j)->(∀ i (h:i < xs.size),hi<=i->j<=xs[i]) ->
  SetTable.below.go xs j fuel lo hi<=xs.size/\(∀ i (h:i < xs.size),i < SetTable.below.go xs j fuel lo hi->xs[i] < j)/\(∀ i (h:i < xs.size),SetTable.below.go xs j fuel lo hi<=i->j<=xs[i])
 | 0,lo,hi,hf,h1,h2,h3,h4=>by
  have:lo=hi:=by omega
  subst this;unfold SetTable.below.go;exact ⟨h2,h3,h4⟩
 | fuel+1,lo,hi,hf,h1,h2,h3,h4=>by
  unfold SetTable.below.go;by_cases hlt:lo < hi
  ·rw [if_pos hlt];have hm:(lo+hi) / 2 < xs.size:=by omega
   have hg:xs.getD ((lo+hi) / 2) j=xs[(lo+hi) / 2]:=by simp [hm]
   simp only [hg];by_cases hx:xs[(lo+hi) / 2] < j
   ·rw [if_pos hx];refine pI hr fuel _ hi (by omega) (by omega) h2 (fun i h hi'=>?_) h4;rcases Nat.lt_or_ge i ((lo+hi) / 2) with z | z
    ·exact Nat.lt_trans (hr i _ z hm h) hx
    ·obtain rfl:i=(lo+hi) / 2:=by omega
     exact hx
   ·rw [if_neg hx];refine pI hr fuel lo _ (by omega) (by omega) (by omega) h3 (fun i h hi'=>?_);rcases Nat.lt_or_ge ((lo+hi) / 2) i with z | z
    ·have:=hr _ i z h hm;omega
    ·obtain rfl:i=(lo+hi) / 2:=by omega
     omega
  ·rw [if_neg hlt];obtain rfl:lo=hi:=by omega
   exact ⟨h2,h3,h4⟩
theorem oC {xs:Array Nat} (hr:Rise xs) (j:Nat):SetTable.below xs j<=xs.size/\(∀ i (h:i < xs.size),i < SetTable.below xs j->xs[i] < j)/\(∀ i (h:i < xs.size),SetTable.below xs j<=i->j<=xs[i]):=by
 unfold SetTable.below;exact pI hr xs.size 0 xs.size (by omega) (by omega) (Nat.le_refl _) (fun i _ h=>absurd h (by omega)) (fun i h z=>absurd h (by omega))
theorem yd {xs:Array Nat} (hr:Rise xs) {i:Nat} (h:i < xs.size):SetTable.below xs (xs[i]+1)=i+1:=by
 obtain ⟨b0,b1,b2⟩:=oC hr (xs[i]+1);rcases Nat.lt_trichotomy (SetTable.below xs (xs[i]+1)) (i+1) with z | z | z
 ·have:=b2 i h (by omega);omega
 ·exact z
 ·have h1:i+1 < xs.size:=by omega
  have:=b1 (i+1) h1 z;have:=hr i (i+1) (by omega) h1 h;omega
theorem uA {xs:Array Nat} (hr:Rise xs):SetTable.below xs 0=0:=by
 obtain ⟨b0,b1,b2⟩:=oC hr 0;rcases Nat.eq_zero_or_pos (SetTable.below xs 0) with z | z
 ·exact z
 ·exact absurd (b1 0 (by omega) z) (by omega)
theorem qH {xs:Array Nat}:Rise xs ↔ xs.toList.Pairwise (· < ·):=by
 rw [List.pairwise_iff_getElem];constructor
 ·intro h a b ha hb hab;have:=h a b hab (by simpa using hb) (by simpa using ha);simpa using this
 ·intro h a b hab hb ha;have:=h a b (by simpa using ha) (by simpa using hb) hab;simpa using this
theorem sF {xs:Array Nat} (hr:Rise xs) {j:Nat} (hj:¬ xs[SetTable.below xs j]? = some j):Rise (SetTable.insertAt xs (SetTable.below xs j) j):=by
 obtain ⟨b0,b1,b2⟩:=oC hr j;generalize SetTable.below xs j=p at *;have hlt:∀ i (h:i < xs.size),p<=i->j < xs[i]:=fun i h z=>by
  have h0:=b2 i h z;rcases Nat.lt_or_ge j xs[i] with q | q
  ·exact q
  ·exfalso;have e:xs[i]=j:=by omega
   rcases Nat.lt_or_ge p i with z2 | z2
   ·have hp:p < xs.size:=by omega
    have:=hr p i z2 h hp;have:=b2 p hp (Nat.le_refl _);omega
   ·obtain rfl:i=p:=by omega
    exact hj (by rw [Array.getElem?_eq_getElem h,e])
 have hl:=qH.mp hr;rw [qH,SetTable.toList_insertAt];have A:∀ a ∈ xs.toList.take p,a < j:=fun a ha=>by
  obtain ⟨i,hi,rfl⟩:=List.mem_take_iff_getElem.mp ha;have:=b1 i (by simp at hi; omega) (by omega);simpa using this
 have B:∀ b ∈ xs.toList.drop p,j < b:=fun b hb=>by
  obtain ⟨i,hi,rfl⟩:=List.mem_drop_iff_getElem.mp hb;have:=hlt (p+i) (by simp at hi; omega) (by omega);simpa using this
 have hl':=hl;rw [<- List.take_append_drop p xs.toList,List.pairwise_append] at hl';refine List.pairwise_append.mpr ⟨hl'.1,List.pairwise_cons.mpr ⟨B,hl'.2.1⟩,fun a ha b hb=>?_⟩;rcases List.mem_cons.mp hb with rfl | hb
 ·exact A a ha
 ·exact Nat.lt_trans (A a ha) (B b hb)
def Laid0 (t:SetTable):Prop:=Rise t.place/\t.dummies=#[]
theorem vc (j:Nat):SetTable.has #[] j=false:=by
 unfold SetTable.has;simp
theorem pA {t:SetTable} (h0:t.dummies=#[]) (f:Nat->Int) (h:Int):∀ (n:Nat) (p:SetTable.Probe) (j:Nat) (d:Option Nat),p.dummy=none->SetTable.probe.go t f h n p=some (.empty j d)->d=none/\¬ t.place[SetTable.below t.place j]? = some j
 | 0,p,j,d,_,e=>by simp [SetTable.probe.go] at e
 | n+1,p,j,d,hp,e=>by
  unfold SetTable.probe.go at e;have hs:t.slot p.j=if t.place[SetTable.below t.place p.j]? == some p.j then .live (SetTable.below t.place p.j) else .empty:=by
   unfold SetTable.slot;rw [h0,vc];rfl
  rw [hs] at e;by_cases z:t.place[SetTable.below t.place p.j]? = some p.j
  ·rw [if_pos (by rw [z]; exact beq_self_eq_true _)] at e;dsimp only at e;split at e
   ·cases e
   ·refine pA h0 f h n _ j d ?_ e;unfold SetTable.advance;split
    ·exact hp
    ·exact hp
  ·rw [if_neg (by simpa using z)] at e;dsimp only at e;injection e with e
   injection e with e1 e2
   subst e1 e2;exact ⟨hp,z⟩
theorem uj (n:Nat):Rise (Array.range n):=fun a b h hb ha=>by simpa using h
theorem fT (t:SetTable) (n:Nat):Laid0 (t.standIn n):=⟨uj n,rfl⟩
theorem xZ {t:SetTable} (h:Laid0 t) (n:Nat):Laid0 (t.orStandIn n):=by
 unfold SetTable.orStandIn;split
 ·exact h
 ·exact fT t n
theorem vE {t:SetTable} (L:Laid0 t) (es:Array (Int × Value)) (h:Int) (x:Value):Laid0 (layNew t es h x).2.1:=by
 unfold layNew;split
 ·rename_i slot wd e;refine xZ ?_ _;unfold SetTable.freeSlot at e;split at e
  ·rename_i j d e2;obtain ⟨rfl,hj⟩:=pA L.2 _ h _ _ j d rfl e2;cases e;refine ⟨sF L.1 hj,?_⟩;show (if SetTable.has t.dummies _ then _ else t.dummies)=#[];rw [L.2,vc];rfl
  ·cases e
 ·exact fT t _
theorem tP {mask finger moves:Nat} {led plain:Bool} {hs:Array Int} {r:SetTable × Array Nat} (h:SetTable.laid mask finger moves led plain hs=some r):Laid0 r.1:=by
 unfold SetTable.laid at h;cases q:SetTable.layClean mask hs with
 | none=>rw [q] at h; cases h
 | some ow=>
  rw [q] at h;cases h;refine ⟨?_,rfl⟩;have:(((List.range (mask+1)).filterMap fun j=>(ow.getD j none).map (j,·)).map (·.1)).Pairwise (· < ·):=by
   rw [List.pairwise_map,List.pairwise_filterMap];refine List.pairwise_lt_range.imp fun {a b} hab x hx y hy=>?_
   obtain ⟨_,_,rfl⟩:=Option.map_eq_some_iff.mp hx;obtain ⟨_,_,rfl⟩:=Option.map_eq_some_iff.mp hy;exact hab
  intro a b hab hb ha;have:=List.pairwise_iff_getElem.mp this a b (by simpa using ha) (by simpa using hb) hab;simpa using this
theorem nz {t:SetTable} (es:Array (Int × Value)) (n:Nat):Laid0 (relayAll t es n).2.1:=by
 unfold relayAll;split
 ·rename_i t' order e;have q:=tP e;dsimp only;split
  ·exact q
  ·exact fT t _
 ·exact fT t _
noncomputable def intOf:Value->Int
 | .int x _=>x
 | _=>0
def IsInts (w:World) (h:Heap) (a:Addr) (led:Bool) (ss:List Int):Prop:=
 ∃ es ep t,h.get? a=some { cls:=.type "set",dict:=none,data:=.set es ep t,slots:=#[] }/\(∀ e ∈ es.toList,∃ x u,e=(hashInt x,Value.int x u)) /\
  (es.toList.map fun e=>intOf e.2).Perm ss/\t.fits es.size=true/\t.led=led/\Laid0 t
section
variable {prog:Program} {w:World} {A:Around} {E:Value->Shared->Prop} {s:Shared}
theorem ly (x:Int) (u:Tok):Value.isInt x (Value.int x u)=true:=by simp [Value.isInt]
theorem uy {es:Array (Int × Value)} (h:∀ e ∈ es.toList,∃ x u,e=(hashInt x,Value.int x u)):ElemsOf (PySem.intKind prog w) es.toList:=fun e he=>by
 obtain ⟨x,u,rfl⟩:=h e he;exact ⟨⟨x,ly x u,rfl⟩,rfl⟩
theorem wy {es:List (Int × Value)} (h:∀ e ∈ es,∃ x u,e=(hashInt x,Value.int x u)) (x:Int):
  (es.findIdx? fun e=>(PySem.intKind prog w).is x e.2)=none ↔ x ∉ es.map fun e=>intOf e.2:=by
 rw [List.findIdx?_eq_none_iff];constructor
 ·intro q hm;obtain ⟨e,he,rfl⟩:=List.mem_map.mp hm;obtain ⟨y,u,rfl⟩:=h e he;have:=q _ he;rw [show (PySem.intKind prog w).is (intOf (hashInt y,Value.int y u).2) (hashInt y,Value.int y u).2=true from ly y u] at this;cases this
 ·intro q e he;obtain ⟨y,u,rfl⟩:=h e he;cases hb:(PySem.intKind prog w).is x (Value.int y u) with
  | false=>rfl
  | true=>
   have e2:y=x:=by
    obtain ⟨t,q⟩:=Value.isInt_shape (v:=Value.int y u) hb;injection q
   exact absurd (List.mem_map.mpr ⟨_,he,by rw [<- e2]; rfl⟩) q
noncomputable def addI (ss:List Int) (x:Int):List Int:=if x ∈ ss then ss else ss++[x]
theorem add_int {a:Addr} {led:Bool} {ss:List Int} {x:Int} {u:Tok} {Q:Bool->Shared->Prop} (hS:IsInts w s.heap a led ss) (room:ss.length+1 < scanBound)
  (h:∀ h' b,Heap.SameBut a s.heap h'->IsInts w h' a led (addI ss x)->Q b { s with heap:=h' }):
  wpAny (model prog w) A (setAddHashed a (.int x u) (hashInt x)) Q E s:=by
 obtain ⟨es,ep,t,ho,hel,hp,hf,hl,hL⟩:=hS;have hE:=uy (prog:=prog) (w:=w) hel;have hk:(PySem.intKind prog w).is x (Value.int x u)=true:=ly x u;have hsz:es.size=ss.length:=by have:=hp.length_eq; simpa using this
 have hb:es.size < scanBound:=by omega
 unfold setAddHashed setAddHashedIn;refine wpAny_holding (wpAny_bind (wpAny_setState_of ho rfl hf ?_));dsimp only;rw [byScan_of (knd:=PySem.intKind prog w) rfl hb hE,if_pos rfl];unfold setAddByScan;refine wpAny_bind (wpAny_bind (wpAny_rule (wpAny_bind (wpAny_setScan_of (knd:=PySem.intKind prog w) hk ho rfl hf hE ?_))));have hfind:=wy (prog:=prog) (w:=w) hel x;cases hr:es.toList.findIdx? (fun e=>(PySem.intKind prog w).is x e.2) with
 | some j=>
  have hin:x ∈ ss:=by
   rw [<- hp.mem_iff];apply Classical.byContradiction;intro z;rw [hfind.mpr z] at hr;cases hr
  refine wpAny_pure (wpAny_pure ?_);have:=h s.heap false (Heap.SameBut.refl a s.heap) ⟨es,ep,t,ho,hel,by unfold addI; rw [if_pos hin]; exact hp,hf,hl,hL⟩;exact this
 | none=>
  have hin:x ∉ ss:=by
   rw [<- hp.mem_iff];exact hfind.mp hr
  dsimp only;have p1:=layNew_perm t es (hashInt x) (Value.int x u);have p2:=layNew_fits t es (hashInt x) (Value.int x u);have p3:=ue t es (hashInt x) (Value.int x u);have p4:=vE hL es (hashInt x) (Value.int x u);generalize layNew t es (hashInt x) (Value.int x u)=L at p1 p2 p3 p4 ⊢;obtain ⟨es1,t1,wd,gave⟩:=L;dsimp only at p1 p2 p3 p4 ⊢;rw [Array.toList_push] at p1;have hel1:∀ e ∈ es1.toList,∃ x u,e=(hashInt x,Value.int x u):=fun e he=>by
   rcases List.mem_append.mp (p1.mem_iff.mp he) with q | q
   ·exact hel e q
   ·rw [List.mem_singleton.mp q]; exact ⟨x,u,rfl⟩
  have hp1:(es1.toList.map fun e=>intOf e.2).Perm (addI ss x):=by
   refine (p1.map _).trans ?_;unfold addI;rw [if_neg hin,List.map_append];exact hp.append_right _
  have hz1:es1.size=ss.length+1:=by
   have:=p1.length_eq;simp only [Array.length_toList,List.length_append,List.length_singleton] at this;omega
  have gw:∀ (b:Bool) (s₁:Shared) (Q':Unit->Shared->Prop),Q' () s₁ -> wpAny (model prog w) A (match b with | true=>rule "set.scan.the-table-gave-way" | false=>pure ()) Q' E s₁:=fun b s₁ Q' q=>by
   cases b
   ·exact wpAny_pure q
   ·exact wpAny_rule q
  refine wpAny_bind (gw _ _ _ ?_);split
  ·refine wpAny_bind ?_;rw [hashByValue_scannable 8 (x:=Value.int x u) rfl];refine wpAny_pure ?_;have pk:plainKind (Value.int x u)=true:=rfl;simp only [pk,↓reduceIte];obtain ⟨t2,et,f2,l2,L2'⟩:∃ t2:SetTable,t2=t1/\t2.fits es1.size=true/\t2.led=led/\Laid0 t2:=⟨_,rfl,p2,p3.1.trans hl,p4⟩;rw [<- et];refine wpAny_bind (wpAny_storeSet_of ho rfl ?_ (fits_of_scanBound (by omega)));have o1:=oh (es':=es1) (t':=t2) ho;have sb1:=Heap.SameBut.update s.heap a (Obj.putSet es1 t2);refine wpAny_ite_split (fun _=>?_) fun _=>?_
   ·have q1:=relayAll_perm t2 es1 (SetTable.grown es1.size);have q2:=relayAll_fits t2 es1 (SetTable.grown es1.size);have q3:=qO t2 es1 (SetTable.grown es1.size);have q4:=nz (t:=t2) es1 (SetTable.grown es1.size);generalize relayAll t2 es1 (SetTable.grown es1.size)=R at q1 q2 q3 q4 ⊢;obtain ⟨es2,t3,g2⟩:=R;dsimp only at q1 q2 q3 q4 ⊢;have z2:es2.size=es1.size:=by have:=q1.length_eq; simpa using this
    refine wpAny_bind (gw _ _ _ ?_);refine wpAny_bind (wpAny_storeSet_of o1 rfl ?_ (fits_of_scanBound (by omega)));have o2:=oh (s:={ s with heap:=s.heap.update a (Obj.putSet es1 t2) }) (es':=es2) (t':=t3) o1;exact wpAny_pure (wpAny_pure (h _ _ (sb1.trans (Heap.SameBut.update _ a _)) ⟨es2,_,t3,o2,fun e he=>hel1 e (q1.mem_iff.mp he),(q1.map _).trans hp1,q2,q3.1.trans l2,q4⟩))
   ·exact wpAny_pure (wpAny_pure (h _ _ sb1 ⟨es1,_,t2,o1,hel1,hp1,f2,l2,L2'⟩))
  ·rename_i np;refine wpAny_bind (wpAny_pure ?_);simp only [↓reduceIte];obtain ⟨t2,et,f2,l2,L2'⟩:∃ t2:SetTable,t2=t1/\t2.fits es1.size=true/\t2.led=led/\Laid0 t2:=⟨_,rfl,p2,p3.1.trans hl,p4⟩;rw [<- et];refine wpAny_bind (wpAny_storeSet_of ho rfl ?_ (fits_of_scanBound (by omega)));have o1:=oh (es':=es1) (t':=t2) ho;have sb1:=Heap.SameBut.update s.heap a (Obj.putSet es1 t2);refine wpAny_ite_split (fun _=>?_) fun _=>?_
   ·have q1:=relayAll_perm t2 es1 (SetTable.grown es1.size);have q2:=relayAll_fits t2 es1 (SetTable.grown es1.size);have q3:=qO t2 es1 (SetTable.grown es1.size);have q4:=nz (t:=t2) es1 (SetTable.grown es1.size);generalize relayAll t2 es1 (SetTable.grown es1.size)=R at q1 q2 q3 q4 ⊢;obtain ⟨es2,t3,g2⟩:=R;dsimp only at q1 q2 q3 q4 ⊢;have z2:es2.size=es1.size:=by have:=q1.length_eq; simpa using this
    refine wpAny_bind (gw _ _ _ ?_);refine wpAny_bind (wpAny_storeSet_of o1 rfl ?_ (fits_of_scanBound (by omega)));have o2:=oh (s:={ s with heap:=s.heap.update a (Obj.putSet es1 t2) }) (es':=es2) (t':=t3) o1;exact wpAny_pure (wpAny_pure (h _ _ (sb1.trans (Heap.SameBut.update _ a _)) ⟨es2,_,t3,o2,fun e he=>hel1 e (q1.mem_iff.mp he),(q1.map _).trans hp1,q2,q3.1.trans l2,q4⟩))
   ·exact wpAny_pure (wpAny_pure (h _ _ sb1 ⟨es1,_,t2,o1,hel1,hp1,f2,l2,L2'⟩))
end
noncomputable def dI (l:List Int):List Int:=l.foldl addI []
theorem xS (ss:List Int) (x:Int):(addI ss x).length<=ss.length+1:=by
 unfold addI;split <;> simp
theorem zq {l:List Int} {i:Nat} {x:Int} (h:l[i]? = some x):dI (l.take (i+1))=addI (dI (l.take i)) x:=by
 unfold dI;rw [List.take_add_one,h,List.foldl_append];rfl
theorem oR (l:List Int):∀ ss:List Int,(l.foldl addI ss).length<=ss.length+l.length:=by
 induction l with
 | nil=>intro ss; simp
 | cons x l ih=>
  intro ss;have h1:=ih (addI ss x);have h2:=xS ss x;simp only [List.foldl_cons,List.length_cons];omega
theorem wO (l:List Int):(dI l).length<=l.length:=by
 have:=oR l [];simpa [dI] using this
theorem wJ {ss:List Int} {x y:Int}:y ∈ addI ss x ↔ y ∈ ss\/y=x:=by
 unfold addI;split
 ·rename_i h;exact ⟨.inl,fun q=>q.elim id fun e=>e ▸ h⟩
 ·simp
theorem oW (l:List Int):∀ (ss:List Int) (y:Int),y ∈ l.foldl addI ss ↔ y ∈ ss\/y ∈ l:=by
 induction l with
 | nil=>intro ss y; simp
 | cons x l ih=>
  intro ss y;rw [List.foldl_cons,ih,wJ,List.mem_cons];exact ⟨fun q=>q.elim (fun z=>z.elim .inl fun e=>.inr (.inl e)) fun z=>.inr (.inr z),fun q=>q.elim (fun z=>.inl (.inl z)) fun z=>z.elim (fun e=>.inl (.inr e)) .inr⟩
theorem AT {l:List Int} {y:Int}:y ∈ dI l ↔ y ∈ l:=by
 unfold dI;rw [oW];simp
theorem tO {ss:List Int} (h:ss.Nodup) (x:Int):(addI ss x).Nodup:=by
 unfold addI;split
 ·exact h
 ·rename_i n;rw [List.nodup_append];exact ⟨h,by simp,fun a ha b hb=>by rw [List.mem_singleton.mp hb]; exact fun e=>n (e ▸ ha)⟩
theorem mR (l:List Int):∀ ss:List Int,ss.Nodup->(l.foldl addI ss).Nodup:=by
 induction l with
 | nil=>intro ss h; exact h
 | cons x l ih=>intro ss h; exact ih _ (tO h x)
theorem wR (l:List Int):(dI l).Nodup:=mR l [] List.nodup_nil
theorem IsInts.at {w:World} {h h':Heap} {a:Addr} {led:Bool} {ss:List Int} (x:IsInts w h a led ss) (k:∀ o,h.get? a=some o->h'.get? a=some o):IsInts w h' a led ss:=by
 obtain ⟨es,ep,t,ho,r⟩:=x;exact ⟨es,ep,t,k _ ho,r⟩
section
variable {prog:Program} {w:World} {A:Around} {R:Result->Shared->Prop} {I:Addr} {fp wr:List Addr} {G:Array GenState->Array GenState->Prop} {n:Nat} {P:Nat->Value->Prop} {St:Nat->Shared->Prop}
theorem vB (W:WalksS prog w A.in1 I fp wr G n P St) (S:Addr) (hSf:S ∉ fp) (ss:List Int) (led:Bool) (hn:ss.length=n)
  (hval:∀ i v,P i v->∃ x t,ss[i]? = some x/\v=.int x t) (hb:n+1 < scanBound):
  ∀ (k i:Nat) (s:Shared),n - i=k->i<=n->St i s->IsInts w s.heap S led (dI (ss.take i)) ->
   (∀ s',Moved (S::wr) G s s'->IsInts w s'.heap S led (dI ss)->R (.ok (.ret .none)) s') ->
   codeAny (model prog w) A (.builtin "set.update.loop" ⟨[.ref S,.ref I],[]⟩) R s:=by
 have hSw:S ∉ wr:=fun h=>hSf (W.sub _ h)
 have up:∀ b ∈ wr,b ∈ S::wr:=fun b hb=>List.mem_cons_of_mem _ hb
 intro k
 induction k with
 | zero=>
  intro i s hk hi hst hS hR;obtain rfl:i=n:=by omega
  refine codeAny_builtin PyProof.Rows.F.entry_set_update_loop ?_;rw [Around.under_plainId PyProof.Rows.F.plain_set_update_loop _];show wpAny _ A.in1 (pyNext (.ref I)>>=_) _ _ s;refine wpAny_bind (W.done s _ _ hst fun s' hm=>?_);rw [List.take_of_length_le (Nat.le_of_eq hn)] at hS;exact wpAny_pure (hR s' (hm.mono up) (hS.at fun o e=>hm.heap S o hSw e))
 | succ k ih=>
  intro i s hk hi hst hS hR;have hlt:i < n:=by omega
  refine codeAny_builtin PyProof.Rows.F.entry_set_update_loop ?_;rw [Around.under_plainId PyProof.Rows.F.plain_set_update_loop _];show wpAny _ A.in1 (pyNext (.ref I)>>=_) _ _ s;refine wpAny_bind (W.item i s _ _ hlt hst fun v s' hP hst' hm=>?_);obtain ⟨x,t,hx,rfl⟩:=hval i v hP;have hS':IsInts w s'.heap S led (dI (ss.take i)):=hS.at fun o e=>hm.heap S o hSw e
  show wpAny _ A.in1 (holding [Value.int x t] (setAdd S (.int x t))>>=_) _ _ s';refine wpAny_bind (wpAny_holding ?_);unfold setAdd;refine wpAny_holding (wpAny_bind (wpAny_pyHash_int ?_));have hroom:(dI (ss.take i)).length+1 < scanBound:=by
   have h1:=wO (ss.take i);rw [List.length_take] at h1;omega
  refine add_int (s:={ s' with toks:=s'.toks+1 }) hS' hroom fun h' b hsb hS2=>?_
  rw [<- zq hx] at hS2;refine wpAny_pure ⟨plainId_quiet PyProof.Rows.F.plain_set_update_loop _,ih (i+1) _ (by omega) hlt (W.frame _ s' _ _ hst' (Nat.le_succ _) fun b hb o e=>?_) hS2 fun s'' hm'' hS''=>?_⟩
  ·rw [hsb.2 b (fun h:b=S=>hSf (h ▸ hb))];exact e
  ·refine hR s'' (Moved.trans W.gtrans ((hm.mono up).then_heap (Nat.le_succ _) fun b o hb e=>?_) hm'') hS'';rw [hsb.2 b (fun h:b=S=>hb (h ▸ List.mem_cons_self))];exact e
end
section
variable {prog:Program} {w:World} {A:Around} {E:Value->Shared->Prop} {s:Shared}
theorem isInts0 {w:World} {h:Heap} {a:Addr} (ho:h.get? a=some (setObj0 w)):IsInts w h a (ledW w) []:=
 ⟨#[],0,_,ho,fun e he=>by simp at he,by simp,rfl,rfl,⟨fun a b _ hb _=>absurd hb (by simp [SetTable.fresh]),rfl⟩⟩
set_option maxHeartbeats 3200000 in
theorem sX {l:Addr} {items:Array Value} {ss:List Int} {Q:Value->Shared->Prop} (hh:A.handled=none) (hl:s.heap.IsList l items) (hn:ss.length=items.size)
  (hv:∀ (i:Nat) (v:Value),items[i]? = some v->∃ x t,ss[i]? = some x/\v=.int x t) (hb:items.size+1 < scanBound)
  (h:∀ (h':Heap) (tk:Nat),IsInts w h' s.heap.objs.size (ledW w) (dI ss)->(∀ b o,s.heap.get? b=some o->h'.get? b=some o)->Q (.ref s.heap.objs.size) { s with heap:=h',toks:=tk }):
  wpAny (model prog w) A (call (.type "set") [.ref l]) Q E s:=by
 apply p9;intro A₁ _;apply vD;have hS:(s.heap.push (setObj0 w)).get? s.heap.objs.size=some (setObj0 w):=Heap.get?_push_size _ rfl;have hT:Shared.TypeIs { s with heap:=s.heap.push (setObj0 w) } (.ref s.heap.objs.size) "set" := ⟨_,hS,rfl⟩;refine ⟨⟨_,rfl⟩,hT,fun A₂ h2=>?_⟩;apply codeAny_call_builtin PySem.F.called_set.init.plain PySem.F.entry_set_init;apply check_set_init_1 hT;obtain ⟨⟨ocls,odict,odata,oslots⟩,hol,hcl,nl,hdl⟩:=hl;change ocls=.type "list" at hcl;change odata=.seq items nl at hdl;subst hcl hdl;have hol':(s.heap.push (setObj0 w)).get? l=some { cls:=.type "list",dict:=odict,data:=.seq items nl,slots:=oslots }:=Heap.get?_push_of_some _ hol;have k1:=PySem.F.sub_list_set;have k2:=PySem.F.sub_list_frozenset;have k3:(Value.type "list" == Value.type "dict")=false:=by decide
 have hl1:(s.heap.push (setObj0 w)).IsList l items:=⟨_,hol',rfl,nl,rfl⟩;unfold Builtin.«set.__init__» noKeywords Builtin.Frozenset.updateFrom;generalize hPI:pyIter=PI
 wp_walk
 subst hPI;refine wpAny_pyIter_list hl1 ?_;apply wpAny_bind;apply wpAny_runValue;have hlS:l < s.heap.objs.size:=Heap.lt_size hol;have hsz:(s.heap.push (setObj0 w)).objs.size=s.heap.objs.size+1:=Heap.size_push ..;have hSf:s.heap.objs.size ∉ [(s.heap.push (setObj0 w)).objs.size,l]:=by
  rw [hsz];intro z;rcases List.mem_cons.mp z with z | z
  ·exact Nat.succ_ne_self _ z.symm
  ·exact Nat.ne_of_gt hlS (List.mem_singleton.mp z)
 have W:=Walks.list (prog:=prog) (w:=w) (A:=A₂.in1.in1) (by simp [h2,hh]) (s.heap.push (setObj0 w)).objs.size l (by rw [hsz]; exact Nat.ne_of_lt (Nat.lt_succ_of_lt hlS)) items;refine vB W.toS s.heap.objs.size hSf ss (ledW w) hn hv hb (items.size - 0) 0 _ (by omega) (Nat.zero_le _) ⟨⟨_,Heap.get?_push_size _ rfl,rfl,rfl⟩,hl1.push _⟩ (isInts0 (Heap.get?_push_of_some _ hS)) fun s' hm hS'=>?_
 obtain ⟨h',g',d',tk',os'⟩:=s';obtain rfl:g'=s.gens:=hm.gens;obtain rfl:d'=s.drawn:=hm.drawn;obtain rfl:os'=s.os:=hm.os;apply wpAny_pure;apply wpAny_pure;refine ⟨rfl,h h' tk' hS' fun b o e=>?_⟩;have hbs:=Heap.lt_size e;apply hm.heap b o
 ·intro z;rcases List.mem_cons.mp z with z | z
  ·exact Nat.ne_of_lt hbs z
  ·have z:=List.mem_singleton.mp z;rw [hsz] at z;exact Nat.ne_of_lt (Nat.lt_succ_of_lt hbs) z
 ·exact Heap.get?_push_of_some _ (Heap.get?_push_of_some _ e)
section
variable {it a:Addr} {es:Array (Int × Value)} {n ep i:Nat} {t:SetTable}
theorem kT {slot:Nat} {Q:Option (Value × Nat)->Shared->Prop} (hb:w.params.followText "set-order" = false) (ha:s.heap.get? a=some (setObj es ep t)) (hf:t.fits es.size=true) (hl:t.led=true) (h1:(!t.plain && decide (es.size > 1))=false)
  (h:Q (match es[SetTable.below t.place slot]?,t.place[SetTable.below t.place slot]? with | some (_,x),some j=>some (x,j+1) | _,_=>none) s):wpAny (model prog w) A (setNext a slot i ep) Q E s:=by
 unfold setNext;refine wpAny_bind (wpAny_setState_of ha rfl hf ?_);dsimp only;refine wpAny_bind (oj ?_);rw [hb];show wpAny _ _ (if (!t.plain && decide (es.size > 1))=true then _ else _) _ _ _;rw [h1];have d2:(!t.led && !es.isEmpty)=false:=by rw [hl]; rfl
 show wpAny _ _ ((if (!t.led && !es.isEmpty)=true then _ else pure ())>>=_) _ _ _;rw [d2];exact wpAny_bind (wpAny_pure (wpAny_pure h))
theorem rp (hh:A.handled=none) (hne:a≠it) (hb:w.params.followText "set-order" = false) (hf:t.fits es.size=true) (hz:es.size=n) (hl:t.led=true) (h1:(!t.plain && decide (es.size > 1))=false) (hL:Laid0 t):
  Walks prog w A it [it,a] [it] n (fun i v=>(es[i]?).map (·.2)=some v) (fun i h=>(∃ sl,h.get? it=some (itObj (.int (sl:Nat) 0) i a n ep)/\SetTable.below t.place sl=i)/\h.get? a=some (setObj es ep t)) where
 sub:=fun b hb=>by simp at hb; simp [hb]
 frame:=fun _ _ _ ⟨⟨sl,st,r⟩,st2⟩ k=>⟨⟨sl,k it (by simp) _ st,r⟩,k a (by simp) _ st2⟩
 item:=fun i s Q E hi ⟨⟨sl,st,r⟩,st2⟩ hQ=>by
  have hp:i < t.place.size:=by rw [wm hf]; omega
  have hi':i < es.size:=by omega
  have e1:es[i]? = some es[i]:=Array.getElem?_eq_getElem hi';have e2:t.place[i]? = some t.place[i]:=Array.getElem?_eq_getElem hp;refine kW (slot:=sl) (nx:=t.place[i]+1) (x:=es[i].2) st st2 hf hz (fun E' Q' q=>kT hb st2 hf hl h1 ?_) fun h' g sb=>?_
  ·rw [r,e1,e2];exact q
  ·exact hQ _ h' s.toks (by rw [e1]; rfl) ⟨⟨_,g,yd hL.1 hp⟩,sb.extBut _ _ hne st2⟩ fun b o hb e=>sb.extBut b o (fun z=>hb (by simp [z])) e
 done:=fun s Q E ⟨⟨sl,st,r⟩,st2⟩ hQ=>by
  refine mf (slot:=sl) hh st st2 hf hz (fun E' Q' q=>kT hb st2 hf hl h1 ?_) fun h' k=>hQ h' s.toks fun b o hb e=>k b o (fun z=>hb (by simp [z])) e
  rw [r,Array.getElem?_eq_none (by omega)];exact q
 self:=fun i s Q E ⟨⟨sl,st,_⟩,_⟩ hQ=>lJ ⟨_,st,rfl⟩ hQ
end
structure WalkedI (prog:Program) (w:World) (A:Around) (h:Heap) (a:Addr) (ss:List Int) (it:Addr) (h':Heap):Prop where
 old:∀ b o,h.get? b=some o->h'.get? b=some o
 new:h.objs.size<=it
 walk:∃ fp St,∃ xs:List Value,Walks prog w A it fp [it] xs.length (fun i v=>xs[i]? = some v) St/\St 0 h'/\(∀ b ∈ fp,b=a\/h.objs.size<=b)/\(∀ v ∈ xs,∃ x u,v=Value.int x u)/\(xs.map intOf).Perm ss
theorem vz {a:Addr} {ss:List Int} {Q:Value->Shared->Prop} (hh:A.handled=none) (hS:IsInts w s.heap a (ledW w) ss) (hb:ss.length<=100000)
  (h:∀ it h' d,WalkedI prog w A s.heap a ss it h'->Q (.ref it) { s with heap:=h',drawn:=d }):wpAny (model prog w) A (pyIter (.ref a)) Q E s:=by
 obtain ⟨es,ep,t,ho,hel,hp,hf,hl,hpl⟩:=hS;have hT:s.TypeIs (.ref a) "set" := ⟨_,ho,rfl⟩;have hlt:=Heap.lt_size ho;have hsz:es.size=ss.length:=by have:=hp.length_eq; simpa using this
 have hvs:∀ v ∈ es.toList.map (·.2),∃ x u,v=Value.int x u:=fun v hv=>by
  obtain ⟨e,he,rfl⟩:=List.mem_map.mp hv;obtain ⟨x,u,rfl⟩:=hel e he;exact ⟨x,u,rfl⟩
 have hps:((es.toList.map (·.2)).map intOf).Perm ss:=by rw [List.map_map]; exact hp
 have mk:∀ (xs:List Value),xs.Perm (es.toList.map (·.2))->(∀ v ∈ xs,∃ x u,v=Value.int x u)/\(xs.map intOf).Perm ss:=fun xs q=>
  ⟨fun v hv=>hvs v (q.mem_iff.mp hv),(q.map _).trans hps⟩
 refine wpAny_pyIter_slot hT PySem.F.slot_set_iter (wpAny_call_entry PySem.F.slot_set_iter hT oP ?_ (PySem.F.args_set_iter_1 _));unfold Builtin.«frozenset.__iter__» Builtin.Frozenset.slot0 slotArgs;simp only [List.isEmpty_nil,Bool.not_true,Bool.false_eq_true,↓reduceIte,bind_assoc,List.length_nil,bne_self_eq_false];unfold Builtin.Frozenset.addrOf Builtin.Frozenset.sizeOf;refine wpAny_bind (wpAny_pure ?_)
 try dsimp only
 refine wpAny_bind (wpAny_pure ?_);refine wpAny_bind (wpAny_bind (wpAny_setEntries_of ho rfl hf (wpAny_pure ?_)));unfold setDrawn;refine wpAny_bind (wpAny_bind (wpAny_setState_of ho rfl hf ?_));dsimp only;refine wpAny_bind (oj (wpAny_pure ?_));change wpAny _ _ (if (!w.params.followText "set-order" && (!t.plain && decide (es.size > 1)))=true then _ else _) _ _ _;have ne1:∀ (h1:Heap),s.heap.objs.size<=h1.objs.size->a≠h1.objs.size:=fun h1 q=>Nat.ne_of_lt (Nat.lt_of_lt_of_le hlt q)
 by_cases hd:(!w.params.followText "set-order" && (!t.plain && decide (es.size > 1)))=true
 ·rw [if_pos hd];refine wpAny_bind (tN es.size (List.range es.size) s _ (by simp) fun ys d hy=>?_);have hyl:ys.length=es.size:=by have:=hy.length_eq; simpa using this
  refine wpAny_bind (wpAny_newTuple ?_ (by rw [List.length_map,hyl,sizeLine_eq]; omega));refine wpAny_bind (wpAny_setEpoch_of (Heap.get?_push_of_some _ ho) rfl hf ?_);refine wpAny_bind (wpAny_newObj_type (wpAny_pure ⟨_,rfl, "set_iterator",_,⟨_,Heap.get?_push_size _ rfl,rfl⟩,dH.lookup,?_⟩));have hq:(atPlaces es ys).Perm (es.toList.map (·.2)):=by
   rw [<- tK];exact hy.map _
  have hlen:es.size=(atPlaces es ys).length:=by unfold atPlaces; rw [List.length_map,hyl]
  have e1:(s.heap.push (seqObj "tuple" (ys.map fun (k:Nat)=>rawInt k).toArray 0)).objs.size=s.heap.objs.size+1:=size_push' ..;refine h _ _ d ⟨fun b o e=>Heap.get?_push_of_some _ (Heap.get?_push_of_some _ e),Nat.le_trans (Nat.le_succ _) (Nat.le_of_eq e1.symm),_,_,_,
   Walks.cast (tD (A:=A) (a:=a) (T:=s.heap.objs.size) (ep:=ep) hh (ne1 _ (Nat.le_trans (Nat.le_succ _) (Nat.le_of_eq e1.symm))) ?_ hf rfl hy) hlen fun _ _=>Iff.rfl,?_,?_,(mk _ hq).1,(mk _ hq).2⟩
  ·exact Nat.ne_of_lt (Nat.lt_of_lt_of_le (Nat.lt_succ_self _) (Nat.le_of_eq e1.symm))
  ·exact ⟨Heap.get?_push_size _ rfl,Heap.get?_push_of_some _ (Heap.get?_push_of_some _ ho),Heap.get?_push_of_some _ (Heap.get?_push_size _ rfl)⟩
  ·intro b hb;simp only [List.mem_cons,List.not_mem_nil,or_false] at hb;rcases hb with rfl | rfl | rfl
   ·exact .inr (Nat.le_trans (Nat.le_succ _) (Nat.le_of_eq e1.symm))
   ·exact .inl rfl
   ·exact .inr (Nat.le_refl _)
 ·rw [if_neg hd];refine wpAny_bind (wpAny_pure ?_);refine wpAny_bind (wpAny_setEpoch_of ho rfl hf ?_);refine wpAny_bind (wpAny_newObj_type (wpAny_pure ⟨_,rfl, "set_iterator",_,⟨_,Heap.get?_push_size _ rfl,rfl⟩,dH.lookup,?_⟩));have fpo:∀ b ∈ [s.heap.objs.size,a],b=a\/s.heap.objs.size<=b:=fun b hb=>by
   simp only [List.mem_cons,List.not_mem_nil,or_false] at hb;rcases hb with rfl | rfl
   ·exact .inr (Nat.le_refl _)
   ·exact .inl rfl
  refine h _ _ s.drawn ⟨fun b o e=>Heap.get?_push_of_some _ e,Nat.le_refl _,?_⟩;cases hbt:w.params.followText "set-order" with
  | true=>
   have hq:((pickOrder (w.params.setOrder a ep) es).toList.map (·.2)).Perm (es.toList.map (·.2)):=(mQ (w.params.setOrder a ep) es).map _;refine ⟨_,_,_,Walks.cast (tQ (A:=A) (a:=a) (ep:=ep) (t:=t) hh (ne1 _ (Nat.le_refl _)) hbt hf rfl) (by have:=hq.length_eq; simpa using this.symm) (fun i v=>?_),⟨Heap.get?_push_size _ rfl,Heap.get?_push_of_some _ ho⟩,fpo,(mk _ hq).1,(mk _ hq).2⟩;rw [List.getElem?_map,Array.getElem?_toList]
  | false=>
   have h1:(!t.plain && decide (es.size > 1))=false:=by
    rw [hbt] at hd;simpa using hd
   have hq:=List.Perm.refl (es.toList.map (·.2));refine ⟨_,_,_,Walks.cast (rp (A:=A) (a:=a) (ep:=ep) (t:=t) hh (ne1 _ (Nat.le_refl _)) hbt hf rfl (by rw [hl]; unfold ledW; rw [hbt]; rfl) h1 hpl) (by simp) (fun i v=>?_),⟨⟨0,Heap.get?_push_size _ rfl,uA hpl.1⟩,Heap.get?_push_of_some _ ho⟩,fpo,(mk _ hq).1,(mk _ hq).2⟩;rw [List.getElem?_map,Array.getElem?_toList]
theorem rJ {a:Addr} {ss:List Int} {R:List Value->Shared->Prop} (hh:A.handled=none) (hS:IsInts w s.heap a (ledW w) ss) (hb:ss.length<=100000)
  (h:∀ (h':Heap) (tk:Nat) (d:Drawn) (vs:List Value),s.heap.objs.size < h'.objs.size->(∀ b o,s.heap.get? b=some o->h'.get? b=some o)->(∀ v ∈ vs,∃ x u,v=Value.int x u)->(vs.map intOf).Perm ss->R vs { s with heap:=h',toks:=tk,drawn:=d }):
  wpAny (model prog w) A (collect (.ref a)) R E s:=by
 unfold collect;refine wpAny_bind (wpAny_runValue (codeAny_builtin entry_proto_collect' ?_));rw [Around.under_plainId PySem.F.plain_proto_collect _];show wpAny _ A.in1 (newList []>>=fun l=>again (.builtin "list.__iadd__" ⟨[l,.ref a],[]⟩)) _ _ s;refine wpAny_bind (wpAny_newObj_type ?_);refine wpAny_pure ⟨plainId_quiet PySem.F.plain_list_iadd _,codeAny_builtin entry_list_iadd' ?_⟩;rw [Around.under_plainId PySem.F.plain_list_iadd _];generalize hL:s.heap.objs.size=S;have hS1:(s.heap.push { cls:=.type "list",data:=.seq ([]:List Value).toArray }).get? S=some { cls:=.type "list",data:=.seq #[] }:=hL ▸ Heap.get?_push_size _ rfl;have hkeep:∀ b o,s.heap.get? b=some o->(s.heap.push { cls:=.type "list",data:=.seq ([]:List Value).toArray }).get? b=some o:=fun b o e=>Heap.get?_push_of_some _ e
 have haS:a < S:=by obtain ⟨es,ep,t,ho,_⟩:=hS; rw [<- hL]; exact Heap.lt_size ho
 have hz1:(s.heap.push { cls:=.type "list",data:=.seq ([]:List Value).toArray }).objs.size=S+1:=by rw [size_push',hL]
 have hS':IsInts w (s.heap.push { cls:=.type "list",data:=.seq ([]:List Value).toArray }) a (ledW w) ss:=hS.at fun o e=>hkeep _ _ e
 generalize hg:s.heap.push { cls:=.type "list",data:=.seq ([]:List Value).toArray }=g at hS1 hkeep hz1 hS';have hT:Shared.TypeIs { s with heap:=g } (.ref a) "set" := by obtain ⟨es,ep,t,ho,_⟩:=hS'; exact ⟨_,ho,rfl⟩
 show wpAny _ A.in1 (Builtin.List.listExtendWith (.ref S) (.ref a) (.ref S)) _ _ { s with heap:=g };unfold Builtin.List.listExtendWith;refine wpAny_bind (wpAny_typeOf (T := "set") hT ?_);have h1:Builtin.List.listSameRef (.ref S) (.ref a)=false:=by simp [Builtin.List.listSameRef,Nat.ne_of_gt haS]
 have h2:(Value.type "set" == Value.type "list")=false:=by decide
 have h3:(Value.type "set" == Value.type "tuple")=false:=by decide
 simp only [h1,h2,h3,Bool.or_false,Bool.false_eq_true,if_false];refine wpAny_bind (vz (A:=A.in1) (s:={ s with heap:=g }) hh hS' hb fun it g' d W=>?_);obtain ⟨old,new,fp,St,xs,Wk,st,hfp,hxs,hpx⟩:=W;have hxl:xs.length=ss.length:=by have:=hpx.length_eq; simpa using this
 have hS2:=old _ _ hS1;have hSf:S ∉ fp:=fun z=>by
  rcases hfp S z with q | q
  ·exact Nat.lt_irrefl _ (q ▸ haS)
  ·rw [show ({ s with heap:=g }:Shared).heap.objs.size=S+1 from hz1] at q;exact absurd q (Nat.not_le.mpr (Nat.lt_succ_self _))
 have itS:it≠S:=fun z=>by
  subst z;rw [show ({ s with heap:=g }:Shared).heap.objs.size=it+1 from hz1] at new;exact absurd new (Nat.not_le.mpr (Nat.lt_succ_self _))
 have key:∀ (h:Heap) (c₁ tk:Nat),St 0 h->(∀ b o,b≠S->g'.get? b=some o->h.get? b=some o)->h.get? S=some { cls:=.type "list",data:=.seq #[] c₁ } ->
   codeAny (model prog w) A (.builtin "list.extend.loop" ⟨[.ref S,.ref it,.ref S],[]⟩) (fun r s'=>∃ vs c' k1 k2,r=.ok (.ret (.ref S))/\s'={ s with heap:=k1,toks:=k2,drawn:=d }/\k1.get? S=some { cls:=.type "list",dict:=none,data:=.seq vs c',slots:=#[] }/\vs.toList=xs /\
    (∀ b o,s.heap.get? b=some o->k1.get? b=some o)) { s with heap:=h,toks:=tk,drawn:=d }:=by
  intro h c₁ tk hst hk hl;refine codeAny_extend_loopS (Wk.toS) (by rw [hxl,sizeLine_eq]; omega) S hSf (.ref S) xs.length 0 _ #[] c₁ rfl (Nat.zero_le _) hst hl (ItemsOf.nil _) fun s' acc c' hm hl' hacc=>?_
  obtain ⟨k1,gg,dd',k2,oo⟩:=s';obtain rfl:gg=s.gens:=hm.gens;obtain rfl:dd'=d:=hm.drawn;obtain rfl:oo=s.os:=hm.os;refine ⟨acc,c',k1,k2,rfl,rfl,hl',?_,fun b o e=>hm.heap b o (fun z=>?_) (hk b o (fun z=>?_) (old b o (hkeep b o e)))⟩
  ·apply List.ext_getElem?;intro j;by_cases hj:j < xs.length
   ·have hj':j < acc.size:=by rw [hacc.1]; exact hj
    have:=hacc.2 j _ (Array.getElem?_eq_getElem hj');rw [this,Array.getElem?_toList,Array.getElem?_eq_getElem hj']
   ·rw [List.getElem?_eq_none (by rw [Array.length_toList,hacc.1]; omega),List.getElem?_eq_none (by omega)]
  ·have hbs:=Heap.lt_size e;rw [hL] at hbs;rcases List.mem_cons.mp z with q | q
   ·exact Nat.lt_irrefl _ (q ▸ hbs)
   ·rw [List.mem_singleton.mp q] at hbs;rw [show ({ s with heap:=g }:Shared).heap.objs.size=S+1 from hz1] at new;exact absurd (Nat.lt_of_le_of_lt new hbs) (Nat.not_lt.mpr (Nat.le_succ _))
  ·have hbs:=Heap.lt_size e;rw [hL] at hbs;exact Nat.lt_irrefl _ (z ▸ hbs)
 have hT2:Shared.TypeIs { s with heap:=g',drawn:=d } (.ref a) "set" := by obtain ⟨es,ep,t,ho,_⟩:=hS'; exact ⟨_,old _ _ ho,rfl⟩
 refine wpAny_bind (wpAny_holding (xC hT2 ?_));have last:∀ (r:Result) (s':Shared),(∃ vs c' k1 k2,r=.ok (.ret (.ref S))/\s'={ s with heap:=k1,toks:=k2,drawn:=d }/\k1.get? S=some { cls:=.type "list",dict:=none,data:=.seq vs c',slots:=#[] }/\vs.toList=xs /\
    (∀ b o,s.heap.get? b=some o->k1.get? b=some o))->∃ vs c' k1 k2,r=.ok (.ret (.ref S))/\s'={ s with heap:=k1,toks:=k2,drawn:=d }/\k1.get? S=some { cls:=.type "list",dict:=none,data:=.seq vs c',slots:=#[] }/\R vs.toList s':=by
  rintro r s' ⟨vs,c',k1,k2,rfl,rfl,hl,hv,hk⟩;exact ⟨vs,c',k1,k2,rfl,rfl,hl,h k1 k2 d vs.toList (hL ▸ Heap.lt_size hl) hk (hv ▸ hxs) (hv ▸ hpx)⟩
 refine wpAny_ite_split (fun _=>?_) (fun _=>wpAny_pure ⟨plainId_quiet PySem.F.plain_extend_loop _,codeAny_mono (key g' 0 s.toks st (fun _ _ _ e=>e) hS2) fun r s' q=>?_⟩)
 ·refine wpAny_bind (wpAny_rule ?_);refine wpAny_bind ?_;show wpAny _ _ (updateSeq S (·.push .none)>>=fun _=>updateSeq S (·.pop)) _ _ _;refine wpAny_bind (wpAny_updateSeq hS2 rfl ?_);have hS3:=Heap.get?_update_self (Obj.mapSeq (·.push Value.none)) hS2 rfl;refine wpAny_updateSeq (hz:=by seq_fits) hS3 rfl ?_;have hS4:=Heap.get?_update_self (Obj.mapSeq (·.pop)) hS3 rfl;have up:∀ b o,b≠S->g'.get? b=some o->((g'.update S (Obj.mapSeq (·.push Value.none))).update S (Obj.mapSeq (·.pop))).get? b=some o:=fun b o nb e=>
   (Heap.get?_update_other _ _ (Ne.symm nb)).trans ((Heap.get?_update_other _ _ (Ne.symm nb)).trans e)
  refine wpAny_pure ⟨plainId_quiet PySem.F.plain_extend_loop _,codeAny_mono (key _ _ s.toks (Wk.frame 0 _ _ st fun b hb o e=>up b o (fun z=>hSf (z ▸ hb)) e) up hS4) fun r s' q=>?_⟩;obtain ⟨vs,c',k1,k2,rfl,rfl,hl,hr⟩:=last r s' q;exact wpAny_bind (wpAny_load hl (wpAny_pure hr))
 ·obtain ⟨vs,c',k1,k2,rfl,rfl,hl,hr⟩:=last r s' q;exact wpAny_bind (wpAny_load hl (wpAny_pure hr))
end
section
variable {prog:Program} {w:World} {A:Around} {E:Value->Shared->Prop} {s:Shared}
theorem lL:∀ {vs:List Value},(∀ v ∈ vs,∃ x u,v=Value.int x u)->IntsAre vs (vs.map intOf)
 | [],_=>.nil
 | v::vs,h=>by
  obtain ⟨x,u,rfl⟩:=h v List.mem_cons_self;exact .cons x u (lL fun v hv=>h v (List.mem_cons_of_mem _ hv))
theorem qb {a:Addr} {ss:List Int} {Q:Value->Shared->Prop} (hh:A.handled=none) (hS:IsInts w s.heap a (ledW w) ss) (hb:ss.length < 64)
  (h:∀ (D:Addr) (h':Heap) (tk:Nat) (d:Drawn) (out:List Value) (ss':List Int) (e:Nat),(∀ b o,s.heap.get? b=some o->h'.get? b=some o)->s.heap.objs.size<=D->h'.get? D=some (seqObj "list" out.toArray e) ->
   IntsAre out ss'->ss'.Perm ss->ss'.Pairwise (· <= ·)->Q (.ref D) { s with heap:=h',toks:=tk,drawn:=d }):
  wpAny (model prog w) A (call (.builtin "sorted") [.ref a]) Q E s:=by
 refine Calls.call_function_entry kind_sorted plain_sorted entry_sorted (args_sorted1 _) ?_;unfold Builtin.«sorted»;refine wpAny_bind (m:=checkCount "sorted" 1 1 _) (wpAny_pure ?_);refine wpAny_bind (rJ (A:=A.in1) hh hS (by omega) fun h1 tk d vs more old hv hp=>?_);have hl:vs.length=ss.length:=by have:=hp.length_eq; simpa using this
 refine wpAny_bind (wpAny_newList ?_ (by rw [hl,sizeLine_eq]; omega));have hD:(h1.push (seqObj "list" vs.toArray 0)).get? h1.objs.size=some (seqObj "list" vs.toArray 0):=Heap.get?_push_size _ rfl;have hSA:=lL hv;refine wpAny_bind (wpAny_holding (wpAny_call_entry slot_list_sort ⟨_,hD,rfl⟩ entry_list_sort (list_sort_tree hD hSA (by omega) fun out ns' a1 a2 a3=>⟨_,rfl,?_⟩) (args_list_sort _)));obtain ⟨e,he⟩:=sortedHeap_at (out:=out) hD;refine wpAny_pure ⟨_,rfl,h _ _ tk d out.toList ns' e (fun b o q=>?_) ?_ (by rw [Array.toArray_toList]; exact he) a1 (a2.trans hp) a3⟩
 ·have hb1:=Heap.lt_size (old b o q);rw [sortedHeap_old (Nat.ne_of_lt hb1) (by rw [size_push']; exact Nat.lt_succ_of_lt hb1)];exact Heap.get?_push_of_some _ (old b o q)
 ·exact Nat.le_of_lt more
end
section
variable {X:Cx}
theorem vg:∀ {vs:List Value} {ys:List Int},IntsAre vs ys->∀ (i:Nat) (v:Value),vs[i]? = some v->∃ x t,ys[i]? = some x/\v=.int x t
 | _,_,.nil,i,v,h=>by simp at h
 | _,_,.cons y t r,0,v,h=>by simp at h; exact ⟨y,t,rfl,h.symm⟩
 | _,_,.cons y t r,i+1,v,h=>by simpa using vg r i v (by simpa using h)
noncomputable def cSortInts (K:Frag) (te:TE):TE:=fun σ H Q=>te σ H fun x H1=>match x with
 | .ref p=>∃ ns:List Int,SqL K H1 p (ns.map V.int)/\ns.length < 64/\∀ (q:Addr) (ms:List Int),H1 q=none->(∀ n,n ∈ ms ↔ n ∈ ns)->ms.length<=ns.length->ms.Pairwise (· <= ·)->ms.Nodup->Q (.ref q) (upd H1 q (.lst (ms.map V.int)))
 | _=>False
theorem mU {K:Frag} (hK:X.K=K) (hc:X.calm=true) {pins:List (Addr × Obj)} {s:Shared} {σ:St} {H:Hp} {p:Addr} {ns:List Int} {Q:VK} (I:Inv X pins σ H s)
  (h:SqL K H p (ns.map V.int)) (h1:ns.length < 64) (q:∀ (q:Addr) (ms:List Int),H q=none->(∀ n,n ∈ ms ↔ n ∈ ns)->ms.length<=ns.length->ms.Pairwise (· <= ·)->ms.Nodup->Q (.ref q) (upd H q (.lst (ms.map V.int)))):
  wpAny (model X.prog X.w) X.A (call (.type "set") [.ref p]) (fun v s1=>wpAny (model X.prog X.w) X.A (call (.builtin "sorted") [v]) (EP X pins σ Q) X.xe s1) X.xe s:=by
 subst hK;obtain ⟨its,rv,pl,_⟩:=I.list h;have hss:IntsAre its ns:=pD rv;have hlen:its.length=ns.length:=by have:=rv.length; simpa using this.symm
 have e63:scanBound=4096:=rfl;refine tokQ I.tk (sX (items:=its.toArray) (ss:=ns) (I.ok.hd hc) pl.isList (by simp [hlen]) (fun i v hv=>vg hss i v (by simpa using hv)) (by simp only [List.size_toArray,hlen,e63]; omega) fun h' tk hS old (htk:0 < tk)=>?_);have I1:Inv X pins σ H { s with heap:=h',toks:=tk }:=I.kept old;have hdl:=wO ns;refine tokQ I1.tk (qb (s:={ s with heap:=h',toks:=tk }) (I.ok.hd hc) hS (by omega) fun D h2 tk2 d out ss' e old2 hD ho hso hp hsd (htk2:0 < tk2)=>?_);have hl2:ss'.length=(dI ns).length:=hp.length_eq;have I2:=I1.laid (a:=D) (o:=.lst (ss'.map V.int)) (t':=tk2) old2 hD ⟨by rw [List.length_map,sizeLine_eq]; omega,out,e,mL hso,ho⟩;exact ⟨.ref D,_,I2.drew d,rfl,q D ss' (I1.hok.fresh hD) (fun n=>by rw [hp.mem_iff,AT]) (by omega) hsd (hp.nodup_iff.mpr (wR ns))⟩
theorem sD {K:Frag} {e:Expr} {te:TE} {p p2 pos pos2:Pos} (hK:X.K=K) (hc:X.calm=true) (hg:Gl X "sorted") (hm:X.mg "sorted" = none) (hg2:Gl X "set") (hm2:X.mg "set" = none) (he:PE X e te)
  (hs:starEach [e] X.env=[(false,eval e X.env)]:=by rfl)
  (hs2:starEach [Expr.Call (.Name "set" p2) [e] [] pos2] X.env=[(false,eval (Expr.Call (.Name "set" p2) [e] [] pos2) X.env)]:=by rfl):
  PE X (.Call (.Name "sorted" p) [.Call (.Name "set" p2) [e] [] pos2] [] pos) (cSortInts K te):=by
 intro pins s σ H Q I h;refine wpAny_Call_Name_kw (hZ I hg hm vj ?_ (by decide) (by decide));refine PyProof.Rows.callWith_builtin1 ?_ hs2 rfl;rw [hs2];show wpAny _ _ (spliced [(false,eval (Expr.Call (.Name "set" p2) [e] [] pos2) X.env)]) _ _ s;refine Calls.spliced_cons ?_;refine wpAny_Call_Name_kw (hZ I hg2 hm2 Ap ?_ (by decide) (by decide));refine PyProof.Rows.callWith_type1 ?_ hs rfl;rw [hs];show wpAny _ _ (spliced [(false,eval e X.env)]) _ _ s;refine Calls.spliced_cons (thn (he pins s σ H _ I h) fun u s1 ⟨x,H1,I1,r1,q1⟩=>Calls.spliced_nil ?_)
 match x,r1,q1 with
 | .ref p,rfl,⟨ls,a1,a2,a3⟩=>exact thn (mU hK hc I1 a1 a2 a3) fun v s2 q=>Calls.spliced_nil q
theorem sH {K:Frag} {te:TE} {σ:St} {H:Hp} {Q:VK}:cSortInts K te σ H Q=te σ H fun x H1=>match x with
 | .ref p=>∃ ns:List Int,SqL K H1 p (ns.map V.int)/\ns.length < 64/\∀ (q:Addr) (ms:List Int),H1 q=none->(∀ n,n ∈ ms ↔ n ∈ ns)->ms.length<=ns.length->ms.Pairwise (· <= ·)->ms.Nodup->Q (.ref q) (upd H1 q (.lst (ms.map V.int)))
 | _=>False:=rfl
end
section
variable {prog:Program} {w:World} {A:Around} {E:Value->Shared->Prop} {s:Shared}
theorem pi {it:Addr} {Q:Value->Shared->Prop} (ty:s.TypeIs (.ref it) "tuple_iterator")
  (q:wpAny (model prog w) A.in1 (Builtin.«tuple_iterator.__next__» ⟨[.ref it],[]⟩) (fun fin s'=>∃ v,fin=.done (.ret v)/\Q v s') E s):wpAny (model prog w) A (Builtin.SmallTypes.nextOf (.ref it)) Q E s:=by
 have sl:=F.slot_tuple_iterator_next;unfold Builtin.SmallTypes.nextOf;refine wpAny_bind (wpAny_callSpecial?_slot (name:=Str.ofString "__next__") ty sl (wpAny_call_entry sl ty F.entry_tuple_iterator_next (wpAny_mono q (fun fin s' ⟨v,e,z⟩=>⟨v,e,wpAny_pure z⟩) fun _ _ z=>z) (F.args_tuple_iterator_next_1 _)))
theorem nQ {it t:Addr} {i:Nat} {ys:Array Value} {x:Value} {Q:Value->Shared->Prop} (st:s.heap.IsTupleIter it t i) (tu:s.heap.IsTuple t ys) (e:ys[i]? = some x)
  (q:∀ h',h'.IsTupleIter it t (i+1)->Heap.SameBut it s.heap h'->Q x { s with heap:=h' }):wpAny (model prog w) A (Builtin.SmallTypes.nextOf (.ref it)) Q E s:=by
 apply pi st.typeIs;obtain ⟨ob,g1,g2,g3⟩:=st;obtain ⟨tb,k1,_,kn,k2⟩:=tu;change wpAny _ _ (field (.ref it) 0>>=_) _ _ _;apply wpAny_bind;apply wpAny_field g1 g3 (x:=.ref t) rfl;have nn:(Value.ref t == Value.none)=false:=rfl;simp only [nn,Bool.false_eq_true,if_false];apply wpAny_bind;apply wpAny_field g1 g3 (x:=.int i 0) rfl;apply wpAny_bind;apply wpAny_seqItems k1 k2;simp only [Int.toNat_natCast,e];apply wpAny_bind;apply wpAny_setField g1 g3 (by simp);apply wpAny_pure;refine ⟨x,rfl,q _ ⟨_,Heap.get?_update_self _ g1 (Obj.isFreed_of_fields (Obj.data_mapFields g3 _)),(Obj.cls_mapFields ..).trans g2,?_⟩ (Heap.SameBut.update ..)⟩;rw [Obj.data_mapFields g3];simp [rawInt]
theorem oO {it t:Addr} {i:Nat} {ys:Array Value} {Q:Value->Shared->Prop} (hh:A.handled=none) (st:s.heap.IsTupleIter it t i) (tu:s.heap.IsTuple t ys) (e:ys[i]? = none)
  (q:∀ h' e,Heap.ExtBut it s.heap h'->(∃ o,h'.get? e=some o/\o.cls=.type "StopIteration")->E (.ref e) { s with heap:=h' }):wpAny (model prog w) A (Builtin.SmallTypes.nextOf (.ref it)) Q E s:=by
 apply pi st.typeIs;obtain ⟨ob,g1,g2,g3⟩:=st;obtain ⟨tb,k1,_,kn,k2⟩:=tu;change wpAny _ _ (field (.ref it) 0>>=_) _ _ _;apply wpAny_bind;apply wpAny_field g1 g3 (x:=.ref t) rfl;have nn:(Value.ref t == Value.none)=false:=rfl;simp only [nn,Bool.false_eq_true,if_false];apply wpAny_bind;apply wpAny_field g1 g3 (x:=.int i 0) rfl;apply wpAny_bind;apply wpAny_seqItems k1 k2;simp only [Int.toNat_natCast,e];apply wpAny_bind;apply wpAny_rule;apply wpAny_bind;apply wpAny_setField g1 g3 (by simp);have hh1:A.in1.handled=none:=hh;exact lx hh1 fun h2 x k c=>q h2 x (fun b o nb z=>k b o ((Heap.SameBut.update s.heap it _).extBut b o nb z)) c
end
def TGo (H:Hp) (a:Addr) (i:Nat):Prop:=∃ xs v,H a=some (.tup xs)/\xs[i]? = some v
def TAt (H:Hp) (a:Addr) (i:Nat) (v:V):Prop:=∀ xs,H a=some (.tup xs)->xs[i]? = some v
def TEnd (H:Hp) (a:Addr) (i:Nat):Prop:=∃ xs,H a=some (.tup xs)/\xs.length<=i
theorem je {h:Heap} {a it:Addr} {i:Nat} (st:h.IsTupleIter it a i):∃ o,h.get? it=some o/\(∀ v,o.data≠.cell v)/\o.cls≠.type "list" /\ o.cls≠.type "zip" /\ o.cls≠.type "tuple" := by
 obtain ⟨o,e,c,d⟩:=st;refine ⟨o,e,(fun v z=>by rw [d] at z; cases z),?_⟩;rw [c];decide
section
variable {X:Cx} {pins:List (Addr × Obj)} {σ:St} {H:Hp} {s:Shared} {A:Around}
theorem tM (I:Inv X pins σ H s) {a it:Addr} {i:Nat} (st:s.heap.IsTupleIter it a i) (go:TGo H a i):
  ∃ (f:List Addr) (Sa Sb:Heap->Prop) (P:Value->Prop),Nx X.prog X.w A it f Sa Sb P/\Sa s.heap/\(∀ c ∈ f,c=it\/((∃ o,s.heap.get? c=some o/\o.cls=.type "tuple")/\H c≠none))/\(∀ h,Sb h->h.IsTupleIter it a (i+1))/\∀ v,P v->∃ x,RelV x v/\TAt H a i x:=by
 obtain ⟨xs,v,hq,hv⟩:=go;obtain ⟨its,rv,pl,hz⟩:=I.tuple (SqT.of hq);obtain ⟨u,hu,ru⟩:=rv.get hv;have pl:s.heap.IsTuple a its.toArray:=pl;obtain ⟨o,e,c,n,hd⟩:=id pl;have hne:a≠it:=by
  rintro rfl;obtain ⟨o',e',c',_⟩:=st;rw [e] at e';cases e';rw [c] at c';exact absurd c' (by decide)
 refine ⟨[it,a],fun h=>h.IsTupleIter it a i/\h.IsTuple a its.toArray,fun h=>h.IsTupleIter it a (i+1)/\h.IsTuple a its.toArray,fun z=>z=u,⟨?_,?_,?_⟩,⟨st,pl⟩,?_,fun h q=>q.1,?_⟩
 ·rintro h h' ⟨⟨o1,s1,r1⟩,⟨o2,s2,r2⟩⟩ k;exact ⟨⟨o1,k it (by simp) o1 s1,r1⟩,⟨o2,k a (by simp) o2 s2,r2⟩⟩
 ·rintro h h' ⟨⟨o1,s1,r1⟩,⟨o2,s2,r2⟩⟩ k;exact ⟨⟨o1,k it (by simp) o1 s1,r1⟩,⟨o2,k a (by simp) o2 s2,r2⟩⟩
 ·intro s Q E st hQ;exact nQ st.1 st.2 (x:=u) (by simpa using hu) fun h' st' sb=>hQ _ h' s.toks rfl ⟨st',st.2.extBut sb.extBut hne⟩ sb
 ·intro c' hc;rcases (by simpa using hc:c'=it\/c'=a) with z | z
  ·exact .inl z
  ·subst z;exact .inr ⟨⟨o,e,c⟩,by rw [hq]; simp⟩
 ·rintro z rfl;exact ⟨v,ru,fun ys hy=>by rw [hq] at hy; cases hy; exact hv⟩
theorem yi (I:Inv X pins σ H s) (hh:A.handled=none) {a it:Addr} {i:Nat} (st:s.heap.IsTupleIter it a i) (en:TEnd H a i):
  ∃ (f:List Addr) (Sa:Heap->Prop),Nd X.prog X.w A it f Sa/\Sa s.heap/\(∀ c ∈ f,c=it\/((∃ o,s.heap.get? c=some o/\o.cls=.type "tuple")/\H c≠none)):=by
 obtain ⟨xs,hq,hv⟩:=en;obtain ⟨its,rv,pl,hz⟩:=I.tuple (SqT.of hq);have pl:s.heap.IsTuple a its.toArray:=pl;obtain ⟨o,e,c,n,hd⟩:=id pl;have hl:=rv.length;refine ⟨[it,a],fun h=>h.IsTupleIter it a i/\h.IsTuple a its.toArray,⟨?_,?_⟩,⟨st,pl⟩,?_⟩
 ·rintro h h' ⟨⟨o1,s1,r1⟩,⟨o2,s2,r2⟩⟩ k;exact ⟨⟨o1,k it (by simp) o1 s1,r1⟩,⟨o2,k a (by simp) o2 s2,r2⟩⟩
 ·intro s Q E st hE;exact oO hh st.1 st.2 (by simp; omega) hE
 ·intro c' hc;rcases (by simpa using hc:c'=it\/c'=a) with z | z
  ·exact .inl z
  ·subst z;exact .inr ⟨⟨o,e,c⟩,by rw [hq]; simp⟩
end
noncomputable def ItzT (a b:Addr):It:=⟨fun i H=>TGo H a i/\TGo H b i,fun i H v H'=>∃ T x y,v=.ref T/\H T=none/\H'=upd H T (.tup [x,y])/\TAt H a i x/\TAt H b i y,
 fun i H=>TEnd H a i\/(TGo H a i/\TEnd H b i)⟩
def ZipTt (z TI TO i1 i2:Addr) (S1 S2:Addr) (i:Nat) (h:Heap):Prop:=∃ a b,IsZip h z TI TO .none/\IsPair h TI (.ref i1) (.ref i2)/\IsPair h TO a b/\h.IsTupleIter i1 S1 i/\h.IsTupleIter i2 S2 i
theorem lM {H:Hp} {h:Heap} {f:List Addr} {z TI TO i1 i2:Addr} {S2:Addr} {k:Nat} (hTn:H TO=none) (hz:IsZip h z TI TO .none) (h2:h.IsTupleIter i2 S2 k) (n1:i1≠z) (n2:i1≠TO) (n3:i1≠i2)
  (m:∀ c ∈ f,c=i1\/((∃ o,h.get? c=some o/\o.cls=.type "tuple")/\H c≠none)):∀ c ∈ f,c≠z/\c≠TO/\c≠i2:=fun c hc=>by
 rcases m c hc with e | ⟨⟨o,e,c1⟩,hn⟩
 ·subst e;exact ⟨n1,n2,n3⟩
 ·refine ⟨?_,?_,?_⟩
  ·rintro rfl;rw [hz] at e;cases e;exact absurd (show Value.type "zip" = Value.type "tuple" from c1) (by decide)
  ·rintro rfl;exact hn hTn
  ·rintro rfl;obtain ⟨o',e',_,_,_,q⟩:=je h2;rw [e] at e';cases e';exact q c1
theorem vn {P:Program} {w:World} {K:Frag} {elts:List Expr} {kk:Nat} {pos:Pos} {z TI TO i1 i2:Addr} (D:ZAp z TI TO i1 i2) (S1 S2:Addr):
  Turn P w K (.Tuple elts kk pos) (ItzT S1 S2) [z,TI,TO,i1,i2] z (ZipTt z TI TO i1 i2 S1 S2) where
 mem:=by simp
 obj:=fun i h st b hb=>by
  obtain ⟨a,c,hz,hTI,hTO,h1,h2⟩:=st;simp only [List.mem_cons,List.not_mem_nil,or_false] at hb;rcases hb with rfl | rfl | rfl | rfl | rfl
  ·exact ⟨_,hz,fun v q=>by have q':Data.fields _=Data.cell v:=q; cases q'⟩
  ·exact ⟨_,hTI,fun v q=>by have q':Data.seq _ _=Data.cell v:=q; cases q'⟩
  ·exact ⟨_,hTO,fun v q=>by have q':Data.seq _ _=Data.cell v:=q; cases q'⟩
  ·obtain ⟨o,e,q,_⟩:=(je h1);exact ⟨o,e,q⟩
  ·obtain ⟨o,e,q,_⟩:=(je h2);exact ⟨o,e,q⟩
 keep:=fun i h h' st k=>by
  obtain ⟨a,c,hz,hTI,hTO,h1,h2⟩:=st;exact ⟨a,c,k z (by simp) _ hz,k TI (by simp) _ hTI,k TO (by simp) _ hTO,h1.at fun o e=>k i1 (by simp) o e,h2.at fun o e=>k i2 (by simp) o e⟩
 item:=by
  intro X hP hw hK hc i pins s σ H E I hf st hg;subst hP hw hK;obtain ⟨a,b,hz,hTI,hTO,h1,h2⟩:=st;have hTn:H TO=none:=(hf TO (by simp)).1;obtain ⟨g1,g2⟩:=hg;obtain ⟨f1,Sa,Sb,P1,n1,a1,m1,b1,r1⟩:=tM (A:=X.A.in1) I h1 g1;obtain ⟨f2,Sc,Sd,P2,n2,a2,m2,b2,r2⟩:=tM (A:=X.A.in1) I h2 g2;refine tokQ I.tk (jX hz rfl (ku D n1 n2 (lM hTn hz h2 D.i1z D.TOi1.symm D.i12 m1) (lM hTn hz h1 D.i2z D.TOi2.symm D.i12.symm m2) hz hTI hTO a1 a2 fun x y h' tk p1 p2 z1 z2 q1 q2 z3 z4 kp (htk:0 < tk)=>?_));obtain ⟨vx,rx,ax⟩:=r1 x p1;obtain ⟨vy,ry,ay⟩:=r2 y p2;have fresh:H s.heap.objs.size=none:=I.hok.fresh (Nat.le_refl _);have off:∀ {c o},s.heap.get? c=some o->c≠s.heap.objs.size:=fun e=>Nat.ne_of_lt (Heap.lt_size e)
  refine ⟨_,rfl,wpAny_letOwnedTupleGo_zip z1 fun h'' z1' sb=>?_⟩
  replace sb:Heap.SameBut z h' h'':=sb
  have hT:IsPair h'' s.heap.objs.size x y:=sb.extBut _ _ (Ne.symm (off hz)) z3;have I1:Inv X pins σ (upd H s.heap.objs.size (.tup [vx,vy])) { s with heap:=h'',toks:=tk }:=by
   refine I.turnedLaid (its:=[z,TO,i1,i2]) (fun c o hc' e=>?_) (fun c hc'=>hf c ?_) (Nat.le_refl _) ?_
   ·simp only [List.mem_cons,List.not_mem_nil,or_false,not_or] at hc';exact sb.extBut _ _ hc'.1 (kp c o hc'.1 hc'.2.1 hc'.2.2.1 hc'.2.2.2 e)
   ·simp only [List.mem_cons,List.not_mem_nil,or_false] at hc' ⊢;rcases hc' with q | q | q | q
    ·exact .inl q
    ·exact .inr (.inr (.inl q))
    ·exact .inr (.inr (.inr (.inl q)))
    ·exact .inr (.inr (.inr (.inr q)))
   ·exact ⟨by show 2<=sizeLine; decide,[x,y],.cons rx (.cons ry .nil),_,hT,rfl,_,rfl⟩
  refine ⟨.ref s.heap.objs.size,_,I1,rfl,⟨_,vx,vy,rfl,fresh,rfl,ax,ay⟩,⟨x,y,z1',?_,?_,?_,?_⟩,fun c hc'=>?_⟩
  ·exact sb.extBut _ _ D.TIz (kp _ _ D.TIz D.TITO D.TIi1 D.TIi2 hTI)
  ·exact sb.extBut _ _ D.TOz z2
  ·exact (b1 h' q1).at fun o e=>sb.extBut _ _ D.i1z e
  ·exact (b2 h' q2).at fun o e=>sb.extBut _ _ D.i2z e
  ·have ne:c≠s.heap.objs.size:=by
    simp only [List.mem_cons,List.not_mem_nil,or_false] at hc';rcases hc' with rfl | rfl | rfl | rfl | rfl
    ·exact off hz
    ·exact off hTI
    ·exact off hTO
    ·obtain ⟨o,e,_⟩:=(je h1);exact off e
    ·obtain ⟨o,e,_⟩:=(je h2);exact off e
   rw [aC ne];exact (hf c hc').1
 done:=by
  intro X hP hw hK hc i pins s σ H E I hf st hg;subst hP hw hK;obtain ⟨a,b,hz,hTI,hTO,h1,h2⟩:=st;have hTn:H TO=none:=(hf TO (by simp)).1;have hh:X.A.in1.handled=none:=I.ok.hd hc;have fin:∀ (h':Heap) (tk:Nat),0 < tk->(∀ c o,c≠z->c≠TO->c≠i1->c≠i2->s.heap.get? c=some o->h'.get? c=some o)->Inv X pins σ H { s with heap:=h',toks:=tk }:=fun h' tk htk kp=>
   I.turnedL (its:=[z,TO,i1,i2]) (fun c o hc' e=>by
    simp only [List.mem_cons,List.not_mem_nil,or_false,not_or] at hc';exact kp c o hc'.1 hc'.2.1 hc'.2.2.1 hc'.2.2.2 e) (fun c hc'=>hf c (by
    simp only [List.mem_cons,List.not_mem_nil,or_false] at hc' ⊢;rcases hc' with q | q | q | q
    ·exact .inl q
    ·exact .inr (.inr (.inl q))
    ·exact .inr (.inr (.inr (.inl q)))
    ·exact .inr (.inr (.inr (.inr q)))))
  rcases hg with e1 | ⟨g1,e2⟩
  ·obtain ⟨f1,Sa,n1,a1,m1⟩:=yi I hh h1 e1;exact tokQ I.tk (fo hz rfl (lf D n1 (lM hTn hz h2 D.i1z D.TOi1.symm D.i12 m1) hz hTI a1 fun h' e tk kp he=>⟨e,rfl,he,fun htk=>⟨rfl,fin h' tk htk kp⟩⟩))
  ·obtain ⟨f1,Sa,Sb,P1,n1,a1,m1,b1,r1⟩:=tM (A:=X.A.in1) I h1 g1;obtain ⟨f2,Sc,n2,a2,m2⟩:=yi I hh h2 e2;exact tokQ I.tk (fo hz rfl (lb D n1 n2 (lM hTn hz h2 D.i1z D.TOi1.symm D.i12 m1) (lM hTn hz h1 D.i2z D.TOi2.symm D.i12.symm m2) hz hTI hTO a1 a2 fun h' e tk kp he=>⟨e,rfl,he,fun htk=>⟨rfl,fin h' tk htk kp⟩⟩))
 self:=fun _ _ _ _ _ st h=>by
  obtain ⟨a,b,hz,_⟩:=st;exact wpAny_pyIter_zip hz h
noncomputable abbrev tupIt0 (a:Addr):Obj:={ cls:=.type "tuple_iterator",data:=.fields #[.ref a,.int 0 0] }
noncomputable abbrev yH1 (h:Heap) (a:Addr):Heap:=h.push (tupIt0 a)
noncomputable abbrev yH2 (h:Heap) (a b:Addr):Heap:=(yH1 h a).push (tupIt0 b)
noncomputable abbrev yH3 (h:Heap) (a b:Addr):Heap:=(yH2 h a b).push { cls:=.type "tuple",data:=.seq #[.ref h.objs.size,.ref (yH1 h a).objs.size] }
noncomputable abbrev yH4 (h:Heap) (a b:Addr):Heap:=(yH3 h a b).push { cls:=.type "tuple",data:=.seq #[.none,.none] }
noncomputable abbrev yH5 (h:Heap) (a b:Addr):Heap:=(yH4 h a b).push { cls:=.type "zip",data:=.fields #[.none,.bool false,.bool false,.ref (yH2 h a b).objs.size,.ref (yH3 h a b).objs.size] }
theorem oG (a b:Addr):
  Meets (Builtin.«zip.__new__» ⟨[.type "zip",.ref a,.ref b],[]⟩) (fun _ R s=>(∃ x,s.heap.IsTuple a x)/\(∃ x,s.heap.IsTuple b x) /\
   R (.ok (.ret (.ref (yH4 s.heap a b).objs.size))) { s with heap:=yH5 s.heap a b }):=
 .of_wp fun prog w A R s h=>by
  obtain ⟨hp,g,d,tk,os⟩:=s; obtain ⟨⟨x1,hl1⟩,⟨x2,hl2⟩,h⟩:=h;have hsub:=sub_zip;have hL1:Heap.IsTuple (Shared.heap ⟨hp,g,d,tk,os⟩) a x1:=hl1;have hL2:Heap.IsTuple (Shared.heap ⟨hp.push (tupIt0 a),g,d,tk,os⟩) b x2:=hl2.push _
  wp_walk using wpAny_pyIter_tuple hL1,wpAny_pyIter_tuple hL2
  exact ⟨_,rfl,h⟩
section
variable {prog:Program} {w:World} {A:Around} {E:Value->Shared->Prop} {s:Shared}
theorem vO {a b:Addr} {Q:Value->Shared->Prop} (hl1:∃ x,s.heap.IsTuple a x) (hl2:∃ x,s.heap.IsTuple b x)
  (h:∀ h',ZipTt (s.heap.objs.size+4) (s.heap.objs.size+2) (s.heap.objs.size+3) s.heap.objs.size (s.heap.objs.size+1) a b 0 h'->(∀ c o,s.heap.get? c=some o->h'.get? c=some o)->Q (.ref (s.heap.objs.size+4)) { s with heap:=h' }):
  wpAny (model prog w) A (call (.type "zip") [.ref a,.ref b]) Q E s:=by
 refine callType_new F.called_zip (by decide) (F.typeCall_zip_2 _ _) (F.newCall_zip_2 _ _) (fun obj=>F.args_object_init_3 obj _ _) F.entry_zip_new
  (oG a b) ⟨hl1,hl2,?_⟩
 have z1:(yH1 s.heap a).objs.size=s.heap.objs.size+1:=Heap.size_push ..;have z2:(yH2 s.heap a b).objs.size=s.heap.objs.size+2:=by rw [Heap.size_push,z1]
 have z3:(yH3 s.heap a b).objs.size=s.heap.objs.size+3:=by rw [Heap.size_push,z2]
 have z4:(yH4 s.heap a b).objs.size=s.heap.objs.size+4:=by rw [Heap.size_push,z3]
 have g5:(yH5 s.heap a b).get? (yH4 s.heap a b).objs.size=some _:=Heap.get?_push_size _ rfl;have g4:(yH5 s.heap a b).get? (yH3 s.heap a b).objs.size=some _:=Heap.get?_push_of_some _ (Heap.get?_push_size _ rfl);have g3:(yH5 s.heap a b).get? (yH2 s.heap a b).objs.size=some _:=Heap.get?_push_of_some _ (Heap.get?_push_of_some _ (Heap.get?_push_size _ rfl));have g2:(yH5 s.heap a b).get? (yH1 s.heap a).objs.size=some (tupIt0 b):=Heap.get?_push_of_some _ (Heap.get?_push_of_some _ (Heap.get?_push_of_some _ (Heap.get?_push_size _ rfl)));have g1:(yH5 s.heap a b).get? s.heap.objs.size=some (tupIt0 a):=Heap.get?_push_of_some _ (Heap.get?_push_of_some _ (Heap.get?_push_of_some _ (Heap.get?_push_of_some _ (Heap.get?_push_size _ rfl))));show _/\_;rw [z2,z3,z4] at g5;rw [z1,z2] at g3;rw [z3] at g4;rw [z1] at g2;rw [z4];exact ⟨⟨_,g5,rfl⟩,h _ ⟨_,_,g5,g3,g4,⟨_,g1,rfl,rfl⟩,⟨_,g2,rfl,rfl⟩⟩ fun c o x=>
  Heap.get?_push_of_some _ (Heap.get?_push_of_some _ (Heap.get?_push_of_some _ (Heap.get?_push_of_some _ (Heap.get?_push_of_some _ x))))⟩
end
section
variable {X:Cx}
noncomputable def cZipA (K:Frag) (ta tb:TE):TI:=fun σ H R=>ta σ H fun x H1=>tb σ H1 fun y H2=>(srcK K H2 x fun S1=>srcK K H2 y fun S2=>R (Itz K S1 S2) H2)\/∃ a b,x=.ref a/\y=.ref b/\(∃ xs,H2 a=some (.tup xs))/\(∃ xs,H2 b=some (.tup xs))/\R (ItzT a b) H2
theorem zm {a b:Expr} {ta tb:TE} {elts:List Expr} {kk:Nat} {tpos p pos:Pos} {K:Frag} (hK:X.K=K) (hg:Gl X "zip") (hm:X.mg "zip" = none) (ha:PE X a ta) (hb:PE X b tb) (hs:starEach [a,b] X.env=[(false,eval a X.env),(false,eval b X.env)]:=by rfl) (hs2:starEach [b] X.env=[(false,eval b X.env)]:=by rfl):
  PI X (.Tuple elts kk tpos) (.Call (.Name "zip" p) [a,b] [] pos) (cZipA K ta tb):=by
 subst hK;intro pins s σ H R I h;have hA:PA X [a,b] _:=aa ha.mono (aa hb.mono ac hs2) (by rw [hs,hs2]);refine Call_ (hZ I hg hm xN (PyProof.Rows.callWith_type1 (thn (hA pos pins s σ H (fun vs H2=>∃ x y,vs=[x,y]/\((srcK X.K H2 x fun S1=>srcK X.K H2 y fun S2=>R (Itz X.K S1 S2) H2)\/∃ a b,x=.ref a/\y=.ref b/\(∃ xs,H2 a=some (.tup xs))/\(∃ xs,H2 b=some (.tup xs))/\R (ItzT a b) H2)) I ⟨_,h,fun x H1 z=>⟨_,z,fun y H2 z=>⟨x,y,rfl,z⟩⟩⟩) fun us s1 ⟨vs,H1,I1,r1,q1⟩=>?_) (by rw [hs,hs2]) (by rw [hs2]; rfl)));obtain ⟨v1,v2,e,q⟩:=q1;subst e;cases r1 with
 | cons r rr=>
  cases rr with
  | cons r' rr=>
   cases rr;have fp:∀ c ∈ [s1.heap.objs.size+4,s1.heap.objs.size+2,s1.heap.objs.size+3,s1.heap.objs.size,s1.heap.objs.size+1],FpOk X pins H1 c:=fun c hc=>by
    have hc':s1.heap.objs.size<=c:=by
     simp only [List.mem_cons,List.not_mem_nil,or_false] at hc;rcases hc with rfl | rfl | rfl | rfl | rfl <;> omega
    exact I1.fpOk hc' (I1.hok.fresh hc')
   rcases q with q | ⟨a1,b1,rfl,rfl,⟨xs,e1⟩,⟨ys,e2⟩,q⟩
   ·obtain ⟨S1,o1,q⟩:=uJ q;obtain ⟨S2,o2,q⟩:=uJ q;obtain ⟨t1,rfl,k1⟩:=qD I1 o1 r;obtain ⟨t2,rfl,k2⟩:=qD I1 o2 r';refine wx k1 k2 fun h' st kp=>?_
    have st':=st;obtain ⟨_,_,hz,_⟩:=st';exact wpAny_pyIter_zip hz ⟨_,_,_,Itz X.K S1 S2,H1,rfl,I1.kept (t':=s1.toks) kp,xL (uX _) S1 S2,st,fp,q⟩
   ·cases r;cases r';obtain ⟨_,_,p1,_⟩:=I1.tuple (SqT.of e1);obtain ⟨_,_,p2,_⟩:=I1.tuple (SqT.of e2);refine vO ⟨_,p1⟩ ⟨_,p2⟩ fun h' st kp=>?_
    have st':=st;obtain ⟨_,_,hz,_⟩:=st';exact wpAny_pyIter_zip hz ⟨_,_,_,ItzT a1 b1,H1,rfl,I1.kept (t':=s1.toks) kp,vn (uX _) a1 b1,st,fp,q⟩
theorem yM {K:Frag} {ta tb:TE} {σ:St} {H:Hp} {R:It->Hp->Prop}:cZipA K ta tb σ H R=ta σ H fun x H1=>tb σ H1 fun y H2=>(srcK K H2 x fun S1=>srcK K H2 y fun S2=>R (Itz K S1 S2) H2)\/∃ a b,x=.ref a/\y=.ref b/\(∃ xs,H2 a=some (.tup xs))/\(∃ xs,H2 b=some (.tup xs))/\R (ItzT a b) H2:=rfl
end
theorem wG:bootBuiltins "all" = some (.builtin "all"):=by decide +kernel
section
variable {K:Frag} {J:It} {g:TG} {tc:TT} {te:TE} {σc:St} {D:Addr} {Q:VK} {H:Hp}
theorem qR {α:Type} (xs:List α) (R:α -> V->Hp->Prop) (hfree:H D=none) (hn:xs.length<=100000) (hgo:∀ i H1,i < xs.length->Same H H1->J.go i H1) (hst:∀ H1,Same H H1->J.stop xs.length H1)
  (hy:∀ i H1 v H2,i < xs.length->J.yld i H1 v H2->Same H1 H2)
  (mono:∀ x v H1 H2 acc,H1 D=some (.lst acc)->(∀ b o,b≠D->H1 b=some o->H2 b=some o)->R x v H1->R x v H2)
  (hs:∀ i x v H1 H2 (out:VK) (non:Hp->Prop),xs[i]? = some x->Same H H1->(∀ b,H1 b=none->b≠D)->J.yld i H1 v H2->(∀ v H6,Same H2 H6->R x v H6->out v H6) ->
   g v σc H2 fun σ4 H4=>tc σ4 H4 fun b H5=>if b=true then te σ4 H5 out else non H5)
  (hq:∀ H' vs,Same H H'->H' D=some (.lst vs)->Paired (fun x v=>R x v H') xs vs->Q (.ref D) H'):compW J g tc te σc D Q H:=by
 refine ⟨fun i m acc H2=>m=xs.length - i/\i<=xs.length/\Paired (fun x v=>R x v H2) (xs.take i) acc/\Same H H2/\H2 D=some (.lst acc),⟨xs.length,by simp,Nat.zero_le _,.nil,ai hfree _,ah⟩,?_⟩;rintro i m acc H2 ⟨rfl,hi,pr,sm,hD⟩;have len:acc.length<=i:=by
  have a:=pr.length;rw [List.length_take] at a;omega
 by_cases hlt:i < xs.length
 ·refine .inr ⟨hgo i H2 hlt sm,fun x H3 y=>?_⟩;have s3:=hy i H2 x H3 hlt y;have hD3:=s3 _ _ hD;refine hs i xs[i] x _ _ _ _ (List.getElem?_eq_getElem hlt) sm (fun b hb z=>by rw [z,hD] at hb; cases hb) y fun v H6 s6 r=>?_
  refine ⟨s6 _ _ hD3,Nat.lt_of_le_of_lt len (sizeBig (by omega)),xs.length - (i+1),by omega,rfl,hlt,?_,aS (sm.trans (s3.trans s6)) hfree,ah⟩;rw [List.take_add_one,List.getElem?_eq_getElem hlt];have lift:∀ {l:List α} {vs:List V} {z:α} {u:V} {F G:α -> V->Prop},(∀ a b,F a b->G a b)->Paired F l vs->G z u->Paired G (l++[z]) (vs++[u]):=by
   intro l vs z u F G f pp r
   induction pp with
   | nil=>exact .cons r .nil
   | cons r' _ ih=>exact .cons (f _ _ r') ih
  exact lift (fun _ _ r'=>mono _ _ H2 _ acc hD (fun b o nb q=>by rw [aC nb]; exact s6 _ _ (s3 _ _ q)) r') pr (mono _ _ H6 _ acc (s6 _ _ hD3) (fun b o nb q=>by rw [aC nb]; exact q) r)
 ·have hi':i=xs.length:=by omega
  subst hi';rw [List.take_length] at pr;exact .inl ⟨hst H2 sm,hq H2 acc sm hD pr⟩
end
section
variable {X:Cx} {o e:Expr} {to te:TE} {apos cpos:Pos}
noncomputable def cExtend (to te:TE):TE:=fun σ H Q=>to σ H fun x H1=>match x with
 | .ref l=>(∃ xs,H1 l=some (.lst xs))/\te σ H1 fun y H2=>match y with
  | .ref b=>∃ xs zs,H2 l=some (.lst xs)/\H2 b=some (.lst zs)/\xs.length+zs.length<=sizeLine/\Q .non (upd H2 l (.lst (xs++zs)))
  | _=>False
 | _=>False
theorem vY (ho:PE X o to) (he:PE X e te) (hbase:attributeBase o "extend" X.env (eval o X.env)=eval o X.env:=by rfl)
  (hfew:((backTo cpos (starEach [e] X.env)).all (fun x=>!x.1) && (backToKw cpos (keywordEach [] X.env)).all (fun x=>x.1.isSome) && decide ([e].length+([]:List Keyword).length+(if ([]:List Keyword).isEmpty then 0 else 1) < 30))=true:=by rfl)
  (hline:(apos.endLine == cpos.line)=true:=by rfl) (hs:starEach [e] X.env=(false,eval e X.env)::starEach [] X.env:=by rfl) (hplain:(backTo cpos (starEach [] X.env)).any (·.1)=false:=by rfl):
  PE X (.Call (.Attribute o "extend" apos) [e] [] cpos) (cExtend to te):=
 (sW PySem.F.plainAttrs_list PySem.F.slot_list_extend PySem.F.type_list_extend vI ho.mono (aa he.mono ac hs) hbase hfew hline hs hplain).imp fun σ H Q q=>⟨_,q,fun x H1 z=>by
  split at z
  ·rename_i l;obtain ⟨⟨xs,h⟩,z⟩:=z;refine ⟨.inl ⟨rfl,_,SqL.of h⟩,_,z,fun y H2 z2=>?_⟩;split at z2
   ·obtain ⟨xs2,zs,h2,h3,h4,z3⟩:=z2;exact ⟨l,_,xs2,zs,rfl,rfl,h2,h3,h4,z3⟩
   ·exact z2.elim
  ·exact z.elim⟩
theorem vH {σ:St} {H:Hp} {Q:VK}:cExtend to te σ H Q=to σ H fun x H1=>match x with
 | .ref l=>(∃ xs,H1 l=some (.lst xs))/\te σ H1 fun y H2=>match y with
  | .ref b=>∃ xs zs,H2 l=some (.lst xs)/\H2 b=some (.lst zs)/\xs.length+zs.length<=sizeLine/\Q .non (upd H2 l (.lst (xs++zs)))
  | _=>False
 | _=>False:=rfl
noncomputable def strOf:Value->Option Str
 | .str x _=>some x
 | _=>none
theorem xy {v:Value} {y:Str} (h:strOf v=some y):∃ t,v=.str y t:=by
 unfold strOf at h;split at h
 ·cases h; exact ⟨_,rfl⟩
 ·cases h
theorem qP:∀ {vs:List Value} {ys:List Str},vs.map strOf=ys.map some->Vals (ys.map V.str) vs
 | [],[],_=>.nil
 | v::vs,y::ys,h=>by
  rw [List.map_cons,List.map_cons,List.cons.injEq] at h;obtain ⟨t,rfl⟩:=xy h.1;exact .cons ⟨t,rfl⟩ (qP h.2)
 | [],_::_,h=>by cases h
 | _::_,[],h=>by cases h
noncomputable def txtsLook (K:Frag) (ys:List Str) (a:Addr):Bool:=match K.lookup a with
 | some o=>o.cls == .type "tuple" && (match o.data with | .seq its _=>decide (its.toList.map strOf=ys.map some) && decide (ys.length<=100) | _=>false)
 | none=>false
theorem zX {K:Frag} {ys:List Str} {a:Addr} (h:txtsLook K ys a=true) (H:Hp):SqT K H a (ys.map V.str):=by
 unfold txtsLook at h;split at h
 ·rename_i o ho;simp only [Bool.and_eq_true,beq_iff_eq] at h;obtain ⟨h1,h2⟩:=h;split at h2
  ·rename_i its n hd;simp only [Bool.and_eq_true,decide_eq_true_eq] at h2;have hv:=qP h2.1;refine .inr ⟨o,its,n,ho,h1,hd,?_,hv⟩;have:=hv.length;rw [List.length_map] at this;rw [<- Array.length_toList,<- this];exact Nat.le_trans h2.2 (by decide)
  ·cases h2
 ·cases h
def TupK (K:Frag) (mg:Str->Option Value) (x:Str) (ys:List Str):Prop:=∃ a,mg x=some (.ref a)/\txtsLook K ys a=true
noncomputable def cTupG (K:Frag) (ys:List Str):TE:=fun _ H Q=>∀ a,SqT K H a (ys.map V.str)->Q (.ref a) H
theorem zU {K:Frag} {ys:List Str} {x:Str} {p:Pos} (T:TupK K X.mg x ys) (hg:Gl X x) (hd:(x == ("__debug__" : Str))=false:=by decide):PE X (.Name x p) (cTupG K ys):=by
 intro pins s σ H Q I h;obtain ⟨a,hm,ht⟩:=T;exact jP I hg hm ⟨.ref a,H,I,rfl,h a (zX ht H)⟩ hd
theorem zO {K:Frag} {ys:List Str} {σ:St} {H:Hp} {Q:VK}:cTupG K ys σ H Q=∀ a,SqT K H a (ys.map V.str)->Q (.ref a) H:=rfl
end
section
variable {X:Cx}
noncomputable def kNotInT (K:Frag):R2:=fun x y H Q=>match x,y with
 | .ref r,.ref p=>∃ zs xs,SqL K H p xs/\H r=some (.tup zs)/\zs.all flatV=true/\(∀ y ∈ xs,FlatT H y)/\Q (.bl (!xs.any (tupEq H zs))) H
 | _,_=>False
theorem vF (K:Frag) (hK:X.K=K) {k:Nat} (hr:Room k X.A):OpR X (compareOp .NotIn) (kNotInT K):=by
 subst hK;intro pins s σ H x y v u Q I rx ry q;unfold kNotInT at q;split at q
 ·rename_i r p;obtain ⟨zs,xs,hq,hz,fz,fs,q⟩:=q;cases rx;cases ry;obtain ⟨its,rv,pl,_⟩:=I.list hq;refine SeqAt.notIn_listAt (tupEqU H zs) pl.isList (fun w hw=>?_) ⟨.bl _,H,I,rfl,?_⟩
  ·have hw:w ∈ its:=by simpa using hw
   obtain ⟨y,hy,ry⟩:=dC rv w hw;obtain ⟨t,ys,rfl,ht,fy⟩:=fs y hy;cases ry;have:=jd I 1 X.A.in1 (.ref t) (.ref r) (.t (ys.map D.f)) (.t (zs.map D.f)) (.ref t) (.ref r) (by have:=hr.un; show X.A.units+1+1 < _; omega) (.inr (.inr ⟨t,ys,_,rfl,rfl,SqT.of ht,fM fy⟩)) (.inr (.inr ⟨r,zs,_,rfl,rfl,SqT.of hz,fM fz⟩)) rfl rfl;have e:tupEqU H zs (.ref t)=eqD (.t (ys.map D.f)) (.t (zs.map D.f)):=by
    show tupEq H zs (.ref t)=_;unfold tupEq;simp only [ht];rw [eqD]
   rw [e];exact this
  ·rw [show its.toArray.any (tupEqU H zs)=its.any (tupEqU H zs) by simp,lC rv fs];exact q
 ·exact q.elim
theorem wt {K:Frag} {r p:Addr} {H:Hp} {Q:VK}:kNotInT K (.ref r) (.ref p) H Q=∃ zs xs,SqL K H p xs/\H r=some (.tup zs)/\zs.all flatV=true/\(∀ y ∈ xs,FlatT H y)/\Q (.bl (!xs.any (tupEq H zs))) H:=rfl
end
section
variable {X:Cx} {e:Expr} {te:TE} {pos:Pos}
noncomputable def cFmtO (tv:TE):TE:=fun σ H Q=>tv σ H fun x H1=>match x with
 | .non=>∀ z:Str,z.length<=200000->Q (.str z) H1
 | .bl _=>∀ z:Str,z.length<=200000->Q (.str z) H1
 | .int i=>(i=0\/i=5\/i=7)/\∀ z:Str,z.length<=200000->Q (.str z) H1
 | .str y=>(∀ c ∈ y.cps.toList,c < 16 ^ 8)/\y.length<=10000/\∀ z:Str,z.length<=200000->Q (.str z) H1
 | .ref p=>∃ ls,Few ls/\(H1 p=some (.lst (ls.map fun l=>V.str (st l)))\/H1 p=some (.tup (ls.map fun l=>V.str (st l))))/\∀ z:Str,z.length<=200000->Q (.str z) H1
 | _=>False
theorem me (hgd:X.A.guards=some []) (hu:X.A.units < cLine) (hv:PE X e te):PE X (.FormattedValue e 114 none pos) (cFmtO te):=by
 intro pins s σ H Q I q;refine wpAny_FormattedValue_repr (thn (hv pins s σ H _ I q) fun u s1 ⟨x,H1,I1,r,z⟩=>?_);dsimp only at z;have fin:∀ (y:Str) (h':Heap) (tk:Nat),0 < tk->(∀ b o,s1.heap.get? b=some o->h'.get? b=some o)->y.length<=200000->(∀ z:Str,z.length<=200000->Q (.str z) H1)->∀ u,wpAny (model X.prog X.w) X.A (formatField (.str y u) Str.empty) (EP X pins σ Q) X.xe { s1 with heap:=h',toks:=tk }:=
  fun y h' tk htk kp hy z u=>tokQ htk (formatField_str (fun t' tk' (htk':0 < tk')=>⟨.str y,H1,I1.kept kp,⟨_,rfl⟩,z y hy⟩) (Nat.le_trans hy (by decide)))
 have same:∀ b o,s1.heap.get? b=some o->s1.heap.get? b=some o:=fun _ _ e=>e
 split at z
 ·cases r;exact pyReprObj_none (fin _ s1.heap _ (Nat.succ_pos _) same (by decide) z _)
 ·rename_i b;cases r;exact pyReprObj_bool (fin _ s1.heap _ (Nat.succ_pos _) same (by cases b <;> decide) z _)
 ·rename_i i;obtain ⟨t,rfl⟩:=r;obtain ⟨hi,z⟩:=z;rcases hi with rfl | rfl | rfl
  all_goals exact pyReprObj_int (by decide) (fin _ s1.heap _ (Nat.succ_pos _) same (by decide) z _)
 ·rename_i y;obtain ⟨t,rfl⟩:=r;obtain ⟨h1,h2,z⟩:=z;have hl:=PySem.StrLaws.reprText_len y h1;exact wpAny_pyReprObj_str (fin _ s1.heap _ (Nat.succ_pos _) same (by omega) z _) (Nat.le_trans (by omega:(reprText y).length<=200000) (by decide))
 ·rename_i p;cases r;obtain ⟨ls,hf,hp,z⟩:=z;have hb:=xT hf;have hmul:(1002+2)*(ls.map fun l=>reprText (st l)).length+3<=200000:=by
   rw [List.length_map];have:=hf.1;omega
  rcases hp with hp | hp
  ·obtain ⟨_,its,n,rv,ho⟩:=I1.hok p _ hp;obtain ⟨_,hlen,hat⟩:=oV rv;have hsz:(listText (ls.map fun l=>reprText (st l))).length<=200000:=by have:=sR hb; omega
   cases its with
   | nil=>
    have e:ls=[]:=by cases ls with | nil=>rfl | cons _ _=>simp at hlen
    exact wpAny_pyReprObj_list_empty (s:=s1) ⟨_,ho,rfl⟩ hu ho rfl (fin _ s1.heap _ (Nat.succ_pos _) same (by decide) z _)
   | cons v vs=>
    refine tokQ I1.tk (wpAny_pyReprObj_list (s:=s1) (ts:=ls.map fun l=>reprText (st l)) ⟨_,ho,rfl⟩ hgd (fun _ _ _ hm=>by cases hm) hu ho rfl (by simp only [List.length_map,List.size_toArray]; exact hlen.symm) (fun i y hy=>?_) (fun h' u tk kp (htk:0 < tk)=>fin _ h' tk htk kp hsz z u) (Nat.le_trans hsz (by decide)));rw [List.getElem?_toArray] at hy;obtain ⟨l,t,hl,rfl⟩:=hat i y hy;have hlb:=hb _ (List.mem_map.mpr ⟨l,List.mem_of_getElem? hl,rfl⟩);exact ⟨reprText (st l),by rw [List.getElem?_map,hl]; rfl,ReprIs.str (st l) t (Nat.le_trans hlb (by decide))⟩
  ·obtain ⟨_,its,rv,o,ho,hoc,n,hod⟩:=I1.hok p _ hp;obtain ⟨_,hlen,hat⟩:=oV rv;have hsz:(tupleText (ls.map fun l=>reprText (st l))).length<=200000:=by have:=qW hb; omega
   have all:∀ (ls:List (List Nat)) (us:List Value),us.length=ls.length->(∀ (i:Nat) u,us[i]? = some u->∃ l t,ls[i]? = some l/\u=Value.str (st l) t)->(∀ l ∈ ls,(reprText (st l)).length<=1002)->ReprAll X.prog X.w us (ls.map fun l=>reprText (st l)):=by
    intro ls
    induction ls with
    | nil=>intro us h1 _ _; cases us with | nil=>exact .nil | cons _ _=>simp at h1
    | cons l ls ih=>
     intro us h1 h2 h3;cases us with
     | nil=>simp at h1
     | cons u us=>
      obtain ⟨l',t,e1,rfl⟩:=h2 0 u rfl;cases e1;exact .cons (ReprIs.str (st l) t (Nat.le_trans (h3 l List.mem_cons_self) (by decide))) (ih us (by simpa using h1) (fun i u hu=>h2 (i+1) u (by simpa using hu)) fun x hx=>h3 x (List.mem_cons_of_mem _ hx))
   refine tokQ I1.tk (wpAny_pyReprObj_tuple (s:=s1) (ts:=ls.map fun l=>reprText (st l)) ⟨_,ho,hoc⟩ hgd (fun _ hm=>by cases hm) hu ho hod (all ls its hlen hat fun l hl=>hb _ (List.mem_map.mpr ⟨l,hl,rfl⟩)) (fun u tk (htk:0 < tk)=>fin _ s1.heap tk htk same hsz z u) (Nat.le_trans hsz (by decide)))
 ·exact z.elim
theorem yF {te:TE} {σ:St} {H:Hp} {Q:VK}:cFmtO te σ H Q=te σ H fun x H1=>match x with
 | .non=>∀ z:Str,z.length<=200000->Q (.str z) H1
 | .bl _=>∀ z:Str,z.length<=200000->Q (.str z) H1
 | .int i=>(i=0\/i=5\/i=7)/\∀ z:Str,z.length<=200000->Q (.str z) H1
 | .str y=>(∀ c ∈ y.cps.toList,c < 16 ^ 8)/\y.length<=10000/\∀ z:Str,z.length<=200000->Q (.str z) H1
 | .ref p=>∃ ls,Few ls/\(H1 p=some (.lst (ls.map fun l=>V.str (st l)))\/H1 p=some (.tup (ls.map fun l=>V.str (st l))))/\∀ z:Str,z.length<=200000->Q (.str z) H1
 | _=>False:=rfl
noncomputable def kNotInO (K:Frag):R2:=fun x y H Q=>match y with
 | .ref p=>∃ d xs,(SqL K H p xs\/SqT K H p xs)/\Deep K H 1 x d/\xs.all flatV=true/\Q (.bl (!xs.any fun z=>eqD (.f z) d)) H
 | _=>False
noncomputable def eqO (d:D) (w:Value):Bool:=match absV w with
 | some z=>eqD (.f z) d
 | none=>false
theorem qN (K:Frag) (hK:X.K=K) {k:Nat} (hr:Room k X.A):OpR X (compareOp .NotIn) (kNotInO K):=by
 subst hK;intro pins s σ H x y v u Q I rx ry q;unfold kNotInO at q;split at q
 ·rename_i p;obtain ⟨d,xs,hq,hd,hf,q⟩:=q;cases ry;have key:∀ its:List Value,Vals xs its->(∀ w ∈ its,SeqAt.EqAt X.A.in1 s w v (eqO d w))/\its.any (eqO d)=xs.any fun z=>eqD (.f z) d:=by
   intro its rv;clear q hq
   induction rv with
   | nil=>exact ⟨fun w hw=>(by cases hw),rfl⟩
   | cons r p ih=>
    rename_i y w ys ws;rw [List.all_cons,Bool.and_eq_true] at hf;have e:eqO d w=eqD (.f y) d:=by unfold eqO; rw [r.abs]
    have:=jd I 1 X.A.in1 y x (.f y) d w v (by have:=hr.un; show X.A.units+1+1 < _; omega) (.inl ⟨rfl,hf.1⟩) hd r rx;refine ⟨fun w' hw=>?_,by rw [List.any_cons,List.any_cons,(ih hf.2).2,e]⟩;rcases List.mem_cons.mp hw with rfl | hw
    ·rw [e]; exact this
    ·exact (ih hf.2).1 w' hw
  rcases hq with hq | hq
  ·obtain ⟨its,rv,pl,_⟩:=I.list hq;obtain ⟨h1,h2⟩:=key its rv;refine SeqAt.notIn_listAt (eqO d) pl.isList (fun w hw=>h1 w (by simpa using hw)) ⟨.bl _,H,I,rfl,?_⟩;rw [show its.toArray.any (eqO d)=its.any (eqO d) by simp,h2];exact q
  ·obtain ⟨its,rv,pl,_⟩:=I.tuple hq;obtain ⟨h1,h2⟩:=key its rv;refine SeqAt.notIn_tupleAt (eqO d) pl (fun w hw=>h1 w (by simpa using hw)) ⟨.bl _,H,I,rfl,?_⟩;rw [show its.toArray.any (eqO d)=its.any (eqO d) by simp,h2];exact q
 ·exact q.elim
theorem wj {K:Frag} {x:V} {p:Addr} {H:Hp} {Q:VK}:kNotInO K x (.ref p) H Q=∃ d xs,(SqL K H p xs\/SqT K H p xs)/\Deep K H 1 x d/\xs.all flatV=true/\Q (.bl (!xs.any fun z=>eqD (.f z) d)) H:=rfl
noncomputable def kMulO:R2:=fun x y H Q=>match x,y with
 | .str a,.int n=>∃ c,a.cps.toList=[c] /\ -1000000000000<=n/\n<=10000/\Q (.str (st (List.replicate n.toNat c))) H
 | _,_=>False
theorem wu (k:Nat) (n:Int) (h0:n < 0) (hn:-1000000000000<=n):MulOk ⟨#[k]⟩ n:=by
 refine ⟨?_,fun z _=>absurd (show n < 1 by omega) z,fun z _=>absurd (show n < 1 by omega) z⟩;rw [decide_eq_false (by omega),decide_eq_false (by omega)];rfl
theorem uF:OpR X (binaryOp .Mult) kMulO:=by
 intro pins s σ H x y v u Q I rx ry q;unfold kMulO at q;split at q
 ·rename_i a n;obtain ⟨c,e,h0,h1,q⟩:=q;by_cases hn:0<=n
  ·exact d4 pins s σ H _ _ v u Q I rx ry (show kMul (.str a) (.int n) H Q from ⟨c,e,hn,h1,q⟩)
  ·have ea:a=⟨#[c]⟩:=by rw [<- cC a,e]
   subst ea;refine py pins s σ H _ _ v u Q I rx ry ⟨_,_,rfl,rfl,wu c n (by omega) h0,?_⟩;have e0:n.toNat=0:=by omega
   rw [e0] at q;have e1:Txt.mul ⟨#[c]⟩ n=st (List.replicate 0 c):=by
    unfold Txt.mul;rw [if_pos (by omega)];rfl
   rw [e1];exact q
 ·exact q.elim
theorem zk {c:Nat} {n:Int} {H:Hp} {Q:VK}:kMulO (.str (st [c])) (.int n) H Q=(-1000000000000<=n/\n<=10000/\Q (.str (st (List.replicate n.toNat c))) H):=by
 show (∃ d,[c]=[d] /\ -1000000000000<=n/\n<=10000/\Q (.str (st (List.replicate n.toNat d))) H)=_;refine propext ⟨?_,fun h=>⟨c,rfl,h⟩⟩;rintro ⟨d,e,h⟩;cases e;exact h
theorem seC {c:Const} {j:Nat} {p:Pos} {es:List Expr} {env:Env}:starEach (.Constant c j p::es) env=(false,eval (.Constant c j p) env)::starEach es env:=rfl
theorem seL {xs:List Expr} {p:Pos} {es:List Expr} {env:Env}:starEach (.List xs p::es) env=(false,eval (.List xs p) env)::starEach es env:=rfl
theorem seT {xs:List Expr} {j:Nat} {p:Pos} {es:List Expr} {env:Env}:starEach (.Tuple xs j p::es) env=(false,eval (.Tuple xs j p) env)::starEach es env:=rfl
theorem seB {a b:Expr} {o:Operator} {p:Pos} {es:List Expr} {env:Env}:starEach (.BinOp a o b p::es) env=(false,eval (.BinOp a o b p) env)::starEach es env:=rfl
theorem seS {a b:Expr} {p:Pos} {es:List Expr} {env:Env}:starEach (.Subscript a b p::es) env=(false,eval (.Subscript a b p) env)::starEach es env:=rfl
theorem seN {x:Str} {p:Pos} {es:List Expr} {env:Env}:starEach (.Name x p::es) env=(false,eval (.Name x p) env)::starEach es env:=rfl
theorem swL {xs:List Expr} {p p':Pos} {x:Str} {n:Nat} {env:Env}:swapsWith (.List xs p) (some (.Name x p')) n env=pure false:=rfl
end
end L2
set_option maxHeartbeats 4000000
namespace L2
open PySem PySem.Spec PyProof.Rows
theorem lc {c:Scope} {x:Str} (h:Loc c x:=by first | exact Or.inl rfl | exact Or.inr rfl):Loc c x:=h
theorem Room.m {j k:Nat} {A:Around} (r:Room k A) (h:j<=k:=by first | decide | omega):Room j A:=r.mono h
end L2
namespace Law
open PySem L2 Mir
noncomputable def top (i:Nat):Stmt:=PySem.Challenge.pw_throng_k36_nets_refused.main.body.getD i (.Pass ⟨0,0,0,0⟩)
noncomputable abbrev oT:Stmt:=top 13
theorem wo:FnScope ["thing", "width"] ["thing", "width"] (defScope oT):=⟨rfl,rfl,rfl,by decide +kernel,rfl,by decide +kernel,by decide +kernel⟩
noncomputable abbrev j5:Stmt:=top 14
theorem rC:FnScope ["thing", "width"] ["thing", "width"] (defScope j5):=⟨rfl,rfl,rfl,by decide +kernel,rfl,by decide +kernel,by decide +kernel⟩
noncomputable abbrev jE:Stmt:=top 15
theorem kZ:FnScope ["thing", "width", "signs", "sign"] ["thing", "width", "signs"] (defScope jE):=⟨rfl,rfl,rfl,by decide +kernel,rfl,by decide +kernel,by decide +kernel⟩
noncomputable abbrev fk:Stmt:=top 17
theorem nS:FnScope ["layout"] ["layout"] (defScope fk):=⟨rfl,rfl,rfl,by decide +kernel,rfl,by decide +kernel,by decide +kernel⟩
noncomputable abbrev jK:Stmt:=top 18
theorem eO:FnScope ["layout", "name", "first", "field", "size"] ["layout", "name"] (defScope jK):=⟨rfl,rfl,rfl,by decide +kernel,rfl,by decide +kernel,by decide +kernel⟩
noncomputable abbrev gY:Stmt:=top 20
theorem nP:FnScope ["thing", "longest"] ["thing", "longest"] (defScope gY):=⟨rfl,rfl,rfl,by decide +kernel,rfl,by decide +kernel,by decide +kernel⟩
noncomputable abbrev jx:Stmt:=top 22
theorem iM:FnScope ["house", "door", "gate", "rules"] ["house", "door"] (defScope jx):=⟨rfl,rfl,rfl,by decide +kernel,rfl,by decide +kernel,by decide +kernel⟩
noncomputable abbrev iN:Stmt:=top 25
theorem ph:FnScope ["net"] ["net"] (defScope iN):=⟨rfl,rfl,rfl,by decide +kernel,rfl,by decide +kernel,by decide +kernel⟩
noncomputable abbrev kw:Stmt:=top 26
theorem rK:FnScope ["thing", "earlier"] ["thing", "earlier"] (defScope kw):=⟨rfl,rfl,rfl,by decide +kernel,rfl,by decide +kernel,by decide +kernel⟩
noncomputable abbrev hG:Stmt:=top 27
theorem eR:FnScope ["layout", "names", "name", "size"] ["layout"] (defScope hG):=⟨rfl,rfl,rfl,by decide +kernel,rfl,by decide +kernel,by decide +kernel⟩
noncomputable abbrev gX:Stmt:=top 28
theorem eS:FnScope ["layout", "houses", "names", "name", "house"] ["layout", "houses"] (defScope gX):=⟨rfl,rfl,rfl,by decide +kernel,rfl,by decide +kernel,by decide +kernel⟩
noncomputable abbrev i0:Stmt:=top 29
theorem cD:FnScope ["layout", "house", "doors", "door", "rules", "row", "word", "over"] ["layout", "house"] (defScope i0):=⟨rfl,rfl,rfl,by decide +kernel,rfl,by decide +kernel,by decide +kernel⟩
noncomputable abbrev jB:Stmt:=top 30
theorem kX:FnScope ["layout", "row", "word", "over", "width"] ["layout", "row", "word", "over"] (defScope jB):=⟨rfl,rfl,rfl,by decide +kernel,rfl,by decide +kernel,by decide +kernel⟩
noncomputable abbrev jD:Stmt:=top 31
theorem fV:FnScope ["layout", "house", "beginnings", "beginning", "door"] ["layout", "house"] (defScope jD):=⟨rfl,rfl,rfl,by decide +kernel,rfl,by decide +kernel,by decide +kernel⟩
noncomputable abbrev j9:Stmt:=top 32
theorem lN:FnScope ["layout", "house", "beginning", "door", "beginnings", "span"] ["layout", "house", "beginning", "door", "beginnings"] (defScope j9):=⟨rfl,rfl,rfl,by decide +kernel,rfl,by decide +kernel,by decide +kernel⟩
noncomputable abbrev iU:Stmt:=top 33
theorem fv:FnScope ["net", "tied", "line", "spot"] ["net"] (defScope iU):=⟨rfl,rfl,rfl,by decide +kernel,rfl,by decide +kernel,by decide +kernel⟩
noncomputable abbrev jG:Stmt:=top 34
theorem qm:FnScope ["net", "house", "door"] ["net", "house", "door"] (defScope jG):=⟨rfl,rfl,rfl,by decide +kernel,rfl,by decide +kernel,by decide +kernel⟩
noncomputable abbrev iC:Stmt:=top 35
theorem hX:FnScope ["net", "name", "its", "house"] ["net", "name"] (defScope iC):=⟨rfl,rfl,rfl,by decide +kernel,rfl,by decide +kernel,by decide +kernel⟩
noncomputable abbrev j7:Stmt:=top 37
theorem gK:FnScope ["_law_script", "_law_k", "_law_many", "_law_cell", "_law_mixed"] ["_law_script", "_law_k", "_law_many"] (defScope j7):=⟨rfl,rfl,rfl,by decide +kernel,rfl,by decide +kernel,by decide +kernel⟩
noncomputable abbrev fw:Stmt:=top 38
theorem bY:FnScope ["_law_script", "_law_k", "_law_many", "_law_letters", "_law_start", "_law_body", "_law_j", "_law_at", "_law_step"] ["_law_script", "_law_k", "_law_many"] (defScope fw):=⟨rfl,rfl,rfl,by decide +kernel,rfl,by decide +kernel,by decide +kernel⟩
noncomputable abbrev fX:Stmt:=top 39
theorem bq:FnScope ["_law_script", "_law_size", "_law_ahead", "_law_behind", "_law_names_here", "_law_layout_here"] ["_law_script"] (defScope fX):=⟨rfl,rfl,rfl,by decide +kernel,rfl,by decide +kernel,by decide +kernel⟩
noncomputable abbrev gH:Stmt:=top 40
theorem pT:FnScope ["_law_layout_here"] ["_law_layout_here"] (defScope gH):=⟨rfl,rfl,rfl,by decide +kernel,rfl,by decide +kernel,by decide +kernel⟩
noncomputable abbrev kc:Stmt:=top 41
theorem bD:FnScope ["_law_layout_here", "_law_first", "_law_name", "_law_size"] ["_law_layout_here"] (defScope kc):=⟨rfl,rfl,rfl,by decide +kernel,rfl,by decide +kernel,by decide +kernel⟩
noncomputable abbrev kx:Stmt:=top 42
theorem d9:FnScope ["_law_script", "_law_layout_here", "_law_width_here", "_law_first", "_law_behind", "_law_places", "_law_k"] ["_law_script", "_law_layout_here"] (defScope kx):=⟨rfl,rfl,rfl,by decide +kernel,rfl,by decide +kernel,by decide +kernel⟩
noncomputable abbrev jQ:Stmt:=top 43
theorem fU:FnScope ["_law_number", "_law_places", "_law_width_here", "_law_menu", "_law_signs_here", "_law_place"] ["_law_number", "_law_places", "_law_width_here", "_law_menu"] (defScope jQ):=⟨rfl,rfl,rfl,by decide +kernel,rfl,by decide +kernel,by decide +kernel⟩
noncomputable abbrev kt:Stmt:=top 44
theorem gL:FnScope ["_law_script", "_law_k", "_law_told_here", "_law_over_at", "_law_width_here", "_law_row", "_law_number", "_law_over"] ["_law_script", "_law_k", "_law_told_here", "_law_over_at", "_law_width_here"] (defScope kt):=⟨rfl,rfl,rfl,by decide +kernel,rfl,by decide +kernel,by decide +kernel⟩
noncomputable abbrev iz:Stmt:=top 45
theorem bE:FnScope ["_law_script", "_law_k", "_law_doors", "_law_size", "_law_ways_here", "_law_j", "_law_number", "_law_beginning", "_law_door"] ["_law_script", "_law_k", "_law_doors", "_law_size"] (defScope iz):=⟨rfl,rfl,rfl,by decide +kernel,rfl,by decide +kernel,by decide +kernel⟩
noncomputable abbrev fE:Stmt:=top 46
theorem bf:FnScope ["_law_script", "_law_k", "_law_told_here", "_law_layout_here", "_law_pool", "_law_width_here", "_law_first", "_law_behind", "_law_turn", "_law_count", "_law_doors", "_law_gates", "_law_g", "_law_many", "_law_rules"] ["_law_script", "_law_k", "_law_told_here", "_law_layout_here", "_law_pool"] (defScope fE):=⟨rfl,rfl,rfl,by decide +kernel,rfl,by decide +kernel,by decide +kernel⟩
noncomputable abbrev gG:Stmt:=top 47
theorem fY:FnScope ["_law_houses", "_law_spots_here", "_law_name", "_law_house_here"] ["_law_houses"] (defScope gG):=⟨rfl,rfl,rfl,by decide +kernel,rfl,by decide +kernel,by decide +kernel⟩
noncomputable abbrev jz:Stmt:=top 48
theorem dL:FnScope ["_law_script", "_law_spots_here", "_law_pool", "_law_most", "_law_lines_here", "_law_j", "_law_one"] ["_law_script", "_law_spots_here"] (defScope jz):=⟨rfl,rfl,rfl,by decide +kernel,rfl,by decide +kernel,by decide +kernel⟩
noncomputable abbrev jJ:Stmt:=top 49
theorem eZ:FnScope ["_law_script", "_law_told_here", "_law_most", "_law_layout_here", "_law_pool", "_law_many", "_law_names_here", "_law_houses"] ["_law_script", "_law_told_here", "_law_most"] (defScope jJ):=⟨rfl,rfl,rfl,by decide +kernel,rfl,by decide +kernel,by decide +kernel⟩
noncomputable abbrev iw:Stmt:=top 50
theorem ml:FnScope ["_law_found", "_law_due"] ["_law_found", "_law_due"] (defScope iw):=⟨rfl,rfl,rfl,by decide +kernel,rfl,by decide +kernel,by decide +kernel⟩
noncomputable abbrev fZ:Stmt:=top 51
theorem lQ:FnScope ["_law_thing"] ["_law_thing"] (defScope fZ):=⟨rfl,rfl,rfl,by decide +kernel,rfl,by decide +kernel,by decide +kernel⟩
noncomputable abbrev jn:Stmt:=top 52
theorem i7:FnScope ["_law_e", "_law_marks_here"] ["_law_e"] (defScope jn):=⟨rfl,rfl,rfl,by decide +kernel,rfl,by decide +kernel,by decide +kernel⟩
noncomputable abbrev d0:Stmt:=top 53
theorem ir:FnScope ["_law_name", "_law_some"] ["_law_name"] (defScope d0):=⟨rfl,rfl,rfl,by decide +kernel,rfl,by decide +kernel,by decide +kernel⟩
noncomputable abbrev fW:Stmt:=top 54
theorem oU:FnScope ["_law_thing", "_law_width_here"] ["_law_thing", "_law_width_here"] (defScope fW):=⟨rfl,rfl,rfl,by decide +kernel,rfl,by decide +kernel,by decide +kernel⟩
noncomputable abbrev dg:Stmt:=top 55
theorem eU:FnScope ["_law_script", "_law_k", "_law_row", "_law_at", "_law_sign", "_law_some"] ["_law_script", "_law_k", "_law_row"] (defScope dg):=⟨rfl,rfl,rfl,by decide +kernel,rfl,by decide +kernel,by decide +kernel⟩
noncomputable abbrev gC:Stmt:=top 56
theorem jc:FnScope ["_law_script", "_law_k", "_law_some"] ["_law_script", "_law_k"] (defScope gC):=⟨rfl,rfl,rfl,by decide +kernel,rfl,by decide +kernel,by decide +kernel⟩
noncomputable abbrev dY:Stmt:=top 57
theorem fL:FnScope ["_law_script", "_law_k", "_law_size", "_law_some"] ["_law_script", "_law_k", "_law_size"] (defScope dY):=⟨rfl,rfl,rfl,by decide +kernel,rfl,by decide +kernel,by decide +kernel⟩
noncomputable abbrev eI:Stmt:=top 58
theorem bH:FnScope ["_law_script", "_law_k", "_law_layout_here", "_law_way", "_law_at", "_law_name", "_law_size"] ["_law_script", "_law_k", "_law_layout_here", "_law_way"] (defScope eI):=⟨rfl,rfl,rfl,by decide +kernel,rfl,by decide +kernel,by decide +kernel⟩
noncomputable abbrev eY:Stmt:=top 59
theorem aG:FnScope ["_law_script", "_law_k", "_law_gates", "_law_way", "_law_door", "_law_rules", "_law_at", "_law_row", "_law_word", "_law_over", "_law_bits"] ["_law_script", "_law_k", "_law_gates", "_law_way"] (defScope eY):=⟨rfl,rfl,rfl,by decide +kernel,rfl,by decide +kernel,by decide +kernel⟩
noncomputable abbrev c7:Stmt:=top 60
theorem cz:FnScope ["_law_script", "_law_k", "_law_house_here", "_law_way", "_law_pool", "_law_size", "_law_ways_here", "_law_doors", "_law_none", "_law_at"] ["_law_script", "_law_k", "_law_house_here", "_law_way", "_law_pool", "_law_size"] (defScope c7):=⟨rfl,rfl,rfl,by decide +kernel,rfl,by decide +kernel,by decide +kernel⟩
noncomputable abbrev cA:Stmt:=top 61
theorem aK:FnScope ["_law_script", "_law_k", "_law_net_here", "_law_way", "_law_pool", "_law_spots_here", "_law_own", "_law_bad", "_law_doors", "_law_none", "_law_other", "_law_line"] ["_law_script", "_law_k", "_law_net_here", "_law_way", "_law_pool"] (defScope cA):=⟨rfl,rfl,rfl,by decide +kernel,rfl,by decide +kernel,by decide +kernel⟩
noncomputable abbrev jy:Stmt:=top 62
theorem da:FnScope ["_law_script", "_law_k", "_law_net_here", "_law_pool", "_law_way", "_law_houses", "_law_house_here", "_law_name", "_law_first", "_law_behind"] ["_law_script", "_law_k", "_law_net_here", "_law_pool"] (defScope jy):=⟨rfl,rfl,rfl,by decide +kernel,rfl,by decide +kernel,by decide +kernel⟩
noncomputable abbrev bT:Stmt:=top 63
theorem gc:FnScope ["_law_layout_here", "_law_at"] ["_law_layout_here"] (defScope bT):=⟨rfl,rfl,rfl,by decide +kernel,rfl,by decide +kernel,by decide +kernel⟩
noncomputable abbrev cB:Stmt:=top 64
theorem aJ:FnScope ["_law_house_here", "_law_width_here", "_law_size", "_law_doors", "_law_door", "_law_rules", "_law_row", "_law_word", "_law_over", "_law_at", "_law_beginning"] ["_law_house_here", "_law_width_here", "_law_size"] (defScope cB):=⟨rfl,rfl,rfl,by decide +kernel,rfl,by decide +kernel,by decide +kernel⟩
noncomputable abbrev dQ:Stmt:=top 65
theorem dF:FnScope ["_law_lines_here", "_law_houses", "_law_ahead", "_law_line", "_law_spot"] ["_law_lines_here", "_law_houses"] (defScope dQ):=⟨rfl,rfl,rfl,by decide +kernel,rfl,by decide +kernel,by decide +kernel⟩
noncomputable abbrev gI:Stmt:=top 66
theorem bB:FnScope ["_law_net_here", "_law_layout_here", "_law_houses", "_law_lines_here", "_law_fault_here", "_law_first", "_law_behind", "_law_at"] ["_law_net_here"] (defScope gI):=⟨rfl,rfl,rfl,by decide +kernel,rfl,by decide +kernel,by decide +kernel⟩
noncomputable abbrev ou:Stmt:=top 67
theorem fP:FnScope ["_law_script", "_law_told_here", "_law_net_here", "_law_good", "_law_pool", "_law_j", "_law_fault_here", "_law_handed", "_law_found", "_law_marks_here", "_law_e"] ["_law_script"] (defScope ou):=⟨rfl,rfl,rfl,by decide +kernel,rfl,by decide +kernel,by decide +kernel⟩
structure Top (K:Frag) (mg:Str->Option Value):Prop where
 tF:Fn K mg "is_row" oT
 nI:Fn K mg "is_letter" j5
 mC:Fn K mg "is_text_of" jE
 kE:Fn K mg "layout_width" fk
 mD:Fn K mg "field_span" jK
 kz:Fn K mg "is_beginning" gY
 mB:Fn K mg "gate_rules" jx
 ln:Fn K mg "net_checked" iN
 nK:Fn K mg "check_new" kw
 kA:Fn K mg "check_layout" hG
 kD:Fn K mg "check_houses" gX
 lp:Fn K mg "check_gates" i0
 mI:Fn K mg "check_rule" jB
 mJ:Fn K mg "check_ways" jD
 nM:Fn K mg "check_way" j9
 lq:Fn K mg "check_lines" iU
 mF:Fn K mg "check_spot" jG
 lm:Fn K mg "house_named" iC
 nJ:Fn K mg "_law_draw" j7
 mx:Fn K mg "_law_names" fw
 li:Fn K mg "_law_layout" fX
 mE:Fn K mg "_law_width" gH
 kB:Fn K mg "_law_span" kc
 nN:Fn K mg "_law_told" kx
 mv:Fn K mg "_law_signs" jQ
 nH:Fn K mg "_law_rule" kt
 nL:Fn K mg "_law_ways" iz
 mH:Fn K mg "_law_house" fE
 my:Fn K mg "_law_spots" gG
 mt:Fn K mg "_law_lines" jz
 pM:Fn K mg "_law_net" jJ
 ky:Fn K mg "_law_same" iw
 kF:Fn K mg "_law_copy" fZ
 mG:Fn K mg "_law_marks" jn
 jj:Fn K mg "_law_marks_due" d0
 lj:Fn K mg "_law_is_row" fW
 kC:Fn K mg "_law_odd_row" dg
 jY:Fn K mg "_law_odd_word" gC
 gf:Fn K mg "_law_odd_beginning" dY
 gF:Fn K mg "_law_spoil_layout" eI
 iq:Fn K mg "_law_spoil_gates" eY
 iA:Fn K mg "_law_spoil_ways" c7
 ik:Fn K mg "_law_spoil_lines" cA
 mm:Fn K mg "_law_spoil" jy
 gE:Fn K mg "_law_layout_fault" bT
 ij:Fn K mg "_law_house_fault" cB
 iB:Fn K mg "_law_line_fault" dQ
 mr:Fn K mg "_law_fault" gI
 Af:Fn K mg "law" ou
 au:mg "isinstance" = none
 mz:mg "str" = none
 bv:mg "len" = none
 yv:mg "sum" = none
 cF:mg "range" = none
 nu:mg "list" = none
 tG:mg "sorted" = none
 Ae:mg "set" = none
 ym:mg "min" = none
 Ad:mg "max" = none
 yw:mg "int" = none
 mq:mg "tuple" = none
 yn:mg "all" = none
 pP:mg "bool" = none
 Ah:mg "zip" = none
 mw:mg "ValueError" = none
 Ag:mg "any" = none
 u_WORDS:TupK K mg "WORDS" ["pass", "drop"]
 fj:Xn K mg "NoField"
 jh:Xn K mg "NoDoor"
 gR:Xn K mg "NoHouse"
 kP:Xn K mg "Twice"
 dJ:Xn K mg "Misfit"
 gQ:Xn K mg "BadWord"
 i8:Xn K mg "ThrongError"
 pN:Xn K mg "NoLine"
 pK:Xn K mg "NoRule"
 rW:Xn K mg "NoWay"
 pL:Xn K mg "Unlike"
 gP:Xv K "NoField"
 bc:Xm K "NoField" "ThrongError" true
 bK:Xm K "NoField" "BadWord" false
 bZ:Xm K "NoField" "Misfit" false
 cf:Xm K "NoField" "NoDoor" false
 bO:Xm K "NoField" "NoField" true
 bL:Xm K "NoField" "NoHouse" false
 cp:Xm K "NoField" "NoLine" false
 cx:Xm K "NoField" "NoRule" false
 cO:Xm K "NoField" "NoWay" false
 cS:Xm K "NoField" "Twice" false
 ci:Xm K "NoField" "Unlike" false
 ji:Xv K "NoDoor"
 bo:Xm K "NoDoor" "ThrongError" true
 cw:Xm K "NoDoor" "BadWord" false
 cY:Xm K "NoDoor" "Misfit" false
 cN:Xm K "NoDoor" "NoDoor" true
 ck:Xm K "NoDoor" "NoField" false
 cm:Xm K "NoDoor" "NoHouse" false
 cX:Xm K "NoDoor" "NoLine" false
 cM:Xm K "NoDoor" "NoRule" false
 dz:Xm K "NoDoor" "NoWay" false
 dA:Xm K "NoDoor" "Twice" false
 cW:Xm K "NoDoor" "Unlike" false
 gS:Xv K "NoHouse"
 ba:Xm K "NoHouse" "ThrongError" true
 bN:Xm K "NoHouse" "BadWord" false
 cj:Xm K "NoHouse" "Misfit" false
 cc:Xm K "NoHouse" "NoDoor" false
 bJ:Xm K "NoHouse" "NoField" false
 bP:Xm K "NoHouse" "NoHouse" true
 cb:Xm K "NoHouse" "NoLine" false
 cy:Xm K "NoHouse" "NoRule" false
 cI:Xm K "NoHouse" "NoWay" false
 cP:Xm K "NoHouse" "Twice" false
 cq:Xm K "NoHouse" "Unlike" false
 kO:Xv K "Twice"
 bx:Xm K "Twice" "ThrongError" true
 cG:Xm K "Twice" "BadWord" false
 du:Xm K "Twice" "Misfit" false
 dq:Xm K "Twice" "NoDoor" false
 cR:Xm K "Twice" "NoField" false
 cL:Xm K "Twice" "NoHouse" false
 dB:Xm K "Twice" "NoLine" false
 dm:Xm K "Twice" "NoRule" false
 dO:Xm K "Twice" "NoWay" false
 dN:Xm K "Twice" "Twice" true
 dj:Xm K "Twice" "Unlike" false
 jk:Xv K "Misfit"
 bp:Xm K "Misfit" "ThrongError" true
 cr:Xm K "Misfit" "BadWord" false
 cT:Xm K "Misfit" "Misfit" true
 cH:Xm K "Misfit" "NoDoor" false
 b8:Xm K "Misfit" "NoField" false
 b6:Xm K "Misfit" "NoHouse" false
 cK:Xm K "Misfit" "NoLine" false
 cV:Xm K "Misfit" "NoRule" false
 dw:Xm K "Misfit" "NoWay" false
 di:Xm K "Misfit" "Twice" false
 cJ:Xm K "Misfit" "Unlike" false
 gO:Xv K "BadWord"
 be:Xm K "BadWord" "ThrongError" true
 bM:Xm K "BadWord" "BadWord" true
 cu:Xm K "BadWord" "Misfit" false
 b7:Xm K "BadWord" "NoDoor" false
 bQ:Xm K "BadWord" "NoField" false
 bR:Xm K "BadWord" "NoHouse" false
 b5:Xm K "BadWord" "NoLine" false
 cg:Xm K "BadWord" "NoRule" false
 cU:Xm K "BadWord" "NoWay" false
 cQ:Xm K "BadWord" "Twice" false
 b3:Xm K "BadWord" "Unlike" false
local macro_rules | `(tactic| walk_at "rd")=>`(tactic| try simp only [xp,BX,BB,yV,zP,za,BW,BK,zD,zp,Ax,xU,AX,zV,zu,zF,BL,Bl,A9,Bf,Bh,zJ,yX,zI,vZ,AU,BM,vK,zb,Bu,xO,Bt,Ty.isBl,Ty.isInt,Ty.isStr,Ty.isLst,Ty.isTup,zG,BU,zx,Bm,BN,Bd,Bq,AW,x6,Bw,zS,yO,BJ,Ar,AY,zy,An,y0,A8,yD,Bk,Au,ze,zt,AJ,yP,zT,yS,zw,yA,compσ,L2.start,BR,AD,CDiv,CPow,List.map_cons,List.map_nil,List.length_cons,List.length_nil,List.replicate_succ,List.replicate_zero,List.cons_append,List.nil_append,List.getElem?_cons_zero,List.getElem?_cons_succ,List.set_cons_zero,List.set_cons_succ,Option.getD_some,Option.getD_none,Nat.reduceAdd,Nat.reduceSub,Bool.false_bne,Bool.true_bne,Bool.false_xor,Bool.true_xor,Bool.not_eq_true',decide_eq_true_eq,decide_eq_false_iff_not,Bool.not_true,Bool.not_false,if_true,if_false,true_and,and_true,Int.reduceLT,Int.reduceLE,Nat.reduceLeDiff,Bool.false_eq_true,yG,Be,AB,yc,xv,At,AF,tZ,Aq,xt,AZ,zo,AC,yL,yb,wY,BI,AA,yH,yB,Av,xl,wP,BS,A6,zR,zn,yJ,sx,yT,vC,Aw,AN,sH,yM,vH,zO,wt,wj,zk,ite_not,aM,Bool.true_eq_false,Int.zero_add,reduceIte,ite_true,ite_false])
section
variable {P:Program} {w:World} {K:Frag} {mg:Str->Option Value} {base:Heap}
noncomputable def textOf (v:V) (w:Int) (l:List Nat):Bool:=match v with
 | .str a=>decide ((a.cps.toList.length:Int)=w) && a.cps.toList.all fun c=>decide (c ∈ l)
 | _=>false
def Known (H:Hp) (v:V):Prop:=match v with
 | .non=>True
 | .bl _=>True
 | .int _=>True
 | .str a=>a.cps.toList.length<=1000
 | .ref p=>(∃ xs,H p=some (.lst xs))\/(∃ xs,H p=some (.tup xs))
 | _=>False
noncomputable def iS:Sp:=fun vs H Q _=>match vs with
 | [v,.int w,.str l]=>Known H v/\Q (.bl (textOf v w l.cps.toList)) H
 | _=>False
theorem le (T:Top K mg):Callee P w K mg base 1 "is_text_of" ["thing", "width", "signs"] iS:=by
 refine T.mC.cal kZ (by intro vs H Q E h; unfold iS at h; split at h <;> first | rfl | exact h.elim) (fun _ _ _ _ _ _ us hl=>match us,hl with | [_,_,_],_=>rfl) (fun f cdv A outer s H vs Q E hr h=>?_);unfold iS at h;split at h
 case h_2=>exact h.elim
 refine ⟨_,(ae (aE (PW.pt (qI (gp (de (aZ .str rfl T.au (qv 0) rfl T.mz kj))) (oS (aB oJ (av (lenE K rfl) rfl T.bv aN (aa (qv 0) ac)) (qv 1))))) (af (aw iy)) ar)
   (ae (br PassesOwn.never rfl (iterE K rfl (qv 0)) (al (i:=3) kZ.nd rfl lc) (af (aE (aB (notinE K rfl) (qv 3) (qv 2)) (af (aw iy)) ar)))
   (af (aw iy)))),?_⟩
 rename_i v n z;obtain ⟨l,rfl⟩:∃ x,z=st x:=⟨_,(cC z).symm⟩;obtain ⟨hk,q⟩:=h;simp only [aM] at q;walk_at "rd";cases v with
 | str a=>
  obtain ⟨x,rfl⟩:∃ x,a=st x:=⟨_,(cC a).symm⟩;walk_at "rd";have hk':x.length<=1000:=hk;refine ⟨by omega,ite2 (fun g1=>?_) fun g1=>?_⟩
  ·refine wQ (fun i σ H'=>∃ k,σ = [some (.str (st x)),some (.int n),some (.str (st l)),k]/\H'=H/\(x.take i).all (fun c=>decide (c ∈ l))=true) ⟨none,rfl,rfl,rfl⟩ ?_ ?_
   ·rintro i c σ H1 hc ⟨k,rfl,rfl,e1⟩;walk_at "rd";refine ite2 (fun g2=>⟨_,rfl,?_⟩) fun g2=>?_
    ·rw [List.take_succ,hc,List.all_append,e1];simp [g2]
    ·have e:textOf (.str (st x)) n l=false:=by
      simp only [textOf,aM,Bool.and_eq_false_iff];refine .inr ?_;rw [Bool.eq_false_iff];intro z;rw [List.all_eq_true] at z;exact g2 (of_decide_eq_true (z c (List.mem_of_getElem? hc)))
     rw [e] at q;exact q
   ·rintro σ H1 ⟨k,rfl,rfl,e1⟩;walk_at "rd";rw [List.take_length] at e1;have e:textOf (.str (st x)) n l=true:=by
     simp only [textOf,aM,Bool.and_eq_true];exact ⟨decide_eq_true g1,e1⟩
    rw [e] at q;exact q
  ·have e:textOf (.str (st x)) n l=false:=by
    simp only [textOf,aM,Bool.and_eq_false_iff];exact .inl (decide_eq_false g1)
   rw [e] at q;exact q
 | ref p=>
  rcases hk with hk | hk
  ·exact .inl ⟨hk,q⟩
  ·exact .inr ⟨hk,q⟩
 | non=>exact q
 | bl b=>exact q
 | int i=>exact q
 | _=>exact hk.elim
noncomputable def nc:Sp:=fun vs H Q _=>match vs with
 | [v,.int w]=>Known H v/\Q (.bl (textOf v w [48,49,45])) H
 | _=>False
theorem qL (T:Top K mg):Callee P w K mg base 2 "is_row" ["thing", "width"] nc:=by
 refine T.tF.cal wo (by intro vs H Q E h; unfold nc at h; split at h <;> first | rfl | exact h.elim) (fun _ _ _ _ _ _ us hl=>match us,hl with | [_,_],_=>rfl) (fun f cdv A outer s H vs Q E hr h=>?_);unfold nc at h;split at h
 case h_2=>exact h.elim
 refine ⟨_,(af (aw (aq (le T) hr.m rfl (aa (qv 0) (aa (qv 1) (aa (qs [48,49,45]) ac)))))),?_⟩;walk_at "rd";exact h
noncomputable abbrev Fld:=List Nat × Nat
def FldAt (H:Hp) (x:Fld) (v:V):Prop:=∃ t,v=.ref t/\H t=some (.tup [tx x.1,.int x.2])
def Lay (H:Hp) (p:Addr) (ls:List Fld):Prop:=∃ vs,H p=some (.lst vs)/\Paired (FldAt H) ls vs
theorem qu {H H':Hp} (k:∀ t vs,H t=some (.tup vs)->H' t=some (.tup vs)) {ls:List Fld} {vs:List V} (h:Paired (FldAt H) ls vs):Paired (FldAt H') ls vs:=
 L2.Paired.mapP h fun _ _ ⟨t,e,q⟩=>⟨t,e,k _ _ q⟩
theorem Lay.same {H H':Hp} {p:Addr} {ls:List Fld} (h:Lay H p ls) (s:Same H H'):Lay H' p ls:=by
 obtain ⟨vs,e,pr⟩:=h;exact ⟨vs,s _ _ e,qu (fun t us q=>s _ _ q) pr⟩
noncomputable def fldD (x:Fld):D:=.t [.f (tx x.1),.f (.int x.2)]
noncomputable def widthL (ls:List Fld):Nat:=(ls.map (·.2)).sum
theorem dE {α β:Type} {F:α -> β -> Prop} {l:List α} {m:List β} (h:Paired F l m):(l.zip m).map (·.2)=m/\∀ x ∈ l.zip m,F x.1 x.2:=by
 induction h with
 | nil=>exact ⟨rfl,fun x hx=>by cases hx⟩
 | cons r _ ih=>exact ⟨by rw [List.zip_cons_cons,List.map_cons,ih.1],fun x hx=>by
   rw [List.zip_cons_cons] at hx;rcases List.mem_cons.mp hx with rfl | hx
   ·exact r
   ·exact ih.2 x hx⟩
theorem gJ {α β:Type}:∀ {l:List α} {m:List β},l.length=m.length->(l.zip m).map (·.1)=l
 | [],_,_=>rfl
 | x::l,[],h=>by cases h
 | x::l,y::m,h=>by rw [List.zip_cons_cons,List.map_cons,gJ (by simpa using h)]
theorem pJ:∀ l:List Nat,(l.map fun n:Nat=>(n:Int)).sum=(l.sum:Nat)
 | []=>rfl
 | x::l=>by rw [List.map_cons,List.sum_cons,List.sum_cons,pJ l]; omega
noncomputable def gu (K:Frag):Sp:=fun vs H Q _=>match vs with
 | [.ref p]=>∃ ls:List Fld,Lay H p ls/\ls.length<=1000/\∀ H',Same H H'->Q (.int (widthL ls:Nat)) H'
 | _=>False
theorem nW (T:Top K mg):Callee P w K mg base 1 "layout_width" ["layout"] (gu K):=by
 refine T.kE.cal nS (by intro vs H Q E h; unfold gu at h; split at h <;> first | rfl | exact h.elim) (fun _ _ _ _ _ _ us hl=>match us,hl with | [_],_=>rfl) (fun f cdv A outer s H vs Q E hr h=>?_);unfold gu at h;split at h
 case h_2=>exact h.elim
 refine ⟨_,(af (aw (av (qC K rfl rfl) rfl T.yv xj (aa (bU (nt:=2) (fi:=[]) (N':=["name", "size"]) rfl (cscope rfl (by decide +kernel)) (cnames (N:=["layout"]) (sc:=defScope fk) rfl rfl (by decide +kernel)) (jm (by decide) (by decide)) (iterE K rfl (qv 0)) (fun _ _ _ _ _=>(tupE K rfl rfl (n:=2) (ap (al (i:=0) (by show (["name", "size"]:List Str).Nodup; decide +kernel) rfl lc) (ap (al (i:=1) (by show (["name", "size"]:List Str).Nodup; decide +kernel) rfl lc) aR)))) (fun _ _ _ _ _=>bC) (fun _ _ _ _ _=>(qv 1))) ac)))),?_⟩;rename_i p;obtain ⟨ls,⟨vs,e0,pr⟩,hn,q⟩:=h;have hl:=pr.length;obtain ⟨z1,z2⟩:=dE pr;walk_at "rd";refine .inl ⟨⟨_,SqL.of e0⟩,fun D hD=>?_⟩;refine fh (item:=fun x:Fld × V=>x.2) (xs:=ls.zip vs) (h:=fun x=>[V.int x.1.2]) hD (by rw [z1]; exact SqL.of e0) (by rw [List.length_zip]; omega) (fun _=>by simp) ?_ ?_
 ·intro x H1 out non hx s1 ho _;obtain ⟨t,ex,et⟩:=z2 x hx;rw [ex];refine ⟨t,[_,_],rfl,SqT.of (s1 _ _ et),rfl,_,[_],rfl,_,[],rfl,rfl,?_⟩;walk_at "rd";exact ho _ _ rfl (Same.refl _)
 ·intro H1 s1 e1;rw [show (ls.zip vs).flatMap (fun x=>[V.int x.1.2])=(ls.map fun x:Fld=>(x.2:Int)).map V.int by
   rw [<- gJ (l:=ls) (m:=vs) hl];simp only [List.map_map];rw [gJ hl]
   induction ls.zip vs with
   | nil=>rfl
   | cons x r ih=>rw [List.flatMap_cons,ih]; rfl] at e1
  walk_at "rd";refine ⟨_,SqL.of e1,?_⟩;have:=q H1 s1;unfold widthL at this;rw [show (ls.map fun x:Fld=>(x.2:Int)).sum=((ls.map (·.2)).sum:Nat) by rw [<- pJ,List.map_map]; rfl];exact this
noncomputable def spanF:List Fld->List Nat->Nat->Option (Nat × Nat)
 | [],_,_=>none
 | (f,z)::r,n,a=>if f=n then some (a,a+z) else spanF r n (a+z)
theorem gU:∀ (l r:List Fld) (n:List Nat) (a:Nat),(∀ x ∈ l,¬ x.1=n)->spanF (l++r) n a=spanF r n (a+widthL l)
 | [],r,n,a,_=>rfl
 | (f,z)::l,r,n,a,h=>by
  have h0:¬ f=n:=h (f,z) List.mem_cons_self;rw [List.cons_append,spanF,if_neg h0,gU l r n (a+z) fun x hx=>h x (List.mem_cons_of_mem _ hx)];unfold widthL;rw [List.map_cons,List.sum_cons,Nat.add_assoc]
theorem iH (n:List Nat):(st n).length=n.length:=by simp [Str.length]
noncomputable def iD (K:Frag):Sp:=fun vs H Q E=>match vs with
 | [.ref p,.str n]=>∃ ls:List Fld,Lay H p ls/\(∀ c ∈ n.cps.toList,c < 16 ^ 8)/\n.cps.toList.length<=1000 /\
   (∀ a b,spanF ls n.cps.toList 0=some (a,b)->∀ t H',H t=none->Same H H'->H' t=some (.tup [.int (a:Nat),.int (b:Nat)])->Q (.ref t) H') /\
   (spanF ls n.cps.toList 0=none->∀ H',Same H H'->E (.ref (xA K "NoField")) none H')
 | _=>False
theorem qj (T:Top K mg):CalleeX P w K mg base 1 "field_span" ["layout", "name"] (iD K):=by
 refine T.mD.calX eO (by intro vs H Q E h; unfold iD at h; split at h <;> first | rfl | exact h.elim) (fun _ _ _ _ _ _ us hl=>match us,hl with | [_,_],_=>rfl) (fun f cdv A outer s H vs Q E hr h=>?_);unfold iD at h;split at h
 case h_2=>exact h.elim
 refine ⟨_,(ae (ao (i:=2) eO.nd rfl lc ad)
   (ae (br PassesOwn.leaving rfl (iterE K rfl (qv 0)) (tupE K rfl rfl (n:=2) (ap (al (i:=3) eO.nd rfl lc) (ap (al (i:=4) eO.nd rfl lc) aR))) (ae (aE (aB bz (qv 3) (qv 1)) (af (aw (aX (aa (qv 2) (aa (am ak (qv 2) (qv 4)) ac))))) ar)
   (af (ao (i:=2) eO.nd rfl lc (am ak (qv 2) (qv 4))))))
   (af (eQ rfl dM rfl T.fj.1 T.fj.2 (aa (lY (bV (qs [110,111,32,102,105,101,108,100,32]) (bV (n8 (qv 1)) jA))) ac))))),?_⟩
 rename_i p s;obtain ⟨n,rfl⟩:∃ x,s=st x:=⟨_,(cC s).symm⟩;obtain ⟨ls,⟨vs,e0,pr⟩,hc,hn,q1,q2⟩:=h;simp only [aM] at q1 q2 hc hn;have hl:=pr.length;walk_at "rd";refine .inl ⟨⟨_,SqL.of e0⟩,?_⟩;refine bw (xs:=vs) (fun i σ H'=>∃ u v,σ = [some (.ref p),some (.str (st n)),some (.int (widthL (ls.take i):Nat)),u,v]/\Same H H'/\∀ x ∈ ls.take i,¬ x.1=n) ⟨none,none,rfl,Same.refl _,fun x hx=>by simp at hx⟩ (fun i σ H' _ ⟨_,_,_,z,_⟩=>SqL.of (z _ _ e0)) ?_ ?_
 ·rintro i x σ H1 hx ⟨u,v,rfl,s1,h1⟩;have hi:i < vs.length:=(List.getElem?_eq_some_iff.mp hx).1;have hil:i < ls.length:=by omega
  obtain ⟨y,hy,t,ey,et⟩:=aD pr (List.getElem?_eq_getElem hil);obtain rfl:x=.ref t:=by rw [hy] at hx; rw [<- Option.some.inj hx,ey]
  refine ⟨t,[_,_],rfl,SqT.of (s1 _ _ et),rfl,_,[_],rfl,_,[],rfl,rfl,?_⟩;walk_at "rd";have sp:spanF ls n 0=spanF (ls.drop i) n (0+widthL (ls.take i)):=by
   have:=gU (ls.take i) (ls.drop i) n 0 h1;rw [List.take_append_drop] at this;exact this
  rw [List.drop_eq_getElem_cons hil,Nat.zero_add] at sp;have w1:widthL (ls.take (i+1))=widthL (ls.take i)+ls[i].2:=by
   unfold widthL;rw [List.take_add_one,List.getElem?_eq_getElem hil,Option.toList_some,List.map_append,List.sum_append];simp
  refine ite2 (fun g=>⟨by decide,fun t2 ht2=>?_⟩) fun g=>⟨some (tx ls[i].1),some (.int ls[i].2),?_,s1,fun y hy=>?_⟩
  ·refine q1 (widthL (ls.take i)) (widthL (ls.take i)+ls[i].2) ?_ t2 _ (s1.free ht2) (s1.trans (ai ht2 _)) ?_
   ·rw [sp,show ls[i]=(ls[i].1,ls[i].2) from rfl,spanF,if_pos g]
   ·rw [ah];simp
  ·rw [w1];simp
  ·rw [List.take_add_one,List.getElem?_eq_getElem hil] at hy;rcases List.mem_append.mp hy with hy | hy
   ·exact h1 y hy
   ·have e:y=ls[i]:=by simpa using hy
    rw [e];exact g
 ·rintro σ H1 ⟨u,v,rfl,s1,h1⟩;walk_at "rd";have e:spanF ls n 0=none:=by
   have:=gU ls [] n 0 fun x hx=>h1 x (by rw [<- hl,List.take_length]; exact hx)
   rw [List.append_nil] at this;exact this
  have hz:(st n).length=n.length:=iH n;refine ⟨by rw [iH]; exact Nat.le_of_lt (sizeBig (by decide)),hc,by omega,fun z hzz=>⟨?_,fun _=>⟨by decide,q2 e H1 s1⟩⟩⟩;rw [iH];exact Nat.le_of_lt (sizeBig (by simp only [List.length_cons,List.length_nil]; omega))
theorem oQ:∀ (l:List Fld) (n:List Nat) (a x y:Nat),spanF l n a=some (x,y)->x<=y
 | [],_,_,_,_,h=>by cases h
 | (f,z)::l,n,a,x,y,h=>by
  rw [spanF] at h;split at h
  ·cases h; omega
  ·exact oQ l n _ x y h
noncomputable abbrev Rule:=List Nat × List Nat × List Nat
def RuleAt (H:Hp) (x:Rule) (v:V):Prop:=∃ t,v=.ref t/\H t=some (.tup [tx x.1,tx x.2.1,tx x.2.2])
def Rules (H:Hp) (p:Addr) (rs:List Rule):Prop:=∃ vs,H p=some (.lst vs)/\Paired (RuleAt H) rs vs
theorem lD {H H':Hp} (k:∀ t vs,H t=some (.tup vs)->H' t=some (.tup vs)) {rs:List Rule} {vs:List V} (h:Paired (RuleAt H) rs vs):Paired (RuleAt H') rs vs:=
 L2.Paired.mapP h fun _ _ ⟨t,e,q⟩=>⟨t,e,k _ _ q⟩
theorem cZ {H:Hp} {g:Addr} {xs ys:List V} (h:H g=some (.lst xs)):∀ t vs,H t=some (.tup vs)->upd H g (.lst ys) t=some (.tup vs):=fun t vs q=>by
 rw [aC (fun e=>by rw [e,h] at q; cases q)];exact q
theorem Rules.same {H H':Hp} {p:Addr} {rs:List Rule} (h:Rules H p rs) (s:Same H H'):Rules H' p rs:=by
 obtain ⟨vs,e,pr⟩:=h;exact ⟨vs,s _ _ e,lD (fun t us q=>s _ _ q) pr⟩
noncomputable def ruleD (x:Rule):D:=.t [.f (tx x.1),.f (tx x.2.1),.f (tx x.2.2)]
noncomputable def dropT:List Nat:=[100,114,111,112]
noncomputable def passT:List Nat:=[112,97,115,115]
noncomputable abbrev Way:=List Nat × List Nat
def WayAt (H:Hp) (x:Way) (v:V):Prop:=∃ t,v=.ref t/\H t=some (.tup [tx x.1,tx x.2])
def Ways (H:Hp) (p:Addr) (ws:List Way):Prop:=∃ vs,H p=some (.lst vs)/\Paired (WayAt H) ws vs
theorem df {H H':Hp} (k:∀ t vs,H t=some (.tup vs)->H' t=some (.tup vs)) {ws:List Way} {vs:List V} (h:Paired (WayAt H) ws vs):Paired (WayAt H') ws vs:=
 L2.Paired.mapP h fun _ _ ⟨t,e,q⟩=>⟨t,e,k _ _ q⟩
theorem Ways.same {H H':Hp} {p:Addr} {ws:List Way} (h:Ways H p ws) (s:Same H H'):Ways H' p ws:=by
 obtain ⟨vs,e,pr⟩:=h;exact ⟨vs,s _ _ e,df (fun t us q=>s _ _ q) pr⟩
theorem fe {α β:Type} {F:α -> β -> Prop} {l:List α} {m:List β} {x:α} {y:β} (h:Paired F l m) (r:F x y):Paired F (l++[x]) (m++[y]):=by
 induction h with
 | nil=>exact .cons r .nil
 | cons r' _ ih=>exact .cons r' ih
noncomputable def wayD (x:Way):D:=.t [.f (tx x.1),.f (tx x.2)]
noncomputable abbrev Gate:=List Nat × List Rule
noncomputable abbrev House:=List Gate × List Way
def GateAt (H:Hp) (x:Gate) (v:V):Prop:=∃ t p,v=.ref t/\H t=some (.tup [tx x.1,.ref p])/\Rules H p x.2
def Gates (H:Hp) (p:Addr) (gs:List Gate):Prop:=∃ vs,H p=some (.lst vs)/\Paired (GateAt H) gs vs
def HouseAt (H:Hp) (t:Addr) (h:House):Prop:=∃ g w,H t=some (.tup [.ref g,.ref w])/\Gates H g h.1/\Ways H w h.2
theorem Gates.same {H H':Hp} {p:Addr} {gs:List Gate} (h:Gates H p gs) (s:Same H H'):Gates H' p gs:=by
 obtain ⟨vs,e,pr⟩:=h;exact ⟨vs,s _ _ e,L2.Paired.mapP pr fun _ _ ⟨t,q,e,h1,h2⟩=>⟨t,q,e,s _ _ h1,h2.same s⟩⟩
theorem HouseAt.same {H H':Hp} {t:Addr} {h:House} (x:HouseAt H t h) (s:Same H H'):HouseAt H' t h:=by
 obtain ⟨g,w,e,h1,h2⟩:=x;exact ⟨g,w,s _ _ e,h1.same s,h2.same s⟩
noncomputable def toT:List Nat:=[116,111]
noncomputable def iE (K:Frag):Sp:=fun vs H Q _=>match vs with
 | [.ref p]=>∃ ls:List Fld,Lay H p ls/\ls.length<=1000/\∀ H',Same H H'->Q (.int (widthL ls:Nat)) H'
 | _=>False
theorem iI (T:Top K mg):Callee P w K mg base 1 "_law_width" ["_law_layout_here"] (iE K):=by
 refine T.mE.cal pT (by intro vs H Q E h; unfold iE at h; split at h <;> first | rfl | exact h.elim) (fun _ _ _ _ _ _ us hl=>match us,hl with | [_],_=>rfl) (fun f cdv A outer s H vs Q E hr h=>?_);unfold iE at h;split at h
 case h_2=>exact h.elim
 refine ⟨_,(af (aw (av (qC K rfl rfl) rfl T.yv xj (aa (bU (nt:=2) (fi:=[]) (N':=["_law_name", "_law_size"]) rfl (cscope rfl (by decide +kernel)) (cnames (N:=["_law_layout_here"]) (sc:=defScope gH) rfl rfl (by decide +kernel)) (jm (by decide) (by decide)) (iterE K rfl (qv 0)) (fun _ _ _ _ _=>(tupE K rfl rfl (n:=2) (ap (al (i:=0) (by show (["_law_name", "_law_size"]:List Str).Nodup; decide +kernel) rfl lc) (ap (al (i:=1) (by show (["_law_name", "_law_size"]:List Str).Nodup; decide +kernel) rfl lc) aR)))) (fun _ _ _ _ _=>bC) (fun _ _ _ _ _=>(qv 1))) ac)))),?_⟩;rename_i p;obtain ⟨ls,⟨vs,e0,pr⟩,hn,q⟩:=h;have hl:=pr.length;obtain ⟨z1,z2⟩:=dE pr;walk_at "rd";refine .inl ⟨⟨_,SqL.of e0⟩,fun D hD=>?_⟩;refine fh (item:=fun x:Fld × V=>x.2) (xs:=ls.zip vs) (h:=fun x=>[V.int x.1.2]) hD (by rw [z1]; exact SqL.of e0) (by rw [List.length_zip]; omega) (fun _=>by simp) ?_ ?_
 ·intro x H1 out non hx s1 ho _;obtain ⟨t,ex,et⟩:=z2 x hx;rw [ex];refine ⟨t,[_,_],rfl,SqT.of (s1 _ _ et),rfl,_,[_],rfl,_,[],rfl,rfl,?_⟩;walk_at "rd";exact ho _ _ rfl (Same.refl _)
 ·intro H1 s1 e1;rw [show (ls.zip vs).flatMap (fun x=>[V.int x.1.2])=(ls.map fun x:Fld=>(x.2:Int)).map V.int by
   rw [<- gJ (l:=ls) (m:=vs) hl];simp only [List.map_map];rw [gJ hl]
   induction ls.zip vs with
   | nil=>rfl
   | cons x r ih=>rw [List.flatMap_cons,ih]; rfl] at e1
  walk_at "rd";refine ⟨_,SqL.of e1,?_⟩;have:=q H1 s1;unfold widthL at this;rw [show (ls.map fun x:Fld=>(x.2:Int)).sum=((ls.map (·.2)).sum:Nat) by rw [<- pJ,List.map_map]; rfl];exact this
noncomputable def spanG (ls:List Fld):Nat × Nat:=(spanF ls toT 0).getD (0,0)
noncomputable def jv (K:Frag):Sp:=fun vs H Q _=>match vs with
 | [.ref p]=>∃ ls:List Fld,Lay H p ls/\∀ t H',H t=none->Same H H'->H' t=some (.tup [.int ((spanG ls).1:Nat),.int ((spanG ls).2:Nat)])->Q (.ref t) H'
 | _=>False
theorem jF (T:Top K mg):Callee P w K mg base 1 "_law_span" ["_law_layout_here"] (jv K):=by
 refine T.kB.cal bD (by intro vs H Q E h; unfold jv at h; split at h <;> first | rfl | exact h.elim) (fun _ _ _ _ _ _ us hl=>match us,hl with | [_],_=>rfl) (fun f cdv A outer s H vs Q E hr h=>?_);unfold jv at h;split at h
 case h_2=>exact h.elim
 refine ⟨_,(ae (ao (i:=1) bD.nd rfl lc ad)
   (ae (br PassesOwn.never rfl (iterE K rfl (qv 0)) (tupE K rfl rfl (n:=2) (ap (al (i:=2) bD.nd rfl lc) (ap (al (i:=3) bD.nd rfl lc) aR))) (ae (aE (aB bz (qv 2) (qs [116,111])) (af (aw (aX (aa (qv 1) (aa (am ak (qv 1) (qv 3)) ac))))) ar)
   (af (ao (i:=1) bD.nd rfl lc (am ak (qv 1) (qv 3))))))
   (af (aw (aX (aa ad (aa ad ac))))))),?_⟩
 rename_i p;obtain ⟨ls,⟨vs,e0,pr⟩,q1⟩:=h;have hl:=pr.length;walk_at "rd";refine .inl ⟨⟨_,SqL.of e0⟩,?_⟩;refine bw (xs:=vs) (fun i σ H'=>∃ u v,σ = [some (.ref p),some (.int (widthL (ls.take i):Nat)),u,v]/\Same H H'/\∀ x ∈ ls.take i,¬ x.1=toT) ⟨none,none,rfl,Same.refl _,fun x hx=>by simp at hx⟩ (fun i σ H' _ ⟨_,_,_,z,_⟩=>SqL.of (z _ _ e0)) ?_ ?_
 ·rintro i x σ H1 hx ⟨u,v,rfl,s1,h1⟩;have hi:i < vs.length:=(List.getElem?_eq_some_iff.mp hx).1;have hil:i < ls.length:=by omega
  obtain ⟨y,hy,t,ey,et⟩:=aD pr (List.getElem?_eq_getElem hil);obtain rfl:x=.ref t:=by rw [hy] at hx; rw [<- Option.some.inj hx,ey]
  refine ⟨t,[_,_],rfl,SqT.of (s1 _ _ et),rfl,_,[_],rfl,_,[],rfl,rfl,?_⟩;walk_at "rd";have sp:spanF ls toT 0=spanF (ls.drop i) toT (0+widthL (ls.take i)):=by
   have:=gU (ls.take i) (ls.drop i) toT 0 h1;rw [List.take_append_drop] at this;exact this
  rw [List.drop_eq_getElem_cons hil,Nat.zero_add] at sp;have w1:widthL (ls.take (i+1))=widthL (ls.take i)+ls[i].2:=by
   unfold widthL;rw [List.take_add_one,List.getElem?_eq_getElem hil,Option.toList_some,List.map_append,List.sum_append];simp
  refine ite2 (fun g=>⟨by decide,fun t2 ht2=>?_⟩) fun g=>⟨some (tx ls[i].1),some (.int ls[i].2),?_,s1,fun y hy=>?_⟩
  ·refine q1 t2 _ (s1.free ht2) (s1.trans (ai ht2 _)) ?_;have e:spanG ls=(widthL (ls.take i),widthL (ls.take i)+ls[i].2):=by
    unfold spanG;rw [sp,show ls[i]=(ls[i].1,ls[i].2) from rfl,spanF,if_pos (show ls[i].1=toT from g)];rfl
   rw [ah,e];simp
  ·rw [w1];simp
  ·rw [List.take_add_one,List.getElem?_eq_getElem hil] at hy;rcases List.mem_append.mp hy with hy | hy
   ·exact h1 y hy
   ·have e:y=ls[i]:=by simpa using hy
    rw [e];exact g
 ·rintro σ H1 ⟨u,v,rfl,s1,h1⟩;walk_at "rd";have e:spanF ls toT 0=none:=by
   have:=gU ls [] toT 0 fun x hx=>h1 x (by rw [<- hl,List.take_length]; exact hx)
   rw [List.append_nil] at this;exact this
  refine ⟨by decide,fun t2 ht2=>q1 t2 _ (s1.free ht2) (s1.trans (ai ht2 _)) ?_⟩;rw [ah];unfold spanG;rw [e];rfl
noncomputable def Th (H:Hp):Nat->V->D->Prop
 | 0,v,d=>d=.f v/\flatV v=true
 | n+1,v,d=>(d=.f v/\flatV v=true)\/(∃ a vs ds,v=.ref a/\d=.l ds/\H a=some (.lst vs)/\vs.length<=1000/\Paired (Th H n) vs ds)\/(∃ a vs ds,v=.ref a/\d=.t ds/\H a=some (.tup vs)/\vs.length<=1000/\Paired (Th H n) vs ds)
theorem aH {H H':Hp} (s:Same H H'):∀ (n:Nat) {v:V} {d:D},Th H n v d->Th H' n v d
 | 0,_,_,h=>h
 | n+1,_,_,.inl h=>.inl h
 | n+1,_,_,.inr (.inl ⟨a,vs,ds,e1,e2,e3,e4,p⟩)=>.inr (.inl ⟨a,vs,ds,e1,e2,s _ _ e3,e4,L2.Paired.mapP p fun _ _ z=>aH s n z⟩)
 | n+1,_,_,.inr (.inr ⟨a,vs,ds,e1,e2,e3,e4,p⟩)=>.inr (.inr ⟨a,vs,ds,e1,e2,s _ _ e3,e4,L2.Paired.mapP p fun _ _ z=>aH s n z⟩)
theorem bj {H:Hp} {v:V} (n:Nat) (f:flatV v=true):Th H n v (.f v):=by
 cases n with
 | zero=>exact ⟨rfl,f⟩
 | succ n=>exact .inl ⟨rfl,f⟩
theorem j0 {α β γ:Type} {F:α -> γ -> Prop} {G:β -> γ -> Prop}:∀ {xs:List α} {ys:List β} {ds:List γ},Paired F xs ds->Paired G ys ds->∀ x ∈ xs.zip ys,∃ d,F x.1 d/\G x.2 d
 | _,_,_,.nil,.nil,x,hx=>by simp at hx
 | _,_,_,.cons r p,.cons r' p',x,hx=>by
  rw [List.zip_cons_cons] at hx;rcases List.mem_cons.mp hx with rfl | hx
  ·exact ⟨_,r,r'⟩
  ·exact j0 p p' x hx
theorem rF {α:Type} {F:α -> V->Hp->Prop} {H:Hp}:∀ {xs:List α} {vs:List V},Paired (fun x v=>v=V.bl true) xs vs->vs=(xs.map fun _=>true).map V.bl
 | _,_,.nil=>rfl
 | _,_,.cons r p=>by rw [List.map_cons,List.map_cons,<- rF (F:=F) (H:=H) p,r]
theorem x8 {α:Type} (xs:List α):(xs.map fun _=>true).all id=true:=by simp
theorem ya {H:Hp}:∀ {n:Nat} {v:V} {d:D},Th H n v d->flatV v=true->d=.f v
 | 0,_,_,h,_=>h.1
 | _+1,_,_,.inl h,_=>h.1
 | _+1,_,_,.inr (.inl ⟨_,_,_,e,_⟩),f=>by subst e; cases f
 | _+1,_,_,.inr (.inr ⟨_,_,_,e,_⟩),f=>by subst e; cases f
theorem dD {H:Hp}:∀ {n:Nat} {u v:V},Th H n u (.f v)->u=v
 | 0,_,_,h=>(D.f.inj h.1).symm
 | _+1,_,_,.inl h=>(D.f.inj h.1).symm
 | _+1,_,_,.inr (.inl ⟨_,_,_,_,e,_⟩)=>by cases e
 | _+1,_,_,.inr (.inr ⟨_,_,_,_,e,_⟩)=>by cases e
noncomputable def eF (K:Frag) (m:Nat):Sp:=fun vs H Q _=>match vs with
 | [v,u]=>∃ n d,n < m/\Th H n v d/\Th H n u d/\∀ H',Same H H'->Q (.bl true) H'
 | _=>False
theorem pR (T:Top K mg):∀ m:Nat,Callee P w K mg base (m+1) "_law_same" ["_law_found", "_law_due"] (eF K m):=by
 intro m
 induction m with
 | zero=>
  refine T.ky.cal ml (by intro vs H Q E h; unfold eF at h; split at h <;> first | rfl | exact h.elim) (fun _ _ _ _ _ _ us hl=>match us,hl with | [_,_],_=>rfl) (fun f cdv A outer s H vs Q E hr h=>?_);unfold eF at h;split at h
  case h_2=>exact h.elim
  obtain ⟨_,_,hn,_⟩:=h;exact absurd hn (Nat.not_lt_zero _)
 | succ m ih=>
  refine T.ky.cal ml (by intro vs H Q E h; unfold eF at h; split at h <;> first | rfl | exact h.elim) (fun _ _ _ _ _ _ us hl=>match us,hl with | [_,_],_=>rfl) (fun f cdv A outer s H vs Q E hr h=>?_);unfold eF at h;split at h
  case h_2=>exact h.elim
  refine ⟨_,(ae (aE (aB ur (qv 1) lE) (af (aw (gn ur (qv 0) lE))) ar)
   (ae (aE (PW.pt (qI (de (aZ .bool rfl T.au (qv 1) rfl T.pP og)) (oS (de (aZ .bool rfl T.au (qv 0) rfl T.pP og))))) (af (aw (iG (aZ .bool rfl T.au (qv 1) rfl T.pP og) (iG (aZ .bool rfl T.au (qv 0) rfl T.pP og) (lB (gn bz (qv 0) (qv 1))))))) ar)
   (ae (aE (de (aZ .str rfl T.au (qv 1) rfl T.mz kj)) (af (aw (iG (aZ .str rfl T.au (qv 0) rfl T.mz kj) (lB (gn bz (qv 0) (qv 1)))))) ar)
   (ae (aE (de (aZ .int rfl T.au (qv 1) rfl T.yw xr)) (af (aw (iG (aZ .int rfl T.au (qv 0) rfl T.yw xr) (lB (gn bz (qv 0) (qv 1)))))) ar)
   (dX (aE (de (aZ .tuple rfl T.au (qv 1) rfl T.mq lZ)) (af (aE (gp (de (aZ .tuple rfl T.au (qv 0) rfl T.mq lZ))) (af (aw iy)) ar)) (af (aE (gp (de (aZ .list rfl T.au (qv 0) rfl T.nu lP))) (af (aw iy)) ar)))
   (ae (aE (aB oJ (av (lenE K rfl) rfl T.bv aN (aa (qv 0) ac)) (av (lenE K rfl) rfl T.bv aN (aa (qv 1) ac))) (af (aw iy)) ar)
   (af (aw (av (qQ K rfl rfl) rfl T.yn wG (aa (bU (nt:=2) (fi:=[]) (N':=["_law_own", "_law_part"]) rfl (cscope rfl (by decide +kernel)) (cnames (N:=["_law_found", "_law_due"]) (sc:=defScope iw) rfl rfl (by decide +kernel)) (jm (by decide) (by decide)) (zm rfl rfl T.Ah (qv 0) (qv 1)) (fun _ _ _ _ _=>(tupE K rfl rfl (n:=2) (ap (al (i:=0) (by show (["_law_own", "_law_part"]:List Str).Nodup; decide +kernel) rfl lc) (ap (al (i:=1) (by show (["_law_own", "_law_part"]:List Str).Nodup; decide +kernel) rfl lc) aR)))) (fun _ _ _ _ _=>bC) (fun _ _ _ _ _=>(aq ih hr.m rfl (aa (qv 0) (aa (qv 1) ac))))) ac)))))))))),?_⟩
  rename_i v u;obtain ⟨n,d,hn,h1,h2,q⟩:=h;by_cases fl:flatV v=true
  ·have ed:=ya h1 fl;subst ed;have eu:=dD h2;subst eu;have q0:=q H (Same.refl _);cases u with
   | non=>walk_at "rd"; exact q0
   | bl b=>walk_at "rd"; exact q0
   | int i=>walk_at "rd"; exact q0
   | str z=>
    walk_at "rd";rw [if_neg (by intro y; cases y)];rw [xU];simpa using q0
   | _=>cases fl
  ·obtain _ | n:=n
   ·exact absurd h1.2 fl
   rcases h1 with h1 | ⟨a,vs,ds,rfl,rfl,e1,l1,p1⟩ | ⟨a,vs,ds,rfl,rfl,e1,l1,p1⟩
   ·exact absurd h1.2 fl
   ·rcases h2 with ⟨e2,_⟩ | ⟨b,us,ds2,rfl,ed,e2,l2,p2⟩ | ⟨b,us,ds2,rfl,ed,e2,l2,p2⟩
    ·cases e2
    ·cases ed;walk_at "rd";rw [if_neg (by intro y; cases y)];refine .inl ⟨⟨_,e2⟩,.inl ⟨⟨_,e1⟩,.inl ⟨⟨_,e2⟩,.inl ⟨⟨_,e2⟩,fun σ' H'=>σ'=[some (.ref a),some (.ref b)]/\H'=H,.inl ⟨⟨_,e2⟩,.inl ⟨⟨_,e1⟩,rfl,rfl⟩⟩,?_⟩⟩⟩⟩;rintro σ' H' ⟨rfl,rfl⟩;walk_at "rd";have l3:=p1.length;have l4:=p2.length;have lz:(vs.zip us).length=vs.length:=by rw [List.length_zip]; omega
     refine ⟨vs,.inl (SqL.of e1),us,.inl (SqL.of e2),?_⟩;rw [if_pos (by omega)];refine .inl ⟨⟨_,SqL.of e1⟩,⟨_,SqL.of e2⟩,fun D hD=>?_⟩;refine sE (vs.zip us) (fun _=>true) (fun _ v _=>v=.bl true) hD (by omega) (fun i H1 hi s1=>⟨⟨vs,vs[i],SqL.of (s1 _ _ e1),List.getElem?_eq_getElem (by omega)⟩,⟨us,us[i],SqL.of (s1 _ _ e2),List.getElem?_eq_getElem (by omega)⟩⟩) (fun H1 s1=>.inl ⟨vs,SqL.of (s1 _ _ e1),by omega⟩) ?_ (fun _ _ _ _ _ _ _ r=>r) ?_ ?_
     ·rintro i H1 v H2 _ ⟨S,x,y,rfl,hS,rfl,_,_⟩;exact ai hS _
     ·rintro i x v H1 H2 out non hx s1 ⟨S,x1,x2,rfl,hS,rfl,a1,a2⟩ ho _;obtain ⟨z1,z2⟩:=List.getElem?_zip_eq_some.mp hx;have y1:=(a1 vs (SqL.of (s1 _ _ e1)));have y2:=(a2 us (SqL.of (s1 _ _ e2)));rw [z1] at y1;rw [z2] at y2;cases y1;cases y2;obtain ⟨d,t1,t2⟩:=j0 p1 p2 x (List.mem_of_getElem? hx);have s2:=s1.trans (ai hS (.tup [x.1,x.2]));refine ⟨S,[_,_],rfl,SqT.of ah,rfl,_,[_],rfl,_,[],rfl,rfl,?_⟩;walk_at "rd";exact ⟨n,d,by omega,aH s2 n t1,aH s2 n t2,fun H3 s3=>ho _ H3 rfl s3 rfl⟩
     ·intro H1 ws s1 e3 p3;rw [rF (F:=fun _ _ _=>True) (H:=H') p3] at e3;walk_at "rd";refine ⟨_,SqL.of e3,?_⟩;rw [x8];exact q H1 s1
    ·cases ed
   ·rcases h2 with ⟨e2,_⟩ | ⟨b,us,ds2,rfl,ed,e2,l2,p2⟩ | ⟨b,us,ds2,rfl,ed,e2,l2,p2⟩
    ·cases e2
    ·cases ed
    ·cases ed;walk_at "rd";rw [if_neg (by intro y; cases y)];refine .inr ⟨⟨_,e2⟩,.inr ⟨⟨_,e1⟩,.inr ⟨⟨_,e2⟩,.inr ⟨⟨_,e2⟩,fun σ' H'=>σ'=[some (.ref a),some (.ref b)]/\H'=H,.inr ⟨⟨_,e2⟩,.inr ⟨⟨_,e1⟩,rfl,rfl⟩⟩,?_⟩⟩⟩⟩;rintro σ' H' ⟨rfl,rfl⟩;walk_at "rd";have l3:=p1.length;have l4:=p2.length;have lz:(vs.zip us).length=vs.length:=by rw [List.length_zip]; omega
     refine ⟨vs,.inr (SqT.of e1),us,.inr (SqT.of e2),?_⟩;rw [if_pos (by omega)];refine .inr ⟨a,b,rfl,rfl,⟨_,e1⟩,⟨_,e2⟩,fun D hD=>?_⟩;refine sE (vs.zip us) (fun _=>true) (fun _ v _=>v=.bl true) hD (by omega) (fun i H1 hi s1=>⟨⟨vs,vs[i],s1 _ _ e1,List.getElem?_eq_getElem (by omega)⟩,⟨us,us[i],s1 _ _ e2,List.getElem?_eq_getElem (by omega)⟩⟩) (fun H1 s1=>.inl ⟨vs,s1 _ _ e1,by omega⟩) ?_ (fun _ _ _ _ _ _ _ r=>r) ?_ ?_
     ·rintro i H1 v H2 _ ⟨S,x,y,rfl,hS,rfl,_,_⟩;exact ai hS _
     ·rintro i x v H1 H2 out non hx s1 ⟨S,x1,x2,rfl,hS,rfl,a1,a2⟩ ho _;obtain ⟨z1,z2⟩:=List.getElem?_zip_eq_some.mp hx;have y1:=(a1 vs (s1 _ _ e1));have y2:=(a2 us (s1 _ _ e2));rw [z1] at y1;rw [z2] at y2;cases y1;cases y2;obtain ⟨d,t1,t2⟩:=j0 p1 p2 x (List.mem_of_getElem? hx);have s2:=s1.trans (ai hS (.tup [x.1,x.2]));refine ⟨S,[_,_],rfl,SqT.of ah,rfl,_,[_],rfl,_,[],rfl,rfl,?_⟩;walk_at "rd";exact ⟨n,d,by omega,aH s2 n t1,aH s2 n t2,fun H3 s3=>ho _ H3 rfl s3 rfl⟩
     ·intro H1 ws s1 e3 p3;rw [rF (F:=fun _ _ _=>True) (H:=H') p3] at e3;walk_at "rd";refine ⟨_,SqL.of e3,?_⟩;rw [x8];exact q H1 s1
theorem jq (T:Top K mg):Callee P w K mg base 11 "_law_same" ["_law_found", "_law_due"] (eF K 10):=pR T 10
theorem lF {α β:Type} {F:α -> β -> Prop}:∀ {xs:List α} {ds:List β},Paired F xs ds->∀ {i:Nat} {x:α},xs[i]? = some x->∃ d,ds[i]? = some d/\F x d
 | _,_,.nil,i,x,h=>by simp at h
 | _,_,.cons r p,0,x,h=>by simp at h; subst h; exact ⟨_,rfl,r⟩
 | _,_,.cons r p,i+1,x,h=>by simpa using lF p (by simpa using h)
noncomputable def cellN (ns:List Int) (k:Nat):Int:=if 0 < ns.length then (ns.getD (k % ns.length) 0) % 2147483647 else 0
noncomputable def drawN (ns:List Int) (k m:Nat):Nat:=((cellN ns k*(742938285+9973*(k:Int)*(k:Int))+(k:Int)*630360016) % 2147483647 / 97 % (m:Int)).toNat
theorem wL (ns:List Int) (k:Nat):0<=cellN ns k/\cellN ns k < 2147483647:=by
 unfold cellN;split
 ·exact ⟨Int.emod_nonneg _ (by decide),Int.emod_lt_of_pos _ (by decide)⟩
 ·decide
theorem hV (ns:List Int) (k:Nat) {m:Nat} (h:1<=m):drawN ns k m < m:=by
 unfold drawN;generalize (cellN ns k*(742938285+9973*(k:Int)*(k:Int))+(k:Int)*630360016) % 2147483647 / 97=z;have z0:0<=z % (m:Int):=Int.emod_nonneg _ (by omega);have z1:z % (m:Int) < m:=Int.emod_lt_of_pos _ (by omega);omega
noncomputable def bW (K:Frag):Sp:=fun vs H Q _=>match vs with
 | [.ref a,.int k,.int m]=>∃ (ns:List Int) (k0 m0:Nat),SqL K H a (ns.map V.int)/\k=(k0:Int)/\k0<=100000/\m=(m0:Int)/\1<=m0/\m0<=10000000000/\Q (.int (drawN ns k0 m0:Nat)) H
 | _=>False
theorem aj (T:Top K mg):Callee P w K mg base 1 "_law_draw" ["_law_script", "_law_k", "_law_many"] (bW K):=by
 refine T.nJ.cal gK (by intro vs H Q E h; unfold bW at h; split at h <;> first | rfl | exact h.elim) (fun _ _ _ _ _ _ us hl=>match us,hl with | [_,_,_],_=>rfl) (fun f cdv A outer s H vs Q E hr h=>?_);unfold bW at h;split at h
 case h_2=>exact h.elim
 refine ⟨_,(ae (ao (i:=3) gK.nd rfl lc ad)
   (dX (aE (aB lI (av (lenE K rfl) rfl T.bv aN (aa (qv 0) ac)) ad) (af (ao (i:=3) gK.nd rfl lc (am fA (az (ixE K rfl) (qv 0) (am fA (qv 1) (av (lenE K rfl) rfl T.bv aN (aa (qv 0) ac))) (fun _ _=>rfl)) ad))) ar)
   (ae (ao (i:=4) gK.nd rfl lc (am ak (am d4 (qv 3) (am ak ad (am d4 (am d4 ad (qv 1)) (qv 1)))) (am d4 (qv 1) ad)))
   (af (aw (am fA (am jg (am fA (qv 4) ad) ad) (qv 2))))))),?_⟩
 rename_i a k m;obtain ⟨ns,k0,m0,hS,rfl,hk1,rfl,hm0,hm1,q⟩:=h;walk_at "rd";refine ⟨fun σ' H'=>σ'=[some (.ref a),some (.int (k0:Nat)),some (.int (m0:Nat)),some (.int (cellN ns k0)),none]/\H'=H,⟨_,.inl hS,ite2 (fun g=>⟨_,.inl hS,by simpa using g,?_⟩) fun g=>?_⟩,?_⟩
 ·rw [List.length_map] at g ⊢;have hl:0 < ns.length:=by omega
  have hj:k0 % ns.length < ns.length:=Nat.mod_lt _ hl;refine ⟨_,V.int ns[k0 % ns.length],.inl hS,?_,?_⟩
  ·rw [show (k0:Int) % (ns.length:Int)=((k0 % ns.length:Nat):Int) by omega];exact aI (by rw [List.getElem?_map,List.getElem?_eq_getElem hj]; rfl)
  walk_at "rd";have e:cellN ns k0=ns[k0 % ns.length] % 2147483647:=by
   unfold cellN;rw [if_pos hl,List.getD_eq_getElem?_getD,List.getElem?_eq_getElem hj];rfl
  rw [e]
 ·rw [List.length_map] at g;have e:cellN ns k0=0:=by
   unfold cellN;rw [if_neg (by omega)]
  rw [e];exact ⟨rfl,rfl⟩
 ·rintro σ' H' ⟨rfl,rfl⟩;walk_at "rd";obtain ⟨c0,c1⟩:=wL ns k0;have hc (x:Int) (h0:0<=x) (h1:x<=2147483647):-(2 ^ 64) < x/\x < 2 ^ 64:=⟨Int.lt_of_lt_of_le (by decide) h0,Int.lt_of_le_of_lt h1 (by decide)⟩;refine ⟨.inr (hc k0 (by omega) (by omega)),.inr (hc k0 (by omega) (by omega)),.inl (hc _ c0 (by omega)),.inl (hc k0 (by omega) (by omega)),by omega,?_⟩;unfold drawN at q;rw [Int.toNat_of_nonneg (Int.emod_nonneg _ (by omega))] at q;exact q
theorem aA {H:Hp} {a:Addr} {k m:Int} {ns:List Int} {Q:VK} {E:XK} (hS:SqL K H a (ns.map V.int)) (hk0:0<=k) (hk1:k<=100000) (hm0:1<=m) (hm1:m<=10000000000) (q:∀ r:Nat,(r:Int) < m->Q (.int (r:Nat)) H):bW K [.ref a,.int k,.int m] H Q E:=
 ⟨ns,k.toNat,m.toNat,hS,by omega,by omega,by omega,by omega,by omega,q _ (by have:=hV ns k.toNat (m:=m.toNat) (by omega); omega)⟩
theorem jl {H:Hp} {a:Addr} {k m:Nat} {ns:List Int} {Q:VK} {E:XK} (hS:SqL K H a (ns.map V.int)) (hk1:k<=100000) (hm0:1<=m) (hm1:m<=10000000000) (q:Q (.int (drawN ns k m:Nat)) H):bW K [.ref a,.int (k:Int),.int (m:Int)] H Q E:=
 ⟨ns,k,m,hS,rfl,hk1,rfl,hm0,hm1,q⟩
noncomputable abbrev sgn (c:Nat):V:=V.str (st [c])
noncomputable abbrev nV (n:Nat):V:=V.int (n:Int)
theorem n6 {n x:Nat} (h:x < n):ixN n (x:Int)=some x:=by
 unfold ixN;simp;omega
theorem uE {α:Type} {l:List α} (h:1<=l.length) (N:Nat):∃ c,c ∈ l/\atI l ((N:Int) % (l.length:Int))=some c:=by
 have hj:N % l.length < l.length:=Nat.mod_lt _ (by omega);refine ⟨l[N % l.length],List.getElem_mem hj,?_⟩;rw [show ((N:Int) % (l.length:Int))=((N % l.length:Nat):Int) by omega];exact aI (List.getElem?_eq_getElem hj)
def OverL (ps r:List Nat):Prop:=∀ (i c:Nat),r[i]? = some c->c≠45->i ∈ ps
noncomputable def eM (K:Frag):Sp:=fun vs H Q _=>match vs with
 | [.int n,.ref p,.int w,.str menu]=>∃ (N W:Nat) (ps:List Nat),n=(N:Int)/\w=(W:Int)/\W<=1000/\SqL K H p (ps.map nV)/\(∀ x ∈ ps,x < W)/\1<=menu.cps.toList.length/\menu.cps.toList.length<=100 /\
   ∀ r H',Same H H'->r.length=W->(∀ c ∈ r,c=45\/c ∈ menu.cps.toList)->OverL ps r->Q (tx r) H'
 | _=>False
theorem k8 (T:Top K mg):Callee P w K mg base 1 "_law_signs" ["_law_number", "_law_places", "_law_width_here", "_law_menu"] (eM K):=by
 refine T.mv.cal fU (by intro vs H Q E h; unfold eM at h; split at h <;> first | rfl | exact h.elim) (fun _ _ _ _ _ _ us hl=>match us,hl with | [_,_,_,_],_=>rfl) (fun f cdv A outer s H vs Q E hr h=>?_);unfold eM at h;split at h
 case h_2=>exact h.elim
 refine ⟨_,(ae (ao (i:=4) fU.nd rfl lc (am zN (aL (aa (qs [45]) ac)) (qv 2)))
   (ae (br PassesOwn.never rfl (iterE K rfl (qv 1)) (al (i:=5) fU.nd rfl lc) (ae (fO (az (ixE K rfl) (qv 3) (am fA (qv 0) (av (lenE K rfl) rfl T.bv aN (aa (qv 3) ac))) (fun _ _=>rfl)) (qV (qv 4) (qv 5) mj (fun _=>rfl)))
   (af (ao (i:=0) fU.nd rfl lc (am jg (qv 0) (av (lenE K rfl) rfl T.bv aN (aa (qv 3) ac)))))))
   (af (aw (joinE K rfl (qv 4)))))),?_⟩
 rename_i n p w' z;obtain ⟨mn,rfl⟩:∃ x,z=st x:=⟨_,(cC z).symm⟩;obtain ⟨N,W,ps,rfl,rfl,hW,hS,hp,hm,hm2,q⟩:=h;simp only [aM] at hm hm2 q;walk_at "rd";refine ⟨by decide,fun p1 hp1=>⟨_,ah,by omega,by omega,by decide,fun g hg=>?_⟩⟩;have n1:=ai hp1 (.lst [V.str (st [45])]);have hg0:H g=none:=n1.free hg;have s1:=n1.trans (ai hg (.lst (List.replicate (W:Int).toNat [V.str (st [45])]).flatten));refine .inl ⟨⟨_,s1.seq hS⟩,?_⟩;refine tH nV ps (fun i σ H'=>∃ (M:Nat) (r:List Nat) (u:Option V),σ = [some (nV M),some (.ref p),some (nV W),some (.str (st mn)),some (.ref g),u]/\Same H H'/\H' g=some (.lst (r.map sgn))/\r.length=W/\(∀ c ∈ r,c=45\/c ∈ mn)/\OverL ps r)
  ⟨N,List.replicate W 45,none,rfl,s1,?_,by simp,fun c hc=>.inl (List.eq_of_mem_replicate hc),fun i c e n=>absurd (List.eq_of_mem_replicate (List.mem_of_getElem? e)) n⟩ (fun i σ H' _ ⟨_,_,_,_,z,_⟩=>z.seq hS) ?_ ?_
 ·rw [ah,Int.toNat_natCast];simp
 ·rintro i x σ H1 hx ⟨M,r,u,rfl,s2,e2,hl,hc,ho⟩;have hxW:=hp x (List.mem_of_getElem? hx);walk_at "rd";obtain ⟨c,hcm,ec⟩:=uE hm M;refine ⟨by omega,by omega,by omega,c,ec,_,x,e2,n6 (by rw [List.length_map]; omega),by omega,⟨by omega,by omega⟩,M / mn.length,r.set x c,_,rfl,aS s2 hg0,?_,by rw [List.length_set]; exact hl,fun d hd=>?_,fun j d e n=>?_⟩
  ·rw [ah,List.map_set]
  ·rcases List.mem_or_eq_of_mem_set hd with z | z
   ·exact hc d z
   ·rw [z];exact .inr hcm
  ·by_cases hj:x=j
   ·subst hj;exact List.mem_of_getElem? hx
   ·rw [List.getElem?_set_ne hj] at e;exact ho j d e n
 ·rintro σ H1 ⟨M,r,u,rfl,s2,e2,hl,hc,ho⟩;walk_at "rd";exact ⟨r,SqL.of e2,by omega,q r H1 s2 hl hc ho⟩
theorem tR {α:Type} {l:List α} {i:Nat} (h:i < l.length):∃ c,c ∈ l/\atI l (i:Int)=some c:=⟨l[i],List.getElem_mem h,aI (List.getElem?_eq_getElem h)⟩
theorem tw {cs:List Nat} {B:Nat} {vs:List V} (e:vs=cs.map nV) (h:∀ c ∈ cs,c<=B) {i:Nat} (hi:i < vs.length):∃ c,c<=B/\atI vs (i:Int)=some (nV c):=by
 subst e;obtain ⟨v,hv,ev⟩:=tR hi;obtain ⟨c,hc,rfl⟩:=List.mem_map.mp hv;exact ⟨c,h c hc,ev⟩
structure RuleOk (W:Nat) (r:Rule):Prop where
 row:RowL r.1
 rowN:r.1.length=W
 word:r.2.1=passT\/r.2.1=dropT
 over:RowL r.2.2
 overN:r.2.2.length=W
theorem uK {r m:List Nat} (h:∀ c ∈ r,c=45\/c ∈ m) (hm:RowL m):RowL r:=fun c hc=>by
 rcases h c hc with z | z
 ·exact .inr (.inr z)
 ·exact hm c z
theorem xX {H:Hp} {p:Addr} {N W:Nat} {ps m:List Nat} {Q:VK} {E:XK} (hW:W<=1000) (hS:SqL K H p (ps.map nV)) (hp:∀ x ∈ ps,x < W) (hm1:1<=m.length) (hm2:m.length<=100) (hm:RowL m) (q:∀ r H',Same H H'->r.length=W->RowL r->Q (tx r) H'):eM K [nV N,.ref p,nV W,.str (st m)] H Q E:=
 ⟨N,W,ps,rfl,rfl,hW,hS,hp,by simpa using hm1,by simpa using hm2,fun r H' s hl hc _=>q r H' s hl (uK (by simpa using hc) hm)⟩
theorem ua {H:Hp} {p:Addr} {N W:Nat} {ps m:List Nat} {Q:VK} {E:XK} (hW:W<=1000) (hS:SqL K H p (ps.map nV)) (hp:∀ x ∈ ps,x < W) (hm1:1<=m.length) (hm2:m.length<=100) (hm:RowL m) (q:∀ r H',Same H H'->r.length=W->RowL r->OverL ps r->Q (tx r) H'):eM K [nV N,.ref p,nV W,.str (st m)] H Q E:=
 ⟨N,W,ps,rfl,rfl,hW,hS,hp,by simpa using hm1,by simpa using hm2,fun r H' s hl hc ho=>q r H' s hl (uK (by simpa using hc) hm) ho⟩
noncomputable def jt (K:Frag):Sp:=fun vs H Q _=>match vs with
 | [.ref a,.int k,.ref p,.ref o,.int w]=>∃ (ns:List Int) (k0 W:Nat) (ps os:List Nat),SqL K H a (ns.map V.int)/\k=(k0:Int)/\k0<=50000/\w=(W:Int)/\W<=1000/\SqL K H p (ps.map nV)/\(∀ x ∈ ps,x < W)/\SqL K H o (os.map nV)/\(∀ x ∈ os,x < W) /\
   ∀ t H' (r:Rule),H t=none->Same H H'->H' t=some (.tup [tx r.1,tx r.2.1,tx r.2.2])->RuleOk W r->OverL os r.2.2->Q (.ref t) H'
 | _=>False
theorem rg (T:Top K mg):Callee P w K mg base 2 "_law_rule" ["_law_script", "_law_k", "_law_told_here", "_law_over_at", "_law_width_here"] (jt K):=by
 refine T.nH.cal gL (by intro vs H Q E h; unfold jt at h; split at h <;> first | rfl | exact h.elim) (fun _ _ _ _ _ _ us hl=>match us,hl with | [_,_,_,_,_],_=>rfl) (fun f cdv A outer s H vs Q E hr h=>?_);unfold jt at h;split at h
 case h_2=>exact h.elim
 refine ⟨_,(ae (ao (i:=5) gL.nd rfl lc (aq (k8 T) hr.m rfl (aa (aq (aj T) hr.m rfl (aa (qv 0) (aa (qv 1) (aa ad ac)))) (aa (qv 2) (aa (qv 4) (aa (qs [48,49,45,45,45]) ac))))))
   (ae (ao (i:=6) gL.nd rfl lc (aq (aj T) hr.m rfl (aa (qv 0) (aa (am ak (qv 1) ad) (aa ad ac)))))
   (ae (ao (i:=7) gL.nd rfl lc (aq (k8 T) hr.m rfl (aa (am jg (qv 6) ad) (aa (qv 3) (aa (qv 4) (aa (qs [48,49,45,45]) ac))))))
   (af (aw (aX (aa (qv 5) (aa (az (ixE K rfl) (aL (aa (qs [112,97,115,115]) (aa (qs [112,97,115,115]) (aa (qs [112,97,115,115]) (aa (qs [100,114,111,112]) ac))))) (am fA (qv 6) ad) (fun _ _=>rfl)) (aa (qv 7) ac))))))))),?_⟩
 rename_i a k p o w';obtain ⟨ns,k0,W,ps,os,hS,rfl,hk,rfl,hW,hP,hp,hO,ho,q⟩:=h;walk_at "rd";refine aA hS (by omega) (by omega) (by decide) (by decide) fun r1 hr1=>?_
 walk_at "rd";refine xX hW hP hp (by decide) (by decide) (by unfold RowL; decide) fun row H1 s1 hl1 hr1=>?_
 walk_at "rd";refine aA (s1.seq hS) (by omega) (by omega) (by decide) (by decide) fun r2 hr2=>?_
 walk_at "rd";rw [show ((r2:Int) / 4)=((r2 / 4:Nat):Int) by omega];refine ua hW (s1.seq hO) ho (by decide) (by decide) (by unfold RowL; decide) fun over H2 s2 hl2 hr2 hov=>?_
 refine ⟨by decide,fun t1 ht1=>?_⟩;have s3:=s1.trans (s2.trans (ai ht1 (.lst ([passT,passT,passT,dropT].map tx))));obtain ⟨v,hv,ev⟩:=uE (l:=[passT,passT,passT,dropT].map tx) (by decide) r2;refine ⟨_,v,.inl (SqL.of ah),ev,by decide,fun t2 ht2=>?_⟩;obtain ⟨wd,hwd,rfl⟩:=List.mem_map.mp hv;refine q t2 _ (row,wd,over) (s3.free ht2) (s3.trans (ai ht2 _)) ah ⟨hr1,hl1,?_,hr2,hl2⟩ hov;simp only [List.mem_cons,List.not_mem_nil,or_false] at hwd;rcases hwd with z | z | z | z
 ·exact .inl z
 ·exact .inl z
 ·exact .inl z
 ·exact .inr z
noncomputable def abc:List Nat:=(List.range 26).map (97+·)
theorem t8 {i:Nat} (h:i < 26):abc[i]? = some (97+i):=by
 unfold abc;rw [List.getElem?_map,List.getElem?_range h];rfl
def Low (l:List Nat):Prop:=∀ c ∈ l,97<=c/\c<=122
structure Names (n:Nat) (ls:List (List Nat)):Prop where
 len:ls.length=n
 nd:ls.Nodup
 low:∀ l ∈ ls,Low l
 short:∀ l ∈ ls,1<=l.length/\l.length<=8
 kind:(∃ c,∀ l ∈ ls,∃ k,l=List.replicate k c)\/∃ u v,∀ l ∈ ls,∃ c,l=u++[c]++v
theorem nq {n:Nat} (f:Nat->List Nat) (h:∀ i j,i < n->j < n->f i=f j->i=j):((List.range n).map f).Nodup:=by
 refine List.pairwise_map.mpr (List.Pairwise.imp_of_mem ?_ List.nodup_range);intro a b ha hb hab e;exact hab (h a b (List.mem_range.mp ha) (List.mem_range.mp hb) e)
theorem uk {n c:Nat} (hn:n<=8) (hc:97<=c/\c<=122):Names n ((List.range n).map fun j=>List.replicate (1+j) c) where
 len:=by simp
 nd:=nq _ fun i j _ _ e=>by
  have:=congrArg List.length e;simp at this;exact this
 low:=fun l hl=>by
  obtain ⟨j,_,rfl⟩:=List.mem_map.mp hl;exact fun d hd=>by rw [List.eq_of_mem_replicate hd]; exact hc
 short:=fun l hl=>by
  obtain ⟨j,hj,rfl⟩:=List.mem_map.mp hl;have:=List.mem_range.mp hj;simp;omega
 kind:=.inl ⟨c,fun l hl=>by
  obtain ⟨j,hj,rfl⟩:=List.mem_map.mp hl;exact ⟨_,rfl⟩⟩
theorem xb {n m s p:Nat} {b:List Nat} (hn:n<=8) (hb:Low b) (hl:b.length<=7) (hs:s=1\/s=7\/s=25\/s=11):Names n ((List.range n).map fun j=>b.take p++[97+(m+s*j) % 26]++b.drop p) where
 len:=by simp
 nd:=nq _ fun i j hi hj e=>by
  have e1:=List.append_cancel_right e;have e2:=List.append_cancel_left e1;have e3:97+(m+s*i) % 26=97+(m+s*j) % 26:=by simpa using e2
  rcases hs with rfl | rfl | rfl | rfl <;> omega
 low:=fun l hl=>by
  obtain ⟨j,_,rfl⟩:=List.mem_map.mp hl;intro d hd;rcases List.mem_append.mp hd with hd | hd
  ·rcases List.mem_append.mp hd with hd | hd
   ·exact hb d (List.mem_of_mem_take hd)
   ·rw [List.mem_singleton.mp hd];have:=Nat.mod_lt (m+s*j) (show 26 > 0 by decide);exact ⟨by omega,by omega⟩
  ·exact hb d (List.mem_of_mem_drop hd)
 short:=fun l hl=>by
  obtain ⟨j,_,rfl⟩:=List.mem_map.mp hl;simp;omega
 kind:=.inr ⟨b.take p,b.drop p,fun l hl=>by
  obtain ⟨j,hj,rfl⟩:=List.mem_map.mp hl;exact ⟨_,rfl⟩⟩
theorem fR {α β:Type} (f:α -> β) (l:List α):(l.flatMap fun x=>[f x])=l.map f:=by
 induction l with
 | nil=>rfl
 | cons x l ih=>rw [List.flatMap_cons,ih]; rfl
noncomputable def iX (K:Frag):Sp:=fun vs H Q _=>match vs with
 | [.ref a,.int k,.int m]=>∃ (ns:List Int) (k0 n:Nat),SqL K H a (ns.map V.int)/\k=(k0:Int)/\k0<=50000/\m=(n:Int)/\n<=8/\∀ p H' ls,H p=none->Same H H'->H' p=some (.lst (ls.map tx))->Names n ls->Q (.ref p) H'
 | _=>False
theorem eN (T:Top K mg):Callee P w K mg base 2 "_law_names" ["_law_script", "_law_k", "_law_many"] (iX K):=by
 refine T.mx.cal bY (by intro vs H Q E h; unfold iX at h; split at h <;> first | rfl | exact h.elim) (fun _ _ _ _ _ _ us hl=>match us,hl with | [_,_,_],_=>rfl) (fun f cdv A outer s H vs Q E hr h=>?_);unfold iX at h;split at h
 case h_2=>exact h.elim
 refine ⟨_,(ae (ao (i:=3) bY.nd rfl lc (qs [97,98,99,100,101,102,103,104,105,106,107,108,109,110,111,112,113,114,115,116,117,118,119,120,121,122]))
   (ae (ao (i:=4) bY.nd rfl lc (aq (aj T) hr.m rfl (aa (qv 0) (aa (qv 1) (aa ad ac)))))
   (ae (aE (aB bz (aq (aj T) hr.m rfl (aa (qv 0) (aa (am ak (qv 1) ad) (aa ad ac)))) ad) (af (aw (bU (nt:=1) (fi:=[3,4]) (N':=["_law_j", "_law_letters", "_law_start"]) rfl (cscope rfl (by decide +kernel)) (cnames (N:=["_law_script", "_law_k", "_law_many", "_law_letters", "_law_start", "_law_body", "_law_j", "_law_at", "_law_step"]) (sc:=defScope fw) rfl rfl (by decide +kernel)) (cE (by decide)) (bA rfl T.cF (qv 2)) (fun _ _ _ _ _=>(al (i:=0) (by show (["_law_j", "_law_letters", "_law_start"]:List Str).Nodup; decide +kernel) rfl lc)) (fun _ _ _ _ _=>bC) (fun _ _ _ _ _=>(am d4 (az (ixE K rfl) (qv 1) (qv 2) (fun _ _=>rfl)) (am ak ad (qv 0))))))) ar)
   (ae (ao (i:=5) bY.nd rfl lc (qs []))
   (ae (br PassesOwn.never rfl (bA rfl T.cF (aq (aj T) hr.m rfl (aa (qv 0) (aa (am ak (qv 1) ad) (aa ad ac))))) (al (i:=6) bY.nd rfl lc) (af (ao (i:=5) bY.nd rfl lc (am ak (qv 5) (az (ixE K rfl) (qv 3) (aq (aj T) hr.m rfl (aa (qv 0) (aa (am ak (am ak (qv 1) ad) (qv 6)) (aa ad ac)))) (fun _ _=>rfl))))))
   (ae (ao (i:=7) bY.nd rfl lc (aq (aj T) hr.m rfl (aa (qv 0) (aa (am ak (qv 1) ad) (aa (am ak (av (lenE K rfl) rfl T.bv aN (aa (qv 5) ac)) ad) ac)))))
   (ae (ao (i:=8) bY.nd rfl lc (az (ixE K rfl) (aL (aa ad (aa ad (aa ad (aa ad ac))))) (aq (aj T) hr.m rfl (aa (qv 0) (aa (am ak (qv 1) ad) (aa ad ac)))) (fun _ _=>rfl)))
   (af (aw (bU (nt:=1) (fi:=[5,3,7,4,8]) (N':=["_law_j", "_law_body", "_law_letters", "_law_at", "_law_start", "_law_step"]) rfl (cscope rfl (by decide +kernel)) (cnames (N:=["_law_script", "_law_k", "_law_many", "_law_letters", "_law_start", "_law_body", "_law_j", "_law_at", "_law_step"]) (sc:=defScope fw) rfl rfl (by decide +kernel)) (cE (by decide)) (bA rfl T.cF (qv 2)) (fun _ _ _ _ _=>(al (i:=0) (by show (["_law_j", "_law_body", "_law_letters", "_law_at", "_law_start", "_law_step"]:List Str).Nodup; decide +kernel) rfl lc)) (fun _ _ _ _ _=>bC) (fun _ _ _ _ _=>(am ak (am ak (dU (slE K rfl) (qv 1) fq (fu (qv 3))) (az (ixE K rfl) (qv 2) (am fA (am ak (qv 4) (am d4 (qv 5) (qv 0))) ad) (fun _ _=>rfl))) (dU (slE K rfl) (qv 1) (fu (qv 3)) fq))))))))))))),?_⟩
 rename_i a k m;obtain ⟨ns,k0,n,hS,rfl,hk,rfl,hn,q⟩:=h;walk_at "rd";refine aA hS (by omega) (by omega) (by decide) (by decide) fun r1 hr1=>?_
 walk_at "rd";refine aA hS (by omega) (by omega) (by decide) (by decide) fun r2 hr2=>?_
 walk_at "rd";rw [show ([97,98,99,100,101,102,103,104,105,106,107,108,109,110,111,112,113,114,115,116,117,118,119,120,121,122]:List Nat)=abc from rfl];have a26:abc.length=26:=rfl;have ar1:atI abc (r1:Int)=some (97+r1):=aI (t8 (by omega));refine ite2 (fun g=>⟨by omega,by omega,fun D hD=>?_⟩) fun g=>?_
 ·rw [Int.toNat_natCast];refine lH (lo:=0) (n:=n) (h:=fun j=>[tx (List.replicate (1+j) (97+r1))]) hD (by omega) (fun _=>by simp) ?_ ?_
  ·intro i H1 out non hi s1 ho _;walk_at "rd";refine ⟨by omega,_,ar1,by omega,by omega,?_⟩;rw [show (1+(i:Int)).toNat=1+i by omega];exact ho _ _ rfl (Same.refl _)
  ·intro H1 s1 e1;have ef:(List.range n).flatMap (fun j=>[tx (List.replicate (1+j) (97+r1))])=((List.range n).map fun j=>List.replicate (1+j) (97+r1)).map tx:=by
    rw [List.map_map];exact fR _ _
   rw [ef] at e1;exact q D H1 _ hD s1 e1 (uk hn ⟨by omega,by omega⟩)
 refine aA hS (by omega) (by omega) (by decide) (by decide) fun r3 hr3=>?_
 walk_at "rd";refine ⟨by omega,by omega,?_⟩;rw [Int.toNat_natCast];refine c9 (lo:=0) (n:=r3) (fun i σ H'=>∃ (b:List Nat) (u:Option V),σ = [some (.ref a),some (nV k0),some (nV n),some (.str (st abc)),some (nV r1),some (tx b),u,none,none]/\H'=H/\Low b/\b.length=i) ⟨[],none,rfl,rfl,fun c hc=>by simp at hc,rfl⟩ ?_ ?_
 ·rintro i σ H1 hi ⟨b,u,rfl,rfl,hb,hbl⟩;walk_at "rd";refine aA hS (by omega) (by omega) (by decide) (by decide) fun r4 hr4=>?_
  walk_at "rd";refine ⟨by omega,97+r4,aI (t8 (by omega)),?_⟩;walk_at "rd";refine ⟨by omega,b++[97+r4],_,rfl,fun c hc=>?_,by rw [List.length_append,hbl]; rfl⟩;rcases List.mem_append.mp hc with z | z
  ·exact hb c z
  ·rw [List.mem_singleton.mp z];exact ⟨by omega,by omega⟩
 ·rintro σ H1 ⟨b,u,rfl,rfl,hb,hbl⟩;walk_at "rd";refine ⟨by omega,aA hS (by omega) (by omega) (by omega) (by omega) fun r5 hr5=>⟨by decide,fun t1 ht1=>?_⟩⟩;have s1:=ai ht1 (.lst [V.int 1,V.int 7,V.int 25,V.int 11]);refine aA (s1.seq hS) (by omega) (by omega) (by decide) (by decide) fun r6 hr6=>?_
  obtain ⟨v,hv,ev⟩:=tR (l:=[V.int 1,V.int 7,V.int 25,V.int 11]) (i:=r6) (by show r6 < 4; omega);obtain ⟨st',rfl,hst⟩:∃ s:Nat,v=nV s/\(s=1\/s=7\/s=25\/s=11):=by
   simp only [List.mem_cons,List.not_mem_nil,or_false] at hv;rcases hv with rfl | rfl | rfl | rfl
   ·exact ⟨1,rfl,by simp⟩
   ·exact ⟨7,rfl,by simp⟩
   ·exact ⟨25,rfl,by simp⟩
   ·exact ⟨11,rfl,by simp⟩
  walk_at "rd";refine ⟨_,_,.inl (SqL.of ah),ev,by omega,by omega,fun D hD=>?_⟩;rw [Int.toNat_natCast];refine lH (lo:=0) (n:=n) (h:=fun j=>[tx (b.take r5++[97+(r1+st'*j) % 26]++b.drop r5)]) hD (by omega) (fun _=>by simp) ?_ ?_
  ·intro i H2 out non hi s2 ho _;walk_at "rd";have hm:=Nat.mod_lt (r1+st'*i) (show 26 > 0 by decide);have hl1:=List.length_take_le r5 b;have hl2:(b.drop r5).length<=b.length:=by rw [List.length_drop]; omega
   have e26:((r1:Int)+(st':Int)*(i:Int)) % 26=(((r1+st'*i) % 26:Nat):Int):=by
    rw [Int.natCast_emod,Int.natCast_add,Int.natCast_mul];rfl
   rw [Int.toNat_natCast,e26];refine ⟨by omega,by omega,by omega,.inr ⟨Int.lt_of_lt_of_le (by decide) (Int.natCast_nonneg i),Int.lt_of_lt_of_le (Int.ofNat_lt.mpr hi) (Int.le_trans (Int.ofNat_le.mpr hn) (by decide))⟩,by omega,_,aI (t8 hm),by omega,by omega,by omega,by omega,?_,ho _ _ rfl (Same.refl _)⟩;rw [List.length_append,List.length_singleton];omega
  ·intro H2 s2 e2;have ef:(List.range n).flatMap (fun j=>[tx (b.take r5++[97+(r1+st'*j) % 26]++b.drop r5)])=((List.range n).map fun j=>b.take r5++[97+(r1+st'*j) % 26]++b.drop r5).map tx:=by
    rw [List.map_map];exact fR _ _
   rw [ef] at e2;exact q D H2 _ (s1.free hD) (s1.trans s2) e2 (xb hn hb (by omega) hst)
structure LayOk (ls:List Fld):Prop where
 to:∃ a b,spanF ls toT 0=some (a,b)/\a < b/\b<=widthL ls
 w1:1<=widthL ls
 w2:widthL ls<=48
 len:ls.length<=3
 pos:∀ x ∈ ls,1<=x.2
 nd:(ls.map (·.1)).Nodup
 low:∀ x ∈ ls,Low x.1/\1<=x.1.length/\x.1.length<=8
theorem nB {α:Type} [DecidableEq α] (t:α):∀ l:List α,l.Nodup->l.length<=(l.filter fun x=>!decide (x=t)).length+1
 | [],_=>by simp
 | x::l,h=>by
  have h2:=(List.nodup_cons.mp h);by_cases e:x=t
  ·subst e;have:l.filter (fun y=>!decide (y=x))=l:=List.filter_eq_self.mpr fun y hy=>by
    have:¬ y=x:=fun z=>h2.1 (z ▸ hy)
    simp [this]
   rw [List.filter_cons_of_neg (by simp),this,List.length_cons];omega
  ·rw [List.filter_cons_of_pos (by simp [e]),List.length_cons,List.length_cons];have:=nB t l h2.2;omega
theorem qx {α:Type} (p:α -> Bool) (f:α -> V):∀ l:List α,(l.flatMap fun x=>if p x then [f x] else [])=(l.filter p).map f
 | []=>rfl
 | x::l=>by
  rw [List.flatMap_cons,qx p f l];by_cases h:p x=true
  ·rw [if_pos h,List.filter_cons_of_pos h];rfl
  ·rw [if_neg h,List.filter_cons_of_neg h];rfl
theorem toLow:Low toT/\1<=toT.length/\toT.length<=8:=⟨by unfold Low toT; decide,by decide,by decide⟩
theorem lay1 {S:Nat} (h1:1<=S) (h2:S<=14):LayOk [(toT,S)] where
 to:=⟨0,S,by simp [spanF],by omega,by simp [widthL]⟩
 w1:=by simp [widthL]; omega
 w2:=by simp [widthL]; omega
 len:=by simp
 pos:=fun x hx=>by rw [List.mem_singleton.mp hx]; exact h1
 nd:=by simp
 low:=fun x hx=>by rw [List.mem_singleton.mp hx]; exact toLow
structure NameOk (n:List Nat):Prop where
 low:Low n
 l1:1<=n.length
 l8:n.length<=8
theorem layAhead {S A:Nat} {n:List Nat} (h1:1<=S) (h2:S<=14) (a1:1<=A) (a2:A<=17) (hn:NameOk n) (ht:¬ n=toT):LayOk [(n,A),(toT,S)] where
 to:=⟨A,A+S,by simp [spanF,ht],by omega,by simp [widthL]⟩
 w1:=by simp [widthL]; omega
 w2:=by simp [widthL]; omega
 len:=by simp
 pos:=fun x hx=>by
  simp only [List.mem_cons,List.not_mem_nil,or_false] at hx;rcases hx with rfl | rfl
  ·exact a1
  ·exact h1
 nd:=by simpa using ht
 low:=fun x hx=>by
  simp only [List.mem_cons,List.not_mem_nil,or_false] at hx;rcases hx with rfl | rfl
  ·exact ⟨hn.1,hn.2,hn.3⟩
  ·exact toLow
theorem layBehind {ls:List Fld} {S A B:Nat} {n0 n:List Nat} (h1:1<=S) (h2:S<=14) (a1:1<=A) (a2:A<=17) (hn0:NameOk n0) (ht0:¬ n0=toT) (b1:1<=B) (b2:B<=17) (hn:NameOk n) (ht:¬ n=toT) (hd:¬ n0=n)
  (e:ls=[(toT,S)]\/ls=[(n0,A),(toT,S)]):LayOk (ls++[(n,B)]):=by
 rcases e with rfl | rfl
 ·refine ⟨⟨0,S,by simp [spanF],by omega,by simp [widthL]⟩,by simp [widthL]; omega,by simp [widthL]; omega,by simp,fun x hx=>?_,?_,fun x hx=>?_⟩
  ·simp only [List.mem_append,List.mem_cons,List.not_mem_nil,or_false] at hx;rcases hx with rfl | rfl
   ·exact h1
   ·exact b1
  ·simpa using fun z=>ht z.symm
  ·simp only [List.mem_append,List.mem_cons,List.not_mem_nil,or_false] at hx;rcases hx with rfl | rfl
   ·exact toLow
   ·exact ⟨hn.1,hn.2,hn.3⟩
 ·refine ⟨⟨A,A+S,by simp [spanF,ht0],by omega,by simp [widthL]⟩,by simp [widthL]; omega,by simp [widthL]; omega,by simp,fun x hx=>?_,?_,fun x hx=>?_⟩
  ·simp only [List.mem_append,List.mem_cons,List.not_mem_nil,or_false] at hx;rcases hx with (rfl | rfl) | rfl
   ·exact a1
   ·exact h1
   ·exact b1
  ·simp [ht0,hd];exact fun z=>ht z.symm
  ·simp only [List.mem_append,List.mem_cons,List.not_mem_nil,or_false] at hx;rcases hx with (rfl | rfl) | rfl
   ·exact ⟨hn0.1,hn0.2,hn0.3⟩
   ·exact toLow
   ·exact ⟨hn.1,hn.2,hn.3⟩
noncomputable def wF (ns:List Int):Nat:=if drawN ns 3 4=0 then 1+drawN ns 4 14+drawN ns 5 18+drawN ns 6 18 else 1+drawN ns 0 3+drawN ns 1 2+drawN ns 2 2
noncomputable def hJ (K:Frag):Sp:=fun vs H Q _=>match vs with
 | [.ref a]=>∃ ns:List Int,SqL K H a (ns.map V.int)/\∀ p H' ls,H p=none->Same H H'->Lay H' p ls->LayOk ls->widthL ls=wF ns->Q (.ref p) H'
 | _=>False
theorem ke (T:Top K mg):Callee P w K mg base 3 "_law_layout" ["_law_script"] (hJ K):=by
 refine T.li.cal bq (by intro vs H Q E h; unfold hJ at h; split at h <;> first | rfl | exact h.elim) (fun _ _ _ _ _ _ us hl=>match us,hl with | [_],_=>rfl) (fun f cdv A outer s H vs Q E hr h=>?_);unfold hJ at h;split at h
 case h_2=>exact h.elim
 refine ⟨_,(ae (ao (i:=1) bq.nd rfl lc (am ak ad (aq (aj T) hr.m rfl (aa (qv 0) (aa ad (aa ad ac))))))
   (ae (ao (i:=2) bq.nd rfl lc (aq (aj T) hr.m rfl (aa (qv 0) (aa ad (aa ad ac)))))
   (ae (ao (i:=3) bq.nd rfl lc (aq (aj T) hr.m rfl (aa (qv 0) (aa ad (aa ad ac)))))
   (dX (aE (aB bz (aq (aj T) hr.m rfl (aa (qv 0) (aa ad (aa ad ac)))) ad) (ae (ao (i:=1) bq.nd rfl lc (am ak ad (aq (aj T) hr.m rfl (aa (qv 0) (aa ad (aa ad ac))))))
   (ae (ao (i:=2) bq.nd rfl lc (aq (aj T) hr.m rfl (aa (qv 0) (aa ad (aa ad ac)))))
   (af (ao (i:=3) bq.nd rfl lc (aq (aj T) hr.m rfl (aa (qv 0) (aa ad (aa ad ac)))))))) ar)
   (ae (kK (i:=4) (nt:=1) (fi:=[]) (N':=["_law_name"]) bq.nd rfl lc rfl (cscope rfl (by decide +kernel)) (cnames (N:=["_law_script", "_law_size", "_law_ahead", "_law_behind", "_law_names_here", "_law_layout_here"]) (sc:=defScope fX) rfl rfl (by decide +kernel)) (cE (by decide)) (iterE K rfl (aq (eN T) hr.m rfl (aa (qv 0) (aa ad (aa ad ac))))) (fun _ _ _ _ _=>(al (i:=0) (by show (["_law_name"]:List Str).Nodup; decide +kernel) rfl lc)) (fun _ _ _ _ _=>(oq (aB oJ (qv 0) (qs [116,111])))) (fun _ _ _ _ _=>(qv 0)))
   (ae (ao (i:=5) bq.nd rfl lc (aL (aa (aX (aa (qs [116,111]) (aa (qv 1) ac))) ac)))
   (dX (aE (aB lI (qv 2) ad) (af (aF (eE (qv 5) ad (aX (aa (az (ixE K rfl) (qv 4) ad (fun _ _=>rfl)) (aa (qv 2) ac)))))) ar)
   (dX (aE (aB lI (qv 3) ad) (af (aF (dh (qv 5) (aX (aa (az (ixE K rfl) (qv 4) ad (fun _ _=>rfl)) (aa (qv 3) ac)))))) ar)
   (af (aw (qv 5))))))))))),?_⟩
 rename_i a;obtain ⟨ns,hS,q⟩:=h;have d1:=hV ns 0 (m:=3) (by decide);have d2:=hV ns 1 (m:=2) (by decide);have d3:=hV ns 2 (m:=2) (by decide);have d5:=hV ns 4 (m:=14) (by decide);have d6:=hV ns 5 (m:=18) (by decide);have d7:=hV ns 6 (m:=18) (by decide);walk_at "rd";refine jl (k:=0) (m:=3) hS (by omega) (by decide) (by decide) ?_;walk_at "rd";refine jl (k:=1) (m:=2) hS (by omega) (by decide) (by decide) ?_;walk_at "rd";refine jl (k:=2) (m:=2) hS (by omega) (by decide) (by decide) ?_;walk_at "rd";refine ⟨fun σ' H'=>∃ S A B:Nat,σ'=[some (.ref a),some (nV S),some (nV A),some (nV B),none,none]/\H'=H/\1<=S/\S<=14/\A<=17/\B<=17/\S+A+B=wF ns,?_,?_⟩
 ·refine jl (k:=3) (m:=4) hS (by omega) (by decide) (by decide) ?_;walk_at "rd";refine ite2 (fun g0=>?_) fun g0=>⟨1+drawN ns 0 3,drawN ns 1 2,drawN ns 2 2,by simp,by omega,by omega,by omega,by omega,by unfold wF; rw [if_neg (by omega)]⟩
  refine jl (k:=4) (m:=14) hS (by omega) (by decide) (by decide) ?_;walk_at "rd";refine jl (k:=5) (m:=18) hS (by omega) (by decide) (by decide) ?_;refine jl (k:=6) (m:=18) hS (by omega) (by decide) (by decide) ?_;exact ⟨1+drawN ns 4 14,drawN ns 5 18,drawN ns 6 18,by simp,rfl,by omega,by omega,by omega,by omega,by unfold wF; rw [if_pos (by omega)]⟩
 rintro σ' H'' ⟨S,A',B,rfl,rfl,hS1,hS2,hA,hB,hwF⟩;walk_at "rd";refine ⟨ns,7,4,hS,rfl,by decide,rfl,by decide,fun pn H1 nm hpn s1 e1 N=>?_⟩;walk_at "rd";refine .inl ⟨⟨_,SqL.of e1⟩,fun D hD=>?_⟩;refine fh (item:=tx) (xs:=nm) (h:=fun l=>if (!decide (l=toT)) then [tx l] else []) hD (SqL.of e1) (by rw [N.len]; decide) (fun l=>by split <;> simp) ?_ ?_
 ·intro l H2 out non hl s2 ho hno;walk_at "rd";refine ite2 (fun g=>?_) fun g=>?_
  ·exact hno H2 (by rw [if_neg (by simp [show l=toT from g])]) (Same.refl _)
  ·exact ho _ H2 (by rw [if_pos (by simpa using (show ¬ l=toT from g))]) (Same.refl _)
 ·intro H2 s2 e2;rw [qx] at e2;have hm:=nB toT nm N.nd;rw [N.len] at hm;have hmn:=N.nd.filter (fun x=>!decide (x=toT));have hmem:∀ l ∈ nm.filter (fun x=>!decide (x=toT)),NameOk l/\¬ l=toT:=fun l hl=>by
   obtain ⟨h1,h2⟩:=List.mem_filter.mp hl;exact ⟨⟨N.low l h1,(N.short l h1).1,(N.short l h1).2⟩,by simpa using h2⟩
  generalize nm.filter (fun x=>!decide (x=toT))=ms at e2 hm hmn hmem;have s12:=s1.trans s2;walk_at "rd";obtain ⟨n0,n1,m2,rfl⟩:∃ n0 n1 m2,ms=n0::n1::m2:=by
   match ms,hm with
   | [],hm=>simp at hm
   | [_],hm=>simp at hm
   | n0::n1::m2,_=>exact ⟨n0,n1,m2,rfl⟩
  obtain ⟨k0,k1⟩:=hmem n0 (by simp);obtain ⟨k2,k3⟩:=hmem n1 (by simp);have k4:¬ n0=n1:=fun z=>by simp [z] at hmn
  refine ⟨by decide,fun p0 hp0=>⟨by decide,fun p1 hp1=>?_⟩⟩;have sa:=ai hp0 (.tup [V.str (st [116,111]),nV S]);have sb:=ai hp1 (.lst [V.ref p0]);have sab:=s12.trans (sa.trans sb);have hp1':=s12.free (sa.free hp1);have ne01:p0≠p1:=fun z=>by rw [<- z,ah] at hp1; cases hp1
  have eD:=(sa.trans sb) _ _ e2;refine ⟨fun σ' H'=>∃ ls,σ'=[some (.ref a),some (nV S),some (nV A'),some (nV B),some (.ref D),some (.ref p1)]/\Same H'' H'/\H' D=some (.lst ((n0::n1::m2).map tx))/\Lay H' p1 ls/\((A'=0/\ls=[(toT,S)])\/(1<=A'/\ls=[(n0,A'),(toT,S)])),?_,?_⟩
  ·refine ite2 (fun gA=>⟨⟨_,ah⟩,_,tx n0,.inl (SqL.of eD),show atI _ ((0:Nat):Int)=_ from aI rfl,by decide,fun p2 hp2=>⟨[V.ref p0],0,rfl,?_,by simp,by simp,?_⟩⟩) fun gA=>⟨[(toT,S)],rfl,sab,eD,⟨_,ah,.cons ⟨p0,rfl,?_⟩ .nil⟩,.inl ⟨by omega,rfl⟩⟩
   ·rw [aC (fun z=>by rw [<- z,ah] at hp2; cases hp2),ah]
   ·have ne12:p2≠p1:=fun z=>by rw [z,ah] at hp2; cases hp2
    have ne02:p0≠p2:=fun z=>by rw [<- z,aC ne01,ah] at hp2; cases hp2
    have sc:=sab.trans (ai hp2 (.tup [tx n0,nV A']));have neD:D≠p1:=fun z=>by rw [z,ah] at eD; cases eD
    have neD2:D≠p2:=fun z=>by rw [<- z,eD] at hp2; cases hp2
    refine ⟨[(n0,A'),(toT,S)],rfl,aS sc hp1',?_,⟨_,ah,.cons ⟨p2,rfl,?_⟩ (.cons ⟨p0,rfl,?_⟩ .nil)⟩,.inr ⟨by omega,rfl⟩⟩
    ·rw [aC neD,aC neD2];exact eD
    ·rw [aC ne12,ah]
    ·rw [aC ne01,aC ne02,aC ne01,ah];rfl
   ·rw [aC ne01,ah];rfl
  ·rintro σ' H3 ⟨ls,rfl,s3,e3,⟨vs,e4,pr⟩,hls⟩;walk_at "rd";refine ⟨fun σ' H'=>∃ ls,σ'=[some (.ref a),some (nV S),some (nV A'),some (nV B),some (.ref D),some (.ref p1)]/\Same H'' H'/\Lay H' p1 ls/\LayOk ls/\widthL ls=wF ns,?_,?_⟩
   ·refine ite2 (fun gB=>⟨⟨_,e4⟩,_,tx n1,.inl (SqL.of e3),show atI _ ((1:Nat):Int)=_ from aI rfl,by decide,fun p4 hp4=>⟨vs,?_,?_,?_⟩⟩) fun gB=>⟨ls,rfl,s3,⟨vs,e4,pr⟩,?_,?_⟩
    ·rw [aC (fun z=>by rw [<- z,e4] at hp4; cases hp4)];exact e4
    ·have:=pr.length;refine Nat.lt_of_le_of_lt ?_ (sizeBig (n:=3) (by decide));rcases hls with ⟨_,rfl⟩ | ⟨_,rfl⟩
     ·simp at this; omega
     ·simp at this; omega
    ·have ne41:p4≠p1:=fun z=>by rw [z,e4] at hp4; cases hp4
     have s4:=ai hp4 (.tup [tx n1,nV B]);refine ⟨ls++[(n1,B)],rfl,aS (s3.trans s4) hp1',⟨_,ah,?_⟩,?_,?_⟩
     ·refine fe (qu (fun t us z=>?_) pr) ⟨p4,rfl,?_⟩
      ·rw [aC (fun y=>by rw [y,e4] at z; cases z)];exact s4 _ _ z
      ·rw [aC ne41,ah]
     ·rcases hls with ⟨_,rfl⟩ | ⟨hA1,rfl⟩
      ·exact layBehind (A:=1) hS1 hS2 (by decide) (by decide) k0 k1 (by omega) hB k2 k3 k4 (.inl rfl)
      ·exact layBehind hS1 hS2 hA1 hA k0 k1 (by omega) hB k2 k3 k4 (.inr rfl)
     ·rcases hls with ⟨_,rfl⟩ | ⟨hA1,rfl⟩
      ·simp [widthL]; omega
      ·simp [widthL]; omega
    ·rcases hls with ⟨_,rfl⟩ | ⟨hA1,rfl⟩
     ·exact lay1 hS1 hS2
     ·exact layAhead hS1 hS2 hA1 hA k0 k1
    ·rcases hls with ⟨_,rfl⟩ | ⟨hA1,rfl⟩
     ·simp [widthL]; omega
     ·simp [widthL]; omega
   ·rintro σ' H4 ⟨ls',rfl,s4,hL,ok,hwf⟩;walk_at "rd";exact q p1 H4 ls' hp1' s4 hL ok hwf
structure ToldOk (W:Nat) (ps:List Nat):Prop where
 l1:1<=ps.length
 l5:ps.length<=5
 lt:∀ x ∈ ps,x < W
 nd:ps.Nodup
theorem sI:∀ ms:List Int,(∀ x ∈ ms,0<=x)->ms.map V.int=(ms.map Int.toNat).map nV
 | [],_=>rfl
 | x::ms,h=>by
  rw [List.map_cons,List.map_cons,List.map_cons,sI ms fun y hy=>h y (List.mem_cons_of_mem _ hy),nV,show ((x.toNat:Nat):Int)=x from Int.toNat_of_nonneg (h x List.mem_cons_self)]
noncomputable def jL (K:Frag):Sp:=fun vs H Q _=>match vs with
 | [.ref a,.ref p]=>∃ (ns:List Int) (ls:List Fld),SqL K H a (ns.map V.int)/\Lay H p ls/\LayOk ls/\∀ (q:Addr) (H':Hp) (ps:List Nat),H q=none->Same H H'->H' q=some (.lst (ps.map nV))->ToldOk (widthL ls) ps->Q (.ref q) H'
 | _=>False
theorem rd (T:Top K mg):Callee P w K mg base 2 "_law_told" ["_law_script", "_law_layout_here"] (jL K):=by
 refine T.nN.cal d9 (by intro vs H Q E h; unfold jL at h; split at h <;> first | rfl | exact h.elim) (fun _ _ _ _ _ _ us hl=>match us,hl with | [_,_],_=>rfl) (fun f cdv A outer s H vs Q E hr h=>?_);unfold jL at h;split at h
 case h_2=>exact h.elim
 refine ⟨_,(ae (ao (i:=2) d9.nd rfl lc (aq (iI T) hr.m rfl (aa (qv 1) ac)))
   (ae (aE (aB ye (qv 2) ad) (af (aw (ut rfl rfl T.nu rfl T.cF (qv 2)))) ar)
   (ae (fO (aq (jF T) hr.m rfl (aa (qv 1) ac)) (seqE K rfl rfl (n:=2) (ap (al (i:=3) d9.nd rfl lc) (ap (al (i:=4) d9.nd rfl lc) aR))))
   (ae (ao (i:=5) d9.nd rfl lc (sy rfl rfl T.nu rfl T.cF (qv 3) (av (o6 rfl) rfl T.ym xI (aa (qv 4) (aa (am ak (qv 3) ad) ac)))))
   (ae (br PassesOwn.never rfl (bA rfl T.cF (aq (aj T) hr.m rfl (aa (qv 0) (aa ad (aa ad ac))))) (al (i:=6) d9.nd rfl lc) (af (aF (dh (qv 5) (aq (aj T) hr.m rfl (aa (qv 0) (aa (am ak ad (qv 6)) (aa (qv 2) ac))))))))
   (af (aw (sD (K:=K) rfl rfl rfl T.tG rfl T.Ae (qv 5))))))))),?_⟩
 rename_i a p;obtain ⟨ns,ls,hS,hL,ok,q⟩:=h;have w1:=ok.w1;have w2:=ok.w2;have hlen:=ok.len;walk_at "rd";refine ⟨ls,hL,by omega,fun H1 s1=>?_⟩;walk_at "rd";generalize eW:widthL ls=W at *;have hL1:=hL.same s1;refine ite2 (fun g=>⟨Int.le_trans (by decide) (Int.natCast_nonneg W),by omega,fun t1 ht1=>?_⟩) fun g=>?_
 ·rw [Int.toNat_natCast];refine q t1 _ (List.range W) (s1.free ht1) (s1.trans (ai ht1 _)) ah ⟨by simp; omega,by simp; omega,fun x hx=>List.mem_range.mp hx,List.nodup_range⟩
 obtain ⟨fa,fb,esp,hab,hb⟩:=ok.to;rw [eW] at hb;have eG:spanG ls=(fa,fb):=by unfold spanG; rw [esp]; rfl
 refine ⟨ls,hL1,fun t1 H2 ht1 s2 e1=>?_⟩;rw [eG] at e1;have s12:=s1.trans s2;refine ⟨[_,_],.inr (SqT.of e1),rfl,_,[_],rfl,_,[],rfl,rfl,?_⟩;walk_at "rd";obtain ⟨e,ee,he1,he2,he3⟩:∃ e:Nat,(if (fa:Int)+3 < (fb:Int) then (fa:Int)+3 else (fb:Int))=(e:Int)/\fa < e/\e<=fb/\e<=fa+3:=by
  split
  ·exact ⟨fa+3,by omega,by omega,by omega,by omega⟩
  ·exact ⟨fb,rfl,by omega,by omega,by omega⟩
 rw [ee,show ((e:Int) - (fa:Int)).toNat=e - fa by omega];have el:(List.range (e - fa)).map (fun k:Nat=>V.int ((fa:Int)+(k:Int)))=((List.range (e - fa)).map (fa+·)).map nV:=by
  rw [List.map_map];refine List.map_congr_left fun k _=>?_
  show V.int _=V.int _;rw [Int.natCast_add]
 rw [el];refine ⟨by omega,by omega,by omega,by omega,fun p1 hp1=>?_⟩;have hp1':=s12.free hp1;have s3:=ai hp1 (.lst (((List.range (e - fa)).map (fa+·)).map nV));have s13:=s12.trans s3;refine aA (s13.seq hS) (by decide) (by decide) (by decide) (by decide) fun r1 hr1=>?_
 walk_at "rd";refine ⟨by omega,by omega,?_⟩;rw [Int.toNat_natCast];refine c9 (lo:=0) (n:=r1) (fun i σ H'=>∃ (ps:List Nat) (u:Option V),σ = [some (.ref a),some (.ref p),some (nV W),some (nV fa),some (nV fb),some (.ref p1),u]/\Same H H'/\H' p1=some (.lst (ps.map nV))/\1<=ps.length/\ps.length<=3+i/\∀ x ∈ ps,x < W)
  ⟨_,none,rfl,s13,ah,by simp; omega,by simp; omega,fun x hx=>?_⟩ ?_ ?_
 ·obtain ⟨k,hk,rfl⟩:=List.mem_map.mp hx;have:=List.mem_range.mp hk;omega
 ·rintro i σ H3 hi ⟨ps,u,rfl,s4,e4,l1,l2,hlt⟩;walk_at "rd";refine ⟨⟨_,e4⟩,aA (s4.seq hS) (by omega) (by omega) (by omega) (by omega) fun r2 hr2=>?_⟩;refine ⟨_,e4,sizeBig (by rw [List.length_map]; omega),ps++[r2],_,rfl,aS s4 hp1',?_,by simp,by simp; omega,fun x hx=>?_⟩
  ·rw [ah,List.map_append];rfl
  ·rcases List.mem_append.mp hx with z | z
   ·exact hlt x z
   ·rw [List.mem_singleton.mp z];omega
 ·rintro σ H3 ⟨ps,u,rfl,s4,e4,l1,l2,hlt⟩;walk_at "rd";have em:ps.map nV=(ps.map fun x:Nat=>(x:Int)).map V.int:=by rw [List.map_map]; rfl
  refine ⟨ps.map fun x:Nat=>(x:Int),SqL.of (by rw [<- em]; exact e4),by rw [List.length_map]; omega,fun t2 ms ht2 hmem hml _ hnd=>?_⟩;rw [List.length_map] at hml;have hpos:∀ x ∈ ms,∃ y,y ∈ ps/\x=(y:Int):=fun x hx=>by
   obtain ⟨y,hy,rfl⟩:=List.mem_map.mp ((hmem x).mp hx);exact ⟨y,hy,rfl⟩
  rw [sI ms fun x hx=>by obtain ⟨y,_,rfl⟩:=hpos x hx; omega];refine q t2 _ (ms.map Int.toNat) (s4.free ht2) (s4.trans (ai ht2 _)) ah ⟨?_,by rw [List.length_map]; omega,fun x hx=>?_,?_⟩
  ·rw [List.length_map];obtain ⟨x,hx⟩:=List.exists_mem_of_length_pos (l:=ps) (by omega);have:=(hmem (x:Int)).mpr (List.mem_map.mpr ⟨x,hx,rfl⟩);exact List.length_pos_of_mem this
  ·obtain ⟨z,hz,rfl⟩:=List.mem_map.mp hx;obtain ⟨y,hy,rfl⟩:=hpos z hz;exact hlt y hy
  ·refine List.pairwise_map.mpr (List.Pairwise.imp_of_mem ?_ hnd);intro x y hx hy hne ez;obtain ⟨x',_,rfl⟩:=hpos x hx;obtain ⟨y',_,rfl⟩:=hpos y hy;exact hne (congrArg Int.ofNat (by simpa using ez))
structure WaysOk (S:Nat) (ds:List (List Nat)) (ws:List Way):Prop where
 n:∀ x ∈ ws,x.1.length<=S
 bits:∀ x ∈ ws,∀ c ∈ x.1,c=48\/c=49
 door:∀ x ∈ ws,x.2 ∈ ds
 nd:(ws.map (·.1)).Nodup
noncomputable def insW {α:Type} (l:List α) (i:Nat) (x:α):List α:=l.take i++x::l.drop i
theorem mX {α:Type} (l:List α) (i:Nat) (x:α):(insW l i x).Perm (x::l):=by
 unfold insW;refine List.perm_middle.trans ?_;rw [List.take_append_drop]
theorem oK {α β:Type} {F:α -> β -> Prop} {x:α} {y:β} (r:F x y):∀ {l:List α} {m:List β} (i:Nat),Paired F l m->Paired F (insW l i x) (insW m i y)
 | _,_,0,p=>by unfold insW; exact .cons r p
 | _,_,i+1,.nil=>by unfold insW; exact .cons r .nil
 | _,_,i+1,.cons r' p=>by
  have:=oK r i p;unfold insW at this ⊢;exact .cons r' this
theorem x0 {S:Nat} {ds:List (List Nat)} {ws:List Way} (ok:WaysOk S ds ws) (x:Way) (i:Nat) (h1:x.1.length<=S) (h2:∀ c ∈ x.1,c=48\/c=49) (h3:x.2 ∈ ds) (h4:x.1 ∉ ws.map (·.1)):WaysOk S ds (insW ws i x):=by
 have hm:∀ y,y ∈ insW ws i x->y=x\/y ∈ ws:=fun y hy=>List.mem_cons.mp ((mX ws i x).mem_iff.mp hy)
 refine ⟨fun y hy=>?_,fun y hy=>?_,fun y hy=>?_,?_⟩
 ·rcases hm y hy with rfl | z
  ·exact h1
  ·exact ok.n y z
 ·rcases hm y hy with rfl | z
  ·exact h2
  ·exact ok.bits y z
 ·rcases hm y hy with rfl | z
  ·exact h3
  ·exact ok.door y z
 ·rw [((mX ws i x).map _).nodup_iff,List.map_cons,List.nodup_cons];exact ⟨h4,ok.nd⟩
theorem gj (n:List Nat) (l:List (List Nat)):inV (tx n) (l.map tx)=decide (n ∈ l):=by
 unfold inV
 induction l with
 | nil=>simp
 | cons d l ih=>
  rw [List.map_cons,List.any_cons,ih];simp only [eqV,List.mem_cons];have stj:st n=st d ↔ n=d:=⟨fun h=>by simpa using congrArg (fun x:Str=>x.cps.toList) h,fun h=>by rw [h]⟩;by_cases h:n=d
  ·subst h; simp
  ·have h2:¬ d=n:=fun z=>h z.symm
   simp [h,h2]
theorem eT (l:List (List Nat)):(l.map tx).all flatV=true:=by
 rw [List.all_eq_true];intro v hv;obtain ⟨c,_,rfl⟩:=List.mem_map.mp hv;rfl
noncomputable def jC (K:Frag):Sp:=fun vs H Q _=>match vs with
 | [.ref a,.int k,.ref d,.int z]=>∃ (ns:List Int) (k0 S:Nat) (ds:List (List Nat)),SqL K H a (ns.map V.int)/\k=(k0:Int)/\k0<=50000/\z=(S:Int)/\S<=1000/\SqL K H d (ds.map tx)/\ds.length<=100 /\
   ∀ p H' ws,H p=none->Same H H'->Ways H' p ws->WaysOk S ds ws->ws.length<=4->Q (.ref p) H'
 | _=>False
theorem rN (T:Top K mg):Callee P w K mg base 2 "_law_ways" ["_law_script", "_law_k", "_law_doors", "_law_size"] (jC K):=by
 refine T.nL.cal bE (by intro vs H Q E h; unfold jC at h; split at h <;> first | rfl | exact h.elim) (fun _ _ _ _ _ _ us hl=>match us,hl with | [_,_,_,_],_=>rfl) (fun f cdv A outer s H vs Q E hr h=>?_);unfold jC at h;split at h
 case h_2=>exact h.elim
 refine ⟨_,(ae (ao (i:=4) bE.nd rfl lc (aL ac))
   (ae (aE (aB (eqNilE K rfl (hu1 hr)) (qv 2) (aL ac)) (af (aw (qv 4))) ar)
   (ae (br PassesOwn.never rfl (bA rfl T.cF (az (ixE K rfl) (aL (aa ad (aa ad (aa ad (aa ad (aa ad (aa ad (aa ad ac)))))))) (aq (aj T) hr.m rfl (aa (qv 0) (aa (qv 1) (aa ad ac)))) (fun _ _=>rfl))) (al (i:=5) bE.nd rfl lc) (ae (ao (i:=6) bE.nd rfl lc (am ak ad (aq (aj T) hr.m rfl (aa (qv 0) (aa (am ak (am ak (qv 1) ad) (qv 5)) (aa ad ac))))))
   (dX (aE (PW.pt (xx (aB bz (qv 5) ad) (uU (aB lI (aq (aj T) hr.m rfl (aa (qv 0) (aa (am ak (qv 1) ad) (aa ad ac)))) ad)))) (af (ao (i:=6) bE.nd rfl lc ad)) ar)
   (ae (ao (i:=7) bE.nd rfl lc (qs []))
   (ae (x5 PassesOwn.never (aB lI (qv 6) ad) (ae (ao (i:=7) bE.nd rfl lc (am ak (ni vJ rfl T.mz kj (aa (am fA (qv 6) ad) ac)) (qv 7)))
   (af (ao (i:=6) bE.nd rfl lc (am jg (qv 6) ad)))))
   (ae (ao (i:=7) bE.nd rfl lc (dU slF (qv 7) fq (fu (av (o6 rfl) rfl T.ym xI (aa (qv 3) (aa ad ac))))))
   (af (aE (aB (notinE K rfl) (qv 7) (bU (nt:=1) (fi:=[]) (N':=["_law_way"]) rfl (cscope rfl (by decide +kernel)) (cnames (N:=["_law_script", "_law_k", "_law_doors", "_law_size", "_law_ways_here", "_law_j", "_law_number", "_law_beginning", "_law_door"]) (sc:=defScope iz) rfl rfl (by decide +kernel)) (cE (by decide)) (iterE K rfl (qv 4)) (fun _ _ _ _ _=>(al (i:=0) (by show (["_law_way"]:List Str).Nodup; decide +kernel) rfl lc)) (fun _ _ _ _ _=>bC) (fun _ _ _ _ _=>(az (ixE K rfl) (qv 0) ad (fun _ _=>rfl))))) (ae (ao (i:=8) bE.nd rfl lc (az (ixE K rfl) (qv 2) (aq (aj T) hr.m rfl (aa (qv 0) (aa (am ak (am ak (qv 1) ad) (qv 5)) (aa (av (lenE K rfl) rfl T.bv aN (aa (qv 2) ac)) ac)))) (fun _ _=>rfl)))
   (af (aF (eE (qv 4) (aq (aj T) hr.m rfl (aa (qv 0) (aa (am ak (am ak (qv 1) ad) (qv 5)) (aa (am ak (av (lenE K rfl) rfl T.bv aN (aa (qv 4) ac)) ad) ac)))) (aX (aa (qv 7) (aa (qv 8) ac))))))) ar))))))))
   (af (aw (qv 4)))))),?_⟩
 rename_i a k d z;obtain ⟨ns,k0,S,ds,hS,rfl,hk,rfl,hSz,hd,hdl,q⟩:=h;walk_at "rd";refine ⟨Nat.zero_le _,fun g hg=>?_⟩;have s1:=ai hg (.lst []);have w0:Ways (upd H g (.lst [])) g []:=⟨[],ah,.nil⟩;have ok0:WaysOk S ds []:=⟨fun x hx=>by simp at hx,fun x hx=>by simp at hx,fun x hx=>by simp at hx,by simp⟩;refine ⟨Nat.zero_le _,fun t1 ht1=>⟨_,(s1.trans (ai ht1 _)).seq hd,SqL.of ah,?_⟩⟩;have s2:=s1.trans (ai ht1 (.lst []));have w1:=w0.same (ai ht1 (.lst []));refine ite2 (fun ge=>q g _ [] hg s2 w1 ok0 (by simp)) fun ge=>⟨by decide,fun t2 ht2=>?_⟩
 have hd1:1<=ds.length:=by
  cases ds with
  | nil=>exact absurd rfl ge
  | cons _ _=>simp
 have s3:=s2.trans (ai ht2 (.lst [V.int 0,V.int 1,V.int 2,V.int 3,V.int 4,V.int 1,V.int 2]));have w2:=w1.same (ai ht2 (.lst [V.int 0,V.int 1,V.int 2,V.int 3,V.int 4,V.int 1,V.int 2]));refine aA (s3.seq hS) (by omega) (by omega) (by decide) (by decide) fun r1 hr1=>?_
 obtain ⟨c,hc,ec⟩:=tw (cs:=[0,1,2,3,4,1,2]) (B:=4) (vs:=[V.int 0,V.int 1,V.int 2,V.int 3,V.int 4,V.int 1,V.int 2]) rfl (by decide) (i:=r1) (by show r1 < 7; omega);walk_at "rd";refine ⟨_,_,.inl (SqL.of ah),ec,?_⟩;walk_at "rd";refine ⟨by omega,by omega,?_⟩;rw [Int.toNat_natCast];refine c9 (lo:=0) (n:=c) (fun i σ H'=>∃ (ws:List Way) (u5 u6 u7 u8:Option V),σ = [some (.ref a),some (nV k0),some (.ref d),some (nV S),some (.ref g),u5,u6,u7,u8]/\Same H H'/\Ways H' g ws/\WaysOk S ds ws/\ws.length<=i)
  ⟨[],none,none,none,none,rfl,s3,w2,ok0,by simp⟩ ?_ ?_
 ·rintro i σ H1 hi ⟨ws,u5,u6,u7,u8,rfl,s4,hw,ok,hwl⟩;walk_at "rd";refine aA (s4.seq hS) (by omega) (by omega) (by decide) (by decide) fun r2 hr2=>?_
  walk_at "rd";refine ⟨fun σ' H'=>∃ M:Nat,σ'=[some (.ref a),some (nV k0),some (.ref d),some (nV S),some (.ref g),some (nV i),some (nV M),u7,u8]/\H1=H'/\M<=15,?_,?_⟩
  ·refine ite2 (fun _=>aA (s4.seq hS) (by omega) (by omega) (by decide) (by decide) fun r3 hr3=>?_) fun _=>⟨1+r2,by simp,rfl,by omega⟩
   walk_at "rd";exact ite2 (fun _=>⟨1,rfl,by decide⟩) fun _=>⟨1+r2,by simp,by omega⟩
  rintro σ' H' ⟨M,rfl,rfl,hM⟩;walk_at "rd";refine ⟨fun m σ' H'=>∃ (b:List Nat),σ'=[some (.ref a),some (nV k0),some (.ref d),some (nV S),some (.ref g),some (nV i),some (nV m),some (tx b),u8]/\H1=H'/\(∀ c ∈ b,c=48\/c=49)/\b.length+m<=16,⟨M,[],rfl,rfl,fun c hc=>by simp at hc,by simp; omega⟩,?_⟩;rintro m σ' H2 ⟨b,rfl,rfl,hb,hbm⟩;walk_at "rd";refine ite2 (fun gm=>⟨fun σ' H'=>∃ b,σ'=[some (.ref a),some (nV k0),some (.ref d),some (nV S),some (.ref g),some (nV i),some (nV (m / 2)),some (tx b),u8]/\H1=H'/\(∀ c ∈ b,c=48\/c=49)/\b.length+m / 2<=16,?_,by omega,by omega,?_⟩) fun gm=>?_
  ·rintro σ' H' ⟨b',rfl,rfl,h1,h2⟩;exact ⟨m / 2,by omega,b',rfl,rfl,h1,h2⟩
  ·refine ⟨(48+((m:Int) % 2).toNat)::b,rfl,rfl,fun c hc=>?_,by rw [List.length_cons]; omega⟩;rcases List.mem_cons.mp hc with rfl | hc
   ·omega
   ·exact hb c hc
  obtain ⟨e,ee,he1,he2⟩:∃ e:Nat,(if (3:Int) < (S:Int) then (3:Int) else (S:Int))=(e:Int)/\e<=S/\e<=3:=by
   split
   ·exact ⟨3,rfl,by omega,by omega⟩
   ·exact ⟨S,rfl,by omega,by omega⟩
  rw [ee,Int.toNat_natCast];have hbt:∀ c ∈ b.take e,c=48\/c=49:=fun c hc=>hb c (List.mem_of_mem_take hc)
  have hbl:(b.take e).length<=S:=by rw [List.length_take]; omega
  generalize b.take e=bg at hbt hbl ⊢;obtain ⟨vs,e1,pr⟩:=id hw;have hvl:=pr.length;obtain ⟨z1,z2⟩:=dE pr;refine ⟨by omega,by omega,.inl ⟨⟨_,SqL.of e1⟩,fun D hD=>?_⟩⟩;refine fh (item:=fun x:Way × V=>x.2) (xs:=ws.zip vs) (h:=fun x=>[tx x.1.1]) hD (by rw [z1]; exact SqL.of e1) (by rw [List.length_zip]; omega) (fun _=>by simp) ?_ ?_
  ·intro x H2 out non hx s5 ho _;obtain ⟨t,ex,et⟩:=z2 x hx;rw [ex];walk_at "rd";refine ⟨_,_,.inr (SqT.of (s5 _ _ et)),rfl,?_⟩;exact ho _ _ rfl (Same.refl _)
  intro H2 s5 e2;rw [show (ws.zip vs).flatMap (fun x=>[tx x.1.1])=(ws.map (·.1)).map tx by
   rw [fR (fun x:Way × V=>tx x.1.1)]
   conv=>rhs; rw [<- gJ (l:=ws) (m:=vs) hvl,List.map_map,List.map_map]
   rfl] at e2
  walk_at "rd";refine ⟨_,.inl (SqL.of e2),rfl,eT _,?_⟩;rw [show V.str (st bg)=tx bg from rfl,gj];walk_at "rd";have s45:=s4.trans s5;refine ite2 (fun gi=>⟨ws,_,_,_,_,rfl,s45,hw.same s5,ok,by omega⟩) fun gi=>?_
  refine ⟨_,.inl (s45.seq hd),aA (s45.seq hS) (by omega) (by omega) (by rw [List.length_map]; omega) (by rw [List.length_map]; omega) fun r4 hr4=>?_⟩;rw [List.length_map] at hr4;obtain ⟨dv,hdv,edv⟩:=tR (l:=ds.map tx) (i:=r4) (by rw [List.length_map]; omega);obtain ⟨dn,hdn,rfl⟩:=List.mem_map.mp hdv;walk_at "rd";have e1':=s5 _ _ e1;refine ⟨_,_,.inl (s45.seq hd),edv,⟨_,e1'⟩,_,.inl (SqL.of e1'),aA (s45.seq hS) (by omega) (by omega) (by omega) (by omega) fun r5 hr5=>⟨by decide,fun t5 ht5=>?_⟩⟩;have s6:=ai ht5 (.tup [tx bg,tx dn]);have ng5:g≠t5:=fun z=>by rw [<- z,e1'] at ht5; cases ht5
  refine ⟨vs,r5,rfl,s6 _ _ e1',by omega,by omega,insW ws r5 (bg,dn),_,_,_,_,rfl,aS (s45.trans s6) hg,⟨_,ah,?_⟩,x0 ok (bg,dn) r5 hbl hbt hdn (by simpa using gi),?_⟩
  ·refine oK (F:=WayAt _) ⟨t5,rfl,?_⟩ r5 (L2.Paired.mapP pr ?_)
   ·rw [aC (Ne.symm ng5),ah]
   ·rintro x v ⟨t,rfl,et⟩;refine ⟨t,rfl,?_⟩;rw [aC (fun z=>by rw [z,e1] at et; cases et)];exact s6 _ _ (s5 _ _ et)
  ·have:=(mX ws r5 (bg,dn)).length_eq;rw [this,List.length_cons];omega
 ·rintro σ H1 ⟨ws,u5,u6,u7,u8,rfl,s4,hw,ok,hwl⟩;walk_at "rd";exact q g H1 ws hg s4 hw ok (by omega)
structure HouseOk (W S:Nat) (pl:List (List Nat)) (hs:House):Prop where
 nd:(hs.1.map (·.1)).Nodup
 door:∀ x ∈ hs.1,x.1 ∈ pl
 g3:hs.1.length<=3
 rules:∀ x ∈ hs.1,∀ r ∈ x.2,RuleOk W r
 many:∀ x ∈ hs.1,x.2.length<=300
 ways:WaysOk S (hs.1.map (·.1)) hs.2
 w8:hs.2.length<=8
theorem k9 {α β:Type} {F:β -> V->Prop} {P:β -> Prop}:∀ {l:List α} {vs:List V},Paired (fun _ v=>∃ b,P b/\F b v) l vs->∃ bs:List β,Paired F bs vs/\bs.length=l.length/\∀ b ∈ bs,P b
 | _,_,.nil=>⟨[],.nil,rfl,fun b hb=>by simp at hb⟩
 | _,_,.cons ⟨b,h1,h2⟩ p=>by
  obtain ⟨bs,h3,h4,h5⟩:=k9 p;refine ⟨b::bs,.cons h2 h3,by simp [h4],fun c hc=>?_⟩;rcases List.mem_cons.mp hc with rfl | hc
  ·exact h1
  ·exact h5 c hc
def GateB (gl:Addr) (F:Addr->Prop) (H:Hp) (x:Gate) (v:V):Prop:=∃ t r,v=.ref t/\(r≠gl/\F r)/\H t=some (.tup [tx x.1,.ref r])/\Rules H r x.2
theorem ug {gl:Addr} {F:Addr->Prop} {H H':Hp} (s:Same H H') {gs:List Gate} {vs:List V} (p:Paired (GateB gl F H) gs vs):Paired (GateB gl F H') gs vs:=
 L2.Paired.mapP p fun _ _ ⟨t,r,e,n,h1,h2⟩=>⟨t,r,e,n,s _ _ h1,h2.same s⟩
theorem qz {gl r:Addr} {H:Hp} {us us':List V} {rs:List Rule} (h:H gl=some (.lst us)) (n:r≠gl) (hr:Rules H r rs):Rules (upd H gl (.lst us')) r rs:=by
 obtain ⟨vs,e,pr⟩:=hr;refine ⟨vs,?_,lD (cZ h) pr⟩;rw [aC n];exact e
theorem vP {gl:Addr} {F:Addr->Prop} {H:Hp} {us us':List V} (h:H gl=some (.lst us)) {gs:List Gate} {vs:List V} (p:Paired (GateB gl F H) gs vs):Paired (GateB gl F (upd H gl (.lst us'))) gs vs:=
 L2.Paired.mapP p fun _ _ ⟨t,r,e,n,h1,h2⟩=>⟨t,r,e,n,cZ h _ _ h1,qz h n.1 h2⟩
def GateN (N:Addr->Prop) (H:Hp) (x:Gate) (v:V):Prop:=∃ t r,v=.ref t/\N r/\H t=some (.tup [tx x.1,.ref r])/\Rules H r x.2
structure HouseN (F:Addr->Prop) (H:Hp) (q g w:Addr) (hs:House):Prop where
 tup:H q=some (.tup [.ref g,.ref w])
 ne:g≠w
 gates:∃ vs,H g=some (.lst vs)/\Paired (GateN (fun r=>r≠g/\r≠w/\F r) H) hs.1 vs
 ways:Ways H w hs.2
theorem HouseN.at {F:Addr->Prop} {H:Hp} {q g w:Addr} {hs:House} (h:HouseN F H q g w hs):HouseAt H q hs:=by
 obtain ⟨vs,e,p⟩:=h.gates;exact ⟨g,w,h.tup,⟨vs,e,L2.Paired.mapP p fun _ _ ⟨t,r,e,_,h1,h2⟩=>⟨t,r,e,h1,h2⟩⟩,h.ways⟩
theorem HouseN.same {F:Addr->Prop} {H H':Hp} {q g w:Addr} {hs:House} (h:HouseN F H q g w hs) (s:Same H H'):HouseN F H' q g w hs:=by
 obtain ⟨vs,e,p⟩:=h.gates;exact ⟨s _ _ h.tup,h.ne,⟨vs,s _ _ e,L2.Paired.mapP p fun _ _ ⟨t,r,e,n,h1,h2⟩=>⟨t,r,e,n,s _ _ h1,h2.same s⟩⟩,h.ways.same s⟩
theorem xP {pl:List (List Nat)} (N:Names 5 pl) {r1 c:Nat} (hc:c<=3):((List.range c).map fun j=>pl.getD ((r1+j) % 5) []).Nodup:=by
 refine nq _ fun i j hi hj e=>?_
 have hl:=N.len;have h1:(r1+i) % 5 < pl.length:=by rw [hl]; exact Nat.mod_lt _ (by decide)
 have h2:(r1+j) % 5 < pl.length:=by rw [hl]; exact Nat.mod_lt _ (by decide)
 simp only [List.getD_eq_getElem?_getD,List.getElem?_eq_getElem h1,List.getElem?_eq_getElem h2,Option.getD_some] at e;have:=(List.getElem_inj N.nd).mp e;omega
noncomputable def iZ (K:Frag):Sp:=fun vs H Q _=>match vs with
 | [.ref a,.int k,.ref t,.ref p,.ref o]=>∃ (ns:List Int) (k0:Nat) (ps:List Nat) (ls:List Fld) (pl:List (List Nat)),SqL K H a (ns.map V.int)/\k=(k0:Int)/\k0<=10000/\SqL K H t (ps.map nV)/\ToldOk (widthL ls) ps/\Lay H p ls/\LayOk ls/\SqL K H o (pl.map tx)/\Names 5 pl /\
   ∀ (q g w:Addr) (H':Hp) (hs:House),H q=none->H g=none->H w=none->Same H H'->HouseN (fun r=>H r=none) H' q g w hs->HouseOk (widthL ls) ((spanG ls).2 - (spanG ls).1) pl hs->hs.2.length<=4->(∀ x ∈ hs.1,∀ r ∈ x.2,OverL ps r.2.2)->Q (.ref q) H'
 | _=>False
theorem tE {H:Hp}:∀ (n:Nat) {v:V} {d:D},Th H n v d->Th H (n+1) v d
 | 0,_,_,h=>.inl h
 | n+1,_,_,.inl h=>.inl h
 | n+1,_,_,.inr (.inl ⟨a,vs,ds,e1,e2,e3,e4,p⟩)=>.inr (.inl ⟨a,vs,ds,e1,e2,e3,e4,L2.Paired.mapP p fun _ _ z=>tE n z⟩)
 | n+1,_,_,.inr (.inr ⟨a,vs,ds,e1,e2,e3,e4,p⟩)=>.inr (.inr ⟨a,vs,ds,e1,e2,e3,e4,L2.Paired.mapP p fun _ _ z=>tE n z⟩)
theorem fg {α β γ:Type} {F:α -> β -> Prop} {G:β -> γ -> Prop} {f:α -> γ} (h:∀ x v,F x v->G v (f x)):∀ {l:List α} {vs:List β},Paired F l vs->Paired G vs (l.map f)
 | _,_,.nil=>.nil
 | _,_,.cons r p=>.cons (h _ _ r) (fg h p)
theorem nA {α β γ:Type} {F:α -> β -> Prop} {G:β -> γ -> Prop} {f:α -> γ} (h:∀ x v,G v (f x)->F x v):∀ {l:List α} {vs:List β},Paired G vs (l.map f)->Paired F l vs
 | [],_,p=>by cases p; exact .nil
 | x::l,_,p=>by
  cases p with
  | cons r p=>exact .cons (h _ _ r) (nA h p)
theorem yQ {H:Hp} {n:Nat} {v:V} {ds:List D} (h:Th H (n+1) v (.l ds)):∃ a vs,v=.ref a/\H a=some (.lst vs)/\Paired (Th H n) vs ds:=by
 rcases h with ⟨e,_⟩ | ⟨a,vs,ds',e1,e2,e3,_,p⟩ | ⟨a,vs,ds',e1,e2,e3,_,p⟩
 ·cases e
 ·cases e2; exact ⟨a,vs,e1,e3,p⟩
 ·cases e2
theorem vR {H:Hp} {n:Nat} {v:V} {ds:List D} (h:Th H (n+1) v (.t ds)):∃ a vs,v=.ref a/\H a=some (.tup vs)/\Paired (Th H n) vs ds:=by
 rcases h with ⟨e,_⟩ | ⟨a,vs,ds',e1,e2,e3,_,p⟩ | ⟨a,vs,ds',e1,e2,e3,_,p⟩
 ·cases e
 ·cases e2
 ·cases e2; exact ⟨a,vs,e1,e3,p⟩
theorem rP {H:Hp} {n:Nat} {a:Addr} {vs:List V} {ds:List D} (e:H a=some (.lst vs)) (hl:vs.length<=1000) (p:Paired (Th H n) vs ds):Th H (n+1) (.ref a) (.l ds):=.inr (.inl ⟨a,vs,ds,rfl,rfl,e,hl,p⟩)
theorem kb {H:Hp} {n:Nat} {a:Addr} {vs:List V} {ds:List D} (e:H a=some (.tup vs)) (hl:vs.length<=1000) (p:Paired (Th H n) vs ds):Th H (n+1) (.ref a) (.t ds):=.inr (.inr ⟨a,vs,ds,rfl,rfl,e,hl,p⟩)
theorem A7 {H:Hp} {x:Fld} {v:V} (n:Nat) (h:FldAt H x v):Th H (n+1) v (fldD x):=by
 obtain ⟨t,rfl,e⟩:=h;exact kb e (by simp) (.cons (bj n rfl) (.cons (bj n rfl) .nil))
theorem rb {H:Hp} {x:Way} {v:V} (n:Nat) (h:WayAt H x v):Th H (n+1) v (wayD x):=by
 obtain ⟨t,rfl,e⟩:=h;exact kb e (by simp) (.cons (bj n rfl) (.cons (bj n rfl) .nil))
theorem lT {H:Hp} {x:Way} {v:V} {n:Nat} (h:Th H (n+1) v (wayD x)):WayAt H x v:=by
 obtain ⟨a,vs,rfl,e,p⟩:=vR h;cases p with
 | cons r p=>cases p with
  | cons r2 p=>
   cases p;rw [dD r,dD r2] at e;exact ⟨a,rfl,e⟩
theorem zE {H:Hp} {x:Rule} {v:V} (n:Nat) (h:RuleAt H x v):Th H (n+1) v (ruleD x):=by
 obtain ⟨t,rfl,e⟩:=h;exact kb e (by simp) (.cons (bj n rfl) (.cons (bj n rfl) (.cons (bj n rfl) .nil)))
noncomputable def layD (ls:List Fld):D:=.l (ls.map fldD)
noncomputable def gateD (x:Gate):D:=.t [.f (tx x.1),.l (x.2.map ruleD)]
noncomputable def houseD (h:House):D:=.t [.l (h.1.map gateD),.l (h.2.map wayD)]
theorem AM {H:Hp} {p:Addr} {ls:List Fld} (n:Nat) (h:Lay H p ls) (hl:ls.length<=1000):Th H (n+2) (.ref p) (layD ls):=by
 obtain ⟨vs,e,pr⟩:=h;exact rP e (by rw [<- pr.length]; exact hl) (fg (fun x v z=>A7 n z) pr)
theorem xD {H:Hp} {p:Addr} {rs:List Rule} (n:Nat) (h:Rules H p rs) (hl:rs.length<=1000):Th H (n+2) (.ref p) (.l (rs.map ruleD)):=by
 obtain ⟨vs,e,pr⟩:=h;exact rP e (by rw [<- pr.length]; exact hl) (fg (fun x v z=>zE n z) pr)
theorem wW {H:Hp} {t:Addr} {hs:House} (n:Nat) (h:HouseAt H t hs) (h1:hs.1.length<=1000) (h2:hs.2.length<=1000) (h3:∀ x ∈ hs.1,x.2.length<=1000):Th H (n+5) (.ref t) (houseD hs):=by
 obtain ⟨g,w,e,⟨vs,eg,pg⟩,⟨us,ew,pw⟩⟩:=h;refine kb e (by simp) (.cons (rP eg (by rw [<- pg.length]; exact h1) ?_) (.cons (rP ew (by rw [<- pw.length]; exact h2) (fg (fun x v z=>rb (n+2) z) pw)) .nil));clear eg e ew pw h1 h2;obtain ⟨gs,ws⟩:=hs;dsimp only at pg h3 ⊢
 induction pg with
 | nil=>exact .nil
 | cons r p ih=>
  refine .cons ?_ (ih fun x hx=>h3 x (List.mem_cons_of_mem _ hx));obtain ⟨t',q,rfl,e,hq⟩:=r;exact kb e (by simp) (.cons (bj (n+2) rfl) (.cons (xD n hq (h3 _ List.mem_cons_self)) .nil))
noncomputable abbrev Named:=List Nat × House
def NamedAt (H:Hp) (x:Named) (v:V):Prop:=∃ t q,v=.ref t/\H t=some (.tup [tx x.1,.ref q])/\HouseAt H q x.2
def Houses (H:Hp) (p:Addr) (hs:List Named):Prop:=∃ vs,H p=some (.lst vs)/\Paired (NamedAt H) hs vs
theorem Houses.same {H H':Hp} {p:Addr} {hs:List Named} (h:Houses H p hs) (s:Same H H'):Houses H' p hs:=by
 obtain ⟨vs,e,pr⟩:=h;exact ⟨vs,s _ _ e,L2.Paired.mapP pr fun _ _ ⟨t,q,e,h1,h2⟩=>⟨t,q,e,s _ _ h1,h2.same s⟩⟩
noncomputable def spotsOf (hs:List Named):List Way:=hs.flatMap fun x=>x.2.1.map fun g=>(x.1,g.1)
theorem oE {α β:Type} {F:α -> β -> Prop}:∀ {l l':List α} {m m':List β},Paired F l m->Paired F l' m'->Paired F (l++l') (m++m')
 | _,_,_,_,.nil,q=>q
 | _,_,_,_,.cons r p,q=>.cons r (oE p q)
theorem nE {α β γ:Type} {F:β -> γ -> Prop} {f:α -> β}:∀ {l:List α} {vs:List γ},Paired (fun x v=>F (f x) v) l vs->Paired F (l.map f) vs
 | _,_,.nil=>.nil
 | _,_,.cons r p=>.cons r (nE p)
theorem wq {hs:List Named} {c:Nat} (h:∀ x ∈ hs,x.2.1.length<=c):(spotsOf hs).length<=hs.length*c:=by
 unfold spotsOf
 induction hs with
 | nil=>simp
 | cons x hs ih=>
  have h1:=h x List.mem_cons_self;have h2:=ih fun y hy=>h y (List.mem_cons_of_mem _ hy)
  rw [List.flatMap_cons,List.length_append,List.length_map,List.length_cons,Nat.add_mul];omega
noncomputable abbrev Line:=Way × Way
def LineAt (H:Hp) (x:Line) (v:V):Prop:=∃ t u1 u2,v=.ref t/\H t=some (.tup [u1,u2])/\WayAt H x.1 u1/\WayAt H x.2 u2
def Lines (H:Hp) (p:Addr) (ls:List Line):Prop:=∃ vs,H p=some (.lst vs)/\Paired (LineAt H) ls vs
theorem mZ {H H':Hp} (k:∀ t vs,H t=some (.tup vs)->H' t=some (.tup vs)) {x:Line} {v:V} (h:LineAt H x v):LineAt H' x v:=by
 obtain ⟨t,u1,u2,e,h1,⟨a,ea,ha⟩,⟨b,eb,hb⟩⟩:=h;exact ⟨t,u1,u2,e,k _ _ h1,⟨a,ea,k _ _ ha⟩,⟨b,eb,k _ _ hb⟩⟩
theorem Lines.same {H H':Hp} {p:Addr} {ls:List Line} (h:Lines H p ls) (s:Same H H'):Lines H' p ls:=by
 obtain ⟨vs,e,pr⟩:=h;exact ⟨vs,s _ _ e,L2.Paired.mapP pr fun _ _ z=>mZ (fun t us q=>s _ _ q) z⟩
noncomputable def endsOf (ls:List Line):List Way:=ls.flatMap fun x=>[x.1,x.2]
theorem jO {α β:Type} {F:α -> β -> Prop}:∀ {l:List α} {m:List β} (i:Nat),Paired F l m->Paired F (l.eraseIdx i) (m.eraseIdx i)
 | _,_,_,.nil=>.nil
 | _,_,0,.cons r p=>p
 | _,_,i+1,.cons r p=>.cons r (jO i p)
noncomputable def iV (K:Frag):Sp:=fun vs H Q _=>match vs with
 | [.ref a,.ref p]=>∃ (ns:List Int) (sp:List Way),SqL K H a (ns.map V.int)/\Ways H p sp/\sp.length<=1000/\sp.Nodup /\
   ∀ (c:Addr) (H':Hp) (ls:List Line),H c=none->Same H H'->Lines H' c ls->(endsOf ls).Nodup->(∀ s ∈ endsOf ls,s ∈ sp)->ls.length<=500->Q (.ref c) H'
 | _=>False
theorem qd (T:Top K mg):Callee P w K mg base 2 "_law_lines" ["_law_script", "_law_spots_here"] (iV K):=by
 refine T.mt.cal dL (by intro vs H Q E h; unfold iV at h; split at h <;> first | rfl | exact h.elim) (fun _ _ _ _ _ _ us hl=>match us,hl with | [_,_],_=>rfl) (fun f cdv A outer s H vs Q E hr h=>?_);unfold iV at h;split at h
 case h_2=>exact h.elim
 refine ⟨_,(ae (ao (i:=2) dL.nd rfl lc (ni (uB K rfl rfl) rfl T.nu lP (aa (qv 1) ac)))
   (ae (ao (i:=3) dL.nd rfl lc (am jg (av (lenE K rfl) rfl T.bv aN (aa (qv 1) ac)) ad))
   (ae (ao (i:=4) dL.nd rfl lc (aL ac))
   (ae (br PassesOwn.never rfl (bA rfl T.cF (av (tY rfl) rfl T.Ad Az (aa (aq (aj T) hr.m rfl (aa (qv 0) (aa ad (aa (am ak (qv 3) ad) ac)))) (aa (aq (aj T) hr.m rfl (aa (qv 0) (aa ad (aa (am ak (qv 3) ad) ac)))) ac)))) (al (i:=5) dL.nd rfl lc) (ae (ao (i:=6) dL.nd rfl lc (sB (qv 2) (aq (aj T) hr.m rfl (aa (qv 0) (aa (am ak ad (am d4 ad (qv 5))) (aa (av (lenE K rfl) rfl T.bv aN (aa (qv 2) ac)) ac))))))
   (af (aF (dh (qv 4) (aX (aa (qv 6) (aa (sB (qv 2) (aq (aj T) hr.m rfl (aa (qv 0) (aa (am ak ad (am d4 ad (qv 5))) (aa (av (lenE K rfl) rfl T.bv aN (aa (qv 2) ac)) ac))))) ac))))))))
   (af (aw (qv 4))))))),?_⟩
 rename_i a p;obtain ⟨ns,sp,hS,⟨vs,e0,pr⟩,hl,hnd,q⟩:=h;have hvl:=pr.length;walk_at "rd";refine ⟨_,.inl (SqL.of e0),fun P hP=>?_⟩;have s1:=ai hP (.lst vs);refine ⟨_,.inl (SqL.of (s1 _ _ e0)),?_⟩;refine ⟨Nat.zero_le _,fun c hc=>?_⟩;have s2:=s1.trans (ai hc (.lst []));have eP:=ai hc (.lst []) _ _ (show upd H P (.lst vs) P=some (.lst vs) from ah);have ncP:c≠P:=fun z=>by rw [z,ah] at hc; cases hc
 have hc0:=s1.free hc;refine aA (s2.seq hS) (by decide) (by decide) (by omega) (by omega) fun r1 hr1=>?_
 refine aA (s2.seq hS) (by decide) (by decide) (by omega) (by omega) fun r2 hr2=>?_
 walk_at "rd";obtain ⟨z,ez,hz⟩:∃ z:Nat,(if (r1:Int) < (r2:Int) then (r2:Int) else (r1:Int))=(z:Int)/\2*z<=vs.length:=by
  split
  ·exact ⟨r2,rfl,by omega⟩
  ·exact ⟨r1,rfl,by omega⟩
 rw [ez,Int.toNat_natCast];refine ⟨by omega,by omega,?_⟩;have nPc:P≠c:=Ne.symm ncP;refine c9 (lo:=0) (n:=z) (fun i σ H'=>∃ (rest:List Way) (pv:List V) (ls:List Line) (cv:List V) (u5 u6:Option V),σ = [some (.ref a),some (.ref p),some (.ref P),some (.int ((vs.length:Int) / 2)),some (.ref c),u5,u6]/\Same H H'/\H' P=some (.lst pv)/\Paired (WayAt H') rest pv/\H' c=some (.lst cv)/\Paired (LineAt H') ls cv/\(endsOf ls++rest).Perm sp/\rest.length+2*i=sp.length/\ls.length=i)
  ⟨sp,vs,[],[],none,none,rfl,s2,eP,df (fun t us z=>s2 _ _ z) pr,ah,.nil,List.Perm.refl _,by omega,rfl⟩ ?_ ?_
 ·rintro i σ H1 hi ⟨rest,pv,ls,cv,u5,u6,rfl,s3,e3,p3,e4,p4,hperm,hrl,hll⟩;have l3:=p3.length;have l4:=p4.length;have mul2:CMul 2 (i:Int):=.inl ⟨by decide,by decide⟩;walk_at "rd";refine ⟨⟨_,e3⟩,mul2,_,.inl (SqL.of e3),aA (s3.seq hS) (by omega) (by omega) (by omega) (by omega) fun r3 hr3=>?_⟩;have h3:r3 < pv.length:=by omega
  have h3r:r3 < rest.length:=by omega
  refine ⟨pv,r3,pv[r3],rfl,e3,by omega,List.getElem?_eq_getElem h3,?_⟩;obtain ⟨y1,hy1,w1⟩:=aD p3 (List.getElem?_eq_getElem h3r);rw [List.getElem?_eq_getElem h3] at hy1;cases hy1;have p5:=jO r3 p3;have le1:(pv.eraseIdx r3).length=pv.length - 1:=List.length_eraseIdx_of_lt h3;have le2:(rest.eraseIdx r3).length=rest.length - 1:=List.length_eraseIdx_of_lt h3r;have s4:Same H (upd H1 P (.lst (pv.eraseIdx r3))):=aS s3 hP;have e5:upd H1 P (.lst (pv.eraseIdx r3)) P=some (.lst (pv.eraseIdx r3)):=ah;have e6:upd H1 P (.lst (pv.eraseIdx r3)) c=some (.lst cv):=by rw [aC ncP]; exact e4
  have k4:∀ t us,H1 t=some (.tup us)->upd H1 P (.lst (pv.eraseIdx r3)) t=some (.tup us):=cZ e3;generalize upd H1 P (.lst (pv.eraseIdx r3))=H2 at s4 e5 e6 k4 ⊢;walk_at "rd";refine ⟨⟨_,e6⟩,⟨_,e5⟩,mul2,_,.inl (SqL.of e5),aA (s4.seq hS) (by omega) (by omega) (by omega) (by omega) fun r4 hr4=>?_⟩;have h4:r4 < (pv.eraseIdx r3).length:=by omega
  have h4r:r4 < (rest.eraseIdx r3).length:=by omega
  refine ⟨_,r4,(pv.eraseIdx r3)[r4],rfl,e5,by omega,List.getElem?_eq_getElem h4,by decide,fun t5 ht5=>?_⟩;obtain ⟨y2,hy2,w2⟩:=aD p5 (List.getElem?_eq_getElem h4r);rw [List.getElem?_eq_getElem h4] at hy2;cases hy2;have p6:=jO r4 p5;have s5:Same H (upd H2 P (.lst ((pv.eraseIdx r3).eraseIdx r4))):=aS s4 hP;have e7:upd H2 P (.lst ((pv.eraseIdx r3).eraseIdx r4)) P=some (.lst ((pv.eraseIdx r3).eraseIdx r4)):=ah;have e8:upd H2 P (.lst ((pv.eraseIdx r3).eraseIdx r4)) c=some (.lst cv):=by rw [aC ncP]; exact e6
  have k5:∀ t us,H2 t=some (.tup us)->upd H2 P (.lst ((pv.eraseIdx r3).eraseIdx r4)) t=some (.tup us):=cZ e5;generalize upd H2 P (.lst ((pv.eraseIdx r3).eraseIdx r4))=H3 at s5 e7 e8 k5 ht5 ⊢;have s6:=ai ht5 (.tup [pv[r3],(pv.eraseIdx r3)[r4]]);have e9:=s6 _ _ e8;have kk:∀ t us,H1 t=some (.tup us)->upd (upd H3 t5 (.tup [pv[r3],(pv.eraseIdx r3)[r4]])) c (.lst (cv++[.ref t5])) t=some (.tup us):=fun t us z=>cZ e9 _ _ (s6 _ _ (k5 _ _ (k4 _ _ z)))
  have nc5:c≠t5:=fun z=>by rw [<- z,e8] at ht5; cases ht5
  refine ⟨cv,e9,sizeBig (by omega),(rest.eraseIdx r3).eraseIdx r4,(pv.eraseIdx r3).eraseIdx r4,ls++[(rest[r3],(rest.eraseIdx r3)[r4])],cv++[.ref t5],_,_,rfl,aS (s5.trans s6) hc0,?_,df kk p6,ah,?_,?_,?_,by rw [List.length_append,hll]; rfl⟩
  ·rw [aC nPc];exact s6 _ _ e7
  ·refine fe (L2.Paired.mapP p4 fun _ _ y=>mZ kk y) ⟨t5,_,_,rfl,cZ e9 _ _ ah,?_,?_⟩
   ·obtain ⟨ta,ea,ha⟩:=w1;exact ⟨ta,ea,kk _ _ ha⟩
   ·obtain ⟨ta,ea,ha⟩:=w2;exact ⟨ta,ea,kk _ _ ha⟩
  ·refine List.Perm.trans ?_ hperm;unfold endsOf;rw [List.flatMap_append,List.append_assoc];refine List.Perm.append_left _ ?_;show (rest[r3]::(rest.eraseIdx r3)[r4]::(rest.eraseIdx r3).eraseIdx r4).Perm rest;exact ((gT h4r).cons _).trans (gT h3r)
  ·have:((rest.eraseIdx r3).eraseIdx r4).length=(rest.eraseIdx r3).length - 1:=List.length_eraseIdx_of_lt h4r;omega
 ·rintro σ H1 ⟨rest,pv,ls,cv,u5,u6,rfl,s3,e3,p3,e4,p4,hperm,hrl,hll⟩;walk_at "rd";refine q c H1 ls hc0 s3 ⟨cv,e4,p4⟩ ?_ (fun x hx=>hperm.mem_iff.mp (List.mem_append_left _ hx)) (by omega);exact (List.nodup_append.mp (hperm.nodup_iff.mpr hnd)).1
theorem yC {H:Hp} {x w:Way} {v:V} (h:WayAt H x v):tupEq H [tx w.1,tx w.2] v=decide (x=w):=by
 obtain ⟨t,rfl,e⟩:=h;have txs:∀ x y:List Nat,eqV (tx x) (tx y)=decide (x=y):=fun x y=>by
  show (st x == st y)=_;rw [Bool.eq_iff_iff,beq_iff_eq,Bj,decide_eq_true_eq]
 unfold tupEq;simp only [e,List.map_cons,List.map_nil,eqDs,eqD,txs,Bool.and_true];rw [Bool.eq_iff_iff];simp [Prod.ext_iff]
theorem oi {H:Hp} {w:Way}:∀ {B:List Way} {us:List V},Paired (WayAt H) B us->us.any (tupEq H [tx w.1,tx w.2])=decide (w ∈ B)
 | _,_,.nil=>by simp
 | _,_,.cons (a:=x) r t=>by
  rw [List.any_cons,yC r,oi t,Bool.eq_iff_iff,Bool.or_eq_true,decide_eq_true_eq,decide_eq_true_eq,decide_eq_true_eq,List.mem_cons];exact ⟨fun h=>h.imp Eq.symm id,fun h=>h.imp Eq.symm id⟩
theorem kG {H:Hp}:∀ {B:List Way} {us:List V},Paired (WayAt H) B us->∀ y ∈ us,FlatT H y
 | _,_,.nil,y,hy=>by simp at hy
 | _,_,.cons ⟨t,e,q⟩ p,y,hy=>by
  rcases List.mem_cons.mp hy with rfl | hy
  ·exact ⟨t,_,e,q,rfl⟩
  ·exact kG p y hy
theorem si {α:Type} {l:List α} (nd:l.Nodup) {i:Nat} (h:i < l.length):l[i] ∉ l.take i:=fun hm=>by
 obtain ⟨j,hj,e⟩:=List.mem_take_iff_getElem.mp hm;have:=(List.getElem_inj nd).mp e;omega
theorem su {r:List Nat} {W:Nat} (h:RowL r) (hl:r.length=W):textOf (tx r) (W:Int) [48,49,45]=true:=by
 simp only [textOf,aM,Bool.and_eq_true,decide_eq_true_eq,List.all_eq_true];refine ⟨by omega,fun c hc=>?_⟩;rcases h c hc with z | z | z <;> simp [z]
noncomputable def ju:Sp:=fun vs H Q _=>match vs with
 | [v,.int w]=>Known H v/\Q (.bl (textOf v w [48,49])) H
 | _=>False
theorem ra (T:Top K mg):Callee P w K mg base 2 "is_letter" ["thing", "width"] ju:=by
 refine T.nI.cal rC (by intro vs H Q E h; unfold ju at h; split at h <;> first | rfl | exact h.elim) (fun _ _ _ _ _ _ us hl=>match us,hl with | [_,_],_=>rfl) (fun f cdv A outer s H vs Q E hr h=>?_);unfold ju at h;split at h
 case h_2=>exact h.elim
 refine ⟨_,(af (aw (aq (le T) hr.m rfl (aa (qv 0) (aa (qv 1) (aa (qs [48,49]) ac)))))),?_⟩;walk_at "rd";exact h
noncomputable abbrev Net:=List Fld × List Named × List Line
def NetAt (H:Hp) (t:Addr) (n:Net):Prop:=∃ a b c,H t=some (.tup [.ref a,.ref b,.ref c])/\Lay H a n.1/\Houses H b n.2.1/\Lines H c n.2.2
structure HouseOk5 (W S:Nat) (hs:House):Prop where
 nd:(hs.1.map (·.1)).Nodup
 g3:hs.1.length<=8
 rules:∀ x ∈ hs.1,∀ r ∈ x.2,RuleOk W r
 many:∀ x ∈ hs.1,x.2.length<=300
 ways:WaysOk S (hs.1.map (·.1)) hs.2
 w8:hs.2.length<=8
structure NetOk (n:Net):Prop where
 lay:LayOk n.1
 nd:(n.2.1.map (·.1)).Nodup
 low:∀ x ∈ n.2.1,Low x.1/\x.1.length<=1000
 house:∀ x ∈ n.2.1,HouseOk5 (widthL n.1) ((spanG n.1).2 - (spanG n.1).1) x.2
 door:∀ x ∈ n.2.1,∀ g ∈ x.2.1,Low g.1/\g.1.length<=1000
 h100:n.2.1.length<=100
 ends:(endsOf n.2.2).Nodup
 spots:∀ s ∈ endsOf n.2.2,s ∈ spotsOf n.2.1
 l500:n.2.2.length<=500
noncomputable def namedD (x:Named):D:=.t [.f (tx x.1),houseD x.2]
noncomputable def lineD (x:Line):D:=.t [wayD x.1,wayD x.2]
noncomputable def netD (N:Net):D:=.t [layD N.1,.l (N.2.1.map namedD),.l (N.2.2.map lineD)]
theorem uW {H:Hp} {x:Line} {v:V} (n:Nat) (h:LineAt H x v):Th H (n+2) v (lineD x):=by
 obtain ⟨t,u1,u2,rfl,e,h1,h2⟩:=h;exact kb e (by simp) (.cons (rb n h1) (.cons (rb n h2) .nil))
theorem wz {H:Hp} {p:Addr} {hs:List Named} (h:Houses H p hs) (hl:hs.length<=1000) (h1:∀ x ∈ hs,x.2.1.length<=1000/\x.2.2.length<=1000/\∀ g ∈ x.2.1,g.2.length<=1000):Th H 7 (.ref p) (.l (hs.map namedD)):=by
 obtain ⟨vs,e,pr⟩:=h;refine rP e (by rw [<- pr.length]; exact hl) ?_;clear e hl
 induction pr with
 | nil=>exact .nil
 | cons r p ih=>
  refine .cons ?_ (ih fun x hx=>h1 x (List.mem_cons_of_mem _ hx));obtain ⟨t',q,rfl,e,hq⟩:=r;have:=h1 _ List.mem_cons_self;exact kb e (by simp) (.cons (bj 5 rfl) (.cons (wW 0 hq this.1 this.2.1 this.2.2) .nil))
theorem wT {H:Hp} {p:Addr} {ls:List Line} (h:Lines H p ls) (hl:ls.length<=1000):Th H 7 (.ref p) (.l (ls.map lineD)):=by
 obtain ⟨vs,e,pr⟩:=h;exact rP e (by rw [<- pr.length]; exact hl) (fg (fun x v z=>uW 4 z) pr)
theorem AR {H:Hp} {q:Addr} {N:Net} (h:NetAt H q N) (ok:NetOk N):Th H 8 (.ref q) (netD N):=by
 obtain ⟨a,b,c,e,h1,h2,h3⟩:=h;have:=ok.lay.len;have:=ok.h100;have:=ok.l500;refine kb e (by simp) (.cons (AM 5 h1 (by omega)) (.cons (wz h2 (by omega) fun x hx=>?_) (.cons (wT h3 (by omega)) .nil)));have k:=ok.house x hx;exact ⟨Nat.le_trans k.g3 (by decide),Nat.le_trans k.w8 (by decide),fun g hg=>Nat.le_trans (k.many g hg) (by decide)⟩
theorem kH (xs:List V) (k:Nat):cutV xs none (some (k:Int))=xs.take k:=by
 unfold cutV;rw [HT.sIx_nat,HT.sIx_none,List.drop_zero,Nat.sub_zero];rcases Nat.le_total k xs.length with h | h
 ·rw [Nat.min_eq_left h]
 ·rw [Nat.min_eq_right h,List.take_of_length_le (Nat.le_refl _),List.take_of_length_le h]
noncomputable abbrev LFld:=List Nat × Int
noncomputable abbrev LRule:=D × D × D
noncomputable abbrev LGate:=List Nat × List LRule
noncomputable abbrev LWay:=D × List Nat
noncomputable abbrev LHouse:=List LGate × List LWay
noncomputable abbrev LNamed:=List Nat × LHouse
noncomputable abbrev LNet:=List LFld × List LNamed × List Line
noncomputable def fldL (x:LFld):D:=.t [.f (tx x.1),.f (.int x.2)]
noncomputable def ruleL (x:LRule):D:=.t [x.1,x.2.1,x.2.2]
noncomputable def gateL (x:LGate):D:=.t [.f (tx x.1),.l (x.2.map ruleL)]
noncomputable def wayLD (x:LWay):D:=.t [x.1,.f (tx x.2)]
noncomputable def houseL (h:LHouse):D:=.t [.l (h.1.map gateL),.l (h.2.map wayLD)]
noncomputable def namedL (x:LNamed):D:=.t [.f (tx x.1),houseL x.2]
noncomputable def netL (N:LNet):D:=.t [.l (N.1.map fldL),.l (N.2.1.map namedL),.l (N.2.2.map lineD)]
noncomputable def scan {α:Type} (f:List α -> α -> Option Str):List α -> List α -> Option Str
 | _,[]=>none
 | pre,x::r=>(f pre x).or (scan f (pre++[x]) r)
def Calm {α:Type} (f:List α -> α -> Option Str) (l:List α) (i:Nat):Prop:=∀ j (h:j < l.length),j < i->f (l.take j) l[j]=none
theorem Calm.zero {α:Type} {f:List α -> α -> Option Str} {l:List α}:Calm f l 0:=fun j _ h=>absurd h (Nat.not_lt_zero _)
theorem Calm.step {α:Type} {f:List α -> α -> Option Str} {l:List α} {i:Nat} (c:Calm f l i) (h:i < l.length) (e:f (l.take i) l[i]=none):Calm f l (i+1):=fun j hj h1=>by
 by_cases z:j < i
 ·exact c j hj z
 ·obtain rfl:j=i:=by omega
  exact e
theorem nr {α:Type} {f:List α -> α -> Option Str} {l:List α}:∀ {i:Nat},Calm f l i->i<=l.length->scan f [] l=scan f (l.take i) (l.drop i)
 | 0,_,_=>rfl
 | i+1,c,h=>by
  rw [nr (fun j hj h1=>c j hj (by omega)) (show i<=l.length by omega),List.drop_eq_getElem_cons (show i < l.length by omega),scan,c i (by omega) (by omega),List.take_add_one,List.getElem?_eq_getElem (by omega)];rfl
theorem Calm.some {α:Type} {f:List α -> α -> Option Str} {l:List α} {i:Nat} {s:Str} (c:Calm f l i) (h:i < l.length) (e:f (l.take i) l[i]=some s):scan f [] l=some s:=by
 rw [nr c (by omega),List.drop_eq_getElem_cons h,scan,e];rfl
theorem Calm.end {α:Type} {f:List α -> α -> Option Str} {l:List α} {i:Nat} (c:Calm f l i) (h:i=l.length):scan f [] l=none:=by
 rw [nr c (by omega),h,List.drop_length,scan]
theorem kN {α:Type} {f:List α -> α -> Option Str} {l:List α} (h:∀ i (hi:i < l.length),f (l.take i) l[i]=none):scan f [] l=none:=Calm.end (i:=l.length) (fun j hj _=>h j hj) rfl
theorem sw {α:Type} {f:List α -> α -> Option Str}:∀ {l pre:List α},scan f pre l=none->∀ x ∈ l,∃ p,f p x=none
 | [],_,_,x,hx=>by cases hx
 | y::l,pre,h,x,hx=>by
  rw [scan,Option.or_eq_none_iff] at h;rcases List.mem_cons.mp hx with rfl | hx
  ·exact ⟨pre,h.1⟩
  ·exact sw h.2 x hx
noncomputable def newF {α:Type} [DecidableEq α] (x:α) (l:List α):Option Str:=if x ∈ l then some "Twice" else none
noncomputable def fldF (pre:List LFld) (x:LFld):Option Str:=if x.1 ∈ pre.map (·.1) then some "Twice" else if x.2 < 1 then some "Misfit" else none
noncomputable def layF (ls:List LFld):Option Str:=(scan fldF [] ls).or (if toT ∈ ls.map (·.1) then none else some "NoField")
noncomputable def dv:D->V
 | .f v=>v
 | _=>.non
noncomputable def dt (d:D):List Nat:=match dv d with
 | .str a=>a.cps.toList
 | _=>[]
noncomputable def rowOk (W:Nat) (d:D):Bool:=textOf (dv d) (W:Int) [48,49,45]
noncomputable def wordOk (d:D):Bool:=[tx passT,tx dropT].any fun z=>eqD (.f z) d
noncomputable def begOk (S:Nat) (d:D):Bool:=match dv d with
 | .str a=>decide (a.cps.toList.length<=S) && a.cps.toList.all fun c=>decide (c ∈ [48,49])
 | _=>false
noncomputable def ruleF (W:Nat) (x:LRule):Option Str:=if rowOk W x.1=true then if wordOk x.2.1=true then if rowOk W x.2.2=true then none else some "Misfit" else some "BadWord" else some "Misfit"
noncomputable def gateF (W:Nat) (pre:List LGate) (x:LGate):Option Str:=(newF x.1 (pre.map (·.1))).or (scan (fun _=>ruleF W) [] x.2)
noncomputable def wayF (S:Nat) (ds:List (List Nat)) (pre:List LWay) (x:LWay):Option Str:=if begOk S x.1=true then if dt x.1 ∈ pre.map (fun y=>dt y.1) then some "Twice" else if x.2 ∈ ds then none else some "NoDoor" else some "Misfit"
noncomputable def houseF (W S:Nat) (h:LHouse):Option Str:=(scan (gateF W) [] h.1).or (scan (wayF S (h.1.map (·.1))) [] h.2)
noncomputable def namedF (W S:Nat) (pre:List LNamed) (x:LNamed):Option Str:=(newF x.1 (pre.map (·.1))).or (houseF W S x.2)
noncomputable def doorsN (hs:List LNamed):List (List Nat × List (List Nat)):=hs.map fun x=>(x.1,x.2.1.map (·.1))
noncomputable def spotsL (hs:List (List Nat × List (List Nat))):List Way:=hs.flatMap fun x=>x.2.map fun d=>(x.1,d)
noncomputable def doorsOf (hs:List (List Nat × List (List Nat))) (n:List Nat):Option (List (List Nat)):=(hs.find? fun x=>decide (x.1=n)).map (·.2)
noncomputable def spotF (hs:List (List Nat × List (List Nat))) (x:Way):Option Str:=match doorsOf hs x.1 with
 | none=>some "NoHouse"
 | some ds=>if x.2 ∈ ds then none else some "NoDoor"
noncomputable def endF (hs:List (List Nat × List (List Nat))) (pre:List Way) (x:Way):Option Str:=(spotF hs x).or (newF x pre)
noncomputable def unI (ls:List LFld):List Fld:=ls.map fun x=>(x.1,x.2.toNat)
noncomputable def netF (N:LNet):Option Str:=(layF N.1).or ((scan (namedF (widthL (unI N.1)) ((spanG (unI N.1)).2 - (spanG (unI N.1)).1)) [] N.2.1).or (scan (endF (doorsN N.2.1)) [] (endsOf N.2.2)))
theorem qq {hs:List (List Nat × List (List Nat))} (nd:(hs.map (·.1)).Nodup) (x:Way):spotF hs x=(if x.1 ∈ hs.map (·.1) then (if x ∈ spotsL hs then (none:Option Str) else some (Str.ofString "NoDoor")) else some (Str.ofString "NoHouse")):=by
 unfold spotF doorsOf
 induction hs with
 | nil=>rfl
 | cons y hs ih=>
  rw [List.map_cons,List.nodup_cons] at nd;have ih:=ih nd.2;by_cases e:y.1=x.1
  ·rw [List.find?_cons_of_pos (by simpa using e)];rw [if_pos (by rw [List.map_cons,e]; exact List.mem_cons_self)];have:x ∈ spotsL (y::hs) ↔ x.2 ∈ y.2:=by
    unfold spotsL;rw [List.flatMap_cons,List.mem_append];constructor
    ·rintro (h | h)
     ·obtain ⟨d,hd,rfl⟩:=List.mem_map.mp h;exact hd
     ·obtain ⟨z,hz,h⟩:=List.mem_flatMap.mp h;obtain ⟨d,hd,rfl⟩:=List.mem_map.mp h;exact absurd (List.mem_map.mpr ⟨z,hz,e.symm⟩) nd.1
    ·intro h;exact .inl (List.mem_map.mpr ⟨x.2,h,by rw [e]⟩)
   show (if x.2 ∈ y.2 then (none:Option Str) else some (Str.ofString "NoDoor"))=_;by_cases h:x.2 ∈ y.2
   ·rw [if_pos h,if_pos (this.mpr h)]
   ·rw [if_neg h,if_neg (fun z=>h (this.mp z))]
  ·rw [List.find?_cons_of_neg (by simpa using e),ih];have m1:x.1 ∈ (y::hs).map (·.1) ↔ x.1 ∈ hs.map (·.1):=by
    rw [List.map_cons,List.mem_cons];exact ⟨fun h=>h.resolve_left fun z=>e z.symm,.inr⟩
   have m2:x ∈ spotsL (y::hs) ↔ x ∈ spotsL hs:=by
    unfold spotsL;rw [List.flatMap_cons,List.mem_append];refine ⟨fun h=>h.resolve_left fun z=>?_,.inr⟩;obtain ⟨d,hd,rfl⟩:=List.mem_map.mp z;exact e rfl
   simp only [m1,m2]
theorem uQ {α β:Type} [DecidableEq β] {f:List α -> α -> Option Str} {g:α -> β} (h:∀ p x,f p x=none->g x ∉ p.map g):∀ {l pre:List α},scan f pre l=none->(pre.map g).Nodup->((pre++l).map g).Nodup
 | [],pre,_,nd=>by rw [List.append_nil]; exact nd
 | x::l,pre,e,nd=>by
  rw [scan,Option.or_eq_none_iff] at e;have:=uQ h e.2 (by
   rw [List.map_append,List.map_cons,List.map_nil,List.nodup_append];refine ⟨nd,by simp,fun a ha b hb z=>?_⟩;rw [List.mem_singleton] at hb;rw [z,hb] at ha;exact h pre x e.1 ha)
  rwa [List.append_assoc] at this
theorem wK {W S:Nat} {hs:List LNamed} (h:scan (namedF W S) [] hs=none):(hs.map (·.1)).Nodup:=by
 have:=uQ (g:=fun x:LNamed=>x.1) (fun p x e=>?_) h List.nodup_nil
 ·simpa using this
 ·unfold namedF at e;rw [Option.or_eq_none_iff] at e;intro z;have:=e.1;unfold newF at this;rw [if_pos z] at this;cases this
theorem dZ {H:Hp} {n:Nat} {v:V} {d1 d2:D} (h:Th H (n+1) v (.t [d1,d2])):∃ a v1 v2,v=.ref a/\H a=some (.tup [v1,v2])/\Th H n v1 d1/\Th H n v2 d2:=by
 obtain ⟨a,vs,rfl,e,p⟩:=vR h;cases p with
 | cons r p=>cases p with
  | cons r2 p=>
   cases p;exact ⟨a,_,_,rfl,e,r,r2⟩
theorem pB {H:Hp} {n:Nat} {v:V} {d1 d2 d3:D} (h:Th H (n+1) v (.t [d1,d2,d3])):∃ a v1 v2 v3,v=.ref a/\H a=some (.tup [v1,v2,v3])/\Th H n v1 d1/\Th H n v2 d2/\Th H n v3 d3:=by
 obtain ⟨a,vs,rfl,e,p⟩:=vR h;cases p with
 | cons r p=>cases p with
  | cons r2 p=>cases p with
   | cons r3 p=>
    cases p;exact ⟨a,_,_,_,rfl,e,r,r2,r3⟩
theorem eH {α:Type} {f:α -> D} {H:Hp} {n:Nat} {v:V} {l:List α} (h:Th H (n+1) v (.l (l.map f))):∃ a vs,v=.ref a/\H a=some (.lst vs)/\Paired (fun x v=>Th H n v (f x)) l vs:=by
 obtain ⟨a,vs,rfl,e,p⟩:=yQ h;exact ⟨a,vs,rfl,e,nA (F:=fun x v=>Th H n v (f x)) (fun x v z=>z) p⟩
def NmOk (n:List Nat):Prop:=(∀ c ∈ n,c < 16 ^ 8)/\n.length<=100
noncomputable def OddD:D->Prop
 | .f .non=>True
 | .f (.bl _)=>True
 | .f (.int i)=>i=0\/i=5\/i=7
 | .f (.str a)=>NmOk a.cps.toList
 | .l ds=>∃ ls,Few ls/\ds=ls.map fun l=>D.f (tx l)
 | .t ds=>∃ ls,Few ls/\ds=ls.map fun l=>D.f (tx l)
 | _=>False
theorem jf {n:List Nat} (h:NmOk n):OddD (.f (tx n)):=by
 show NmOk (st n).cps.toList;rw [aM];exact h
theorem ic {H:Hp}:∀ {ls:List (List Nat)} {n:Nat} {vs:List V},Paired (Th H n) vs (ls.map fun l=>D.f (tx l))->vs=ls.map tx
 | [],_,_,p=>by cases p; rfl
 | l::ls,_,_,p=>by
  cases p with
  | cons r p=>rw [dD r,ic p]; rfl
theorem gN {H:Hp} {v:V} {d:D} (h:Th H 1 v d) (o:OddD d):(v=.non/\d=.f .non)\/(∃ b,v=.bl b/\d=.f (.bl b))\/(∃ i,v=.int i/\d=.f (.int i)/\(i=0\/i=5\/i=7))\/(∃ n,v=tx n/\d=.f (tx n)/\NmOk n)\/∃ p ls,v=.ref p/\Few ls/\((H p=some (.lst (ls.map tx))/\d=.l (ls.map fun l=>D.f (tx l)))\/(H p=some (.tup (ls.map tx))/\d=.t (ls.map fun l=>D.f (tx l)))):=by
 cases d with
 | f u=>
  obtain rfl:=dD h;cases v with
  | non=>exact .inl ⟨rfl,rfl⟩
  | bl b=>exact .inr (.inl ⟨b,rfl,rfl⟩)
  | int i=>exact .inr (.inr (.inl ⟨i,rfl,rfl,o⟩))
  | str a=>exact .inr (.inr (.inr (.inl ⟨a.cps.toList,by rw [tx,cC],by rw [tx,cC],o⟩)))
  | _=>exact o.elim
 | l ds=>
  obtain ⟨ls,hf,rfl⟩:=o;obtain ⟨a,vs,rfl,e,p⟩:=yQ h;rw [ic p] at e;exact .inr (.inr (.inr (.inr ⟨a,ls,rfl,hf,.inl ⟨e,rfl⟩⟩)))
 | t ds=>
  obtain ⟨ls,hf,rfl⟩:=o;obtain ⟨a,vs,rfl,e,p⟩:=vR h;rw [ic p] at e;exact .inr (.inr (.inr (.inr ⟨a,ls,rfl,hf,.inr ⟨e,rfl⟩⟩)))
theorem mO {H:Hp} {v:V} {d:D} (h:Th H 1 v d) (o:OddD d):Known H v/\∀ w l,textOf v w l=textOf (dv d) w l:=by
 rcases gN h o with ⟨rfl,rfl⟩ | ⟨b,rfl,rfl⟩ | ⟨i,rfl,rfl,_⟩ | ⟨n,rfl,rfl,hn⟩ | ⟨p,ls,rfl,_,⟨e,rfl⟩ | ⟨e,rfl⟩⟩
 ·exact ⟨trivial,fun _ _=>rfl⟩
 ·exact ⟨trivial,fun _ _=>rfl⟩
 ·exact ⟨trivial,fun _ _=>rfl⟩
 ·exact ⟨by show (st n).cps.toList.length<=1000; rw [aM]; exact Nat.le_trans hn.2 (by decide),fun _ _=>rfl⟩
 ·exact ⟨.inl ⟨_,e⟩,fun _ _=>rfl⟩
 ·exact ⟨.inr ⟨_,e⟩,fun _ _=>rfl⟩
theorem kM {i:Nat} {σ:St} {H:Hp} {Q:VK} {v:V} {d:D} (hi:σ[i]? = some (some v)) (h:Th H 1 v d) (o:OddD d) (q:∀ z:Str,z.length<=200000->Q (.str z) H):cFmtO (cVar i) σ H Q:=by
 rw [yF,xp,hi];rcases gN h o with ⟨rfl,rfl⟩ | ⟨b,rfl,rfl⟩ | ⟨i,rfl,rfl,hh⟩ | ⟨n,rfl,rfl,hn⟩ | ⟨p,ls,rfl,hf,⟨e,rfl⟩ | ⟨e,rfl⟩⟩
 ·exact q
 ·exact q
 ·exact ⟨hh,q⟩
 ·refine ⟨by rw [aM]; exact hn.1,?_,q⟩;rw [iH];exact Nat.le_trans hn.2 (by decide)
 ·exact ⟨ls,hf,.inl e,q⟩
 ·exact ⟨ls,hf,.inr e,q⟩
theorem sP {H:Hp} {v:V} {d:D} (h:Th H 1 v d):Deep K H 1 v d:=by
 rcases h with h | ⟨a,vs,ds,rfl,rfl,e,_,p⟩ | ⟨a,vs,ds,rfl,rfl,e,_,p⟩
 ·exact .inl h
 ·exact .inr (.inl ⟨a,vs,ds,rfl,rfl,SqL.of e,p⟩)
 ·exact .inr (.inr ⟨a,vs,ds,rfl,rfl,SqT.of e,p⟩)
def Out (K:Frag) (o:Option Str) (H:Hp) (Q:VK) (E:XK):Prop:=(o=none->∀ H',Same H H'->Q .non H')/\∀ c,o=some c->∀ H',Same H H'->E (.ref (xA K c)) none H'
theorem Out.no {K:Frag} {o:Option Str} {H:Hp} {Q:VK} {E:XK} (h:Out K o H Q E) {c:Str} (e:o=some c) {H':Hp} (s:Same H H'):E (.ref (xA K c)) none H':=h.2 c e H' s
theorem yj {z:Str} {l:List Nat} (h:z.length<=200000) (hn:l.length<=1000):0+z.length<=sizeLine/\0+z.length+(st l).length<=sizeLine:=by
 have:(202000:Nat)<=sizeLine:=by decide
 rw [iH l];omega
theorem uZ {z:Str} {l:List Nat} (h:z.length<=200000) (hn:l.length<=1000):0+(st l).length<=sizeLine/\0+(st l).length+z.length<=sizeLine:=by
 have:(202000:Nat)<=sizeLine:=by decide
 rw [iH l];omega
theorem mP {α:Type} [DecidableEq α] {x:α} {l:List α} {c:Str} (h:newF x l=some c):x ∈ l/\c = "Twice" := by
 unfold newF at h;split at h
 ·cases h;exact ⟨by assumption,rfl⟩
 ·cases h
theorem kL {α:Type} [DecidableEq α] {x:α} {l:List α} (h:newF x l=none):x ∉ l:=fun z=>by
 unfold newF at h;rw [if_pos z] at h;cases h
theorem z8 {H:Hp} (n:List Nat):Th H 1 (tx n) (.f (tx n)):=bj 1 rfl
theorem yR {x:Way} (h1:NmOk x.1) (h2:NmOk x.2):OddD (wayD x):=by
 refine ⟨[x.1,x.2],⟨by simp,fun l hl=>?_⟩,rfl⟩;simp only [List.mem_cons,List.not_mem_nil,or_false] at hl;rcases hl with rfl | rfl
 ·exact ⟨h1.2,h1.1⟩
 ·exact ⟨h2.2,h2.1⟩
theorem zZ {a z c:Nat} (h1:a<=1000) (h2:z<=2000) (h3:c<=1000):0+a+z<=sizeLine/\0+a+z+c<=sizeLine:=by
 have:(202000:Nat)<=sizeLine:=by decide
 omega
theorem yh {z:Str} (h:z.length<=200000):0+z.length<=sizeLine:=(yj (l:=[]) h (by decide)).1
theorem ub {a z:Nat} (h1:a<=1000) (h2:z<=2000):0+a+z<=sizeLine:=(zZ h1 h2 (Nat.zero_le 1000)).1
theorem j3 {H:Hp}:∀ (ls:List (List Nat)) (n:Nat),Paired (Th H n) (ls.map tx) (ls.map fun l=>D.f (tx l))
 | [],_=>.nil
 | _::ls,n=>.cons (bj n rfl) (j3 ls n)
theorem ol {H:Hp} {n:Nat} {v:V} {d:D} (h:Th H (n+1) v d) (o:OddD d):Th H 1 v d:=by
 cases d with
 | f u=>
  obtain rfl:=dD h;cases v <;> first | exact bj 1 rfl | exact o.elim
 | l ds=>
  obtain ⟨ls,hf,rfl⟩:=o;obtain ⟨a,vs,rfl,e,p⟩:=yQ h;rw [ic p] at e;exact rP e (by rw [List.length_map]; exact Nat.le_trans hf.1 (by decide)) (j3 ls 0)
 | t ds=>
  obtain ⟨ls,hf,rfl⟩:=o;obtain ⟨a,vs,rfl,e,p⟩:=vR h;rw [ic p] at e;exact kb e (by rw [List.length_map]; exact Nat.le_trans hf.1 (by decide)) (j3 ls 0)
noncomputable def jp (K:Frag):Sp:=fun vs H Q E=>match vs with
 | [v,.ref p]=>(∃ (n:List Nat) (ls:List (List Nat)),v=tx n/\H p=some (.lst (ls.map tx))/\NmOk n/\Out K (newF n ls) H Q E)\/(∃ (x:Way) (xs:List Way) (us:List V),WayAt H x v/\H p=some (.lst us)/\Paired (WayAt H) xs us/\NmOk x.1/\NmOk x.2/\Out K (newF x xs) H Q E)
 | _=>False
theorem fB (T:Top K mg):CalleeX P w K mg base 1 "check_new" ["thing", "earlier"] (jp K):=by
 refine T.nK.calX rK (by intro vs H Q E h; unfold jp at h; split at h <;> first | rfl | exact h.elim) (fun _ _ _ _ _ _ us hl=>match us,hl with | [_,_],_=>rfl) (fun f cdv A outer s H vs Q E hr h=>?_);unfold jp at h;split at h
 case h_2=>exact h.elim
 refine ⟨_,(af (aE (aB (OpR.or (inE K rfl) (xY K rfl hr)) (qv 0) (qv 1)) (af (eQ rfl dM rfl T.kP.1 T.kP.2 (aa (lY (bV (me hr.gd hr.units0 (qv 0)) (bV (qs [32,115,116,97,110,100,115,32,97,104,101,97,100]) jA))) ac))) ar)),?_⟩;rename_i v p;rcases h with ⟨n,ls,rfl,e,hn,q⟩ | ⟨x,xs,us,⟨t,rfl,et⟩,e,pr,hn,hn2,q⟩
 ·walk_at "rd";refine .inl ⟨_,.inl (SqL.of e),rfl,eT _,?_⟩;rw [gj];walk_at "rd";refine ite2 (fun g=>?_) fun g=>q.1 (if_neg g) H (Same.refl _)
  exact kM rfl (z8 n) (jf hn) fun z hz=>⟨yh hz,(yj hz (by decide)).2,fun _=>⟨by decide,q.no (if_pos g) (Same.refl _)⟩⟩
 ·walk_at "rd";refine .inr ⟨_,_,SqL.of e,et,rfl,kG pr,?_⟩;rw [oi pr];walk_at "rd";refine ite2 (fun g=>?_) fun g=>q.1 (if_neg g) H (Same.refl _)
  exact kM rfl (rb 0 ⟨t,rfl,et⟩) (yR hn hn2) fun z hz=>⟨yh hz,(yj hz (by decide)).2,fun _=>⟨by decide,q.no (if_pos g) (Same.refl _)⟩⟩
structure OkH (h:LHouse):Prop where
 g:h.1.length<=100
 w:h.2.length<=1000
 door:∀ x ∈ h.1,NmOk x.1
 rule:∀ x ∈ h.1,∀ r ∈ x.2,OddD r.1/\OddD r.2.1/\OddD r.2.2
 beg:∀ x ∈ h.2,OddD x.1/\NmOk x.2
structure OkN (N:LNet):Prop where
 lay:∀ x ∈ N.1,NmOk x.1/\x.2<=48
 l20:N.1.length<=100
 hs:∀ x ∈ N.2.1,NmOk x.1/\OkH x.2
 h100:N.2.1.length<=100
 ends:∀ s ∈ endsOf N.2.2,NmOk s.1/\NmOk s.2
 l400:N.2.2.length<=700
noncomputable def gz (K:Frag):Sp:=fun vs H Q E=>match vs with
 | [.ref p]=>∃ (n:Nat) (ls:List LFld),Th H (n+2) (.ref p) (.l (ls.map fldL))/\ls.length<=1000/\(∀ x ∈ ls,NmOk x.1)/\Out K (layF ls) H Q E
 | _=>False
theorem nU (T:Top K mg):CalleeX P w K mg base 2 "check_layout" ["layout"] (gz K):=by
 refine T.kA.calX eR (by intro vs H Q E h; unfold gz at h; split at h <;> first | rfl | exact h.elim) (fun _ _ _ _ _ _ us hl=>match us,hl with | [_],_=>rfl) (fun f cdv A outer s H vs Q E hr h=>?_);unfold gz at h;split at h
 case h_2=>exact h.elim
 refine ⟨_,(ae (ao (i:=1) eR.nd rfl lc (aL ac))
   (ae (br PassesOwn.leaving rfl (iterE K rfl (qv 0)) (tupE K rfl rfl (n:=2) (ap (al (i:=2) eR.nd rfl lc) (ap (al (i:=3) eR.nd rfl lc) aR))) (ae (aF (dW (fB T) hr.m bn rfl (aa (qv 2) (aa (qv 1) ac))))
   (ae (aE (aB pF (qv 3) ad) (af (eQ rfl dM rfl T.dJ.1 T.dJ.2 (aa (lY (bV (qs [102,105,101,108,100,32]) (bV (n8 (qv 2)) (bV (qs [32,104,97,115,32,110,111,32,112,108,97,99,101]) jA)))) ac))) ar)
   (af (aF (dh (qv 1) (qv 2)))))))
   (af (aE (aB (notinE K rfl) (qs [116,111]) (qv 1)) (af (eQ rfl dM rfl T.fj.1 T.fj.2 (aa (qs [110,111,32,102,105,101,108,100,32,39,116,111,39]) ac))) ar)))),?_⟩
 rename_i p;obtain ⟨n,ls,hT,hn,hok,q⟩:=h;obtain ⟨_,vs,⟨⟩,e0,pr⟩:=eH hT;have hl:=pr.length;walk_at "rd";refine ⟨Nat.zero_le _,fun g hg=>?_⟩;have s1:=ai hg (.lst []);refine .inl ⟨⟨_,SqL.of (s1 _ _ e0)⟩,?_⟩;refine bw (xs:=vs) (fun i σ H'=>∃ u v,σ = [some (.ref p),some (.ref g),u,v]/\Same H H'/\H' g=some (.lst (((ls.take i).map (·.1)).map tx))/\Calm fldF ls i) ⟨none,none,rfl,s1,ah,Calm.zero⟩ (fun i σ H' _ ⟨_,_,_,z,_⟩=>SqL.of (z _ _ e0)) ?_ ?_
 ·rintro i x σ H1 hx ⟨u,v,rfl,s2,e2,c2⟩;have hi:i < vs.length:=(List.getElem?_eq_some_iff.mp hx).1;have hil:i < ls.length:=by omega
  obtain ⟨y,hy,th⟩:=aD pr (List.getElem?_eq_getElem hil);obtain ⟨t,v1,v2,ey,et,k1,k2⟩:=dZ th;obtain rfl:x=.ref t:=by rw [hy] at hx; rw [<- Option.some.inj hx,ey]
  obtain rfl:=dD k1;obtain rfl:=dD k2;have hoi:=hok ls[i] (List.getElem_mem hil);refine ⟨t,[_,_],rfl,SqT.of (s2 _ _ et),rfl,_,[_],rfl,_,[],rfl,rfl,?_⟩;walk_at "rd";refine .inl ⟨ls[i].1,_,rfl,e2,hoi,fun hnew H2 s3=>?_,fun c hc H2 s3=>?_⟩
  ·have hm:=kL hnew;have e3:=s3 _ _ e2;walk_at "rd";refine ite2 (fun g3=>?_) fun g3=>?_
   ·have hz:(st ls[i].1).length=ls[i].1.length:=iH _;have h100:=hoi.2;refine ⟨by decide,hoi.1,by omega,fun z hzz=>⟨ub (by decide) (by omega),(zZ (by decide) (by omega) (by decide)).2,fun _=>⟨by decide,q.no ?_ (s2.trans s3)⟩⟩⟩;unfold layF;rw [c2.some hil (s := "Misfit") (by unfold fldF; rw [if_neg hm,if_pos g3])];rfl
   ·refine ⟨⟨_,e3⟩,_,e3,sizeBig (by simp; omega),_,_,rfl,aS (s2.trans s3) hg,?_,c2.step hil ?_⟩
    ·rw [ah,List.take_add_one,List.getElem?_eq_getElem hil,Option.toList_some,List.map_append,List.map_append];rfl
    ·unfold fldF;rw [if_neg hm,if_neg g3]
  ·refine q.no ?_ (s2.trans s3);obtain ⟨hm,rfl⟩:=mP hc;unfold layF;rw [c2.some hil (s := "Twice") (by unfold fldF; rw [if_pos hm])];rfl
 ·rintro σ H1 ⟨u,v,rfl,s2,e2,c2⟩;rw [<- hl,List.take_length] at e2;have c3:=c2.end hl.symm;walk_at "rd";refine ⟨_,.inl (SqL.of e2),rfl,eT _,?_⟩;rw [show V.str (st [116,111])=tx toT from rfl,gj];walk_at "rd";refine ite2 (fun g=>q.1 ?_ H1 s2) fun g=>?_
  ·unfold layF;rw [c3,if_pos g];rfl
  ·refine ⟨by decide,q.no ?_ s2⟩;unfold layF;rw [c3,if_neg g];rfl
noncomputable def iT (K:Frag):Sp:=fun vs H Q E=>match vs with
 | [.ref p,a,b,c]=>∃ (ls:List Fld) (x:LRule),Lay H p ls/\ls.length<=1000/\widthL ls<=10000/\Th H 1 a x.1/\Th H 1 b x.2.1/\Th H 1 c x.2.2/\OddD x.1/\OddD x.2.1/\OddD x.2.2/\Out K (ruleF (widthL ls) x) H Q E
 | _=>False
theorem pZ (T:Top K mg):CalleeX P w K mg base 3 "check_rule" ["layout", "row", "word", "over"] (iT K):=by
 refine T.mI.calX kX (by intro vs H Q E h; unfold iT at h; split at h <;> first | rfl | exact h.elim) (fun _ _ _ _ _ _ us hl=>match us,hl with | [_,_,_,_],_=>rfl) (fun f cdv A outer s H vs Q E hr h=>?_);unfold iT at h;split at h
 case h_2=>exact h.elim
 refine ⟨_,(ae (ao (i:=4) kX.nd rfl lc (aq (nW T) hr.m rfl (aa (qv 0) ac)))
   (ae (aE (gp (de (aq (qL T) hr.m rfl (aa (qv 1) (aa (qv 4) ac))))) (af (eQ rfl dM rfl T.dJ.1 T.dJ.2 (aa (lY (bV (qs [110,111,32,114,111,119,32,111,102,32,108,101,116,116,101,114,115,58,32]) (bV (me hr.gd hr.units0 (qv 1)) jA))) ac))) ar)
   (ae (aE (aB (qN K rfl hr) (qv 2) (zU T.u_WORDS rfl)) (af (eQ rfl dM rfl T.gQ.1 T.gQ.2 (aa (lY (bV (qs [110,111,32,119,111,114,100,32,111,102,32,97,32,114,117,108,101,58,32]) (bV (me hr.gd hr.units0 (qv 2)) jA))) ac))) ar)
   (af (aE (gp (de (aq (qL T) hr.m rfl (aa (qv 3) (aa (qv 4) ac))))) (af (eQ rfl dM rfl T.dJ.1 T.dJ.2 (aa (lY (bV (qs [110,111,32,111,118,101,114,32,111,102,32,108,101,116,116,101,114,115,58,32]) (bV (me hr.gd hr.units0 (qv 3)) jA))) ac))) ar))))),?_⟩
 rename_i p a b c;obtain ⟨ls,x,hL,hn,hW,t1,t2,t3,o1,o2,o3,q⟩:=h;walk_at "rd";refine ⟨ls,hL,hn,fun H1 s1=>?_⟩;obtain ⟨k1,f1⟩:=mO (aH s1 1 t1) o1;obtain ⟨k3,f3⟩:=mO (aH s1 1 t3) o3;walk_at "rd";refine ⟨k1,?_⟩;rw [f1,show textOf (dv x.1) (widthL ls:Int) [48,49,45]=rowOk (widthL ls) x.1 from rfl];cases e1:rowOk (widthL ls) x.1 with
 | false=>
  walk_at "rd";refine ⟨by decide,kM rfl (aH s1 1 t1) o1 fun z hz=>⟨(uZ hz (by decide)).2,fun _=>⟨by decide,q.no ?_ s1⟩⟩⟩;unfold ruleF;rw [e1];rfl
 | true=>
  walk_at "rd";intro W hW1;refine ⟨x.2.1,_,.inr hW1,sP (aH s1 1 t2),rfl,?_⟩;rw [show ([V.str (Str.ofString "pass"),V.str (Str.ofString "drop")].any fun z=>eqD (.f z) x.2.1)=wordOk x.2.1 from rfl];cases e2:wordOk x.2.1 with
  | false=>
   walk_at "rd";refine ⟨by decide,kM rfl (aH s1 1 t2) o2 fun z hz=>⟨(uZ hz (by decide)).2,fun _=>⟨by decide,q.no ?_ s1⟩⟩⟩;unfold ruleF;rw [e1,e2];rfl
  | true=>
   walk_at "rd";refine ⟨k3,?_⟩;rw [f3,show textOf (dv x.2.2) (widthL ls:Int) [48,49,45]=rowOk (widthL ls) x.2.2 from rfl];cases e3:rowOk (widthL ls) x.2.2 with
   | false=>
    walk_at "rd";refine ⟨by decide,kM rfl (aH s1 1 t3) o3 fun z hz=>⟨(uZ hz (by decide)).2,fun _=>⟨by decide,q.no ?_ s1⟩⟩⟩;unfold ruleF;rw [e1,e2,e3];rfl
   | true=>
    walk_at "rd";refine q.1 ?_ H1 s1;unfold ruleF;rw [e1,e2,e3];rfl
noncomputable def gr:Sp:=fun vs H Q _=>match vs with
 | [v,.int n]=>∃ (S:Nat) (d:D),n=(S:Int)/\Th H 1 v d/\OddD d/\Q (.bl (begOk S d)) H
 | _=>False
theorem nZ (T:Top K mg):Callee P w K mg base 3 "is_beginning" ["thing", "longest"] gr:=by
 refine T.kz.cal nP (by intro vs H Q E h; unfold gr at h; split at h <;> first | rfl | exact h.elim) (fun _ _ _ _ _ _ us hl=>match us,hl with | [_,_],_=>rfl) (fun f cdv A outer s H vs Q E hr h=>?_);unfold gr at h;split at h
 case h_2=>exact h.elim
 refine ⟨_,(af (aw (iG (aZ .str rfl T.au (qv 0) rfl T.mz kj) (iG (gn ye (av (lenE K rfl) rfl T.bv aN (aa (qv 0) ac)) (qv 1)) (lB (aq (ra T) hr.m rfl (aa (qv 0) (aa (av (lenE K rfl) rfl T.bv aN (aa (qv 0) ac)) ac)))))))),?_⟩;rename_i v n;obtain ⟨S,d,rfl,th,o,q⟩:=h;rcases gN th o with ⟨rfl,rfl⟩ | ⟨b,rfl,rfl⟩ | ⟨i,rfl,rfl,hh⟩ | ⟨n,rfl,rfl,hn⟩ | ⟨p,ls,rfl,hf,⟨e,rfl⟩ | ⟨e,rfl⟩⟩
 ·walk_at "rd"; exact q
 ·walk_at "rd"; exact q
 ·walk_at "rd"; exact q
 ·have hn2:=hn.2;have eb:begOk S (.f (tx n))=(decide (n.length<=S) && n.all fun c=>decide (c ∈ [48,49])):=by
   show (decide ((st n).cps.toList.length<=S) && (st n).cps.toList.all fun c=>decide (c ∈ [48,49]))=_;rw [aM]
  rw [eb] at q;walk_at "rd";refine ⟨by omega,ite2 (fun g=>?_) fun g=>?_⟩
  ·have el:textOf (tx n) (n.length:Int) [48,49]=n.all fun c=>decide (c ∈ [48,49]):=by
    simp only [textOf,aM,decide_true,Bool.true_and]
   rw [decide_eq_true (show n.length<=S by omega),Bool.true_and] at q;refine ⟨by omega,?_⟩;walk_at "rd";refine ⟨(mO (z8 n) (jf hn)).1,?_⟩;rw [el];exact q
  ·rw [decide_eq_false (show ¬ n.length<=S by omega),Bool.false_and] at q;exact q
 ·walk_at "rd"; exact .inl ⟨⟨_,e⟩,q⟩
 ·walk_at "rd"; exact .inr ⟨⟨_,e⟩,q⟩
def DoorsAt (H:Hp) (q:Addr) (ds:List (List Nat)):Prop:=∃ g w gv,H q=some (.tup [.ref g,w])/\H g=some (.lst gv)/\Paired (fun d u=>∃ t r,u=V.ref t/\H t=some (.tup [tx d,r])) ds gv
theorem DoorsAt.same {H H':Hp} {q:Addr} {ds:List (List Nat)} (h:DoorsAt H q ds) (s:Same H H'):DoorsAt H' q ds:=by
 obtain ⟨g,w,gv,e,eg,p⟩:=h;exact ⟨g,w,gv,s _ _ e,s _ _ eg,L2.Paired.mapP p fun _ _ ⟨t,r,e1,e2⟩=>⟨t,r,e1,s _ _ e2⟩⟩
theorem gb {α β γ:Type} {F:β -> γ -> Prop} {f:α -> β}:∀ {l:List α} {vs:List γ},Paired (fun x v=>F (f x) v) l vs->Paired F (l.map f) vs
 | _,_,.nil=>.nil
 | _,_,.cons r p=>.cons r (gb p)
theorem sQ {H:Hp} {n:Nat} {q:Addr} {h:LHouse} (th:Th H (n+3) (.ref q) (houseL h)):DoorsAt H q (h.1.map (·.1)):=by
 obtain ⟨_,v1,v2,⟨⟩,e,k1,k2⟩:=dZ th;obtain ⟨g,gv,rfl,eg,p⟩:=eH k1;refine ⟨g,v2,gv,e,eg,gb (L2.Paired.mapP p fun x u z=>?_)⟩;obtain ⟨t,u1,u2,e1,e2,z1,_⟩:=dZ z;obtain rfl:=dD z1;exact ⟨t,u2,e1,e2⟩
noncomputable def iF (K:Frag):Sp:=fun vs H Q E=>match vs with
 | [.ref q,.str d]=>∃ ds,DoorsAt H q ds/\NmOk d.cps.toList/\(d.cps.toList ∈ ds->∀ r H',Same H H'->Q r H')/\(d.cps.toList ∉ ds->∀ H',Same H H'->E (.ref (xA K "NoDoor")) none H')
 | _=>False
theorem kY (T:Top K mg):CalleeX P w K mg base 1 "gate_rules" ["house", "door"] (iF K):=by
 refine T.mB.calX iM (by intro vs H Q E h; unfold iF at h; split at h <;> first | rfl | exact h.elim) (fun _ _ _ _ _ _ us hl=>match us,hl with | [_,_],_=>rfl) (fun f cdv A outer s H vs Q E hr h=>?_);unfold iF at h;split at h
 case h_2=>exact h.elim
 refine ⟨_,(ae (br PassesOwn.leaving rfl (iterE K rfl (az (ixE K rfl) (qv 0) ad (fun _ _=>rfl))) (tupE K rfl rfl (n:=2) (ap (al (i:=2) iM.nd rfl lc) (ap (al (i:=3) iM.nd rfl lc) aR))) (af (aE (aB bz (qv 2) (qv 1)) (af (aw (qv 3))) ar)))
   (af (eQ rfl dM rfl T.jh.1 T.jh.2 (aa (lY (bV (qs [110,111,32,100,111,111,114,32]) (bV (n8 (qv 1)) jA))) ac)))),?_⟩
 rename_i q0 s;obtain ⟨d,rfl⟩:∃ x,s=st x:=⟨_,(cC s).symm⟩;obtain ⟨ds,⟨g,w',gv,e,eg,pr⟩,hn,q1,q2⟩:=h;simp only [aM] at hn q1 q2;have hl:=pr.length;walk_at "rd";refine ⟨_,_,.inr (SqT.of e),rfl,?_⟩;walk_at "rd";refine .inl ⟨⟨_,SqL.of eg⟩,?_⟩;refine bw (xs:=gv) (fun i σ H'=>∃ u v,σ = [some (.ref q0),some (.str (st d)),u,v]/\Same H H'/\d ∉ ds.take i) ⟨none,none,rfl,Same.refl _,by simp⟩ (fun i σ H' _ ⟨_,_,_,z,_⟩=>SqL.of (z _ _ eg)) ?_ ?_
 ·rintro i x σ H1 hx ⟨u,v,rfl,s1,h1⟩;have hi:i < gv.length:=(List.getElem?_eq_some_iff.mp hx).1;have hil:i < ds.length:=by omega
  obtain ⟨y,hy,t,r,ey,et⟩:=aD pr (List.getElem?_eq_getElem hil);obtain rfl:x=.ref t:=by rw [hy] at hx; rw [<- Option.some.inj hx,ey]
  refine ⟨t,[_,_],rfl,SqT.of (s1 _ _ et),rfl,_,[_],rfl,_,[],rfl,rfl,?_⟩;walk_at "rd";refine ite2 (fun g=>?_) fun g=>⟨_,_,rfl,s1,?_⟩
  ·exact q1 (by rw [<- show ds[i]=d from g]; exact List.getElem_mem hil) _ H1 s1
  ·rw [List.take_add_one,List.getElem?_eq_getElem hil];intro z;rcases List.mem_append.mp z with z | z
   ·exact h1 z
   ·exact g (by have:=List.mem_singleton.mp z; exact this.symm)
 ·rintro σ H1 ⟨u,v,rfl,s1,h1⟩;rw [<- hl,List.take_length] at h1;have hz:(st d).length=d.length:=iH d;have h100:=hn.2;walk_at "rd";exact ⟨by decide,hn.1,by omega,fun z hzz=>⟨ub (by decide) (by omega),fun _=>⟨by decide,q2 h1 H1 s1⟩⟩⟩
noncomputable def wayG (S:Nat) (ds bl:List (List Nat)) (x:LWay):Option Str:=if begOk S x.1=true then if dt x.1 ∈ bl then some "Twice" else if x.2 ∈ ds then none else some "NoDoor" else some "Misfit"
theorem oZ {H:Hp} {S:Nat} {v:V} {d:D} (th:Th H 1 v d) (o:OddD d) (h:begOk S d=true):v=tx (dt d)/\NmOk (dt d):=by
 rcases gN th o with ⟨rfl,rfl⟩ | ⟨b,rfl,rfl⟩ | ⟨i,rfl,rfl,hh⟩ | ⟨n,rfl,rfl,hn⟩ | ⟨p,ls,rfl,hf,⟨e,rfl⟩ | ⟨e,rfl⟩⟩
 ·cases h
 ·cases h
 ·cases h
 ·have:dt (.f (tx n))=n:=by show (st n).cps.toList=n; rw [aM]
  rw [this];exact ⟨rfl,hn⟩
 ·cases h
 ·cases h
noncomputable def jw (K:Frag):Sp:=fun vs H Q E=>match vs with
 | [.ref p,.ref t,b,.str d,.ref bs]=>∃ (ls:List Fld) (ds:List (List Nat)) (bl:List (List Nat)) (x:D) (fa fb:Nat),Lay H p ls/\spanF ls toT 0=some (fa,fb)/\fb<=10000/\DoorsAt H t ds/\Th H 1 b x/\OddD x/\H bs=some (.lst (bl.map tx))/\NmOk d.cps.toList/\Out K (wayG (fb - fa) ds bl (x,d.cps.toList)) H Q E
 | _=>False
theorem rA (T:Top K mg):CalleeX P w K mg base 4 "check_way" ["layout", "house", "beginning", "door", "beginnings"] (jw K):=by
 refine T.nM.calX lN (by intro vs H Q E h; unfold jw at h; split at h <;> first | rfl | exact h.elim) (fun _ _ _ _ _ _ us hl=>match us,hl with | [_,_,_,_,_],_=>rfl) (fun f cdv A outer s H vs Q E hr h=>?_);unfold jw at h;split at h
 case h_2=>exact h.elim
 refine ⟨_,(ae (ao (i:=5) lN.nd rfl lc (dW (qj T) hr.m bn rfl (aa (qv 0) (aa (qs [116,111]) ac))))
   (ae (aE (gp (de (aq (nZ T) hr.m rfl (aa (qv 2) (aa (am mi (az (ixE K rfl) (qv 5) ad (fun _ _=>rfl)) (az (ixE K rfl) (qv 5) ad (fun _ _=>rfl))) ac))))) (af (eQ rfl dM rfl T.dJ.1 T.dJ.2 (aa (lY (bV (qs [110,111,32,98,101,103,105,110,110,105,110,103,32,111,102,32,116,104,101,32,102,105,101,108,100,32,39,116,111,39,58,32]) (bV (me hr.gd hr.units0 (qv 2)) jA))) ac))) ar)
   (ae (aF (dW (fB T) hr.m bn rfl (aa (qv 2) (aa (qv 4) ac))))
   (af (aF (dW (kY T) hr.m bn rfl (aa (qv 1) (aa (qv 3) ac)))))))),?_⟩
 rename_i p t b d bs;obtain ⟨d,rfl⟩:∃ x,d=st x:=⟨_,(cC d).symm⟩;obtain ⟨ls,ds,bl,x,fa,fb,hL,esp,hfb,hD,th,o,ebs,hn,q⟩:=h;simp only [aM] at hn q;have hab:=oQ ls toT 0 fa fb esp;walk_at "rd";refine ⟨ls,hL,by decide,by decide,fun a1 b1 e1 t1 H1 ht1 s1 et1=>?_,fun e1=>?_⟩
 ·have e1':spanF ls toT 0=some (a1,b1):=e1;rw [esp] at e1';cases e1';walk_at "rd";refine ⟨_,_,.inr (SqT.of et1),rfl,_,_,.inr (SqT.of et1),rfl,?_⟩;walk_at "rd";refine ⟨fb - fa,x,by omega,aH s1 1 th,o,?_⟩;cases e2:begOk (fb - fa) x with
  | false=>
   walk_at "rd";refine ⟨by decide,kM rfl (aH s1 1 th) o fun z hz=>⟨(uZ hz (by decide)).2,fun _=>⟨by decide,q.no ?_ s1⟩⟩⟩;unfold wayG;rw [if_neg (by rw [e2]; decide)]
  | true=>
   obtain ⟨rfl,nb⟩:=oZ th o e2;walk_at "rd";refine .inl ⟨dt x,bl,rfl,s1 _ _ ebs,nb,fun hnew H2 s2=>?_,fun c hc H2 s2=>?_⟩
   ·have hm:=kL hnew;walk_at "rd";refine ⟨ds,hD.same (s1.trans s2),by rw [aM]; exact hn,fun hd r H3 s3=>?_,fun hd H3 s3=>?_⟩
    ·refine q.1 ?_ H3 (s1.trans (s2.trans s3));unfold wayG;rw [if_pos e2,if_neg hm,if_pos (by simpa using hd)]
    ·refine q.no ?_ (s1.trans (s2.trans s3));unfold wayG;rw [if_pos e2,if_neg hm,if_neg (by simpa using hd)]
   ·obtain ⟨hm,rfl⟩:=mP hc;refine q.no ?_ (s1.trans s2);unfold wayG;rw [if_pos e2,if_pos hm]
 ·have e1':spanF ls toT 0=none:=e1;rw [esp] at e1';cases e1'
noncomputable def hU (K:Frag):Sp:=fun vs H Q E=>match vs with
 | [.ref p,.ref t]=>∃ (ls:List Fld) (h:LHouse),Lay H p ls/\ls.length<=1000/\widthL ls<=10000/\Th H 6 (.ref t) (houseL h)/\OkH h/\Out K (scan (gateF (widthL ls)) [] h.1) H Q E
 | _=>False
theorem oY (T:Top K mg):CalleeX P w K mg base 4 "check_gates" ["layout", "house"] (hU K):=by
 refine T.lp.calX cD (by intro vs H Q E h; unfold hU at h; split at h <;> first | rfl | exact h.elim) (fun _ _ _ _ _ _ us hl=>match us,hl with | [_,_],_=>rfl) (fun f cdv A outer s H vs Q E hr h=>?_);unfold hU at h;split at h
 case h_2=>exact h.elim
 refine ⟨_,(ae (ao (i:=2) cD.nd rfl lc (aL ac))
   (af (br PassesOwn.leaving rfl (iterE K rfl (az (ixE K rfl) (qv 1) ad (fun _ _=>rfl))) (tupE K rfl rfl (n:=2) (ap (al (i:=3) cD.nd rfl lc) (ap (al (i:=4) cD.nd rfl lc) aR))) (ae (aF (dW (fB T) hr.m bn rfl (aa (qv 3) (aa (qv 2) ac))))
   (ae (br PassesOwn.leaving rfl (iterE K rfl (qv 4)) (tupE K rfl rfl (n:=3) (ap (al (i:=5) cD.nd rfl lc) (ap (al (i:=6) cD.nd rfl lc) (ap (al (i:=7) cD.nd rfl lc) aR)))) (af (aF (dW (pZ T) hr.m bn rfl (aa (qv 0) (aa (qv 5) (aa (qv 6) (aa (qv 7) ac))))))))
   (af (aF (dh (qv 2) (qv 3))))))))),?_⟩
 rename_i p t;obtain ⟨ls,h,hL,hn,hW,th,ok,q⟩:=h;obtain ⟨_,v1,v2,⟨⟩,eh,k1,k2⟩:=dZ th;obtain ⟨ga,gv,rfl,eg,pg⟩:=eH k1;have hgl:=pg.length;have hg:=ok.g;walk_at "rd";refine ⟨Nat.zero_le _,fun g hg0=>?_⟩;have s1:=ai hg0 (.lst []);refine ⟨_,_,.inr (SqT.of (s1 _ _ eh)),rfl,?_⟩;walk_at "rd";refine .inl ⟨⟨_,SqL.of (s1 _ _ eg)⟩,?_⟩;refine bw (xs:=gv) (fun i σ H'=>∃ u3 u4 u5 u6 u7,σ = [some (.ref p),some (.ref t),some (.ref g),u3,u4,u5,u6,u7]/\Same H H'/\H' g=some (.lst (((h.1.take i).map (·.1)).map tx))/\Calm (gateF (widthL ls)) h.1 i) ⟨none,none,none,none,none,rfl,s1,ah,Calm.zero⟩ (fun i σ H' _ ⟨_,_,_,_,_,_,z,_⟩=>SqL.of (z _ _ eg)) ?_ ?_
 ·rintro i x σ H1 hx ⟨u3,u4,u5,u6,u7,rfl,s2,e2,c2⟩;have hi:i < gv.length:=(List.getElem?_eq_some_iff.mp hx).1;have hil:i < h.1.length:=by omega
  obtain ⟨y,hy,tg⟩:=aD pg (List.getElem?_eq_getElem hil);obtain ⟨t',w1,w2,ey,et,z1,z2⟩:=dZ tg;obtain rfl:x=.ref t':=by rw [hy] at hx; rw [<- Option.some.inj hx,ey]
  obtain rfl:=dD z1;obtain ⟨r',rv,rfl,er,prr⟩:=eH z2;have hrl:=prr.length;refine ⟨t',[_,_],rfl,SqT.of (s2 _ _ et),rfl,_,[_],rfl,_,[],rfl,rfl,?_⟩;walk_at "rd";have hmi:=List.getElem_mem hil;refine .inl ⟨h.1[i].1,_,rfl,e2,ok.door _ hmi,fun hnew H2 s3=>?_,fun c hc H2 s3=>?_⟩
  ·have s23:=s2.trans s3;have e3:=s3 _ _ e2;walk_at "rd";refine .inl ⟨⟨_,SqL.of (s23 _ _ er)⟩,?_⟩;refine bw (xs:=rv) (fun j σ H'=>∃ v5 v6 v7,σ = [some (.ref p),some (.ref t),some (.ref g),some (tx h.1[i].1),some (.ref r'),v5,v6,v7]/\Same H2 H'/\Calm (fun _=>ruleF (widthL ls)) h.1[i].2 j) ⟨_,_,_,rfl,Same.refl _,Calm.zero⟩ (fun j σ H' _ ⟨_,_,_,_,z,_⟩=>SqL.of (z _ _ (s23 _ _ er))) ?_ ?_
   ·rintro j z σ H3 hz ⟨v5,v6,v7,rfl,s4,c4⟩;have hj:j < rv.length:=(List.getElem?_eq_some_iff.mp hz).1;have hjl:j < h.1[i].2.length:=by omega
    obtain ⟨y2,hy2,tr⟩:=aD prr (List.getElem?_eq_getElem hjl);obtain ⟨t2,a1,a2,a3,ey2,et2,m1,m2,m3⟩:=pB tr;obtain rfl:z=.ref t2:=by rw [hy2] at hz; rw [<- Option.some.inj hz,ey2]
    have s24:=s23.trans s4;obtain ⟨o1,o2,o3⟩:=ok.rule _ hmi _ (List.getElem_mem hjl);refine ⟨t2,[_,_,_],rfl,SqT.of (s24 _ _ et2),rfl,_,[_,_],rfl,_,[_],rfl,_,[],rfl,rfl,?_⟩;walk_at "rd";refine ⟨ls,h.1[i].2[j],hL.same s24,hn,hW,aH s24 1 m1,aH s24 1 m2,aH s24 1 m3,o1,o2,o3,fun h5 H4 s5=>⟨_,_,_,rfl,s4.trans s5,c4.step hjl h5⟩,fun c hc H4 s5=>q.no ?_ (s24.trans s5)⟩;refine c2.some hil ?_;unfold gateF;rw [hnew,c4.some hjl hc];rfl
   ·rintro σ H3 ⟨v5,v6,v7,rfl,s4,c4⟩;have e4:=s4 _ _ e3;walk_at "rd";refine ⟨⟨_,e4⟩,_,e4,sizeBig (by simp; omega),_,_,_,_,_,rfl,aS (s23.trans s4) hg0,?_,c2.step hil ?_⟩
    ·rw [ah,List.take_add_one,List.getElem?_eq_getElem hil,Option.toList_some,List.map_append,List.map_append];rfl
    ·unfold gateF;rw [hnew,c4.end hrl.symm];rfl
  ·refine q.no (c2.some hil ?_) (s2.trans s3);unfold gateF;rw [hc];rfl
 ·rintro σ H1 ⟨u3,u4,u5,u6,u7,rfl,s2,e2,c2⟩;exact q.1 (c2.end hgl.symm) H1 s2
noncomputable def iR (K:Frag):Sp:=fun vs H Q E=>match vs with
 | [.ref p,.ref t]=>∃ (ls:List Fld) (h:LHouse) (fa fb:Nat),Lay H p ls/\spanF ls toT 0=some (fa,fb)/\fb<=10000/\Th H 6 (.ref t) (houseL h)/\OkH h/\Out K (scan (wayF (fb - fa) (h.1.map (·.1))) [] h.2) H Q E
 | _=>False
theorem pY (T:Top K mg):CalleeX P w K mg base 5 "check_ways" ["layout", "house"] (iR K):=by
 refine T.mJ.calX fV (by intro vs H Q E h; unfold iR at h; split at h <;> first | rfl | exact h.elim) (fun _ _ _ _ _ _ us hl=>match us,hl with | [_,_],_=>rfl) (fun f cdv A outer s H vs Q E hr h=>?_);unfold iR at h;split at h
 case h_2=>exact h.elim
 refine ⟨_,(ae (ao (i:=2) fV.nd rfl lc (aL ac))
   (af (br PassesOwn.leaving rfl (iterE K rfl (az (ixE K rfl) (qv 1) ad (fun _ _=>rfl))) (tupE K rfl rfl (n:=2) (ap (al (i:=3) fV.nd rfl lc) (ap (al (i:=4) fV.nd rfl lc) aR))) (ae (aF (dW (rA T) hr.m bn rfl (aa (qv 0) (aa (qv 1) (aa (qv 3) (aa (qv 4) (aa (qv 2) ac)))))))
   (af (aF (dh (qv 2) (qv 3)))))))),?_⟩
 rename_i p t;obtain ⟨ls,h,fa,fb,hL,esp,hfb,th,ok,q⟩:=h;obtain ⟨_,v1,v2,⟨⟩,eh,k1,k2⟩:=dZ th;obtain ⟨wa,wv,rfl,ew,pw⟩:=eH k2;have hwl:=pw.length;have hw:=ok.w;have hD:=sQ th;walk_at "rd";refine ⟨Nat.zero_le _,fun g hg0=>?_⟩;have s1:=ai hg0 (.lst []);refine ⟨_,_,.inr (SqT.of (s1 _ _ eh)),rfl,?_⟩;walk_at "rd";refine .inl ⟨⟨_,SqL.of (s1 _ _ ew)⟩,?_⟩;refine bw (xs:=wv) (fun i σ H'=>∃ u3 u4,σ = [some (.ref p),some (.ref t),some (.ref g),u3,u4]/\Same H H'/\H' g=some (.lst (((h.2.take i).map fun x=>dt x.1).map tx))/\Calm (wayF (fb - fa) (h.1.map (·.1))) h.2 i) ⟨none,none,rfl,s1,ah,Calm.zero⟩ (fun i σ H' _ ⟨_,_,_,z,_⟩=>SqL.of (z _ _ ew)) ?_ ?_
 ·rintro i x σ H1 hx ⟨u3,u4,rfl,s2,e2,c2⟩;have hi:i < wv.length:=(List.getElem?_eq_some_iff.mp hx).1;have hil:i < h.2.length:=by omega
  obtain ⟨y,hy,tg⟩:=aD pw (List.getElem?_eq_getElem hil);obtain ⟨t',w1,w2,ey,et,z1,z2⟩:=dZ tg;obtain rfl:x=.ref t':=by rw [hy] at hx; rw [<- Option.some.inj hx,ey]
  obtain rfl:=dD z2;obtain ⟨o1,n1⟩:=ok.beg _ (List.getElem_mem hil);refine ⟨t',[_,_],rfl,SqT.of (s2 _ _ et),rfl,_,[_],rfl,_,[],rfl,rfl,?_⟩;walk_at "rd";refine ⟨ls,_,_,h.2[i].1,fa,fb,hL.same s2,esp,hfb,hD.same s2,aH s2 1 (ol z1 o1),o1,e2,by simp only [aM]; exact n1,fun h5 H2 s3=>?_,fun c hc H2 s3=>q.no (c2.some hil (by simp only [aM] at hc; exact hc)) (s2.trans s3)⟩;simp only [aM] at h5;have e3:=s3 _ _ e2;have hb:begOk (fb - fa) h.2[i].1=true:=by
   unfold wayG at h5;split at h5
   ·assumption
   ·cases h5
  walk_at "rd";refine ⟨⟨_,e3⟩,_,e3,sizeBig (by simp; omega),_,_,rfl,aS (s2.trans s3) hg0,?_,c2.step hil h5⟩;rw [ah,List.take_add_one,List.getElem?_eq_getElem hil,Option.toList_some,List.map_append,List.map_append,(oZ (ol z1 o1) o1 hb).1];rfl
 ·rintro σ H1 ⟨u3,u4,rfl,s2,e2,c2⟩;exact q.1 (c2.end hwl.symm) H1 s2
noncomputable def gx (K:Frag):Sp:=fun vs H Q E=>match vs with
 | [.ref p,.ref t]=>∃ (ls:List Fld) (hs:List LNamed) (fa fb:Nat),Lay H p ls/\ls.length<=1000/\widthL ls<=10000/\spanF ls toT 0=some (fa,fb)/\fb<=10000/\Th H 8 (.ref t) (.l (hs.map namedL))/\hs.length<=1000/\(∀ x ∈ hs,NmOk x.1/\OkH x.2)/\Out K (scan (namedF (widthL ls) (fb - fa)) [] hs) H Q E
 | _=>False
theorem nT (T:Top K mg):CalleeX P w K mg base 6 "check_houses" ["layout", "houses"] (gx K):=by
 refine T.kD.calX eS (by intro vs H Q E h; unfold gx at h; split at h <;> first | rfl | exact h.elim) (fun _ _ _ _ _ _ us hl=>match us,hl with | [_,_],_=>rfl) (fun f cdv A outer s H vs Q E hr h=>?_);unfold gx at h;split at h
 case h_2=>exact h.elim
 refine ⟨_,(ae (ao (i:=2) eS.nd rfl lc (aL ac))
   (af (br PassesOwn.leaving rfl (iterE K rfl (qv 1)) (tupE K rfl rfl (n:=2) (ap (al (i:=3) eS.nd rfl lc) (ap (al (i:=4) eS.nd rfl lc) aR))) (ae (aF (dW (fB T) hr.m bn rfl (aa (qv 3) (aa (qv 2) ac))))
   (ae (aF (dW (oY T) hr.m bn rfl (aa (qv 0) (aa (qv 4) ac))))
   (ae (aF (dW (pY T) hr.m bn rfl (aa (qv 0) (aa (qv 4) ac))))
   (af (aF (dh (qv 2) (qv 3)))))))))),?_⟩
 rename_i p t;obtain ⟨ls,hs,fa,fb,hL,hn,hW,esp,hfb,th,hl1,hok,q⟩:=h;obtain ⟨_,hv,⟨⟩,e0,pr⟩:=eH th;have hl:=pr.length;walk_at "rd";refine ⟨Nat.zero_le _,fun g hg0=>?_⟩;have s1:=ai hg0 (.lst []);refine .inl ⟨⟨_,SqL.of (s1 _ _ e0)⟩,?_⟩;refine bw (xs:=hv) (fun i σ H'=>∃ u3 u4,σ = [some (.ref p),some (.ref t),some (.ref g),u3,u4]/\Same H H'/\H' g=some (.lst (((hs.take i).map (·.1)).map tx))/\Calm (namedF (widthL ls) (fb - fa)) hs i) ⟨none,none,rfl,s1,ah,Calm.zero⟩ (fun i σ H' _ ⟨_,_,_,z,_⟩=>SqL.of (z _ _ e0)) ?_ ?_
 ·rintro i x σ H1 hx ⟨u3,u4,rfl,s2,e2,c2⟩;have hi:i < hv.length:=(List.getElem?_eq_some_iff.mp hx).1;have hil:i < hs.length:=by omega
  obtain ⟨y,hy,tg⟩:=aD pr (List.getElem?_eq_getElem hil);obtain ⟨t',w1,w2,ey,et,z1,z2⟩:=dZ tg;obtain rfl:x=.ref t':=by rw [hy] at hx; rw [<- Option.some.inj hx,ey]
  obtain rfl:=dD z1;obtain ⟨n1,ok⟩:=hok _ (List.getElem_mem hil);obtain ⟨q',_,_,rfl,_⟩:=dZ z2;refine ⟨t',[_,_],rfl,SqT.of (s2 _ _ et),rfl,_,[_],rfl,_,[],rfl,rfl,?_⟩;walk_at "rd";refine .inl ⟨hs[i].1,_,rfl,e2,n1,fun hnew H2 s3=>?_,fun c hc H2 s3=>?_⟩
  ·have s23:=s2.trans s3;walk_at "rd";refine ⟨ls,hs[i].2,hL.same s23,hn,hW,aH s23 6 z2,ok,fun h5 H3 s4=>?_,fun c hc H3 s4=>?_⟩
   ·have s24:=s23.trans s4;walk_at "rd";refine ⟨ls,hs[i].2,fa,fb,hL.same s24,esp,hfb,aH s24 6 z2,ok,fun h6 H4 s5=>?_,fun c hc H4 s5=>?_⟩
    ·have e3:=s5 _ _ (s4 _ _ (s3 _ _ e2));walk_at "rd";refine ⟨⟨_,e3⟩,_,e3,sizeBig (by simp; omega),_,_,rfl,aS (s24.trans s5) hg0,?_,c2.step hil ?_⟩
     ·rw [ah,List.take_add_one,List.getElem?_eq_getElem hil,Option.toList_some,List.map_append,List.map_append];rfl
     ·unfold namedF houseF;rw [hnew,h5,h6];rfl
    ·refine q.no (c2.some hil ?_) (s24.trans s5);unfold namedF houseF;rw [hnew,h5,hc];rfl
   ·refine q.no (c2.some hil ?_) (s23.trans s4);unfold namedF houseF;rw [hnew,hc];rfl
  ·refine q.no (c2.some hil ?_) (s2.trans s3);unfold namedF;rw [hc];rfl
 ·rintro σ H1 ⟨u3,u4,rfl,s2,e2,c2⟩;exact q.1 (c2.end hl.symm) H1 s2
def SpotH (H:Hp) (p:Addr) (hs:List (List Nat × List (List Nat))):Prop:=∃ vs,H p=some (.lst vs)/\Paired (fun (x:List Nat × List (List Nat)) v=>∃ t q,v=V.ref t/\H t=some (.tup [tx x.1,.ref q])/\DoorsAt H q x.2) hs vs
theorem SpotH.same {H H':Hp} {q:Addr} {hs:List (List Nat × List (List Nat))} (h:SpotH H q hs) (s:Same H H'):SpotH H' q hs:=by
 obtain ⟨vs,e,p⟩:=h;exact ⟨vs,s _ _ e,L2.Paired.mapP p fun _ _ ⟨t,r,e1,e2,e3⟩=>⟨t,r,e1,s _ _ e2,e3.same s⟩⟩
theorem pf {H:Hp} {p:Addr} {hs:List LNamed} (th:Th H 8 (.ref p) (.l (hs.map namedL))):SpotH H p (doorsN hs):=by
 obtain ⟨_,vs,⟨⟩,e,pr⟩:=eH th;refine ⟨vs,e,gb (L2.Paired.mapP pr fun x u z=>?_)⟩;obtain ⟨t,u1,u2,e1,e2,z1,z2⟩:=dZ z;obtain rfl:=dD z1;obtain ⟨q,_,_,rfl,_⟩:=dZ z2;exact ⟨t,q,e1,e2,sQ z2⟩
noncomputable def ie (K:Frag):Sp:=fun vs H Q E=>match vs with
 | [.ref t,.str n]=>∃ (hs:List (List Nat × List (List Nat))) (a c:V) (b:Addr),H t=some (.tup [a,.ref b,c])/\SpotH H b hs/\NmOk n.cps.toList /\
   (∀ ds,doorsOf hs n.cps.toList=some ds->∀ q H',Same H H'->DoorsAt H' q ds->Q (.ref q) H') /\
   (doorsOf hs n.cps.toList=none->∀ H',Same H H'->E (.ref (xA K "NoHouse")) none H')
 | _=>False
theorem pH (T:Top K mg):CalleeX P w K mg base 1 "house_named" ["net", "name"] (ie K):=by
 refine T.lm.calX hX (by intro vs H Q E h; unfold ie at h; split at h <;> first | rfl | exact h.elim) (fun _ _ _ _ _ _ us hl=>match us,hl with | [_,_],_=>rfl) (fun f cdv A outer s H vs Q E hr h=>?_);unfold ie at h;split at h
 case h_2=>exact h.elim
 refine ⟨_,(ae (br PassesOwn.leaving rfl (iterE K rfl (az (ixE K rfl) (qv 0) ad (fun _ _=>rfl))) (tupE K rfl rfl (n:=2) (ap (al (i:=2) hX.nd rfl lc) (ap (al (i:=3) hX.nd rfl lc) aR))) (af (aE (aB bz (qv 2) (qv 1)) (af (aw (qv 3))) ar)))
   (af (eQ rfl dM rfl T.gR.1 T.gR.2 (aa (lY (bV (qs [110,111,32,104,111,117,115,101,32]) (bV (n8 (qv 1)) jA))) ac)))),?_⟩
 rename_i p s;obtain ⟨n,rfl⟩:∃ x,s=st x:=⟨_,(cC s).symm⟩;obtain ⟨hs,a,c,b,e,⟨vs,e0,pr⟩,hn,q1,q2⟩:=h;simp only [aM] at q1 q2 hn;have hl:=pr.length;walk_at "rd";refine ⟨_,_,.inr (SqT.of e),rfl,?_⟩;walk_at "rd";refine .inl ⟨⟨_,SqL.of e0⟩,?_⟩;refine bw (xs:=vs) (fun i σ H'=>∃ u v,σ = [some (.ref p),some (.str (st n)),u,v]/\Same H H'/\∀ x ∈ hs.take i,¬ x.1=n) ⟨none,none,rfl,Same.refl _,fun x hx=>by simp at hx⟩ (fun i σ H' _ ⟨_,_,_,z,_⟩=>SqL.of (z _ _ e0)) ?_ ?_
 ·rintro i x σ H1 hx ⟨u,v,rfl,s1,h1⟩;have hi:i < vs.length:=(List.getElem?_eq_some_iff.mp hx).1;have hil:i < hs.length:=by omega
  obtain ⟨y,hy,t,r,ey,et,hr⟩:=aD pr (List.getElem?_eq_getElem hil);obtain rfl:x=.ref t:=by rw [hy] at hx; rw [<- Option.some.inj hx,ey]
  refine ⟨t,[_,_],rfl,SqT.of (s1 _ _ et),rfl,_,[_],rfl,_,[],rfl,rfl,?_⟩;walk_at "rd";refine ite2 (fun g=>?_) fun g=>⟨some (tx hs[i].1),some (.ref r),rfl,s1,fun y hy=>?_⟩
  ·refine q1 hs[i].2 ?_ r H1 s1 (hr.same s1);unfold doorsOf;rw [show hs.find? (fun g=>decide (g.1=n))=some hs[i] from List.find?_eq_some_iff_append.mpr ⟨by simpa using g,hs.take i,hs.drop (i+1),by simp,fun y hy=>by simpa using h1 y hy⟩];rfl
  ·rw [List.take_add_one,List.getElem?_eq_getElem hil] at hy;rcases List.mem_append.mp hy with hy | hy
   ·exact h1 y hy
   ·have e:y=hs[i]:=by simpa using hy
    rw [e];exact g
 ·rintro σ H1 ⟨u,v,rfl,s1,h1⟩;walk_at "rd";have e:doorsOf hs n=none:=by
   unfold doorsOf;rw [List.find?_eq_none.mpr fun y hy=>by simpa using h1 y (by rw [<- hl,List.take_length]; exact hy)];rfl
  have hz:(st n).length=n.length:=iH n;have h100:=hn.2;exact ⟨by decide,hn.1,by omega,fun z hzz=>⟨ub (by decide) (by omega),fun _=>⟨by decide,q2 e H1 s1⟩⟩⟩
noncomputable def iK (K:Frag):Sp:=fun vs H Q E=>match vs with
 | [.ref t,.str n,.str d]=>∃ (hs:List (List Nat × List (List Nat))) (a c:V) (b:Addr),H t=some (.tup [a,.ref b,c])/\SpotH H b hs/\NmOk n.cps.toList/\NmOk d.cps.toList/\Out K (spotF hs (n.cps.toList,d.cps.toList)) H Q E
 | _=>False
theorem pW (T:Top K mg):CalleeX P w K mg base 2 "check_spot" ["net", "house", "door"] (iK K):=by
 refine T.mF.calX qm (by intro vs H Q E h; unfold iK at h; split at h <;> first | rfl | exact h.elim) (fun _ _ _ _ _ _ us hl=>match us,hl with | [_,_,_],_=>rfl) (fun f cdv A outer s H vs Q E hr h=>?_);unfold iK at h;split at h
 case h_2=>exact h.elim
 refine ⟨_,(af (aF (dW (kY T) hr.m bn rfl (aa (dW (pH T) hr.m bn rfl (aa (qv 0) (aa (qv 1) ac))) (aa (qv 2) ac))))),?_⟩;rename_i t n d;obtain ⟨hs,a,c,b,e,hH,h1,h2,q⟩:=h;walk_at "rd";refine ⟨hs,a,c,b,e,hH,h1,fun ds ed q0 H1 s1 hD=>?_,fun en H1 s1=>q.no ?_ s1⟩
 ·walk_at "rd";refine ⟨ds,hD,h2,fun hd r H2 s2=>q.1 ?_ H2 (s1.trans s2),fun hd H2 s2=>q.no ?_ (s1.trans s2)⟩
  ·unfold spotF;rw [ed];exact if_pos hd
  ·unfold spotF;rw [ed];exact if_neg hd
 ·unfold spotF;rw [en]
noncomputable def ib (K:Frag):Sp:=fun vs H Q E=>match vs with
 | [.ref t]=>∃ N:LNet,Th H 9 (.ref t) (netL N)/\OkN N/\Out K (scan (endF (doorsN N.2.1)) [] (endsOf N.2.2)) H Q E
 | _=>False
theorem pe {ls:List Line} {i:Nat} (h:i < ls.length):∀ j,j < 2->(endsOf ls).take (2*i+j)=endsOf (ls.take i)++[ls[i].1,ls[i].2].take j/\(endsOf ls)[2*i+j]? = [ls[i].1,ls[i].2][j]?:=by
 intro j hj;have el:(endsOf (ls.take i)).length=2*i:=by
  have:∀ l:List Line,(endsOf l).length=2*l.length:=fun l=>by
   unfold endsOf
   induction l with
   | nil=>rfl
   | cons x l ih=>rw [List.flatMap_cons,List.length_append,ih]; simp; omega
  rw [this,List.length_take];omega
 have ea:endsOf ls=endsOf (ls.take i)++([ls[i].1,ls[i].2]++endsOf (ls.drop (i+1))):=by
  conv=>lhs; rw [<- List.take_append_drop i ls,List.drop_eq_getElem_cons h]
  unfold endsOf;rw [List.flatMap_append,List.flatMap_cons]
 rw [ea];constructor
 ·rw [List.take_append,el,List.take_of_length_le (by omega),Nat.add_sub_cancel_left,List.take_append_of_le_length (by simp; omega)]
 ·rw [List.getElem?_append_right (by omega),el,Nat.add_sub_cancel_left,List.getElem?_append_left (by simp; omega)]
theorem xM (l:List Line):(endsOf l).length=2*l.length:=by
 unfold endsOf
 induction l with
 | nil=>rfl
 | cons x l ih=>rw [List.flatMap_cons,List.length_append,ih]; simp; omega
theorem px (T:Top K mg):CalleeX P w K mg base 3 "check_lines" ["net"] (ib K):=by
 refine T.lq.calX fv (by intro vs H Q E h; unfold ib at h; split at h <;> first | rfl | exact h.elim) (fun _ _ _ _ _ _ us hl=>match us,hl with | [_],_=>rfl) (fun f cdv A outer s H vs Q E hr h=>?_);unfold ib at h;split at h
 case h_2=>exact h.elim
 refine ⟨_,(ae (ao (i:=1) fv.nd rfl lc (aL ac))
   (af (br PassesOwn.leaving rfl (iterE K rfl (az (ixE K rfl) (qv 0) ad (fun _ _=>rfl))) (al (i:=2) fv.nd rfl lc) (af (br PassesOwn.leaving rfl (iterE K rfl (qv 2)) (al (i:=3) fv.nd rfl lc) (ae (aF (dW (pW T) hr.m bn rfl (aa (qv 0) (aa (az (ixE K rfl) (qv 3) ad (fun _ _=>rfl)) (aa (az (ixE K rfl) (qv 3) ad (fun _ _=>rfl)) ac)))))
   (ae (aF (dW (fB T) hr.m bn rfl (aa (qv 3) (aa (qv 1) ac))))
   (af (aF (dh (qv 1) (qv 3))))))))))),?_⟩
 rename_i t;obtain ⟨N,hN,ok,q⟩:=h;obtain ⟨_,v1,v2,v3,⟨⟩,e,k1,k2,k3⟩:=pB hN;obtain ⟨hb,_,rfl,_⟩:=eH k2;obtain ⟨lc,cv,rfl,ec,pc⟩:=eH k3;have hS:=pf k2;have hcl:=pc.length;have h400:=ok.l400;have hen:=xM N.2.2;walk_at "rd";refine ⟨Nat.zero_le _,fun g hg0=>?_⟩;have s1:=ai hg0 (.lst []);refine ⟨_,_,.inr (SqT.of (s1 _ _ e)),rfl,?_⟩;walk_at "rd";refine .inl ⟨⟨_,SqL.of (s1 _ _ ec)⟩,?_⟩;refine bw (xs:=cv) (fun i σ H'=>∃ u2 u3 tv,σ = [some (.ref t),some (.ref g),u2,u3]/\Same H H'/\H' g=some (.lst tv)/\Paired (WayAt H') ((endsOf N.2.2).take (2*i)) tv/\Calm (endF (doorsN N.2.1)) (endsOf N.2.2) (2*i)) ⟨none,none,[],rfl,s1,ah,.nil,Calm.zero⟩ (fun i σ H' _ ⟨_,_,_,_,z,_⟩=>SqL.of (z _ _ ec)) ?_ ?_
 ·rintro i x σ H1 hx ⟨u2,u3,tv,rfl,s2,e2,p2,c2⟩;have hi:i < cv.length:=(List.getElem?_eq_some_iff.mp hx).1;have hil:i < N.2.2.length:=by omega
  obtain ⟨y,hy,tg⟩:=aD pc (List.getElem?_eq_getElem hil);obtain ⟨t',w1,w2,ey,et,z1,z2⟩:=dZ tg;obtain rfl:x=.ref t':=by rw [hy] at hx; rw [<- Option.some.inj hx,ey]
  have wl:Paired (WayAt H) [N.2.2[i].1,N.2.2[i].2] [w1,w2]:=.cons (lT z1) (.cons (lT z2) .nil);have e2j:=pe hil;walk_at "rd";refine .inr ⟨⟨_,SqT.of (s2 _ _ et)⟩,?_⟩;refine tm (xs:=[w1,w2]) (fun j σ H'=>∃ u3 tv,σ = [some (.ref t),some (.ref g),some (.ref t'),u3]/\Same H H'/\H' g=some (.lst tv)/\Paired (WayAt H') ((endsOf N.2.2).take (2*i+j)) tv/\Calm (endF (doorsN N.2.1)) (endsOf N.2.2) (2*i+j)) ⟨_,tv,rfl,s2,e2,p2,c2⟩ (fun j σ H' _ ⟨_,_,_,z,_⟩=>SqT.of (z _ _ et)) ?_ ?_
  ·rintro j v σ H2 hv ⟨u3,tv2,rfl,s3,e3,p3,c3⟩;have hj2:j < 2:=(List.getElem?_eq_some_iff.mp hv).1;have hjl:j < [N.2.2[i].1,N.2.2[i].2].length:=hj2;obtain ⟨y3,hy3,ta,eya,eta⟩:=aD wl (List.getElem?_eq_getElem hjl);obtain rfl:v=.ref ta:=by rw [hy3] at hv; rw [<- Option.some.inj hv,eya]
   have hk:2*i+j < (endsOf N.2.2).length:=by omega
   have ek:(endsOf N.2.2)[2*i+j]=[N.2.2[i].1,N.2.2[i].2][j]:=by
    have:=(e2j j hj2).2;rw [List.getElem?_eq_getElem hk,List.getElem?_eq_getElem hjl] at this;exact Option.some.inj this
   rw [<- ek] at eta;clear ek e2j;have etk:(endsOf N.2.2).take (2*i+(j+1))=(endsOf N.2.2).take (2*i+j)++[(endsOf N.2.2)[2*i+j]]:=by
    rw [<- Nat.add_assoc,List.take_add_one,List.getElem?_eq_getElem hk];rfl
   obtain ⟨n1,n2⟩:=ok.ends _ (List.getElem_mem hk);rw [etk,<- Nat.add_assoc];have cs:=fun {c:Str}=>c3.some (s:=c) hk
   have ct:=c3.step hk;have l4:=p3.length;rw [List.length_take] at l4;generalize (endsOf N.2.2)[2*i+j]=z at cs ct eta n1 n2 ⊢;walk_at "rd";refine ⟨_,_,.inr (SqT.of (s3 _ _ eta)),rfl,_,_,.inr (SqT.of (s3 _ _ eta)),rfl,?_⟩;refine ⟨doorsN N.2.1,v1,_,hb,s3 _ _ e,hS.same s3,by rw [aM]; exact n1,by rw [aM]; exact n2,fun h5 H3 s4=>?_,fun c hc H3 s4=>q.no (cs ?_) (s3.trans s4)⟩
   ·simp only [aM] at h5;walk_at "rd";have e4:=s4 _ _ e3;have p4:=df (fun t us q=>s4 _ _ q) p3;refine .inr ⟨z,_,_,⟨ta,rfl,s4 _ _ (s3 _ _ eta)⟩,e4,p4,n1,n2,fun h6 H4 s5=>?_,fun c hc H4 s5=>q.no (cs ?_) (s3.trans (s4.trans s5))⟩
    ·have e5:=s5 _ _ e4;walk_at "rd";refine ⟨⟨_,e5⟩,_,e5,sizeBig (by omega),_,_,rfl,aS (s3.trans (s4.trans s5)) hg0,ah,?_,ct ?_⟩
     ·exact fe (df (cZ e5) (df (fun t us q=>s5 _ _ q) p4)) ⟨ta,rfl,cZ e5 _ _ (s5 _ _ (s4 _ _ (s3 _ _ eta)))⟩
     ·unfold endF;rw [h5,h6];rfl
    ·unfold endF;rw [h5,hc];rfl
   ·simp only [aM] at hc;unfold endF;rw [hc];rfl
  ·rintro σ H2 ⟨u3,tv2,rfl,s3,e3,p3,c3⟩;exact ⟨_,_,tv2,rfl,s3,e3,p3,c3⟩
 ·rintro σ H1 ⟨u2,u3,tv,rfl,s2,e2,p2,c2⟩;exact q.1 (c2.end (by omega)) H1 s2
theorem oM {ls:List LFld} (h:layF ls=none):(∀ x ∈ ls,1<=x.2)/\toT ∈ ls.map (·.1):=by
 unfold layF at h;rw [Option.or_eq_none_iff] at h;refine ⟨fun x hx=>?_,?_⟩
 ·obtain ⟨p,e⟩:=sw h.1 x hx;unfold fldF at e;split at e
  ·cases e
  ·split at e
   ·cases e
   ·omega
 ·have:=h.2;split at this
  ·assumption
  ·cases this
theorem wV {H:Hp} {n:Nat} {p:Addr} {ls:List LFld} (th:Th H (n+2) (.ref p) (.l (ls.map fldL))) (h:∀ x ∈ ls,1<=x.2):Lay H p (unI ls):=by
 obtain ⟨_,vs,⟨⟩,e,pr⟩:=eH th;refine ⟨vs,e,?_⟩;clear e th;unfold unI
 induction pr with
 | nil=>exact .nil
 | cons r p ih=>
  rename_i x v xs vs;refine .cons ?_ (ih fun y hy=>h y (List.mem_cons_of_mem _ hy));obtain ⟨t,v1,v2,rfl,e,k1,k2⟩:=dZ r;obtain rfl:=dD k1;obtain rfl:=dD k2;refine ⟨t,rfl,?_⟩;have:=h x List.mem_cons_self;rw [e,show ((x.2.toNat:Nat):Int)=x.2 by omega]
theorem zl {ls:List Fld}:∀ {a:Nat},toT ∈ ls.map (·.1)->∃ x y,spanF ls toT a=some (x,y):=by
 induction ls with
 | nil=>intro a h; simp at h
 | cons f ls ih=>
  intro a h;obtain ⟨f,z⟩:=f;rw [spanF];by_cases e:f=toT
  ·rw [if_pos e];exact ⟨_,_,rfl⟩
  ·rw [if_neg e];refine ih ?_;rw [List.map_cons] at h;rcases List.mem_cons.mp h with h | h
   ·exact absurd h.symm e
   ·exact h
theorem sU:∀ (l:List Fld) (n:List Nat) (a x y:Nat),spanF l n a=some (x,y)->y<=a+widthL l
 | [],_,_,_,_,h=>by cases h
 | (f,z)::l,n,a,x,y,h=>by
  rw [spanF] at h;have hw:widthL ((f,z)::l)=z+widthL l:=by unfold widthL; rw [List.map_cons,List.sum_cons]
  rw [hw];split at h
  ·cases h; omega
  ·have:=sU l n _ x y h;omega
theorem wE {ls:List LFld} (h:∀ x ∈ ls,NmOk x.1/\x.2<=48):widthL (unI ls)<=ls.length*48:=by
 unfold widthL unI
 induction ls with
 | nil=>simp
 | cons x ls ih=>
  have:=ih fun y hy=>h y (List.mem_cons_of_mem _ hy)
  have:=(h x List.mem_cons_self).2;rw [List.map_cons,List.map_cons,List.sum_cons,List.length_cons];dsimp only;omega
theorem r8 {N:LNet} (ok:OkN N) (h:layF N.1=none):∃ fa fb,spanF (unI N.1) toT 0=some (fa,fb)/\spanG (unI N.1)=(fa,fb)/\fb<=10000/\widthL (unI N.1)<=10000/\(unI N.1).length<=1000:=by
 obtain ⟨g1,g2⟩:=oM h;have hw:=wE ok.lay;have h20:=ok.l20;obtain ⟨fa,fb,e⟩:=zl (ls:=unI N.1) (a:=0) (by unfold unI; rw [List.map_map]; exact g2);have ht:=sU _ _ _ _ _ e;exact ⟨fa,fb,e,by unfold spanG; rw [e]; rfl,by omega,by omega,by unfold unI; rw [List.length_map]; omega⟩
noncomputable def gW (K:Frag):Sp:=fun vs H Q E=>match vs with
 | [.ref t]=>∃ N:LNet,Th H 9 (.ref t) (netL N)/\OkN N/\(netF N=none->∀ H',Same H H'->Q (.bl true) H')/\∀ c,netF N=some c->∀ H',Same H H'->E (.ref (xA K c)) none H'
 | _=>False
theorem ki (T:Top K mg):CalleeX P w K mg base 7 "net_checked" ["net"] (gW K):=by
 refine T.ln.calX ph (by intro vs H Q E h; unfold gW at h; split at h <;> first | rfl | exact h.elim) (fun _ _ _ _ _ _ us hl=>match us,hl with | [_],_=>rfl) (fun f cdv A outer s H vs Q E hr h=>?_);unfold gW at h;split at h
 case h_2=>exact h.elim
 refine ⟨_,(ae (aF (dW (nU T) hr.m bn rfl (aa (az (ixE K rfl) (qv 0) ad (fun _ _=>rfl)) ac)))
   (ae (aF (dW (nT T) hr.m bn rfl (aa (az (ixE K rfl) (qv 0) ad (fun _ _=>rfl)) (aa (az (ixE K rfl) (qv 0) ad (fun _ _=>rfl)) ac))))
   (ae (aF (dW (px T) hr.m bn rfl (aa (qv 0) ac)))
   (af (aw iy))))),?_⟩
 rename_i t;obtain ⟨N,hN,ok,q1,q2⟩:=h;obtain ⟨_,v1,v2,v3,⟨⟩,e,k1,k2,k3⟩:=pB hN;obtain ⟨la,_,rfl,_⟩:=eH k1;obtain ⟨hb,_,rfl,_⟩:=eH k2;have h20:=ok.l20;have h100:=ok.h100;walk_at "rd";refine ⟨_,_,.inr (SqT.of e),rfl,?_⟩;walk_at "rd";refine ⟨6,N.1,k1,by omega,fun x hx=>(ok.lay x hx).1,fun f1 H1 s1=>?_,fun c hc H1 s1=>q2 c (by unfold netF; rw [hc]; rfl) H1 s1⟩;obtain ⟨fa,fb,esp,eG,hfb,hW,hl⟩:=r8 ok f1;have hL:=wV k1 (oM f1).1;walk_at "rd";refine ⟨_,_,.inr (SqT.of (s1 _ _ e)),rfl,_,_,.inr (SqT.of (s1 _ _ e)),rfl,?_⟩;walk_at "rd";refine ⟨unI N.1,N.2.1,fa,fb,hL.same s1,hl,hW,esp,hfb,aH s1 8 k2,by omega,ok.hs,fun f2 H2 s2=>?_,fun c hc H2 s2=>q2 c ?_ H2 (s1.trans s2)⟩
 ·walk_at "rd";have s12:=s1.trans s2;refine ⟨N,aH s12 9 hN,ok,fun f3 H3 s3=>?_,fun c hc H3 s3=>q2 c ?_ H3 (s12.trans s3)⟩
  ·walk_at "rd";refine q1 ?_ H3 (s12.trans s3);unfold netF;rw [f1,eG,f2,f3];rfl
  ·unfold netF;rw [f1,eG,f2,hc];rfl
 ·unfold netF;rw [f1,eG,hc];rfl
theorem fm {α:Type} {f:α -> V}:∀ {xs:List α} {vs:List V},Paired (fun x v=>v=f x) xs vs->vs=xs.map f
 | _,_,.nil=>rfl
 | _,_,.cons r p=>by rw [r,fm p]; rfl
theorem jo {α:Type} (f:α -> List Nat) {H:Hp} {xs:List α} {vs:List V} {p D:Addr} {Q:VK} (e:H p=some (.lst vs)) (hp:Paired (fun x v=>∃ t u,v=.ref t/\H t=some (.tup [tx (f x),u])) xs vs) (hl:xs.length<=1000) (hD:H D=none)
  (hq:∀ H',Same H H'->H' D=some (.lst ((xs.map f).map tx))->Q (.ref D) H'):compW (Itl K p) (gTup K 2 (gCons (gName 0) (gCons (gName 1) gNil))) tYes (cVar 0) [none,none] D Q H:=by
 have hpl:=hp.length;obtain ⟨_,z2⟩:=dE hp;refine qR (xs.zip vs) (fun x v _=>v=tx (f x.1)) hD (by rw [List.length_zip]; omega) (fun i H1 hi s1=>⟨vs,vs[i]'(by rw [List.length_zip] at hi; omega),SqL.of (s1 _ _ e),List.getElem?_eq_getElem _⟩) (fun H1 s1=>⟨vs,SqL.of (s1 _ _ e),by rw [List.length_zip]; omega⟩) ?_ ?_ ?_ ?_
 ·rintro i H1 v H2 _ ⟨rfl,_⟩;exact Same.refl _
 ·intro x v H1 H2 acc _ _ h;exact h
 ·rintro i x v H1 H2 out non hx s1 nD ⟨rfl,a1⟩ ho;obtain ⟨y1,y2⟩:=List.getElem?_zip_eq_some.mp hx;have y3:=a1 vs (SqL.of (s1 _ _ e));rw [y2] at y3;have y4:=Option.some.inj y3;obtain ⟨t,u,ex,e1⟩:=z2 x (List.mem_of_getElem? hx);rw [<- y4,ex];refine ⟨t,[_,_],rfl,SqT.of (s1 _ _ e1),rfl,_,[_],rfl,_,[],rfl,rfl,?_⟩;walk_at "rd";exact ho _ _ (Same.refl _) rfl
 ·intro H1 ws s1 e1 p1;refine hq H1 s1 ?_;rw [e1,fm p1]
  conv=>rhs; rw [<- gJ (l:=xs) (m:=vs) hpl]
  rw [List.map_map,List.map_map];rfl
theorem nG {α:Type} (f:α -> List Nat) {H:Hp} {xs:List α} {vs:List V} {p D:Addr} {Q:VK} (e:H p=some (.lst vs)) (hp:Paired (fun x v=>∃ t u,v=.ref t/\H t=some (.tup [tx (f x),u])) xs vs) (hl:xs.length<=1000) (hD:H D=none)
  (hq:∀ H',Same H H'->H' D=some (.lst ((xs.map f).map tx))->Q (.ref D) H'):compW (Itl K p) (gName 0) tYes (tOp (kIx K) (cVar 0) (tC (V.int 0))) [none] D Q H:=by
 have hpl:=hp.length;obtain ⟨_,z2⟩:=dE hp;refine qR (xs.zip vs) (fun x v _=>v=tx (f x.1)) hD (by rw [List.length_zip]; omega) (fun i H1 hi s1=>⟨vs,vs[i]'(by rw [List.length_zip] at hi; omega),SqL.of (s1 _ _ e),List.getElem?_eq_getElem _⟩) (fun H1 s1=>⟨vs,SqL.of (s1 _ _ e),by rw [List.length_zip]; omega⟩) ?_ ?_ ?_ ?_
 ·rintro i H1 v H2 _ ⟨rfl,_⟩;exact Same.refl _
 ·intro x v H1 H2 acc _ _ h;exact h
 ·rintro i x v H1 H2 out non hx s1 nD ⟨rfl,a1⟩ ho;obtain ⟨y1,y2⟩:=List.getElem?_zip_eq_some.mp hx;have y3:=a1 vs (SqL.of (s1 _ _ e));rw [y2] at y3;have y4:=Option.some.inj y3;obtain ⟨t,u,ex,e1⟩:=z2 x (List.mem_of_getElem? hx);rw [<- y4,ex];walk_at "rd";exact ⟨_,_,.inr (SqT.of (s1 _ _ e1)),rfl,ho _ _ (Same.refl _) rfl⟩
 ·intro H1 ws s1 e1 p1;refine hq H1 s1 ?_;rw [e1,fm p1]
  conv=>rhs; rw [<- gJ (l:=xs) (m:=vs) hpl]
  rw [List.map_map,List.map_map];rfl
theorem iu {α β:Type} {F:α -> β -> Prop}:∀ {l:List α} {m:List β} (i:Nat),Paired F l m->Paired F (l.take i) (m.take i)
 | _,_,0,_=>by rw [List.take_zero,List.take_zero]; exact .nil
 | _,_,_+1,.nil=>.nil
 | _,_,i+1,.cons r p=>.cons r (iu i p)
theorem l9 {H:Hp} {n:Nat} {v:V} {x:List Nat} {d:D} (h:Th H (n+1) v (.t [.f (tx x),d])):∃ t u,v=.ref t/\H t=some (.tup [tx x,u]):=by
 obtain ⟨t,v1,v2,rfl,e,k1,_⟩:=dZ h;obtain rfl:=dD k1;exact ⟨t,v2,rfl,e⟩
noncomputable def ft:Option Str->V
 | none=>tx []
 | some c=>.str c
noncomputable def ia (K:Frag):Sp:=fun vs H Q _=>match vs with
 | [v,.int W]=>∃ (d:D) (W0:Nat),W=(W0:Int)/\Th H 1 v d/\OddD d/\∀ H',Same H H'->Q (.bl (rowOk W0 d)) H'
 | _=>False
theorem ko (T:Top K mg):Callee P w K mg base 1 "_law_is_row" ["_law_thing", "_law_width_here"] (ia K):=by
 refine T.lj.cal oU (by intro vs H Q E h; unfold ia at h; split at h <;> first | rfl | exact h.elim) (fun _ _ _ _ _ _ us hl=>match us,hl with | [_,_],_=>rfl) (fun f cdv A outer s H vs Q E hr h=>?_);unfold ia at h;split at h
 case h_2=>exact h.elim
 refine ⟨_,(af (aw (iG (aZ .str rfl T.au (qv 0) rfl T.mz kj) (iG (gn bz (av (lenE K rfl) rfl T.bv aN (aa (qv 0) ac)) (qv 1)) (lB (av (qQ K rfl rfl) rfl T.yn wG (aa (bU (nt:=1) (fi:=[]) (N':=["_law_sign"]) rfl (cscope rfl (by decide +kernel)) (cnames (N:=["_law_thing", "_law_width_here"]) (sc:=defScope fW) rfl rfl (by decide +kernel)) (cE (by decide)) (iterE K rfl (qv 0)) (fun _ _ _ _ _=>(al (i:=0) (by show (["_law_sign"]:List Str).Nodup; decide +kernel) rfl lc)) (fun _ _ _ _ _=>bC) (fun _ _ _ _ _=>(gn (inE K rfl) (qv 0) (qs [48,49,45])))) ac))))))),?_⟩;rename_i v n;obtain ⟨d,W0,rfl,th,o,q⟩:=h;rcases gN th o with ⟨rfl,rfl⟩ | ⟨b,rfl,rfl⟩ | ⟨i,rfl,rfl,hh⟩ | ⟨n,rfl,rfl,hn⟩ | ⟨p,ls,rfl,hf,⟨e,rfl⟩ | ⟨e,rfl⟩⟩
 ·walk_at "rd"; exact q H (Same.refl _)
 ·walk_at "rd"; exact q H (Same.refl _)
 ·walk_at "rd"; exact q H (Same.refl _)
 ·have hn2:=hn.2;have eb:rowOk W0 (.f (tx n))=(decide ((n.length:Int)=W0) && n.all fun c=>decide (c ∈ [48,49,45])):=by
   show (decide (((st n).cps.toList.length:Int)=W0) && (st n).cps.toList.all fun c=>decide (c ∈ [48,49,45]))=_;rw [aM]
  rw [eb] at q;walk_at "rd";refine ⟨by omega,ite2 (fun g=>?_) fun g=>?_⟩
  ·rw [decide_eq_true g,Bool.true_and] at q;intro D hD;refine rZ (h:=fun c=>[V.bl (decide (c ∈ [48,49,45]))]) hD (by omega) (fun c=>by simp) ?_ ?_
   ·intro c H1 out non hc s1 ho hn;walk_at "rd";exact ho _ _ rfl (Same.refl _)
   ·intro H1 s1 e1;rw [fR (fun c=>V.bl (decide (c ∈ [48,49,45]))),show n.map (fun c=>V.bl (decide (c ∈ [48,49,45])))=(n.map fun c=>decide (c ∈ [48,49,45])).map V.bl by rw [List.map_map]; rfl] at e1;walk_at "rd";refine ⟨_,SqL.of e1,?_⟩;rw [show (n.map fun c=>decide (c ∈ [48,49,45])).all id=n.all fun c=>decide (c ∈ [48,49,45]) by rw [List.all_map]; rfl];exact q H1 s1
  ·rw [decide_eq_false g,Bool.false_and] at q;exact q H (Same.refl _)
 ·walk_at "rd"; exact .inl ⟨⟨_,e⟩,q H (Same.refl _)⟩
 ·walk_at "rd"; exact .inr ⟨⟨_,e⟩,q H (Same.refl _)⟩
noncomputable def dS (K:Frag):Sp:=fun vs H Q _=>match vs with
 | [.ref p]=>∃ (n:Nat) (ls:List LFld),Th H (n+2) (.ref p) (.l (ls.map fldL))/\ls.length<=1000/\∀ H',Same H H'->Q (ft (layF ls)) H'
 | _=>False
theorem j8 (T:Top K mg):Callee P w K mg base 1 "_law_layout_fault" ["_law_layout_here"] (dS K):=by
 refine T.gE.cal gc (by intro vs H Q E h; unfold dS at h; split at h <;> first | rfl | exact h.elim) (fun _ _ _ _ _ _ us hl=>match us,hl with | [_],_=>rfl) (fun f cdv A outer s H vs Q E hr h=>?_);unfold dS at h;split at h
 case h_2=>exact h.elim
 refine ⟨_,(ae (br PassesOwn.never rfl (bA rfl T.cF (av (lenE K rfl) rfl T.bv aN (aa (qv 0) ac))) (al (i:=1) gc.nd rfl lc) (ae (aE (aB (inE K rfl) (az (ixE K rfl) (az (ixE K rfl) (qv 0) (qv 1) (fun _ _=>rfl)) ad (fun _ _=>rfl)) (bU (nt:=2) (fi:=[]) (N':=["_law_name", "_law_size"]) rfl (cscope rfl (by decide +kernel)) (cnames (N:=["_law_layout_here", "_law_at"]) (sc:=defScope bT) rfl rfl (by decide +kernel)) (jm (by decide) (by decide)) (iterE K rfl (dU (slE K rfl) (qv 0) fq (fu (qv 1)))) (fun _ _ _ _ _=>(tupE K rfl rfl (n:=2) (ap (al (i:=0) (by show (["_law_name", "_law_size"]:List Str).Nodup; decide +kernel) rfl lc) (ap (al (i:=1) (by show (["_law_name", "_law_size"]:List Str).Nodup; decide +kernel) rfl lc) aR)))) (fun _ _ _ _ _=>bC) (fun _ _ _ _ _=>(qv 0)))) (af (aw (qs [84,119,105,99,101]))) ar)
   (af (aE (aB pF (az (ixE K rfl) (az (ixE K rfl) (qv 0) (qv 1) (fun _ _=>rfl)) ad (fun _ _=>rfl)) ad) (af (aw (qs [77,105,115,102,105,116]))) ar))))
   (ae (aE (aB (notinE K rfl) (qs [116,111]) (bU (nt:=2) (fi:=[]) (N':=["_law_name", "_law_size"]) rfl (cscope rfl (by decide +kernel)) (cnames (N:=["_law_layout_here", "_law_at"]) (sc:=defScope bT) rfl rfl (by decide +kernel)) (jm (by decide) (by decide)) (iterE K rfl (qv 0)) (fun _ _ _ _ _=>(tupE K rfl rfl (n:=2) (ap (al (i:=0) (by show (["_law_name", "_law_size"]:List Str).Nodup; decide +kernel) rfl lc) (ap (al (i:=1) (by show (["_law_name", "_law_size"]:List Str).Nodup; decide +kernel) rfl lc) aR)))) (fun _ _ _ _ _=>bC) (fun _ _ _ _ _=>(qv 0)))) (af (aw (qs [78,111,70,105,101,108,100]))) ar)
   (af (aw (qs []))))),?_⟩
 rename_i p;obtain ⟨n,ls,hT,hn,q⟩:=h;obtain ⟨_,vs,⟨⟩,e0,pr⟩:=eH hT;have hl:=pr.length;walk_at "rd";refine ⟨_,.inl (SqL.of e0),by omega,by omega,?_⟩;refine c9 (lo:=0) (n:=vs.length) (fun i σ H'=>∃ u,σ = [some (.ref p),u]/\Same H H'/\Calm fldF ls i) ⟨none,rfl,Same.refl _,Calm.zero⟩ ?_ ?_
 ·rintro i σ H1 hi ⟨u,rfl,s1,c1⟩;have hil:i < ls.length:=by omega
  obtain ⟨y,hy,th⟩:=aD pr (List.getElem?_eq_getElem hil);obtain ⟨t,v1,v2,ey,et,k1,k2⟩:=dZ th;obtain rfl:=dD k1;obtain rfl:=dD k2;subst ey;walk_at "rd";refine ⟨_,_,.inl (SqL.of (s1 _ _ e0)),aI hy,?_⟩;walk_at "rd";refine ⟨_,_,.inr (SqT.of (s1 _ _ et)),rfl,_,SqL.of (s1 _ _ e0),fun q2 hq2=>?_⟩;rw [kH];have s2:=ai hq2 (.lst (vs.take i));have e2:upd H1 q2 (.lst (vs.take i)) q2=some (.lst (vs.take i)):=ah;generalize upd H1 q2 (.lst (vs.take i))=H2 at s2 e2 ⊢;have s12:=s1.trans s2;refine .inl ⟨⟨_,SqL.of e2⟩,fun D hD=>?_⟩;refine jo (fun x:LFld=>x.1) (xs:=ls.take i) e2 (L2.Paired.mapP (iu i pr) fun x v z=>l9 (aH s12 _ z)) (by rw [List.length_take]; omega) hD fun H3 s3 e3=>?_
  have s13:=s12.trans s3;walk_at "rd";refine ⟨_,.inl (SqL.of e3),rfl,eT _,?_⟩;rw [gj];walk_at "rd";refine ite2 (fun g=>?_) fun g=>?_
  ·have:=q H3 s13;unfold layF at this;rw [c1.some hil (s := "Twice") (by unfold fldF; rw [if_pos g])] at this;exact this
  ·refine ⟨_,_,.inl (SqL.of (s13 _ _ e0)),aI hy,?_⟩;walk_at "rd";refine ⟨_,_,.inr (SqT.of (s13 _ _ et)),rfl,?_⟩;walk_at "rd";refine ite2 (fun g2=>?_) fun g2=>⟨_,rfl,s13,c1.step hil ?_⟩
   ·have:=q H3 s13;unfold layF at this;rw [c1.some hil (s := "Misfit") (by unfold fldF; rw [if_neg g,if_pos g2])] at this;exact this
   ·unfold fldF;rw [if_neg g,if_neg g2]
 ·rintro σ H1 ⟨u,rfl,s1,c1⟩;have c3:=c1.end hl.symm;walk_at "rd";refine .inl ⟨⟨_,SqL.of (s1 _ _ e0)⟩,fun D hD=>?_⟩;refine jo (fun x:LFld=>x.1) (xs:=ls) (s1 _ _ e0) (L2.Paired.mapP pr fun x v z=>l9 (aH s1 _ z)) hn hD fun H3 s3 e3=>?_
  walk_at "rd";refine ⟨_,.inl (SqL.of e3),rfl,eT _,?_⟩;rw [show V.str (st [116,111])=tx toT from rfl,gj];walk_at "rd";have:=q H3 (s1.trans s3);unfold layF at this;rw [c3] at this;refine ite2 (fun g=>?_) fun g=>?_
  ·rw [if_pos g] at this;exact this
  ·rw [if_neg g] at this;exact this
theorem ny {α β:Type} {F G:α -> β -> Prop}:∀ {l:List α} {m:List β},Paired F l m->(∀ x ∈ l,∀ v,F x v->G x v)->Paired G l m
 | _,_,.nil,_=>.nil
 | _,_,.cons r p,h=>.cons (h _ List.mem_cons_self _ r) (ny p fun x hx=>h x (List.mem_cons_of_mem _ hx))
theorem wX {S:Nat} {ds:List (List Nat)} {l:List LWay} {i:Nat} (c:Calm (wayF S ds) l i):∀ x ∈ l.take i,begOk S x.1=true:=fun x hx=>by
 obtain ⟨j,hj,rfl⟩:=List.mem_take_iff_getElem.mp hx;have:=c j (by omega) (by omega);unfold wayF at this;split at this
 ·assumption
 ·cases this
theorem vd {S:Nat} {n:List Nat}:begOk S (.f (tx n))=(decide (n.length<=S) && n.all fun c=>decide (c ∈ [48,49])):=by
 show (decide ((st n).cps.toList.length<=S) && (st n).cps.toList.all fun c=>decide (c ∈ [48,49]))=_;rw [aM]
noncomputable def eL (K:Frag):Sp:=fun vs H Q _=>match vs with
 | [.ref t,.int W,.int S]=>∃ (h:LHouse) (W0 S0:Nat),W=(W0:Int)/\S=(S0:Int)/\Th H 6 (.ref t) (houseL h)/\OkH h/\∀ H',Same H H'->Q (ft (houseF W0 S0 h)) H'
 | _=>False
theorem kQ (T:Top K mg):Callee P w K mg base 2 "_law_house_fault" ["_law_house_here", "_law_width_here", "_law_size"] (eL K):=by
 refine T.ij.cal aJ (by intro vs H Q E h; unfold eL at h; split at h <;> first | rfl | exact h.elim) (fun _ _ _ _ _ _ us hl=>match us,hl with | [_,_,_],_=>rfl) (fun f cdv A outer s H vs Q E hr h=>?_);unfold eL at h;split at h
 case h_2=>exact h.elim
 refine ⟨_,(ae (ao (i:=3) aJ.nd rfl lc (aL ac))
   (ae (br PassesOwn.never rfl (iterE K rfl (az (ixE K rfl) (qv 0) ad (fun _ _=>rfl))) (tupE K rfl rfl (n:=2) (ap (al (i:=4) aJ.nd rfl lc) (ap (al (i:=5) aJ.nd rfl lc) aR))) (ae (aE (aB (inE K rfl) (qv 4) (qv 3)) (af (aw (qs [84,119,105,99,101]))) ar)
   (ae (aF (dh (qv 3) (qv 4)))
   (af (br PassesOwn.never rfl (iterE K rfl (qv 5)) (tupE K rfl rfl (n:=3) (ap (al (i:=6) aJ.nd rfl lc) (ap (al (i:=7) aJ.nd rfl lc) (ap (al (i:=8) aJ.nd rfl lc) aR)))) (ae (aE (gp (de (aq (ko T) hr.m rfl (aa (qv 6) (aa (qv 1) ac))))) (af (aw (qs [77,105,115,102,105,116]))) ar)
   (ae (aE (aB (qN K rfl hr) (qv 7) (aL (aa (qs [112,97,115,115]) (aa (qs [100,114,111,112]) ac)))) (af (aw (qs [66,97,100,87,111,114,100]))) ar)
   (af (aE (gp (de (aq (ko T) hr.m rfl (aa (qv 8) (aa (qv 1) ac))))) (af (aw (qs [77,105,115,102,105,116]))) ar)))))))))
   (ae (br PassesOwn.never rfl (bA rfl T.cF (av (lenE K rfl) rfl T.bv aN (aa (az (ixE K rfl) (qv 0) ad (fun _ _=>rfl)) ac))) (al (i:=9) aJ.nd rfl lc) (ae (fO (az (ixE K rfl) (az (ixE K rfl) (qv 0) ad (fun _ _=>rfl)) (qv 9) (fun _ _=>rfl)) (seqE K rfl rfl (n:=2) (ap (al (i:=10) aJ.nd rfl lc) (ap (al (i:=4) aJ.nd rfl lc) aR))))
   (ae (aE (PW.pt (qI (gp (de (aZ .str rfl T.au (qv 10) rfl T.mz kj))) (qI (aB lI (av (lenE K rfl) rfl T.bv aN (aa (qv 10) ac)) (qv 2)) (oS (de (av (ww K rfl rfl) rfl T.Ag AV (aa (bU (nt:=1) (fi:=[]) (N':=["_law_sign"]) rfl (cscope rfl (by decide +kernel)) (cnames (N:=["_law_house_here", "_law_width_here", "_law_size", "_law_doors", "_law_door", "_law_rules", "_law_row", "_law_word", "_law_over", "_law_at", "_law_beginning"]) (sc:=defScope cB) rfl rfl (by decide +kernel)) (cE (by decide)) (iterE K rfl (qv 10)) (fun _ _ _ _ _=>(al (i:=0) (by show (["_law_sign"]:List Str).Nodup; decide +kernel) rfl lc)) (fun _ _ _ _ _=>bC) (fun _ _ _ _ _=>(gn (notinE K rfl) (qv 0) (qs [48,49])))) ac))))))) (af (aw (qs [77,105,115,102,105,116]))) ar)
   (ae (aE (aB (inE K rfl) (qv 10) (bU (nt:=1) (fi:=[]) (N':=["_law_way"]) rfl (cscope rfl (by decide +kernel)) (cnames (N:=["_law_house_here", "_law_width_here", "_law_size", "_law_doors", "_law_door", "_law_rules", "_law_row", "_law_word", "_law_over", "_law_at", "_law_beginning"]) (sc:=defScope cB) rfl rfl (by decide +kernel)) (cE (by decide)) (iterE K rfl (dU (slE K rfl) (az (ixE K rfl) (qv 0) ad (fun _ _=>rfl)) fq (fu (qv 9)))) (fun _ _ _ _ _=>(al (i:=0) (by show (["_law_way"]:List Str).Nodup; decide +kernel) rfl lc)) (fun _ _ _ _ _=>bC) (fun _ _ _ _ _=>(az (ixE K rfl) (qv 0) ad (fun _ _=>rfl))))) (af (aw (qs [84,119,105,99,101]))) ar)
   (af (aE (aB (notinE K rfl) (qv 4) (qv 3)) (af (aw (qs [78,111,68,111,111,114]))) ar))))))
   (af (aw (qs [])))))),?_⟩
 rename_i t W S;obtain ⟨h,W0,S0,rfl,rfl,th,ok,q⟩:=h;obtain ⟨_,v1,v2,⟨⟩,eh,k1,k2⟩:=dZ th;obtain ⟨ga,gv,rfl,eg,pg⟩:=eH k1;obtain ⟨wa,wv,rfl,ew,pw⟩:=eH k2;have hgl:=pg.length;have hwl:=pw.length;have hg:=ok.g;have hw:=ok.w;walk_at "rd";refine ⟨Nat.zero_le _,fun g hg0=>?_⟩;have s1:=ai hg0 (.lst []);refine ⟨_,_,.inr (SqT.of (s1 _ _ eh)),rfl,?_⟩;walk_at "rd";refine .inl ⟨⟨_,SqL.of (s1 _ _ eg)⟩,?_⟩;refine bw (xs:=gv) (fun i σ H'=>∃ u4 u5 u6 u7 u8,σ = [some (.ref t),some (nV W0),some (nV S0),some (.ref g),u4,u5,u6,u7,u8,none,none]/\Same H H'/\H' g=some (.lst (((h.1.take i).map (·.1)).map tx))/\Calm (gateF W0) h.1 i) ⟨none,none,none,none,none,rfl,s1,ah,Calm.zero⟩ (fun i σ H' _ ⟨_,_,_,_,_,_,z,_⟩=>SqL.of (z _ _ eg)) ?_ ?_
 ·rintro i x σ H1 hx ⟨u4,u5,u6,u7,u8,rfl,s2,e2,c2⟩;have hi:i < gv.length:=(List.getElem?_eq_some_iff.mp hx).1;have hil:i < h.1.length:=by omega
  obtain ⟨y,hy,tg⟩:=aD pg (List.getElem?_eq_getElem hil);obtain ⟨t',w1,w2,ey,et,z1,z2⟩:=dZ tg;obtain rfl:x=.ref t':=by rw [hy] at hx; rw [<- Option.some.inj hx,ey]
  obtain rfl:=dD z1;obtain ⟨r',rv,rfl,er,prr⟩:=eH z2;have hrl:=prr.length;refine ⟨t',[_,_],rfl,SqT.of (s2 _ _ et),rfl,_,[_],rfl,_,[],rfl,rfl,?_⟩;walk_at "rd";have hmi:=List.getElem_mem hil;refine ⟨_,.inl (SqL.of e2),rfl,eT _,?_⟩;rw [gj];walk_at "rd";refine ite2 (fun g1=>?_) fun g1=>?_
  ·have:=q H1 s2;unfold houseF at this;rw [c2.some hil (s := "Twice") (by unfold gateF newF; rw [if_pos g1]; rfl)] at this;exact this
  have hnew:newF h.1[i].1 ((h.1.take i).map (·.1))=none:=if_neg g1;refine ⟨⟨_,e2⟩,_,e2,sizeBig (by simp; omega),?_⟩;have e3:upd H1 g (.lst (((h.1.take i).map (·.1)).map tx++[tx h.1[i].1])) g=some (.lst (((h.1.take (i+1)).map (·.1)).map tx)):=by
   rw [ah,List.take_add_one,List.getElem?_eq_getElem hil,Option.toList_some,List.map_append,List.map_append];rfl
  have s3:Same H (upd H1 g (.lst (((h.1.take i).map (·.1)).map tx++[tx h.1[i].1]))):=aS s2 hg0;generalize upd H1 g (.lst (((h.1.take i).map (·.1)).map tx++[tx h.1[i].1]))=H2 at e3 s3 ⊢;refine .inl ⟨⟨_,SqL.of (s3 _ _ er)⟩,?_⟩;refine bw (xs:=rv) (fun j σ H'=>∃ v5 v6 v7,σ = [some (.ref t),some (nV W0),some (nV S0),some (.ref g),some (tx h.1[i].1),some (.ref r'),v5,v6,v7,none,none]/\Same H2 H'/\Calm (fun _=>ruleF W0) h.1[i].2 j) ⟨_,_,_,rfl,Same.refl _,Calm.zero⟩ (fun j σ H' _ ⟨_,_,_,_,z,_⟩=>SqL.of (z _ _ (s3 _ _ er))) ?_ ?_
  ·rintro j z σ H3 hz ⟨v5,v6,v7,rfl,s4,c4⟩;have hj:j < rv.length:=(List.getElem?_eq_some_iff.mp hz).1;have hjl:j < h.1[i].2.length:=by omega
   obtain ⟨y2,hy2,tr⟩:=aD prr (List.getElem?_eq_getElem hjl);obtain ⟨t2,a1,a2,a3,ey2,et2,m1,m2,m3⟩:=pB tr;obtain rfl:z=.ref t2:=by rw [hy2] at hz; rw [<- Option.some.inj hz,ey2]
   have s24:=s3.trans s4;obtain ⟨o1,o2,o3⟩:=ok.rule _ hmi _ (List.getElem_mem hjl);have bad:∀ {c:Str} {H4:Hp},Same H3 H4->ruleF W0 h.1[i].2[j]=some c->Q (.str c) H4:=fun {c H4} s5 hc=>by
    have:=q H4 (s24.trans s5);unfold houseF at this;rw [c2.some hil (s:=c) (by unfold gateF; rw [hnew,c4.some hjl hc]; rfl)] at this;exact this
   refine ⟨t2,[_,_,_],rfl,SqT.of (s24 _ _ et2),rfl,_,[_,_],rfl,_,[_],rfl,_,[],rfl,rfl,?_⟩;walk_at "rd";refine ⟨_,W0,rfl,aH s24 1 m1,o1,fun H4 s5=>?_⟩;cases f1:rowOk W0 h.1[i].2[j].1 with
   | false=>
    exact bad (c := "Misfit") s5 (by unfold ruleF; rw [f1]; rfl)
   | true=>
   walk_at "rd";refine ⟨by decide,fun pw2 hpw2=>?_⟩;have s6:=ai hpw2 (.lst [V.str (st [112,97,115,115]),V.str (st [100,114,111,112])]);have e6:upd H4 pw2 (.lst [V.str (st [112,97,115,115]),V.str (st [100,114,111,112])]) pw2=some (.lst [V.str (st [112,97,115,115]),V.str (st [100,114,111,112])]):=ah;generalize upd H4 pw2 (.lst [V.str (st [112,97,115,115]),V.str (st [100,114,111,112])])=H5 at s6 e6 ⊢;have s36:=s5.trans s6;have s26:=s24.trans s36;refine ⟨h.1[i].2[j].2.1,_,.inl (SqL.of e6),sP (aH s26 1 m2),rfl,?_⟩;rw [show ([V.str (st [112,97,115,115]),V.str (st [100,114,111,112])].any fun z=>eqD (.f z) h.1[i].2[j].2.1)=wordOk h.1[i].2[j].2.1 from rfl];cases f2:wordOk h.1[i].2[j].2.1 with
   | false=>
    exact bad (c := "BadWord") s36 (by unfold ruleF; rw [f1,f2]; rfl)
   | true=>
   walk_at "rd";refine ⟨_,W0,rfl,aH s26 1 m3,o3,fun H6 s7=>?_⟩;cases f3:rowOk W0 h.1[i].2[j].2.2 with
   | false=>
    exact bad (c := "Misfit") (s36.trans s7) (by unfold ruleF; rw [f1,f2,f3]; rfl)
   | true=>
   exact ⟨_,_,_,rfl,s4.trans (s36.trans s7),c4.step hjl (by unfold ruleF; rw [f1,f2,f3]; rfl)⟩
  ·rintro σ H3 ⟨v5,v6,v7,rfl,s4,c4⟩;have e4:=s4 _ _ e3;walk_at "rd";refine ⟨_,_,_,_,_,rfl,s3.trans s4,e4,c2.step hil ?_⟩;unfold gateF;rw [hnew,c4.end hrl.symm];rfl
 ·rintro σ H1 ⟨u4,u5,u6,u7,u8,rfl,s2,e2,c2⟩;have c3:=c2.end hgl.symm;rw [<- hgl,List.take_length] at e2;walk_at "rd";refine ⟨_,_,.inr (SqT.of (s2 _ _ eh)),rfl,?_⟩;walk_at "rd";refine ⟨_,.inl (SqL.of (s2 _ _ ew)),by omega,by omega,?_⟩;rw [Int.toNat_natCast];refine c9 (lo:=0) (n:=wv.length) (fun i σ H'=>∃ u4 u9 u10,σ = [some (.ref t),some (nV W0),some (nV S0),some (.ref g),u4,u5,u6,u7,u8,u9,u10]/\Same H1 H'/\Calm (wayF S0 (h.1.map (·.1))) h.2 i) ⟨_,none,none,rfl,Same.refl _,Calm.zero⟩ ?_ ?_
  ·rintro i σ H2 hi ⟨u4,u9,u10,rfl,s3,c4⟩;have s23:=s2.trans s3;have hil:i < h.2.length:=by omega
   obtain ⟨y,hy,tg⟩:=aD pw (List.getElem?_eq_getElem hil);obtain ⟨t',w1,w2,rfl,et,z1,z2⟩:=dZ tg;obtain rfl:=dD z2;obtain ⟨o1,n1⟩:=ok.beg _ (List.getElem_mem hil);have bad:∀ {c:Str} {H4:Hp},Same H2 H4->wayF S0 (h.1.map (·.1)) (h.2.take i) h.2[i]=some c->Q (.str c) H4:=fun {c H4} s5 hc=>by
    have:=q H4 (s23.trans s5);unfold houseF at this;rw [c3,c4.some hil hc] at this;exact this
   have odd:begOk S0 h.2[i].1=false->wayF S0 (h.1.map (·.1)) (h.2.take i) h.2[i]=some (Str.ofString "Misfit"):=fun z=>by unfold wayF; rw [if_neg (by rw [z]; decide)]
   walk_at "rd";refine ⟨_,_,.inr (SqT.of (s23 _ _ eh)),rfl,?_⟩;walk_at "rd";refine ⟨_,_,.inl (SqL.of (s23 _ _ ew)),aI hy,?_⟩;refine ⟨[_,_],.inr (SqT.of (s23 _ _ et)),rfl,_,[_],rfl,_,[],rfl,rfl,?_⟩;have zd:=ol z1 o1;have o1':=o1;rcases gN zd o1 with ⟨rfl,ed⟩ | ⟨b,rfl,ed⟩ | ⟨i',rfl,ed,hh⟩ | ⟨n,rfl,ed,hn⟩ | ⟨p,ls,rfl,hf,⟨e,ed⟩ | ⟨e,ed⟩⟩
   ·walk_at "rd";exact bad (c := "Misfit") (Same.refl _) (odd (by rw [ed]; rfl))
   ·walk_at "rd";exact bad (c := "Misfit") (Same.refl _) (odd (by rw [ed]; rfl))
   ·walk_at "rd";exact bad (c := "Misfit") (Same.refl _) (odd (by rw [ed]; rfl))
   ·have hn2:=hn.2;have eb:begOk S0 h.2[i].1=(decide (n.length<=S0) && n.all fun c=>decide (c ∈ [48,49])):=by rw [ed,vd]
    walk_at "rd";refine ⟨by omega,ite2 (fun g1=>?_) fun g1=>?_⟩
    ·exact bad (c := "Misfit") (Same.refl _) (odd (by rw [eb,decide_eq_false (by omega)]; rfl))
    intro D hD;refine rZ (h:=fun c=>[V.bl (!decide (c ∈ [48,49]))]) hD (by omega) (fun c=>by simp) ?_ ?_
    ·intro c H3 out non hc s5 ho hn;walk_at "rd";exact ho _ _ rfl (Same.refl _)
    intro H3 s5 e5;rw [fR (fun c=>V.bl (!decide (c ∈ [48,49]))),show n.map (fun c=>V.bl (!decide (c ∈ [48,49])))=(n.map fun c=>!decide (c ∈ [48,49])).map V.bl by rw [List.map_map]; rfl] at e5;walk_at "rd";refine ⟨_,SqL.of e5,?_⟩;have e5a:(n.map fun c=>!decide (c ∈ [48,49])).any id = !(n.all fun c=>decide (c ∈ [48,49])):=by
     rw [List.any_map,List.all_eq_not_any_not,Bool.not_not];rfl
    rw [e5a];cases f1:n.all fun c=>decide (c ∈ [48,49]) with
    | false=>
     exact bad (c := "Misfit") s5 (odd (by rw [eb,f1,Bool.and_false]))
    | true=>
    rw [f1,decide_eq_true (show n.length<=S0 by omega),Bool.true_and] at eb;have edt:dt h.2[i].1=n:=by rw [ed]; show (st n).cps.toList=n; rw [aM]
    have s25:=s23.trans s5;walk_at "rd";refine ⟨_,_,.inr (SqT.of (s25 _ _ eh)),rfl,?_⟩;walk_at "rd";refine ⟨_,SqL.of (s25 _ _ ew),fun p6 hp6=>?_⟩;rw [kH];have s6:=ai hp6 (.lst (wv.take i));have e6:upd H3 p6 (.lst (wv.take i)) p6=some (.lst (wv.take i)):=ah;generalize upd H3 p6 (.lst (wv.take i))=H4 at s6 e6 ⊢;have s26:=s25.trans s6;have wb:=wX c4;refine .inl ⟨⟨_,SqL.of e6⟩,fun D2 hD2=>?_⟩;refine nG (fun x:LWay=>dt x.1) (xs:=h.2.take i) e6 (ny (iu i pw) fun x hx v zz=>?_) (by rw [List.length_take]; omega) hD2 fun H5 s7 e7=>?_
    ·obtain ⟨t5,u1,u2,rfl,e8,y1,y2⟩:=dZ zz;have ox:=(ok.beg x (List.mem_of_mem_take hx)).1;rw [(oZ (ol y1 ox) ox (wb x hx)).1] at e8;exact ⟨t5,u2,rfl,s26 _ _ e8⟩
    walk_at "rd";refine ⟨_,.inl (SqL.of e7),rfl,eT _,?_⟩;rw [gj];walk_at "rd";have s37:=s5.trans (s6.trans s7);refine ite2 (fun g2=>?_) fun g2=>?_
    ·exact bad (c := "Twice") s37 (by unfold wayF; rw [if_pos eb,edt,if_pos g2])
    refine ⟨_,.inl (SqL.of (s37 _ _ (s3 _ _ e2))),rfl,eT _,?_⟩;rw [gj];by_cases g3:h.2[i].2 ∈ h.1.map (·.1)
    ·rw [decide_eq_true g3];exact ⟨_,_,_,rfl,s3.trans s37,c4.step hil (by unfold wayF; rw [if_pos eb,edt,if_neg g2,if_pos g3])⟩
    ·rw [decide_eq_false g3];exact bad (c := "NoDoor") s37 (by unfold wayF; rw [if_pos eb,edt,if_neg g2,if_neg g3])
   ·walk_at "rd";exact .inl ⟨⟨_,s23 _ _ e⟩,bad (c := "Misfit") (Same.refl _) (odd (by rw [ed]; rfl))⟩
   ·walk_at "rd";exact .inr ⟨⟨_,s23 _ _ e⟩,bad (c := "Misfit") (Same.refl _) (odd (by rw [ed]; rfl))⟩
  ·rintro σ H2 ⟨u4,u9,u10,rfl,s3,c4⟩;have:=q H2 (s2.trans s3);unfold houseF at this;rw [c3,c4.end hwl.symm] at this;walk_at "rd";exact this
noncomputable def i5 (K:Frag):Sp:=fun vs H Q _=>match vs with
 | [.ref p]=>∃ hs:List (List Nat × List (List Nat)),SpotH H p hs/\hs.length<=100/\(∀ x ∈ hs,x.2.length<=100)/\∀ q H',H q=none->Same H H'->Ways H' q (spotsL hs)->Q (.ref q) H'
 | _=>False
theorem sT (hs:List (List Nat × List (List Nat))) (i:Nat) (h:i < hs.length):spotsL (hs.take (i+1))=spotsL (hs.take i)++hs[i].2.map fun d=>(hs[i].1,d):=by
 unfold spotsL;rw [List.take_add_one,List.getElem?_eq_getElem h,Option.toList_some,List.flatMap_append];simp
theorem ot {hs:List (List Nat × List (List Nat))} {c:Nat} (h:∀ x ∈ hs,x.2.length<=c):(spotsL hs).length<=hs.length*c:=by
 unfold spotsL
 induction hs with
 | nil=>simp
 | cons x hs ih=>
  have h1:=h x List.mem_cons_self;have h2:=ih fun y hy=>h y (List.mem_cons_of_mem _ hy)
  rw [List.flatMap_cons,List.length_append,List.length_map,List.length_cons,Nat.add_mul];omega
theorem iO (T:Top K mg):Callee P w K mg base 1 "_law_spots" ["_law_houses"] (i5 K):=by
 refine T.my.cal fY (by intro vs H Q E h; unfold i5 at h; split at h <;> first | rfl | exact h.elim) (fun _ _ _ _ _ _ us hl=>match us,hl with | [_],_=>rfl) (fun f cdv A outer s H vs Q E hr h=>?_);unfold i5 at h;split at h
 case h_2=>exact h.elim
 refine ⟨_,(ae (ao (i:=1) fY.nd rfl lc (aL ac))
   (ae (br PassesOwn.never rfl (iterE K rfl (qv 0)) (tupE K rfl rfl (n:=2) (ap (al (i:=2) fY.nd rfl lc) (ap (al (i:=3) fY.nd rfl lc) aR))) (af (aF (vY (qv 1) (bU (nt:=1) (fi:=[2]) (N':=["_law_gate", "_law_name"]) rfl (cscope rfl (by decide +kernel)) (cnames (N:=["_law_houses", "_law_spots_here", "_law_name", "_law_house_here"]) (sc:=defScope gG) rfl rfl (by decide +kernel)) (cE (by decide)) (iterE K rfl (az (ixE K rfl) (qv 3) ad (fun _ _=>rfl))) (fun _ _ _ _ _=>(al (i:=0) (by show (["_law_gate", "_law_name"]:List Str).Nodup; decide +kernel) rfl lc)) (fun _ _ _ _ _=>bC) (fun _ _ _ _ _=>(aX (aa (qv 1) (aa (az (ixE K rfl) (qv 0) ad (fun _ _=>rfl)) ac)))))))))
   (af (aw (qv 1))))),?_⟩
 rename_i p;obtain ⟨hs,⟨vs,e0,pr⟩,hn,hg,q⟩:=h;have hl:=pr.length;walk_at "rd";refine ⟨Nat.zero_le _,fun g hg0=>?_⟩;have s1:=ai hg0 (.lst []);refine .inl ⟨⟨_,SqL.of (s1 _ _ e0)⟩,?_⟩;refine bw (xs:=vs) (fun i σ H'=>∃ u v,σ = [some (.ref p),some (.ref g),u,v]/\Same H H'/\Ways H' g (spotsL (hs.take i))) ⟨none,none,rfl,s1,⟨[],ah,.nil⟩⟩ (fun i σ H' _ ⟨_,_,_,z,_⟩=>SqL.of (z _ _ e0)) ?_ ?_
 ·rintro i x σ H1 hx ⟨u,v,rfl,s2,⟨us,eu,pu⟩⟩;have hi:i < vs.length:=(List.getElem?_eq_some_iff.mp hx).1;have hil:i < hs.length:=by omega
  obtain ⟨y,hy,t,hq,ey,et,hH⟩:=aD pr (List.getElem?_eq_getElem hil);obtain rfl:x=.ref t:=by rw [hy] at hx; rw [<- Option.some.inj hx,ey]
  obtain ⟨ga,wa,gv,eh,eg,pg⟩:=hH.same s2;have hgl:=pg.length;obtain ⟨z1,z2⟩:=dE pg;have hgi:=hg hs[i] (List.getElem_mem hil);refine ⟨t,[_,_],rfl,SqT.of (s2 _ _ et),rfl,_,[_],rfl,_,[],rfl,rfl,?_⟩;walk_at "rd";refine ⟨⟨_,eu⟩,_,_,.inr (SqT.of eh),rfl,?_⟩;walk_at "rd";refine .inl ⟨⟨_,SqL.of eg⟩,fun D hD=>?_⟩;refine xk (item:=fun x:List Nat × V=>x.2) (hs[i].2.zip gv) (fun _=>true) (fun x v H'=>WayAt H' (hs[i].1,x.1) v) hD (by rw [z1]; exact SqL.of eg) (by rw [List.length_zip]; omega) ?_ ?_ ?_
  ·rintro x v H2 H3 acc hd k ⟨t',rfl,et'⟩;exact ⟨t',rfl,k t' _ (fun z=>by rw [z,hd] at et'; cases et') et'⟩
  ·intro x H2 out non hx2 s3 ho _;obtain ⟨t',r',ex,et'⟩:=z2 x hx2;rw [ex];walk_at "rd";refine ⟨_,_,.inr (SqT.of (s3 _ _ et')),rfl,by decide,fun t2 ht2=>?_⟩;exact ho _ _ rfl (ai ht2 _) ⟨t2,rfl,ah⟩
  ·intro H2 ws s3 e3 p3;have p4:Paired (WayAt H2) (hs[i].2.map fun d=>(hs[i].1,d)) ws:=by
    have hf:(hs[i].2.zip gv).filter (fun _=>true)=hs[i].2.zip gv:=List.filter_eq_self.mpr fun _ _=>rfl
    rw [hf] at p3;have:hs[i].2.map (fun d=>((hs[i].1,d):Way))=(hs[i].2.zip gv).map fun x=>(hs[i].1,x.1):=by
     conv=>lhs; rw [<- gJ (l:=hs[i].2) (m:=gv) hgl,List.map_map]
     rfl
    rw [this];exact nE p3
   have eu3:=s3 _ _ eu;have l1:=pu.length;have l2:=p4.length;have l3:=ot (hs:=hs.take i) (c:=100) fun x hx=>hg x (List.mem_of_mem_take hx)
   rw [List.length_take] at l3;rw [List.length_map] at l2;refine ⟨us,ws,eu3,e3,Nat.le_of_lt (sizeBig ?_),some (tx hs[i].1),some (.ref hq),rfl,aS (s2.trans s3) hg0,⟨_,ah,?_⟩⟩
   ·have:min i hs.length*100<=100*100:=Nat.mul_le_mul_right _ (by omega);omega
   ·rw [sT hs i hil];refine oE (L2.Paired.mapP pu ?_) (L2.Paired.mapP p4 ?_)
    ·rintro x v ⟨t',rfl,et'⟩;exact ⟨t',rfl,cZ eu3 _ _ (s3 _ _ et')⟩
    ·rintro x v ⟨t',rfl,et'⟩;exact ⟨t',rfl,cZ eu3 _ _ et'⟩
 ·rintro σ H1 ⟨u,v,rfl,s2,hW⟩;walk_at "rd";rw [<- hl,List.take_length] at hW;exact q g H1 hg0 s2 hW
noncomputable def eV (K:Frag):Sp:=fun vs H Q _=>match vs with
 | [.ref c,.ref b]=>∃ (ls:List Line) (hs:List LNamed),Th H 8 (.ref c) (.l (ls.map lineD))/\Th H 8 (.ref b) (.l (hs.map namedL))/\ls.length<=700/\hs.length<=100/\(∀ x ∈ hs,x.2.1.length<=100)/\(hs.map (·.1)).Nodup/\∀ H',Same H H'->Q (ft (scan (endF (doorsN hs)) [] (endsOf ls))) H'
 | _=>False
theorem lG (T:Top K mg):Callee P w K mg base 2 "_law_line_fault" ["_law_lines_here", "_law_houses"] (eV K):=by
 refine T.iB.cal dF (by intro vs H Q E h; unfold eV at h; split at h <;> first | rfl | exact h.elim) (fun _ _ _ _ _ _ us hl=>match us,hl with | [_,_],_=>rfl) (fun f cdv A outer s H vs Q E hr h=>?_);unfold eV at h;split at h
 case h_2=>exact h.elim
 refine ⟨_,(ae (ao (i:=2) dF.nd rfl lc (aL ac))
   (ae (br PassesOwn.never rfl (iterE K rfl (qv 0)) (al (i:=3) dF.nd rfl lc) (af (br PassesOwn.never rfl (iterE K rfl (qv 3)) (al (i:=4) dF.nd rfl lc) (ae (aE (aB (notinE K rfl) (az (ixE K rfl) (qv 4) ad (fun _ _=>rfl)) (bU (nt:=2) (fi:=[]) (N':=["_law_name", "_law_house_here"]) rfl (cscope rfl (by decide +kernel)) (cnames (N:=["_law_lines_here", "_law_houses", "_law_ahead", "_law_line", "_law_spot"]) (sc:=defScope dQ) rfl rfl (by decide +kernel)) (jm (by decide) (by decide)) (iterE K rfl (qv 1)) (fun _ _ _ _ _=>(tupE K rfl rfl (n:=2) (ap (al (i:=0) (by show (["_law_name", "_law_house_here"]:List Str).Nodup; decide +kernel) rfl lc) (ap (al (i:=1) (by show (["_law_name", "_law_house_here"]:List Str).Nodup; decide +kernel) rfl lc) aR)))) (fun _ _ _ _ _=>bC) (fun _ _ _ _ _=>(qv 0)))) (af (aw (qs [78,111,72,111,117,115,101]))) ar)
   (ae (aE (aB (vF K rfl hr) (qv 4) (aq (iO T) hr.m rfl (aa (qv 1) ac))) (af (aw (qs [78,111,68,111,111,114]))) ar)
   (ae (aE (aB (xY K rfl hr) (qv 4) (qv 2)) (af (aw (qs [84,119,105,99,101]))) ar)
   (af (aF (dh (qv 2) (qv 4))))))))))
   (af (aw (qs []))))),?_⟩
 rename_i c b;obtain ⟨ls,hs,th,thH,h400,h100,hd,nd,q⟩:=h;obtain ⟨_,cv,⟨⟩,ec,pc⟩:=eH th;obtain ⟨_,hv,⟨⟩,eb,pb⟩:=eH thH;have hS:=pf thH;have hcl:=pc.length;have hbl:=pb.length;have hen:=xM ls;have ndD:((doorsN hs).map (·.1)).Nodup:=by unfold doorsN; rw [List.map_map]; exact nd
 walk_at "rd";refine ⟨Nat.zero_le _,fun g hg0=>?_⟩;have s1:=ai hg0 (.lst []);refine .inl ⟨⟨_,SqL.of (s1 _ _ ec)⟩,?_⟩;refine bw (xs:=cv) (fun i σ H'=>∃ u2 u3 tv,σ = [some (.ref c),some (.ref b),some (.ref g),u2,u3]/\Same H H'/\H' g=some (.lst tv)/\Paired (WayAt H') ((endsOf ls).take (2*i)) tv/\Calm (endF (doorsN hs)) (endsOf ls) (2*i)) ⟨none,none,[],rfl,s1,ah,.nil,Calm.zero⟩ (fun i σ H' _ ⟨_,_,_,_,z,_⟩=>SqL.of (z _ _ ec)) ?_ ?_
 ·rintro i x σ H1 hx ⟨u2,u3,tv,rfl,s2,e2,p2,c2⟩;have hi:i < cv.length:=(List.getElem?_eq_some_iff.mp hx).1;have hil:i < ls.length:=by omega
  obtain ⟨y,hy,tg⟩:=aD pc (List.getElem?_eq_getElem hil);obtain ⟨t',w1,w2,ey,et,z1,z2⟩:=dZ tg;obtain rfl:x=.ref t':=by rw [hy] at hx; rw [<- Option.some.inj hx,ey]
  have wl:Paired (WayAt H) [ls[i].1,ls[i].2] [w1,w2]:=.cons (lT z1) (.cons (lT z2) .nil);have e2j:=pe hil;walk_at "rd";refine .inr ⟨⟨_,SqT.of (s2 _ _ et)⟩,?_⟩;refine tm (xs:=[w1,w2]) (fun j σ H'=>∃ u3 tv,σ = [some (.ref c),some (.ref b),some (.ref g),some (.ref t'),u3]/\Same H H'/\H' g=some (.lst tv)/\Paired (WayAt H') ((endsOf ls).take (2*i+j)) tv/\Calm (endF (doorsN hs)) (endsOf ls) (2*i+j)) ⟨_,tv,rfl,s2,e2,p2,c2⟩ (fun j σ H' _ ⟨_,_,_,z,_⟩=>SqT.of (z _ _ et)) ?_ ?_
  ·rintro j v σ H2 hv ⟨u3,tv2,rfl,s3,e3,p3,c3⟩;have hj2:j < 2:=(List.getElem?_eq_some_iff.mp hv).1;have hjl:j < [ls[i].1,ls[i].2].length:=hj2;obtain ⟨y3,hy3,ta,eya,eta⟩:=aD wl (List.getElem?_eq_getElem hjl);obtain rfl:v=.ref ta:=by rw [hy3] at hv; rw [<- Option.some.inj hv,eya]
   have hk:2*i+j < (endsOf ls).length:=by omega
   have ek:(endsOf ls)[2*i+j]=[ls[i].1,ls[i].2][j]:=by
    have:=(e2j j hj2).2;rw [List.getElem?_eq_getElem hk,List.getElem?_eq_getElem hjl] at this;exact Option.some.inj this
   rw [<- ek] at eta;clear ek e2j;have etk:(endsOf ls).take (2*i+(j+1))=(endsOf ls).take (2*i+j)++[(endsOf ls)[2*i+j]]:=by
    rw [<- Nat.add_assoc,List.take_add_one,List.getElem?_eq_getElem hk];rfl
   rw [etk,<- Nat.add_assoc];have cs:=fun {s:Str}=>c3.some (s:=s) hk
   have ct:=c3.step hk;have l4:=p3.length;rw [List.length_take] at l4;have bad:∀ {s:Str} {H4:Hp},Same H2 H4->endF (doorsN hs) ((endsOf ls).take (2*i+j)) (endsOf ls)[2*i+j]=some s->Q (.str s) H4:=fun {s H4} s5 hc=>by
    have:=q H4 (s3.trans s5);rw [cs hc] at this;exact this
   clear cs;generalize (endsOf ls)[2*i+j]=z at bad ct eta ⊢;have esp:=qq ndD z;walk_at "rd";refine ⟨_,_,.inr (SqT.of (s3 _ _ eta)),rfl,?_⟩;walk_at "rd";refine .inl ⟨⟨_,SqL.of (s3 _ _ eb)⟩,fun D hD=>?_⟩;refine jo (fun x:LNamed=>x.1) (xs:=hs) (s3 _ _ eb) (L2.Paired.mapP pb fun x v zz=>l9 (aH s3 _ zz)) (by omega) hD fun H3 s4 e4=>?_
   walk_at "rd";refine ⟨_,.inl (SqL.of e4),rfl,eT _,?_⟩;rw [gj];have edn:(doorsN hs).map (·.1)=hs.map (·.1):=by unfold doorsN; rw [List.map_map]; rfl
   rw [edn] at esp;by_cases g1:z.1 ∈ hs.map (·.1)
   case neg=>
    rw [decide_eq_false g1];refine bad (s := "NoHouse") s4 ?_;unfold endF;rw [esp,if_neg g1];rfl
   rw [decide_eq_true g1];rw [if_pos g1] at esp;have s34:=s3.trans s4;walk_at "rd";refine ⟨doorsN hs,hS.same s34,by unfold doorsN; rw [List.length_map]; omega,fun x hx=>?_,fun q5 H4 hq5 s5 hWs=>?_⟩
   ·unfold doorsN at hx;obtain ⟨y,hy,rfl⟩:=List.mem_map.mp hx;rw [List.length_map];exact hd y hy
   obtain ⟨sv,e5,p5⟩:=hWs;have s35:=s34.trans s5;have s25:=s4.trans s5;walk_at "rd";refine ⟨_,_,SqL.of e5,s35 _ _ eta,rfl,kG p5,?_⟩;rw [oi p5];by_cases g2:z ∈ spotsL (doorsN hs)
   case neg=>
    rw [decide_eq_false g2];refine bad (s := "NoDoor") s25 ?_;unfold endF;rw [esp,if_neg g2];rfl
   rw [decide_eq_true g2];rw [if_pos g2] at esp;have p6:=df (fun t us q=>s25 _ _ q) p3;refine ⟨_,_,SqL.of (s25 _ _ e3),s35 _ _ eta,rfl,kG p6,?_⟩;rw [oi p6];walk_at "rd";refine ite2 (fun g3=>?_) fun g3=>?_
   ·refine bad (s := "Twice") s25 ?_;unfold endF newF;rw [esp,if_pos g3];rfl
   have e6:=s25 _ _ e3;refine ⟨⟨_,e6⟩,_,e6,sizeBig (by omega),_,_,rfl,aS s35 hg0,ah,?_,ct ?_⟩
   ·exact fe (df (cZ e6) p6) ⟨ta,rfl,cZ e6 _ _ (s35 _ _ eta)⟩
   ·unfold endF newF;rw [esp,if_neg g3];rfl
  ·rintro σ H2 ⟨u3,tv2,rfl,s3,e3,p3,c3⟩;exact ⟨_,_,tv2,rfl,s3,e3,p3,c3⟩
 ·rintro σ H1 ⟨u2,u3,tv,rfl,s2,e2,p2,c2⟩;have:=q H1 s2;rw [c2.end (by omega)] at this;walk_at "rd";exact this
noncomputable def iP (K:Frag):Sp:=fun vs H Q _=>match vs with
 | [.ref t]=>∃ N:LNet,Th H 9 (.ref t) (netL N)/\OkN N/\∀ H',Same H H'->Q (ft (netF N)) H'
 | _=>False
noncomputable def six:List Str:=["Twice", "Misfit", "NoField", "BadWord", "NoDoor", "NoHouse"]
theorem kf {a b:Option Str} (h1:∀ c,a=some c->c ∈ six) (h2:∀ c,b=some c->c ∈ six):∀ c,a.or b=some c->c ∈ six:=fun c h=>by
 cases a with
 | none=>exact h2 c h
 | some x=>exact h1 c h
theorem ig {α:Type} {f:List α -> α -> Option Str} (h:∀ p x c,f p x=some c->c ∈ six):∀ {l pre:List α} (c:Str),scan f pre l=some c->c ∈ six
 | [],_,c,e=>by cases e
 | x::l,pre,c,e=>by
  rw [scan] at e;exact kf (h pre x) (ig h) c e
theorem rH {α:Type} [DecidableEq α] {x:α} {l:List α}:∀ c,newF x l=some c->c ∈ six:=fun c h=>by
 rw [(mP h).2];exact List.mem_cons_self
theorem uH {ls:List LFld}:∀ c,layF ls=some c->c ∈ six:=by
 refine kf (ig fun p x c h=>?_) fun c h=>?_
 ·unfold fldF at h;split at h
  ·cases h; unfold six; simp
  ·split at h
   ·cases h; unfold six; simp
   ·cases h
 ·split at h
  ·cases h
  ·cases h; unfold six; simp
theorem wU {W:Nat} {x:LRule}:∀ c,ruleF W x=some c->c ∈ six:=fun c h=>by
 unfold ruleF at h;split at h
 ·split at h
  ·split at h
   ·cases h
   ·cases h; unfold six; simp
  ·cases h; unfold six; simp
 ·cases h; unfold six; simp
theorem qo {W S:Nat} {h:LHouse}:∀ c,houseF W S h=some c->c ∈ six:=by
 refine kf (ig fun p x=>kf rH (ig fun _ y=>wU)) (ig fun p x c h=>?_);unfold wayF at h;split at h
 ·split at h
  ·cases h; unfold six; simp
  ·split at h
   ·cases h
   ·cases h; unfold six; simp
 ·cases h; unfold six; simp
theorem uV {N:LNet}:∀ c,netF N=some c->c ∈ six:=by
 refine kf uH (kf (ig fun p x=>kf rH qo) (ig fun p x=>kf (fun c h=>?_) rH));unfold spotF at h;split at h
 ·cases h; unfold six; simp
 ·split at h
  ·cases h
  ·cases h; unfold six; simp
theorem tL {c:Str} (h:c ∈ six):¬ c.cps.toList=[]:=by
 unfold six at h;simp only [List.mem_cons,List.not_mem_nil,or_false] at h;rcases h with rfl | rfl | rfl | rfl | rfl | rfl <;> decide
theorem rj (c:List Nat):ft (some (st c))=V.str (st c):=rfl
theorem rf:ft none=V.str (st []):=rfl
theorem pV (T:Top K mg):Callee P w K mg base 3 "_law_fault" ["_law_net_here"] (iP K):=by
 refine T.mr.cal bB (by intro vs H Q E h; unfold iP at h; split at h <;> first | rfl | exact h.elim) (fun _ _ _ _ _ _ us hl=>match us,hl with | [_],_=>rfl) (fun f cdv A outer s H vs Q E hr h=>?_);unfold iP at h;split at h
 case h_2=>exact h.elim
 refine ⟨_,(ae (fO (qv 0) (seqE K rfl rfl (n:=3) (ap (al (i:=1) bB.nd rfl lc) (ap (al (i:=2) bB.nd rfl lc) (ap (al (i:=3) bB.nd rfl lc) aR)))))
   (ae (ao (i:=4) bB.nd rfl lc (aq (j8 T) hr.m rfl (aa (qv 1) ac)))
   (ae (aE (aB oJ (qv 4) (qs [])) (af (aw (qv 4))) ar)
   (ae (fO (aq (jF T) hr.m rfl (aa (qv 1) ac)) (seqE K rfl rfl (n:=2) (ap (al (i:=5) bB.nd rfl lc) (ap (al (i:=6) bB.nd rfl lc) aR))))
   (ae (br PassesOwn.never rfl (bA rfl T.cF (av (lenE K rfl) rfl T.bv aN (aa (qv 2) ac))) (al (i:=7) bB.nd rfl lc) (ae (aE (aB (inE K rfl) (az (ixE K rfl) (az (ixE K rfl) (qv 2) (qv 7) (fun _ _=>rfl)) ad (fun _ _=>rfl)) (bU (nt:=2) (fi:=[]) (N':=["_law_name", "_law_house_here"]) rfl (cscope rfl (by decide +kernel)) (cnames (N:=["_law_net_here", "_law_layout_here", "_law_houses", "_law_lines_here", "_law_fault_here", "_law_first", "_law_behind", "_law_at"]) (sc:=defScope gI) rfl rfl (by decide +kernel)) (jm (by decide) (by decide)) (iterE K rfl (dU (slE K rfl) (qv 2) fq (fu (qv 7)))) (fun _ _ _ _ _=>(tupE K rfl rfl (n:=2) (ap (al (i:=0) (by show (["_law_name", "_law_house_here"]:List Str).Nodup; decide +kernel) rfl lc) (ap (al (i:=1) (by show (["_law_name", "_law_house_here"]:List Str).Nodup; decide +kernel) rfl lc) aR)))) (fun _ _ _ _ _=>bC) (fun _ _ _ _ _=>(qv 0)))) (af (aw (qs [84,119,105,99,101]))) ar)
   (ae (ao (i:=4) bB.nd rfl lc (aq (kQ T) hr.m rfl (aa (az (ixE K rfl) (az (ixE K rfl) (qv 2) (qv 7) (fun _ _=>rfl)) ad (fun _ _=>rfl)) (aa (aq (iI T) hr.m rfl (aa (qv 1) ac)) (aa (am mi (qv 6) (qv 5)) ac)))))
   (af (aE (aB oJ (qv 4) (qs [])) (af (aw (qv 4))) ar)))))
   (af (aw (aq (lG T) hr.m rfl (aa (qv 3) (aa (qv 2) ac)))))))))),?_⟩
 rename_i t;obtain ⟨N,hN,ok,q⟩:=h;obtain ⟨_,v1,v2,v3,⟨⟩,e,k1,k2,k3⟩:=pB hN;obtain ⟨la,lv,rfl,el,pl⟩:=eH k1;obtain ⟨hb,hv,rfl,eb,pb⟩:=eH k2;obtain ⟨lc,cv,rfl,ec,pc⟩:=eH k3;have h20:=ok.l20;have h100:=ok.h100;have hbl:=pb.length;walk_at "rd";refine ⟨[_,_,_],.inr (SqT.of e),rfl,_,[_,_],rfl,_,[_],rfl,_,[],rfl,rfl,?_⟩;walk_at "rd";refine ⟨6,N.1,k1,by omega,fun H1 s1=>?_⟩;cases f1:layF N.1 with
 | some c=>
  have hc:=tL (uH c f1);have:=q H1 s1;unfold netF at this;rw [f1] at this;obtain ⟨c,rfl⟩:∃ x,c=st x:=⟨_,(cC c).symm⟩;rw [aM] at hc;simp only [rj];walk_at "rd";rw [if_neg hc];exact this
 | none=>
 obtain ⟨fa,fb,esp,eG,hfb,hW,hl⟩:=r8 ok f1;have hL:=wV k1 (oM f1).1;have hab:=oQ _ _ _ _ _ esp;simp only [rf];walk_at "rd";refine ⟨unI N.1,hL.same s1,fun t2 H2 ht2 s2 et2=>?_⟩;rw [eG] at et2;have s12:=s1.trans s2;refine ⟨[_,_],.inr (SqT.of et2),rfl,_,[_],rfl,_,[],rfl,rfl,?_⟩;walk_at "rd";refine ⟨_,.inl (SqL.of (s12 _ _ eb)),by omega,by omega,?_⟩;rw [Int.toNat_natCast];refine c9 (lo:=0) (n:=hv.length) (fun i σ H'=>∃ u,σ = [some (.ref t),some (.ref la),some (.ref hb),some (.ref lc),some (V.str (st [])),some (nV fa),some (nV fb),u]/\Same H H'/\Calm (namedF (widthL (unI N.1)) (fb - fa)) N.2.1 i) ⟨none,rfl,s12,Calm.zero⟩ ?_ ?_
 ·rintro i σ H3 hi ⟨u,rfl,s3,c3⟩;have hil:i < N.2.1.length:=by omega
  obtain ⟨y,hy,tg⟩:=aD pb (List.getElem?_eq_getElem hil);obtain ⟨t',w1,w2,rfl,et,z1,z2⟩:=dZ tg;obtain rfl:=dD z1;obtain ⟨n1,okh⟩:=ok.hs _ (List.getElem_mem hil);obtain ⟨q',_,_,rfl,_⟩:=dZ z2;have bad:∀ {c:Str} {H4:Hp},Same H3 H4->namedF (widthL (unI N.1)) (fb - fa) (N.2.1.take i) N.2.1[i]=some c->Q (.str c) H4:=fun {c H4} s5 hc=>by
   have:=q H4 (s3.trans s5);unfold netF at this;rw [f1,eG,c3.some hil hc] at this;exact this
  walk_at "rd";refine ⟨_,_,.inl (SqL.of (s3 _ _ eb)),aI hy,?_⟩;walk_at "rd";refine ⟨_,_,.inr (SqT.of (s3 _ _ et)),rfl,_,SqL.of (s3 _ _ eb),fun p4 hp4=>?_⟩;rw [kH];have s4:=ai hp4 (.lst (hv.take i));have e4:upd H3 p4 (.lst (hv.take i)) p4=some (.lst (hv.take i)):=ah;generalize upd H3 p4 (.lst (hv.take i))=H4 at s4 e4 ⊢;have s34:=s3.trans s4;refine .inl ⟨⟨_,SqL.of e4⟩,fun D hD=>?_⟩;refine jo (fun x:LNamed=>x.1) (xs:=N.2.1.take i) e4 (L2.Paired.mapP (iu i pb) fun x v z=>l9 (aH s34 _ z)) (by rw [List.length_take]; omega) hD fun H5 s5 e5=>?_
  have s35:=s34.trans s5;walk_at "rd";refine ⟨_,.inl (SqL.of e5),rfl,eT _,?_⟩;rw [gj];walk_at "rd";refine ite2 (fun g=>?_) fun g=>?_
  ·exact bad (c := "Twice") (s4.trans s5) (by unfold namedF newF; rw [if_pos g]; rfl)
  have hnew:newF N.2.1[i].1 ((N.2.1.take i).map (·.1))=none:=if_neg g;refine ⟨_,_,.inl (SqL.of (s35 _ _ eb)),aI hy,?_⟩;walk_at "rd";refine ⟨_,_,.inr (SqT.of (s35 _ _ et)),rfl,?_⟩;refine ⟨unI N.1,hL.same s35,hl,fun H6 s6=>?_⟩;have s36:=s35.trans s6;walk_at "rd";refine ⟨N.2.1[i].2,widthL (unI N.1),fb - fa,rfl,by omega,aH s36 6 z2,okh,fun H7 s7=>?_⟩;have s47:=s4.trans (s5.trans (s6.trans s7));cases f2:houseF (widthL (unI N.1)) (fb - fa) N.2.1[i].2 with
  | some c=>
   have hc:=tL (qo c f2);have:=bad (c:=c) s47 (by unfold namedF; rw [hnew,f2]; rfl);obtain ⟨c,rfl⟩:∃ x,c=st x:=⟨_,(cC c).symm⟩;rw [aM] at hc;simp only [rj];walk_at "rd";rw [if_neg hc];exact this
  | none=>
   simp only [rf];walk_at "rd";exact ⟨_,rfl,s3.trans s47,c3.step hil (by unfold namedF; rw [hnew,f2]; rfl)⟩
 ·rintro σ H3 ⟨u,rfl,s3,c3⟩;have c4:=c3.end hbl.symm;walk_at "rd";refine ⟨N.2.2,N.2.1,aH s3 8 k3,aH s3 8 k2,ok.l400,h100,fun x hx=>(ok.hs x hx).2.g,wK c4,fun H4 s4=>?_⟩;have:=q H4 (s3.trans s4);unfold netF at this;rw [f1,eG,c4] at this;exact this
theorem qa (T:Top K mg):Callee P w K mg base 3 "_law_house" ["_law_script", "_law_k", "_law_told_here", "_law_layout_here", "_law_pool"] (iZ K):=by
 refine T.mH.cal bf (by intro vs H Q E h; unfold iZ at h; split at h <;> first | rfl | exact h.elim) (fun _ _ _ _ _ _ us hl=>match us,hl with | [_,_,_,_,_],_=>rfl) (fun f cdv A outer s H vs Q E hr h=>?_);unfold iZ at h;split at h
 case h_2=>exact h.elim
 refine ⟨_,(ae (ao (i:=5) bf.nd rfl lc (aq (iI T) hr.m rfl (aa (qv 3) ac)))
   (ae (fO (aq (jF T) hr.m rfl (aa (qv 3) ac)) (seqE K rfl rfl (n:=2) (ap (al (i:=6) bf.nd rfl lc) (ap (al (i:=7) bf.nd rfl lc) aR))))
   (ae (ao (i:=8) bf.nd rfl lc (aq (aj T) hr.m rfl (aa (qv 0) (aa (qv 1) (aa (av (lenE K rfl) rfl T.bv aN (aa (qv 4) ac)) ac)))))
   (ae (ao (i:=9) bf.nd rfl lc (az (ixE K rfl) (aL (aa ad (aa ad (aa ad (aa ad (aa ad (aa ad (aa ad (aa ad (aa ad ac)))))))))) (aq (aj T) hr.m rfl (aa (qv 0) (aa (am ak (qv 1) ad) (aa ad ac)))) (fun _ _=>rfl)))
   (ae (kK (i:=10) (nt:=1) (fi:=[4,8]) (N':=["_law_j", "_law_pool", "_law_turn"]) bf.nd rfl lc rfl (cscope rfl (by decide +kernel)) (cnames (N:=["_law_script", "_law_k", "_law_told_here", "_law_layout_here", "_law_pool", "_law_width_here", "_law_first", "_law_behind", "_law_turn", "_law_count", "_law_doors", "_law_gates", "_law_g", "_law_many", "_law_rules"]) (sc:=defScope fE) rfl rfl (by decide +kernel)) (cE (by decide)) (bA rfl T.cF (qv 9)) (fun _ _ _ _ _=>(al (i:=0) (by show (["_law_j", "_law_pool", "_law_turn"]:List Str).Nodup; decide +kernel) rfl lc)) (fun _ _ _ _ _=>bC) (fun _ _ _ _ _=>(az (ixE K rfl) (qv 1) (am fA (am ak (qv 2) (qv 0)) (av (lenE K rfl) rfl T.bv aN (aa (qv 1) ac))) (fun _ _=>rfl))))
   (ae (ao (i:=11) bf.nd rfl lc (aL ac))
   (ae (br PassesOwn.never rfl (bA rfl T.cF (qv 9)) (al (i:=12) bf.nd rfl lc) (ae (ao (i:=13) bf.nd rfl lc (aq (aj T) hr.m rfl (aa (qv 0) (aa (am ak (am ak (qv 1) ad) (qv 12)) (aa ad ac)))))
   (ae (kK (i:=14) (nt:=1) (fi:=[0,2,5,1,12]) (N':=["_law_j", "_law_script", "_law_told_here", "_law_width_here", "_law_k", "_law_g"]) bf.nd rfl lc rfl (cscope rfl (by decide +kernel)) (cnames (N:=["_law_script", "_law_k", "_law_told_here", "_law_layout_here", "_law_pool", "_law_width_here", "_law_first", "_law_behind", "_law_turn", "_law_count", "_law_doors", "_law_gates", "_law_g", "_law_many", "_law_rules"]) (sc:=defScope fE) rfl rfl (by decide +kernel)) (cE (by decide)) (bA rfl T.cF (qv 13)) (fun _ _ _ _ _=>(al (i:=0) (by show (["_law_j", "_law_script", "_law_told_here", "_law_width_here", "_law_k", "_law_g"]:List Str).Nodup; decide +kernel) rfl lc)) (fun _ _ _ _ _=>bC) (fun _ _ _ _ _=>(aq (rg T) hr.m rfl (aa (qv 1) (aa (am ak (am ak (am ak (qv 4) ad) (am d4 ad (qv 5))) (am d4 ad (qv 0))) (aa (qv 2) (aa (dU (slE K rfl) (qv 2) fq (fu ad)) (aa (qv 3) ac))))))))
   (af (aF (dh (qv 11) (aX (aa (az (ixE K rfl) (qv 10) (qv 12) (fun _ _=>rfl)) (aa (qv 14) ac)))))))))
   (af (aw (aX (aa (qv 11) (aa (aq (rN T) hr.m rfl (aa (qv 0) (aa (am ak (qv 1) ad) (aa (qv 10) (aa (am mi (qv 7) (qv 6)) ac))))) ac)))))))))))),?_⟩
 rename_i a k t p o;obtain ⟨ns,k0,ps,ls,pl,hS,rfl,hk,hT,tok,hL,ok,hO,N,q⟩:=h;obtain ⟨fa,fb,esp,hab,hb⟩:=ok.to;have eG:spanG ls=(fa,fb):=by unfold spanG; rw [esp]; rfl
 rw [eG] at q;have w1:=ok.w1;have w2:=ok.w2;have hlen:=ok.len;have hpl:(pl.map tx).length=5:=by rw [List.length_map]; exact N.len
 walk_at "rd";refine ⟨ls,hL,by omega,fun H1 s1=>?_⟩;generalize eW:widthL ls=W at *;refine ⟨ls,hL.same s1,fun t1 H2 ht1 s2 e1=>?_⟩;rw [eG] at e1;have s12:=s1.trans s2;refine ⟨[_,_],.inr (SqT.of e1),rfl,_,[_],rfl,_,[],rfl,rfl,?_⟩;walk_at "rd";have s13:=s12;have hosW:∀ x ∈ ps.take 2,x < W:=fun x hx=>tok.lt x (List.mem_of_mem_take hx)
 walk_at "rd";refine ⟨_,.inl (s13.seq hO),aA (s13.seq hS) (by omega) (by omega) (by omega) (by omega) fun r1 hr1=>?_⟩;walk_at "rd";refine ⟨by decide,fun c1 hc1=>?_⟩;have s4:=s13.trans (ai hc1 (.lst [V.int 1,V.int 2,V.int 3,V.int 2,V.int 1,V.int 2,V.int 3,V.int 2,V.int 0]));refine aA (s4.seq hS) (by omega) (by omega) (by decide) (by decide) fun r2 hr2=>?_
 obtain ⟨c,hc,ec⟩:=tw (cs:=[1,2,3,2,1,2,3,2,0]) (B:=3) (vs:=[V.int 1,V.int 2,V.int 3,V.int 2,V.int 1,V.int 2,V.int 3,V.int 2,V.int 0]) rfl (by decide) (i:=r2) (by show r2 < 9; omega);walk_at "rd";refine ⟨_,_,.inl (SqL.of ah),ec,?_⟩;walk_at "rd";refine ⟨by omega,by omega,fun ds hds=>?_⟩;rw [Int.toNat_natCast];have dnP:∀ j:Nat,∃ h:(r1+j) % 5 < pl.length,pl.getD ((r1+j) % 5) []=pl[(r1+j) % 5]:=fun j=>by
  have h1:(r1+j) % 5 < pl.length:=by rw [N.len]; exact Nat.mod_lt _ (by decide)
  exact ⟨h1,by rw [List.getD_eq_getElem?_getD,List.getElem?_eq_getElem h1]; rfl⟩
 have dnd:=xP N (r1:=r1) hc;refine lH (lo:=0) (n:=c) (h:=fun j=>[tx (pl.getD ((r1+j) % 5) [])]) hds (by omega) (fun _=>by simp) ?_ ?_
 ·intro i H5 out non hi s5 ho _;have s45:=s4.trans s5;walk_at "rd";rw [show ((r1:Int)+(i:Int))=((r1+i:Nat):Int) by omega];obtain ⟨h1,h2⟩:=dnP i;refine ⟨_,.inl (s45.seq hO),by rw [hpl]; decide,_,_,.inl (s45.seq hO),?_,ho _ _ rfl (Same.refl _)⟩;rw [hpl,show (((r1+i:Nat):Int) % ((5:Nat):Int))=(((r1+i) % 5:Nat):Int) by omega];refine aI ?_;rw [List.getElem?_map,List.getElem?_eq_getElem h1,h2];rfl
 intro H5 s5 e5;rw [fR (fun j=>tx (pl.getD ((r1+j) % 5) [])),show (List.range c).map (fun j=>tx (pl.getD ((r1+j) % 5) []))=((List.range c).map fun j=>pl.getD ((r1+j) % 5) []).map tx by rw [List.map_map]; rfl] at e5;have dmem:∀ x ∈ (List.range c).map (fun j=>pl.getD ((r1+j) % 5) []),x ∈ pl:=fun x hx=>by
  obtain ⟨j,_,rfl⟩:=List.mem_map.mp hx;obtain ⟨h1,h2⟩:=dnP j;rw [h2];exact List.getElem_mem h1
 have dlen:((List.range c).map fun j=>pl.getD ((r1+j) % 5) []).length=c:=by simp
 generalize (List.range c).map (fun j=>pl.getD ((r1+j) % 5) [])=dl at dnd dmem dlen e5;have s45:=s4.trans s5;clear dnP;refine ⟨Nat.zero_le _,fun gl hgl=>⟨by omega,by omega,?_⟩⟩;have sg:=ai hgl (.lst []);refine c9 (lo:=0) (n:=c) (fun i σ H'=>∃ (gs:List Gate) (vs:List V) (u13 u14 u15:Option V),σ = [some (.ref a),some (nV k0),some (.ref t),some (.ref p),some (.ref o),some (nV W),some (nV fa),some (nV fb),some (nV r1),some (nV c),some (.ref ds),some (.ref gl),u13,u14,u15]/\Same H5 H'/\H' gl=some (.lst vs)/\Paired (GateB gl (fun r=>H r=none) H') gs vs/\gs.map (·.1)=dl.take i/\(∀ x ∈ gs,∀ r ∈ x.2,RuleOk W r/\OverL ps r.2.2)/\∀ x ∈ gs,x.2.length<=5)
  ⟨[],[],none,none,none,rfl,sg,ah,.nil,by simp,fun x hx=>by simp at hx,fun x hx=>by simp at hx⟩ ?_ ?_
 ·rintro i σ H6 hi ⟨gs,vs,u13,u14,u15,rfl,s6,eg,pg,hgd,hgr,hgn⟩;have s46:=s45.trans s6;walk_at "rd";refine aA (s46.seq hS) (by omega) (by omega) (by decide) (by decide) fun r3 hr3=>?_
  walk_at "rd";rw [Int.toNat_natCast];have mul9:CMul 9 (i:Int):=.inl ⟨by decide,by decide⟩;have mul2:∀ j:Nat,CMul 2 (j:Int):=fun j=>.inl ⟨by decide,by decide⟩
  refine ⟨by omega,by omega,fun R hR=>?_⟩;refine vL (lo:=0) (n:=r3) (fun _ v H'=>∃ r:Rule,(RuleOk W r/\OverL ps r.2.2)/\RuleAt H' r v) hR (by omega) ?_ ?_ ?_
  ·rintro x v H7 H8 acc hd k ⟨r,hr,t',rfl,et⟩;exact ⟨r,hr,t',rfl,k t' _ (fun z=>by rw [z,hd] at et; cases et) et⟩
  ·intro j H7 out non hj s7 ho;have s47:=s46.trans s7;walk_at "rd";refine ⟨mul9,mul2 j,_,s47.seq hT,fun q7 hq7=>?_⟩;rw [show cutV (ps.map nV) none (some 2)=(ps.take 2).map nV by rw [show (2:Int)=((2:Nat):Int) from rfl,kH,List.map_take]];have s7b:=ai hq7 (.lst ((ps.take 2).map nV));have s48:=s47.trans s7b;refine ⟨ns,k0+22+9*i+2*j,W,ps,ps.take 2,s48.seq hS,by omega,by omega,rfl,by omega,s48.seq hT,tok.lt,SqL.of ah,hosW,fun t7 H8 r ht7 s8 e8 hrok hov=>?_⟩;exact ho _ _ (s7b.trans s8) ⟨r,⟨hrok,fun i c e n=>List.mem_of_mem_take (hov i c e n)⟩,t7,rfl,e8⟩
  intro H7 us s7 e7 p7;obtain ⟨rs,pr7,hrl,hrok⟩:=k9 p7;rw [List.length_range] at hrl;have hR5:=s6.free hR;have s47:=s46.trans s7;have nRg:R≠gl:=fun z=>by rw [z,eg] at hR; cases hR
  have s8:Same H6 H7:=s7;have hR8:Rules H7 R rs:=⟨us,e7,pr7⟩;have hrl':rs.length<=5:=by omega
  walk_at "rd";have eg8:=s8 _ _ eg;have hid:i < dl.length:=by omega
  refine ⟨⟨_,eg8⟩,_,tx dl[i],.inl (SqL.of (s8 _ _ (s6 _ _ e5))),aI (by rw [List.getElem?_map,List.getElem?_eq_getElem hid]; rfl),by decide,fun t9 ht9=>?_⟩;have s9:=ai ht9 (.tup [tx dl[i],.ref R]);have eg9:=s9 _ _ eg8;have hvl:=pg.length;have hgl2:gs.length=i:=by
   have:=congrArg List.length hgd;rw [List.length_map,List.length_take] at this;omega
  refine ⟨vs,eg9,sizeBig (by omega),gs++[(dl[i],rs)],_,_,_,_,rfl,aS (s6.trans (s8.trans s9)) hgl,ah,?_,?_,fun x hx=>?_,fun x hx=>?_⟩
  ·exact fe (vP eg9 (ug (s8.trans s9) pg)) ⟨t9,R,rfl,⟨nRg,s46.free hR⟩,cZ eg9 _ _ ah,qz eg9 nRg (hR8.same s9)⟩
  ·rw [List.map_append,hgd,List.take_add_one,List.getElem?_eq_getElem hid];rfl
  ·rcases List.mem_append.mp hx with z | z
   ·exact hgr x z
   ·rw [List.mem_singleton.mp z];exact hrok
  ·rcases List.mem_append.mp hx with z | z
   ·exact hgn x z
   ·rw [List.mem_singleton.mp z];exact hrl'
 ·rintro σ H6 ⟨gs,vs,u13,u14,u15,rfl,s6,eg,pg,hgd,hgr,hgn⟩;have s46:=s45.trans s6;rw [<- dlen,List.take_length] at hgd;walk_at "rd";refine ⟨ns,k0+5,fb - fa,dl,s46.seq hS,by omega,by omega,by omega,by omega,SqL.of (s6 _ _ e5),by omega,fun wp H7 ws hwp s7 hw wok hwl=>⟨by decide,fun hp hhp=>?_⟩⟩;have s8:=ai hhp (.tup [V.ref gl,V.ref wp]);have s78:=s7.trans s8;have ngw:gl≠wp:=fun z=>by rw [z,hwp] at eg; cases eg
  refine q hp gl wp _ (gs,ws) ((s46.trans s7).free hhp) (s45.free hgl) (s46.free hwp) (s46.trans s78) ⟨ah,ngw,⟨vs,s78 _ _ eg,L2.Paired.mapP pg ?_⟩,hw.same s8⟩ ⟨?_,fun x hx=>?_,?_,fun x hx r hr=>(hgr x hx r hr).1,fun x hx=>Nat.le_trans (hgn x hx) (by decide),?_,Nat.le_trans hwl (by decide)⟩ hwl fun x hx r hr=>(hgr x hx r hr).2
  ·rintro x v ⟨t',r,rfl,n,h1,h2⟩;refine ⟨t',r,rfl,⟨n.1,fun z=>?_,n.2⟩,s78 _ _ h1,h2.same s78⟩;obtain ⟨us,eu,_⟩:=h2;rw [z,hwp] at eu;cases eu
  ·show (gs.map (·.1)).Nodup;rw [hgd];exact dnd
  ·exact dmem _ (by rw [<- hgd]; exact List.mem_map.mpr ⟨x,hx,rfl⟩)
  ·have:=congrArg List.length hgd;rw [List.length_map,dlen] at this;show gs.length<=3;omega
  ·show WaysOk (fb - fa) (gs.map (·.1)) ws;rw [hgd];exact wok
noncomputable def ThP (τ:Addr->Option (List Nat)) (H:Hp):Nat->List Nat->V->D->Prop
 | 0,_,v,d=>d=.f v/\flatV v=true
 | n+1,π,v,d=>(d=.f v/\flatV v=true)\/(∃ a vs ds,v=.ref a/\d=.l ds/\τ a=some π /\ H a=some (.lst vs)/\vs.length<=1000/\vs.length=ds.length/\∀ i x y,vs[i]? = some x->ds[i]? = some y->ThP τ H n (i::π) x y)\/(∃ a vs ds,v=.ref a/\d=.t ds/\H a=some (.tup vs)/\vs.length<=1000/\vs.length=ds.length/\∀ i x y,vs[i]? = some x->ds[i]? = some y->ThP τ H n (i::π) x y)
theorem ix {τ τ':Addr->Option (List Nat)} {H H':Hp} (s:∀ a o,τ a≠none->H a=some o->H' a=some o) (tp:∀ a vs,H a=some (.tup vs)->H' a=some (.tup vs)) (f:∀ a π,τ a=some π -> τ' a=some π):∀ (n:Nat) {π:List Nat} {v:V} {d:D},ThP τ H n π v d->ThP τ' H' n π v d
 | 0,_,_,_,h=>h
 | n+1,_,_,_,.inl h=>.inl h
 | n+1,_,_,_,.inr (.inl ⟨a,vs,ds,e1,e2,k,e3,e4,e5,p⟩)=>.inr (.inl ⟨a,vs,ds,e1,e2,f _ _ k,s _ _ (by rw [k]; exact fun z=>nomatch z) e3,e4,e5,fun i x y h1 h2=>ix s tp f n (p i x y h1 h2)⟩)
 | n+1,_,_,_,.inr (.inr ⟨a,vs,ds,e1,e2,e3,e4,e5,p⟩)=>.inr (.inr ⟨a,vs,ds,e1,e2,tp _ _ e3,e4,e5,fun i x y h1 h2=>ix s tp f n (p i x y h1 h2)⟩)
theorem mK {α β:Type} {F:α -> β -> Prop}:∀ {xs:List α} {ys:List β},xs.length=ys.length->(∀ (i:Nat) x y,xs[i]? = some x->ys[i]? = some y->F x y)->Paired F xs ys
 | [],[],_,_=>.nil
 | [],_::_,h,_=>by simp at h
 | _::_,[],h,_=>by simp at h
 | x::xs,y::ys,h,p=>.cons (p 0 x y rfl rfl) (mK (by simpa using h) fun i a b h1 h2=>p (i+1) a b (by simpa using h1) (by simpa using h2))
theorem iL {τ:Addr->Option (List Nat)} {H:Hp}:∀ (n:Nat) {π:List Nat} {v:V} {d:D},ThP τ H n π v d->Th H n v d
 | 0,_,_,_,h=>h
 | n+1,_,_,_,.inl h=>.inl h
 | n+1,_,_,_,.inr (.inl ⟨a,vs,ds,e1,e2,k,e3,e4,e5,p⟩)=>.inr (.inl ⟨a,vs,ds,e1,e2,e3,e4,mK e5 fun i x y h1 h2=>iL n (p i x y h1 h2)⟩)
 | n+1,_,_,_,.inr (.inr ⟨a,vs,ds,e1,e2,e3,e4,e5,p⟩)=>.inr (.inr ⟨a,vs,ds,e1,e2,e3,e4,mK e5 fun i x y h1 h2=>iL n (p i x y h1 h2)⟩)
noncomputable def eA (K:Frag) (m:Nat):Sp:=fun vs H Q _=>match vs with
 | [v]=>∃ n d π,n < m/\Th H n v d/\∀ v' H' τ,Same H H'->(∀ a,τ a≠none->H a=none/\H' a≠none)->ThP τ H' n π v' d->Q v' H'
 | _=>False
section
variable {J:It} {g:TG} {tc:TT} {te:TE} {σc:St} {D0:Addr} {Q:VK} {H:Hp}
theorem oF (n:Nat) (I:Nat->List V->Hp->Prop) (hfree:H D0=none) (hn:n<=100000) (hlen:∀ i acc H1,i<=n->I i acc H1->acc.length=i) (hgo:∀ i H1,i < n->Same H H1->J.go i H1) (hst:∀ H1,Same H H1->J.stop n H1)
  (hy:∀ i H1 v H2,i < n->J.yld i H1 v H2->Same H1 H2) (h0:∀ H1,Same H H1->I 0 [] H1)
  (mono:∀ i acc H1 H2 a,H1 D0=some (.lst a)->(∀ b o,b≠D0->H1 b=some o->H2 b=some o)->I i acc H1->I i acc H2)
  (hs:∀ i v acc H1 H2 (out:VK) (non:Hp->Prop),i < n->I i acc H1->Same H H1->(∀ b,H1 b=none->b≠D0)->J.yld i H1 v H2->(∀ v H6,Same H2 H6->I (i+1) (acc++[v]) H6->out v H6) ->
   g v σc H2 fun σ4 H4=>tc σ4 H4 fun b H5=>if b=true then te σ4 H5 out else non H5)
  (hq:∀ H' vs,Same H H'->H' D0=some (.lst vs)->I n vs H'->Q (.ref D0) H'):compW J g tc te σc D0 Q H:=by
 refine ⟨fun i m acc H2=>m=n - i/\i<=n/\I i acc H2/\Same H H2/\H2 D0=some (.lst acc),⟨n,by simp,Nat.zero_le _,h0 _ (ai hfree _),ai hfree _,ah⟩,?_⟩;rintro i m acc H2 ⟨rfl,hi,pr,sm,hD⟩;have len:=hlen i acc H2 hi pr;by_cases hlt:i < n
 ·refine .inr ⟨hgo i H2 hlt sm,fun x H3 y=>?_⟩;have s3:=hy i H2 x H3 hlt y;have hD3:=s3 _ _ hD;refine hs i x acc _ _ _ _ hlt pr sm (fun b hb z=>by rw [z,hD] at hb; cases hb) y fun v H6 s6 r=>?_
  exact ⟨s6 _ _ hD3,Nat.lt_of_le_of_lt (Nat.le_of_eq len) (sizeBig (by omega)),n - (i+1),by omega,rfl,hlt,mono _ _ H6 _ acc (s6 _ _ hD3) (fun b o nb q=>by rw [aC nb]; exact q) r,aS (sm.trans (s3.trans s6)) hfree,ah⟩
 ·have hi':i=n:=by omega
  subst hi';exact .inl ⟨hst H2 sm,hq H2 acc sm hD pr⟩
end
def CopyI (H:Hp) (D0:Addr) (n:Nat) (π:List Nat) (ds:List D) (i:Nat) (acc:List V) (H':Hp):Prop:=∃ τ:Addr->Option (List Nat),(∀ a,τ a≠none->H a=none/\a≠D0/\H' a≠none)/\acc.length=i/\∀ j x y,acc[j]? = some x->ds[j]? = some y->ThP τ H' n (j::π) x y
theorem qA {H:Hp} {D0:Addr} {n:Nat} {π:List Nat} {ds:List D} {i:Nat} {acc:List V} {H1 H2:Hp} {a:List V} (hd:H1 D0=some (.lst a)) (k:∀ b o,b≠D0->H1 b=some o->H2 b=some o) (h:CopyI H D0 n π ds i acc H1):CopyI H D0 n π ds i acc H2:=by
 obtain ⟨τ,h1,h2,h3⟩:=h;refine ⟨τ,fun b hb=>?_,h2,fun j x y e1 e2=>ix (fun b o nb e=>k b o (h1 b nb).2.1 e) (fun b vs e=>k b _ (fun z=>by rw [z,hd] at e; cases e) e) (fun _ _ z=>z) n (h3 j x y e1 e2)⟩;obtain ⟨y1,y2,y3⟩:=h1 b hb;refine ⟨y1,y2,?_⟩;cases e:H1 b with
 | none=>exact absurd e y3
 | some o=>rw [k b o y2 e]; exact fun z=>nomatch z
theorem qy {H:Hp} {D0:Addr} {n:Nat} {π:List Nat} {ds:List D} {i:Nat} {acc:List V} {H1 H6:Hp} {v:V} {d:D} {τ6:Addr->Option (List Nat)} (h:CopyI H D0 n π ds i acc H1) (s1:Same H H1) (nD:∀ b,H1 b=none->b≠D0) (s6:Same H1 H6) (hd:ds[i]? = some d) (h6:∀ a,τ6 a≠none->H1 a=none) (l6:∀ a,τ6 a≠none->H6 a≠none) (t6:ThP τ6 H6 n (i::π) v d):CopyI H D0 n π ds (i+1) (acc++[v]) H6:=by
 obtain ⟨τ,h1,h2,h3⟩:=h;have apart:∀ a,τ6 a≠none->τ a=none:=fun a ha=>by
  cases e:τ a with
  | none=>rfl
  | some z=>exact absurd (h6 a ha) (h1 a (by rw [e]; exact fun y=>nomatch y)).2.2
 have up:∀ a π',τ a=some π'->(τ6 a).or (τ a)=some π':=fun a π' e=>by
  cases e6:τ6 a with
  | none=>exact e
  | some z=>rw [apart a (by rw [e6]; exact fun y=>nomatch y)] at e; cases e
 have up6:∀ a π',τ6 a=some π'->(τ6 a).or (τ a)=some π':=fun a π' e=>by rw [e]; rfl
 refine ⟨fun a=>(τ6 a).or (τ a),fun a ha=>?_,by rw [List.length_append,h2]; rfl,fun j x y e1 e2=>?_⟩
 ·by_cases z:τ6 a=none
  ·obtain ⟨y1,y2,y3⟩:=h1 a (fun e=>ha (by show (τ6 a).or (τ a)=none; rw [z,e]; rfl));refine ⟨y1,y2,?_⟩;cases e:H1 a with
   | none=>exact absurd e y3
   | some o=>rw [s6 a o e]; exact fun z=>nomatch z
  ·exact ⟨s1.free (h6 a z),nD a (h6 a z),l6 a z⟩
 ·rcases Nat.lt_or_ge j i with hj | hj
  ·rw [List.getElem?_append_left (by omega)] at e1;exact ix (fun a o _ e=>s6 a o e) (fun a vs e=>s6 a _ e) up n (h3 j x y e1 e2)
  ·have hj2:j < (acc++[v]).length:=(List.getElem?_eq_some_iff.mp e1).1;rw [List.length_append,List.length_singleton] at hj2;obtain rfl:j=i:=by omega
   rw [List.getElem?_append_right (by omega),h2,Nat.sub_self,List.getElem?_cons_zero] at e1;cases e1;rw [hd] at e2;cases e2;exact ix (fun a o _ e=>e) (fun a vs e=>e) up6 n t6
theorem qg (T:Top K mg):∀ m:Nat,Callee P w K mg base (m+1) "_law_copy" ["_law_thing"] (eA K m):=by
 intro m
 induction m with
 | zero=>
  refine T.kF.cal lQ (by intro vs H Q E h; unfold eA at h; split at h <;> first | rfl | exact h.elim) (fun _ _ _ _ _ _ us hl=>match us,hl with | [_],_=>rfl) (fun f cdv A outer s H vs Q E hr h=>?_);unfold eA at h;split at h
  case h_2=>exact h.elim
  obtain ⟨_,_,_,hn,_⟩:=h;exact absurd hn (Nat.not_lt_zero _)
 | succ m ih=>
  refine T.kF.cal lQ (by intro vs H Q E h; unfold eA at h; split at h <;> first | rfl | exact h.elim) (fun _ _ _ _ _ _ us hl=>match us,hl with | [_],_=>rfl) (fun f cdv A outer s H vs Q E hr h=>?_);unfold eA at h;split at h
  case h_2=>exact h.elim
  refine ⟨_,(ae (aE (de (aZ .list rfl T.au (qv 0) rfl T.nu lP)) (af (aw (bU (nt:=1) (fi:=[]) (N':=["_law_part"]) rfl (cscope rfl (by decide +kernel)) (cnames (N:=["_law_thing"]) (sc:=defScope fZ) rfl rfl (by decide +kernel)) (cE (by decide)) (iterE K rfl (qv 0)) (fun _ _ _ _ _=>(al (i:=0) (by show (["_law_part"]:List Str).Nodup; decide +kernel) rfl lc)) (fun _ _ _ _ _=>bC) (fun _ _ _ _ _=>(aq ih hr.m rfl (aa (qv 0) ac)))))) ar)
   (ae (aE (de (aZ .tuple rfl T.au (qv 0) rfl T.mq lZ)) (af (aw (ni (v4 K rfl) rfl T.mq lZ (aa (bU (nt:=1) (fi:=[]) (N':=["_law_part"]) rfl (cscope rfl (by decide +kernel)) (cnames (N:=["_law_thing"]) (sc:=defScope fZ) rfl rfl (by decide +kernel)) (cE (by decide)) (iterE K rfl (qv 0)) (fun _ _ _ _ _=>(al (i:=0) (by show (["_law_part"]:List Str).Nodup; decide +kernel) rfl lc)) (fun _ _ _ _ _=>bC) (fun _ _ _ _ _=>(aq ih hr.m rfl (aa (qv 0) ac)))) ac)))) ar)
   (af (aw (qv 0))))),?_⟩
  rename_i v;obtain ⟨n,d,π,hn,h1,q⟩:=h;by_cases fl:flatV v=true
  ·have ed:=ya h1 fl;subst ed;have q0:=q v H (fun _=>none) (Same.refl _) (fun a z=>absurd rfl z) (by cases n with | zero=>exact ⟨rfl,fl⟩ | succ n=>exact .inl ⟨rfl,fl⟩);cases v with
   | non=>walk_at "rd"; exact q0
   | bl b=>walk_at "rd"; exact q0
   | int i=>walk_at "rd"; exact q0
   | str z=>walk_at "rd"; exact q0
   | _=>cases fl
  ·obtain _ | n:=n
   ·exact absurd h1.2 fl
   rcases h1 with h1 | ⟨a,vs,ds,rfl,rfl,e1,l1,p1⟩ | ⟨a,vs,ds,rfl,rfl,e1,l1,p1⟩
   ·exact absurd h1.2 fl
   ·have l3:=p1.length;walk_at "rd";refine .inl ⟨⟨_,e1⟩,.inl ⟨⟨_,SqL.of e1⟩,fun D0 hD=>?_⟩⟩;refine oF vs.length (CopyI H D0 n π ds) hD (by omega) (fun i acc H1 _ ⟨_,_,z,_⟩=>z) (fun i H1 hi s1=>⟨vs,vs[i],SqL.of (s1 _ _ e1),List.getElem?_eq_getElem (by omega)⟩) (fun H1 s1=>⟨vs,SqL.of (s1 _ _ e1),by omega⟩) ?_ (fun H1 _=>⟨fun _=>none,fun a z=>absurd rfl z,rfl,fun j x y z=>by simp at z⟩) (fun i acc H1 H2 a hd k h=>qA hd k h) ?_ ?_
    ·rintro i H1 v H2 _ ⟨rfl,_⟩;exact Same.refl _
    ·rintro i v acc H1 H2 out non hi hI s1 nD ⟨rfl,a1⟩ ho;have y1:=a1 vs (SqL.of (s1 _ _ e1));have hid:i < ds.length:=by omega
     obtain ⟨d,z3,t1⟩:=lF p1 y1;walk_at "rd";exact ⟨n,d,i::π,by omega,aH s1 n t1,fun v' H6 τ6 s6 f6 t6=>ho v' H6 s6 (qy hI s1 nD s6 z3 (fun a z=>(f6 a z).1) (fun a z=>(f6 a z).2) t6)⟩
    ·rintro H1 ws s1 e3 ⟨τ,h1,h2,h3⟩;have nd:τ D0=none:=by
      cases e:τ D0 with
      | none=>rfl
      | some z=>exact absurd rfl (h1 D0 (by rw [e]; exact fun y=>nomatch y)).2.1
     refine q (.ref D0) H1 (fun a=>if a=D0 then some π else τ a) s1 (fun a ha=>?_) (.inr (.inl ⟨D0,ws,ds,rfl,rfl,if_pos rfl,e3,by omega,by omega,fun i x y k1 k2=>ix (fun _ _ _ e=>e) (fun _ _ e=>e) (fun a π' e=>?_) n (h3 i x y k1 k2)⟩))
     ·by_cases z:a=D0
      ·rw [z];exact ⟨hD,by rw [e3]; exact fun y=>nomatch y⟩
      ·have:τ a≠none:=fun y=>ha (by show (if a=D0 then some π else τ a)=none; rw [if_neg z]; exact y)
       exact ⟨(h1 a this).1,(h1 a this).2.2⟩
     ·by_cases z:a=D0
      ·rw [z,nd] at e;cases e
      ·show (if a=D0 then some π else τ a)=some π';rw [if_neg z];exact e
   ·have l3:=p1.length;walk_at "rd";refine .inr ⟨⟨_,e1⟩,.inr ⟨⟨_,e1⟩,.inr ⟨⟨_,SqT.of e1⟩,fun D0 hD=>?_⟩⟩⟩;refine oF vs.length (CopyI H D0 n π ds) hD (by omega) (fun i acc H1 _ ⟨_,_,z,_⟩=>z) (fun i H1 hi s1=>⟨vs,vs[i],SqT.of (s1 _ _ e1),List.getElem?_eq_getElem (by omega)⟩) (fun H1 s1=>⟨vs,SqT.of (s1 _ _ e1),by omega⟩) ?_ (fun H1 _=>⟨fun _=>none,fun a z=>absurd rfl z,rfl,fun j x y z=>by simp at z⟩) (fun i acc H1 H2 a hd k h=>qA hd k h) ?_ ?_
    ·rintro i H1 v H2 _ ⟨rfl,_⟩;exact Same.refl _
    ·rintro i v acc H1 H2 out non hi hI s1 nD ⟨rfl,a1⟩ ho;have y1:=a1 vs (SqT.of (s1 _ _ e1));have hid:i < ds.length:=by omega
     obtain ⟨d,z3,t1⟩:=lF p1 y1;walk_at "rd";exact ⟨n,d,i::π,by omega,aH s1 n t1,fun v' H6 τ6 s6 f6 t6=>ho v' H6 s6 (qy hI s1 nD s6 z3 (fun a z=>(f6 a z).1) (fun a z=>(f6 a z).2) t6)⟩
    ·rintro H1 ws s1 e3 ⟨τ,h1,h2,h3⟩;walk_at "rd";refine ⟨ws,SqL.of e3,fun l hl=>q (.ref l) _ τ (s1.trans (ai hl _)) (fun a ha=>⟨(h1 a ha).1,?_⟩) (.inr (.inr ⟨l,ws,ds,rfl,rfl,ah,by omega,by omega,fun i x y k1 k2=>ix (fun b o _ e=>ai hl _ _ _ e) (fun b vs e=>ai hl _ _ _ e) (fun _ _ z=>z) n (h3 i x y k1 k2)⟩))⟩;have:=(h1 a ha).2.2;cases e:H1 a with
     | none=>exact absurd e this
     | some o=>rw [ai hl _ a o e]; exact fun z=>nomatch z
theorem jI (T:Top K mg):Callee P w K mg base 11 "_law_copy" ["_law_thing"] (eA K 10):=qg T 10
inductive Kd
 | lay | houses | gates (ds:List (List Nat)) | rules | ways | lines | odd
noncomputable abbrev Kds:=Addr->Option Kd
def TxtOk (b:Nat) (n:List Nat):Prop:=(∀ c ∈ n,c < 16 ^ 8)/\n.length<=b
noncomputable def OddV (Γ:Kds) (H:Hp) (b:Nat):V->Prop
 | .non=>True
 | .bl _=>True
 | .int i=>i=0\/i=5\/i=7
 | .str a=>TxtOk b a.cps.toList
 | .ref p=>Γ p=some .odd\/∃ ls:List (List Nat),ls.length<=b/\(∀ l ∈ ls,TxtOk b l)/\H p=some (.tup (ls.map tx))
 | _=>False
noncomputable def El (Γ:Kds) (H:Hp) (b:Nat):Kd->V->Prop
 | .lay,v=>∃ t n i,v=.ref t/\H t=some (.tup [tx n,.int i])/\NmOk n /\ -1000000000<=i/\i<=48
 | .houses,v=>∃ t n q g w ds,v=.ref t/\H t=some (.tup [tx n,.ref q])/\NmOk n/\H q=some (.tup [.ref g,.ref w])/\Γ g=some (.gates ds)/\Γ w=some .ways/\ds.length<=3
 | .gates ds,v=>∃ t n r,v=.ref t/\H t=some (.tup [tx n,.ref r])/\n ∈ ds/\NmOk n/\Γ r=some .rules
 | .rules,v=>∃ t x y z,v=.ref t/\H t=some (.tup [x,y,z])/\OddV Γ H b x/\OddV Γ H b y/\OddV Γ H b z
 | .ways,v=>∃ t x n,v=.ref t/\H t=some (.tup [x,tx n])/\OddV Γ H b x/\NmOk n
 | .lines,v=>∃ l:Line,LineAt H l v/\NmOk l.1.1/\NmOk l.1.2/\NmOk l.2.1/\NmOk l.2.2
 | .odd,v=>∃ n,v=tx n/\TxtOk b n
noncomputable def Full:Kd->Prop
 | .lay=>True
 | .houses=>True
 | _=>False
noncomputable def cap:Kd->Nat
 | .rules=>300
 | .lines=>500
 | _=>0
def LstAt (Γ:Kds) (H:Hp) (b:Nat) (k:Kd) (vs:List V):Prop:=vs.length<=b+cap k/\(Full k->vs≠[])/\∀ v ∈ vs,El Γ H b k v
def WT (Γ:Kds) (H:Hp) (b:Nat):Prop:=∀ p k,Γ p=some k->∃ vs,H p=some (.lst vs)/\LstAt Γ H b k vs
structure Go (Γ:Kds) (H:Hp) (Γ':Kds) (H':Hp):Prop where
 sub:∀ a k,Γ a=some k->Γ' a=some k
 out:∀ a o,Γ a=none->H a=some o->Γ' a=none/\H' a=some o
 tup:∀ a vs,H a=some (.tup vs)->H' a=some (.tup vs)
theorem Go.refl (Γ:Kds) (H:Hp):Go Γ H Γ H:=⟨fun _ _ z=>z,fun _ _ a b=>⟨a,b⟩,fun _ _ z=>z⟩
theorem Go.trans {Γ Γ1 Γ2:Kds} {H H1 H2:Hp} (a:Go Γ H Γ1 H1) (b:Go Γ1 H1 Γ2 H2):Go Γ H Γ2 H2:=
 ⟨fun p k z=>b.sub _ _ (a.sub _ _ z),fun p o z e=>b.out _ _ (a.out _ _ z e).1 (a.out _ _ z e).2,fun p vs z=>b.tup _ _ (a.tup _ _ z)⟩
theorem Go.same {Γ:Kds} {H H':Hp} (s:Same H H'):Go Γ H Γ H':=⟨fun _ _ z=>z,fun _ _ a b=>⟨a,s _ _ b⟩,fun _ _ z=>s _ _ z⟩
theorem dG {Γ Γ':Kds} {H H':Hp} {b b':Nat} (f:∀ a k,Γ a=some k->Γ' a=some k) (tp:∀ a vs,H a=some (.tup vs)->H' a=some (.tup vs)) (hb:b<=b') {v:V} (h:OddV Γ H b v):OddV Γ' H' b' v:=by
 cases v with
 | str a=>exact ⟨h.1,Nat.le_trans h.2 hb⟩
 | ref p=>
  rcases h with h | ⟨ls,h1,h2,h3⟩
  ·exact .inl (f _ _ h)
  ·exact .inr ⟨ls,Nat.le_trans h1 hb,fun l hl=>⟨(h2 l hl).1,Nat.le_trans (h2 l hl).2 hb⟩,tp _ _ h3⟩
 | _=>exact h
theorem sY {Γ Γ':Kds} {H H':Hp} {b b':Nat} (f:∀ a k,Γ a=some k->Γ' a=some k) (tp:∀ a vs,H a=some (.tup vs)->H' a=some (.tup vs)) (hb:b<=b') {k:Kd} {v:V} (h:El Γ H b k v):El Γ' H' b' k v:=by
 cases k with
 | lay=>obtain ⟨t,n,i,e,h1,h2⟩:=h; exact ⟨t,n,i,e,tp _ _ h1,h2⟩
 | houses=>obtain ⟨t,n,q,g,w,ds,e,h1,h2,h3,h4,h5,h6⟩:=h; exact ⟨t,n,q,g,w,ds,e,tp _ _ h1,h2,tp _ _ h3,f _ _ h4,f _ _ h5,h6⟩
 | gates ds=>obtain ⟨t,n,r,e,h1,h2,h3,h4⟩:=h; exact ⟨t,n,r,e,tp _ _ h1,h2,h3,f _ _ h4⟩
 | rules=>obtain ⟨t,x,y,z,e,h1,h2,h3,h4⟩:=h; exact ⟨t,x,y,z,e,tp _ _ h1,dG f tp hb h2,dG f tp hb h3,dG f tp hb h4⟩
 | ways=>obtain ⟨t,x,n,e,h1,h2,h3⟩:=h; exact ⟨t,x,n,e,tp _ _ h1,dG f tp hb h2,h3⟩
 | lines=>obtain ⟨l,h1,h2⟩:=h; exact ⟨l,mZ tp h1,h2⟩
 | odd=>obtain ⟨n,e,h1,h2⟩:=h; exact ⟨n,e,h1,Nat.le_trans h2 hb⟩
theorem c8 {Γ Γ':Kds} {H H':Hp} {b b':Nat} (f:∀ a k,Γ a=some k->Γ' a=some k) (tp:∀ a vs,H a=some (.tup vs)->H' a=some (.tup vs)) (hb:b<=b') {k:Kd} {vs:List V} (h:LstAt Γ H b k vs):LstAt Γ' H' b' k vs:=
 ⟨Nat.le_trans h.1 (Nat.add_le_add_right hb _),h.2.1,fun v hv=>sY f tp hb (h.2.2 v hv)⟩
theorem WT.same {Γ:Kds} {H H':Hp} {b:Nat} (w:WT Γ H b) (s:Same H H'):WT Γ H' b:=fun p k e=>by
 obtain ⟨vs,h1,h2⟩:=w p k e;exact ⟨vs,s _ _ h1,c8 (fun _ _ z=>z) (fun _ _ z=>s _ _ z) (Nat.le_refl _) h2⟩
theorem WT.mono {Γ:Kds} {H:Hp} {b b':Nat} (w:WT Γ H b) (hb:b<=b'):WT Γ H b':=fun p k e=>by
 obtain ⟨vs,h1,h2⟩:=w p k e;exact ⟨vs,h1,c8 (fun _ _ z=>z) (fun _ _ z=>z) hb h2⟩
theorem WT.put {Γ:Kds} {H:Hp} {b b':Nat} (w:WT Γ H b) (hb:b<=b') {p:Addr} {k:Kd} {vs:List V} (e:Γ p=some k) (h:LstAt Γ H b' k vs):WT Γ (upd H p (.lst vs)) b'/\Go Γ H Γ (upd H p (.lst vs)):=by
 obtain ⟨old,ho,_⟩:=w p k e;have tp:∀ a us,H a=some (.tup us)->upd H p (.lst vs) a=some (.tup us):=cZ ho;refine ⟨fun p' k' e'=>?_,⟨fun _ _ z=>z,fun a o z e1=>⟨z,?_⟩,tp⟩⟩
 ·by_cases z:p'=p
  ·subst z;rw [e] at e';cases e';exact ⟨vs,ah,c8 (fun _ _ z=>z) tp (Nat.le_refl _) h⟩
  ·obtain ⟨us,h1,h2⟩:=w p' k' e';exact ⟨us,by rw [aC z]; exact h1,c8 (fun _ _ z=>z) tp hb h2⟩
 ·rw [aC (fun y=>by rw [y,e] at z; cases z)];exact e1
noncomputable def kput (Γ:Kds) (q:Addr) (k:Kd):Kds:=fun a=>if a=q then some k else Γ a
theorem i9 {Γ:Kds} {q:Addr} {k:Kd}:kput Γ q k q=some k:=if_pos rfl
theorem js {Γ:Kds} {q:Addr} {k:Kd} (h:Γ q=none):∀ a k',Γ a=some k'->kput Γ q k a=some k':=fun a k' e=>by
 unfold kput;rw [if_neg (fun z=>by rw [z,h] at e; cases e)];exact e
theorem WT.kindly {Γ:Kds} {H:Hp} {b:Nat} (w:WT Γ H b) {q:Addr} {k:Kd} {vs:List V} (hn:Γ q=none) (hq:H q=some (.lst vs)) (h:LstAt Γ H b k vs):WT (kput Γ q k) H b:=fun p' k' e'=>by
 unfold kput at e';split at e'
 ·rename_i z;subst z;cases e';exact ⟨vs,hq,c8 (js hn) (fun _ _ z=>z) (Nat.le_refl _) h⟩
 ·obtain ⟨us,h1,h2⟩:=w p' k' e';exact ⟨us,h1,c8 (js hn) (fun _ _ z=>z) (Nat.le_refl _) h2⟩
theorem WT.new {Γ:Kds} {H0 H:Hp} {b:Nat} (w:WT Γ H b) (s:Same H0 H) (w0:WT Γ H0 b) {q:Addr} {k:Kd} {vs:List V} (hf:H0 q=none) (hq:H q=some (.lst vs)) (h:LstAt Γ H b k vs):Γ q=none/\WT (kput Γ q k) H b/\Go Γ H0 (kput Γ q k) H:=by
 have hn:Γ q=none:=by
  cases e:Γ q with
  | none=>rfl
  | some k'=>obtain ⟨us,h1,_⟩:=w0 q k' e; rw [hf] at h1; cases h1
 refine ⟨hn,fun p' k' e'=>?_,⟨js hn,fun a o z e1=>⟨?_,s _ _ e1⟩,fun _ _ z=>s _ _ z⟩⟩
 ·unfold kput at e';split at e'
  ·rename_i z;subst z;cases e';exact ⟨vs,hq,c8 (js hn) (fun _ _ z=>z) (Nat.le_refl _) h⟩
  ·obtain ⟨us,h1,h2⟩:=w p' k' e';exact ⟨us,h1,c8 (js hn) (fun _ _ z=>z) (Nat.le_refl _) h2⟩
 ·unfold kput;rw [if_neg (fun y=>by rw [y,hf] at e1; cases e1)];exact z
theorem jM {α:Type} {R:α -> V->Prop}:∀ {vs:List V},(∀ v ∈ vs,∃ x,R x v)->∃ xs:List α,Paired R xs vs
 | [],_=>⟨[],.nil⟩
 | v::vs,h=>by
  obtain ⟨x,hx⟩:=h v List.mem_cons_self;obtain ⟨xs,p⟩:=jM fun u hu=>h u (List.mem_cons_of_mem _ hu)
  exact ⟨x::xs,.cons hx p⟩
theorem kJ {α:Type} {H:Hp} {n:Nat} {f:α -> D} {P:α -> Prop} {a:Addr} {vs:List V} (e:H a=some (.lst vs)) (hl:vs.length<=1000) (h:∀ v ∈ vs,∃ x,Th H n v (f x)/\P x):∃ xs:List α,Th H (n+1) (.ref a) (.l (xs.map f))/\xs.length=vs.length/\∀ x ∈ xs,P x:=by
 obtain ⟨xs,p⟩:=jM h;refine ⟨xs,rP e hl (fg (fun x v z=>z.1) p),p.length,fun x hx=>?_⟩;obtain ⟨i,hi,rfl⟩:=List.getElem_of_mem hx;obtain ⟨y,_,hy⟩:=aD p (List.getElem?_eq_getElem hi);exact hy.2
noncomputable def OddB (b:Nat):D->Prop
 | .f .non=>True
 | .f (.bl _)=>True
 | .f (.int i)=>i=0\/i=5\/i=7
 | .f (.str a)=>TxtOk b a.cps.toList
 | .l ds=>∃ ls:List (List Nat),ls.length<=b/\(∀ l ∈ ls,TxtOk b l)/\ds=ls.map fun l=>D.f (tx l)
 | .t ds=>∃ ls:List (List Nat),ls.length<=b/\(∀ l ∈ ls,TxtOk b l)/\ds=ls.map fun l=>D.f (tx l)
 | _=>False
theorem uY {b:Nat} (hb:b<=100) {d:D} (h:OddB b d):OddD d:=by
 cases d with
 | f v=>
  cases v with
  | str a=>exact ⟨h.1,Nat.le_trans h.2 hb⟩
  | _=>exact h
 | l ds=>obtain ⟨ls,h1,h2,h3⟩:=h; exact ⟨ls,⟨by omega,fun l hl=>⟨Nat.le_trans (h2 l hl).2 hb,(h2 l hl).1⟩⟩,h3⟩
 | t ds=>obtain ⟨ls,h1,h2,h3⟩:=h; exact ⟨ls,⟨by omega,fun l hl=>⟨Nat.le_trans (h2 l hl).2 hb,(h2 l hl).1⟩⟩,h3⟩
theorem n5 {Γ:Kds} {H:Hp} {b:Nat} (w:WT Γ H b) (hb:b<=100) {v:V} (h:OddV Γ H b v):∃ d,Th H 1 v d/\OddB b d:=by
 cases v with
 | non=>exact ⟨.f .non,bj 1 rfl,trivial⟩
 | bl x=>exact ⟨.f (.bl x),bj 1 rfl,trivial⟩
 | int i=>exact ⟨.f (.int i),bj 1 rfl,h⟩
 | str a=>exact ⟨.f (.str a),bj 1 rfl,h⟩
 | ref p=>
  rcases h with h | ⟨ls,h1,h2,h3⟩
  ·obtain ⟨vs,e,hl,_,he⟩:=w p _ h;have hl:vs.length<=b:=hl;obtain ⟨ls,p1⟩:=jM (R:=fun n v=>v=tx n/\TxtOk b n) he;have hlen:=p1.length;obtain rfl:vs=ls.map tx:=fm (L2.Paired.mapP p1 fun _ _ z=>z.1);refine ⟨.l (ls.map fun l=>D.f (tx l)),rP e (by omega) (j3 ls 0),ls,by omega,fun l hl=>?_,rfl⟩;obtain ⟨i,hi,rfl⟩:=List.getElem_of_mem hl;obtain ⟨y,_,hy⟩:=aD p1 (List.getElem?_eq_getElem hi);exact hy.2
  ·exact ⟨.t (ls.map fun l=>D.f (tx l)),kb h3 (by rw [List.length_map]; omega) (j3 ls 0),ls,h1,h2,rfl⟩
 | _=>exact h.elim
def OkR (b:Nat) (x:LRule):Prop:=OddB b x.1/\OddB b x.2.1/\OddB b x.2.2
theorem xq {Γ:Kds} {H:Hp} {b:Nat} (w:WT Γ H b) (hb:b<=100) {r:Addr} (h:Γ r=some .rules):∃ rs:List LRule,Th H 3 (.ref r) (.l (rs.map ruleL))/\rs.length<=b+300/\∀ x ∈ rs,OkR b x:=by
 obtain ⟨vs,e,hl,_,he⟩:=w r _ h;have hl:vs.length<=b+300:=hl;obtain ⟨xs,h1,h0,h2⟩:=kJ (f:=ruleL) (P:=OkR b) (n:=2) e (by omega) fun v hv=>by
  obtain ⟨t,x,y,z,rfl,et,ox,oy,oz⟩:=he v hv;obtain ⟨d1,t1,o1⟩:=n5 w hb ox;obtain ⟨d2,t2,o2⟩:=n5 w hb oy;obtain ⟨d3,t3,o3⟩:=n5 w hb oz;exact ⟨(d1,d2,d3),kb et (by simp) (.cons t1 (.cons t2 (.cons t3 .nil))),o1,o2,o3⟩
 exact ⟨xs,h1,by omega,h2⟩
structure OkHb (b:Nat) (ds:List (List Nat)) (h:LHouse):Prop where
 g:h.1.length<=b
 w:h.2.length<=b
 gate:∀ x ∈ h.1,(NmOk x.1/\x.1 ∈ ds)/\x.2.length<=b+300/\∀ r ∈ x.2,OkR b r
 way:∀ x ∈ h.2,OddB b x.1/\NmOk x.2
theorem OkHb.ok {b:Nat} {ds:List (List Nat)} {h:LHouse} (k:OkHb b ds h) (hb:b<=100):OkH h:=
 ⟨Nat.le_trans k.g hb,Nat.le_trans k.w (Nat.le_trans hb (by decide)),fun x hx=>(k.gate x hx).1.1,fun x hx r hr=>⟨uY hb ((k.gate x hx).2.2 r hr).1,uY hb ((k.gate x hx).2.2 r hr).2.1,uY hb ((k.gate x hx).2.2 r hr).2.2⟩,fun x hx=>⟨uY hb (k.way x hx).1,(k.way x hx).2⟩⟩
theorem sG {Γ:Kds} {H:Hp} {b:Nat} (w:WT Γ H b) (hb:b<=100) {q g v:Addr} {ds:List (List Nat)} (e:H q=some (.tup [.ref g,.ref v])) (hg:Γ g=some (.gates ds)) (hv:Γ v=some .ways):∃ h:LHouse,Th H 6 (.ref q) (houseL h)/\OkHb b ds h:=by
 obtain ⟨gv,eg,gl,_,ge⟩:=w g _ hg;obtain ⟨wv,ew,wl,_,we⟩:=w v _ hv;have gl:gv.length<=b:=gl;have wl:wv.length<=b:=wl;obtain ⟨gs,g1,g2,g3⟩:=kJ (f:=gateL) (P:=fun x=>(NmOk x.1/\x.1 ∈ ds)/\x.2.length<=b+300/\∀ r ∈ x.2,OkR b r) (n:=4) eg (by omega) fun v hv=>by
  obtain ⟨t,n,r,rfl,et,nm,nk,hr⟩:=ge v hv;obtain ⟨rs,th,rl,ok⟩:=xq w hb hr;exact ⟨(n,rs),kb et (by simp) (.cons (bj 3 rfl) (.cons th .nil)),⟨nk,nm⟩,rl,ok⟩
 obtain ⟨ws,w1,w2,w3⟩:=kJ (f:=wayLD) (P:=fun x=>OddB b x.1/\NmOk x.2) (n:=4) ew (by omega) fun v hv=>by
  obtain ⟨t,x,n,rfl,et,ox,nk⟩:=we v hv;obtain ⟨d,t1,o1⟩:=n5 w hb ox;exact ⟨(d,n),kb et (by simp) (.cons (tE _ (tE _ t1)) (.cons (bj 3 rfl) .nil)),o1,nk⟩
 exact ⟨(gs,ws),kb e (by simp) (.cons g1 (.cons w1 .nil)),⟨by show gs.length<=b; omega,by show ws.length<=b; omega,g3,w3⟩⟩
structure NetK (Γ:Kds) (H:Hp) (q a h l:Addr):Prop where
 tup:H q=some (.tup [.ref a,.ref h,.ref l])
 ka:Γ a=some .lay
 kh:Γ h=some .houses
 kl:Γ l=some .lines
theorem NetK.go {Γ Γ':Kds} {H H':Hp} {q a h l:Addr} (n:NetK Γ H q a h l) (g:Go Γ H Γ' H'):NetK Γ' H' q a h l:=⟨g.tup _ _ n.tup,g.sub _ _ n.ka,g.sub _ _ n.kh,g.sub _ _ n.kl⟩
theorem wS {Γ:Kds} {H:Hp} {b:Nat} (w:WT Γ H b) (hb:b<=100) {a:Addr} (h:Γ a=some .lay) (n:Nat):∃ ls:List LFld,Th H (n+2) (.ref a) (.l (ls.map fldL))/\ls.length<=b/\ls≠[]/\∀ x ∈ ls,NmOk x.1 /\ -1000000000<=x.2/\x.2<=48:=by
 obtain ⟨vs,e,hl,hf,he⟩:=w a _ h;have hl:vs.length<=b:=hl;obtain ⟨xs,h1,h2,h3⟩:=kJ (f:=fldL) (P:=fun x=>NmOk x.1 /\ -1000000000<=x.2/\x.2<=48) (n:=n+1) e (by omega) fun v hv=>by
  obtain ⟨t,m,i,rfl,et,nk,i1,i2⟩:=he v hv;exact ⟨(m,i),kb et (by simp) (.cons (bj n rfl) (.cons (bj n rfl) .nil)),nk,i1,i2⟩
 exact ⟨xs,h1,by omega,fun z=>hf trivial (by rw [z] at h2; exact List.eq_nil_of_length_eq_zero (by simpa using h2.symm)),h3⟩
theorem qE {Γ:Kds} {H:Hp} {b:Nat} (w:WT Γ H b) (hb:b<=100) {a:Addr} (h:Γ a=some .houses):∃ hs:List LNamed,Th H 8 (.ref a) (.l (hs.map namedL))/\hs.length<=b/\∀ x ∈ hs,NmOk x.1/\OkH x.2:=by
 obtain ⟨vs,e,hl,hf,he⟩:=w a _ h;have hl:vs.length<=b:=hl;obtain ⟨xs,h1,h2,h3⟩:=kJ (f:=namedL) (P:=fun x=>NmOk x.1/\OkH x.2) (n:=7) e (by omega) fun v hv=>by
  obtain ⟨t,m,q,g,v,ds,rfl,et,nk,eq,hg,hv,_⟩:=he v hv;obtain ⟨hh,th,ok⟩:=sG w hb eq hg hv;exact ⟨(m,hh),kb et (by simp) (.cons (bj 6 rfl) (.cons th .nil)),nk,ok.ok hb⟩
 exact ⟨xs,h1,by omega,h3⟩
theorem AI {Γ:Kds} {H:Hp} {b:Nat} (w:WT Γ H b) (hb:b<=100) {q a h l:Addr} (k:NetK Γ H q a h l):∃ N:LNet,Th H 9 (.ref q) (netL N)/\OkN N:=by
 obtain ⟨ls,l1,l2,_,l3⟩:=wS w hb k.ka 6;obtain ⟨hs,h1,h2,h3⟩:=qE w hb k.kh;obtain ⟨vs,e,hl,_,he⟩:=w l _ k.kl;have hl:vs.length<=b+500:=hl;obtain ⟨xs,x1,x2,x3⟩:=kJ (f:=lineD) (P:=fun x=>NmOk x.1.1/\NmOk x.1.2/\NmOk x.2.1/\NmOk x.2.2) (n:=7) e (by omega) fun v hv=>by
  obtain ⟨x,hx,hn⟩:=he v hv;exact ⟨x,uW 5 hx,hn⟩
 refine ⟨(ls,hs,xs),kb k.tup (by simp) (.cons l1 (.cons h1 (.cons x1 .nil))),⟨fun x hx=>⟨(l3 x hx).1,(l3 x hx).2.2⟩,by show ls.length<=100; omega,h3,by show hs.length<=100; omega,fun s hs=>?_,by show xs.length<=700; omega⟩⟩;unfold endsOf at hs;obtain ⟨x,hx,hs⟩:=List.mem_flatMap.mp hs;obtain ⟨y1,y2,y3,y4⟩:=x3 x hx;simp only [List.mem_cons,List.not_mem_nil,or_false] at hs;rcases hs with rfl | rfl
 ·exact ⟨y1,y2⟩
 ·exact ⟨y3,y4⟩
theorem WT.free {Γ:Kds} {H:Hp} {b:Nat} (w:WT Γ H b) {q:Addr} (h:H q=none):Γ q=none:=by
 cases e:Γ q with
 | none=>rfl
 | some k=>obtain ⟨us,h1,_⟩:=w q k e; rw [h] at h1; cases h1
theorem WT.add {Γ Δ:Kds} {H H':Hp} {b:Nat} (w:WT Γ H b) (s:Same H H') (d:WT Δ H' b) (f:∀ x,Δ x≠none->H x=none):WT (fun x=>(Δ x).or (Γ x)) H' b/\Go Γ H (fun x=>(Δ x).or (Γ x)) H'/\∀ x k,Δ x=some k->(Δ x).or (Γ x)=some k:=by
 have u1:∀ x k,Γ x=some k->(Δ x).or (Γ x)=some k:=fun x k e=>by
  cases e1:Δ x with
  | none=>exact e
  | some z=>obtain ⟨us,h1,_⟩:=w x k e; rw [f x (by rw [e1]; exact fun y=>nomatch y)] at h1; cases h1
 have u2:∀ x k,Δ x=some k->(Δ x).or (Γ x)=some k:=fun x k e=>by rw [e]; rfl
 refine ⟨fun p k e=>?_,⟨u1,fun a o z e=>⟨?_,s _ _ e⟩,fun _ _ z=>s _ _ z⟩,u2⟩
 ·cases e1:Δ p with
  | none=>
   have e:(Δ p).or (Γ p)=some k:=e;rw [e1] at e;obtain ⟨us,h1,h2⟩:=w p k e;exact ⟨us,s _ _ h1,c8 u1 (fun _ _ z=>s _ _ z) (Nat.le_refl _) h2⟩
  | some k2=>
   have e:(Δ p).or (Γ p)=some k:=e;rw [e1] at e;cases e;obtain ⟨us,h1,h2⟩:=d p k e1;exact ⟨us,h1,c8 u2 (fun _ _ z=>z) (Nat.le_refl _) h2⟩
 ·show (Δ a).or (Γ a)=none;rw [z];cases e1:Δ a with
  | none=>rfl
  | some k=>rw [f a (by rw [e1]; exact fun y=>nomatch y)] at e; cases e
open Classical in
noncomputable def dk (g v:Addr) (ds:List (List Nat)) (R O:Addr->Prop):Kds:=fun x=>if x=g then some (.gates ds) else if x=v then some .ways else if R x then some .rules else if O x then some .odd else none
theorem Ac {g v:Addr} {ds:List (List Nat)} {R O:Addr->Prop} {H:Hp} {b:Nat} (lg:∃ vs,H g=some (.lst vs)/\LstAt (dk g v ds R O) H b (.gates ds) vs) (lv:∃ vs,H v=some (.lst vs)/\LstAt (dk g v ds R O) H b .ways vs) (lR:∀ x,R x->∃ vs,H x=some (.lst vs)/\LstAt (dk g v ds R O) H b .rules vs) (lO:∀ x,O x->∃ vs,H x=some (.lst vs)/\LstAt (dk g v ds R O) H b .odd vs):WT (dk g v ds R O) H b:=fun p k e=>by
 unfold dk at e;split at e
 ·rename_i z; cases e; rw [z]; exact lg
 ·split at e
  ·rename_i z; cases e; rw [z]; exact lv
  ·split at e
   ·cases e; exact lR p (by assumption)
   ·split at e
    ·cases e; exact lO p (by assumption)
    ·cases e
theorem xo {g v:Addr} {ds:List (List Nat)} {R O:Addr->Prop} {x:Addr} (h:dk g v ds R O x≠none):x=g\/x=v\/R x\/O x:=by
 unfold dk at h;split at h
 ·exact .inl (by assumption)
 ·split at h
  ·exact .inr (.inl (by assumption))
  ·split at h
   ·exact .inr (.inr (.inl (by assumption)))
   ·split at h
    ·exact .inr (.inr (.inr (by assumption)))
    ·exact absurd rfl h
theorem BQ {g v:Addr} {ds:List (List Nat)} {R O:Addr->Prop}:dk g v ds R O g=some (.gates ds):=by unfold dk; rw [if_pos rfl]
theorem BE {g v:Addr} {ds:List (List Nat)} {R O:Addr->Prop} (h:g≠v):dk g v ds R O v=some .ways:=by unfold dk; rw [if_neg (Ne.symm h),if_pos rfl]
theorem BC {g v:Addr} {ds:List (List Nat)} {R O:Addr->Prop} {x:Addr} (h1:x≠g) (h2:x≠v) (h:R x):dk g v ds R O x=some .rules:=by unfold dk; rw [if_neg h1,if_neg h2,if_pos h]
theorem BV {g v:Addr} {ds:List (List Nat)} {R O:Addr->Prop} {x:Addr} (h1:x≠g) (h2:x≠v) (h3:¬ R x) (h:O x):dk g v ds R O x=some .odd:=by unfold dk; rw [if_neg h1,if_neg h2,if_neg h3,if_pos h]
theorem oa {b W:Nat} (hb:W<=b) {r:List Nat} (h:RowL r) (hl:r.length=W):TxtOk b r:=⟨fun c hc=>by rcases h c hc with z | z | z <;> omega,by omega⟩
theorem tX {Γ:Kds} {H H':Hp} {b W S:Nat} {pl:List (List Nat)} {q g v:Addr} {hs:House} (w0:WT Γ H b) (hb:50<=b) (s:Same H H') (hN:HouseN (fun r=>H r=none) H' q g v hs) (hg:H g=none) (hv:H v=none) (ok:HouseOk W S pl hs) (hW:W<=50) (hS:S<=50) (nm:∀ x ∈ hs.1,NmOk x.1):∃ Γ',WT Γ' H' b/\Go Γ H Γ' H'/\Γ' g=some (.gates (hs.1.map (·.1)))/\Γ' v=some .ways:=by
 obtain ⟨gv,eg,pg⟩:=hN.gates;obtain ⟨wv,ew,pw⟩:=hN.ways;have hgl:=pg.length;have hwl:=pw.length;have g3:=ok.g3;have w8:=ok.w8
 let R:Addr->Prop:=fun x=>(x≠g/\x≠v/\H x=none)/\∃ y ∈ hs.1,Rules H' x y.2
 have key:WT (dk g v (hs.1.map (·.1)) R fun _=>False) H' b:=by
  refine Ac ⟨gv,eg,by show gv.length<=b; omega,fun z=>z.elim,fun u hu=>?_⟩ ⟨wv,ew,by show wv.length<=b; omega,fun z=>z.elim,fun u hu=>?_⟩ (fun x hx=>?_) fun x hx=>hx.elim
  ·obtain ⟨y,hy,t,r,rfl,n,et,hr⟩:=dC pg u hu;exact ⟨t,y.1,r,rfl,et,List.mem_map.mpr ⟨y,hy,rfl⟩,nm y hy,BC n.1 n.2.1 ⟨n,y,hy,hr⟩⟩
  ·obtain ⟨y,hy,t,rfl,et⟩:=dC pw u hu;obtain ⟨yg,hyg,eyg⟩:=List.mem_map.mp (ok.ways.door y hy);refine ⟨t,tx y.1,y.2,rfl,et,?_,by rw [<- eyg]; exact nm yg hyg⟩;show TxtOk b (st y.1).cps.toList;rw [aM];exact ⟨fun c hc=>by rcases ok.ways.bits y hy c hc with z | z <;> omega,Nat.le_trans (ok.ways.n y hy) (by omega)⟩
  ·obtain ⟨_,y,hy,rv,er,pr⟩:=hx;have:=pr.length;have:=ok.many y hy;refine ⟨rv,er,by show rv.length<=b+300; omega,fun z=>z.elim,fun u hu=>?_⟩;obtain ⟨z,hz,t,rfl,et⟩:=dC pr u hu;have k:=ok.rules y hy z hz;have tt:∀ {n:List Nat},TxtOk b n->OddV (dk g v (hs.1.map (·.1)) R fun _=>False) H' b (tx n):=fun {n} h=>by
    show TxtOk b (st n).cps.toList;rw [aM];exact h
   refine ⟨t,_,_,_,rfl,et,tt (oa (by omega) k.row k.rowN),tt ?_,tt (oa (by omega) k.over k.overN)⟩;rcases k.word with e | e
   ·rw [show z.2.1=passT from e]; exact ⟨by decide,Nat.le_trans (by decide) hb⟩
   ·rw [show z.2.1=dropT from e]; exact ⟨by decide,Nat.le_trans (by decide) hb⟩
 obtain ⟨k1,k2,k3⟩:=w0.add s key fun x hx=>by
  rcases xo hx with rfl | rfl | h | h
  ·exact hg
  ·exact hv
  ·exact h.1.2.2
  ·exact h.elim
 exact ⟨_,k1,k2,k3 _ _ BQ,k3 _ _ (BE hN.ne)⟩
theorem z9 {τ:Addr->Option (List Nat)} {H:Hp} {n:Nat} {π:List Nat} {v:V} {ds:List D} (h:ThP τ H (n+1) π v (.l ds)):∃ a vs,v=.ref a/\τ a=some π /\ H a=some (.lst vs)/\vs.length=ds.length/\∀ (i:Nat) x y,vs[i]? = some x->ds[i]? = some y->ThP τ H n (i::π) x y:=by
 rcases h with ⟨e,_⟩ | ⟨a,vs,ds',e1,e2,k,e3,_,e5,p⟩ | ⟨a,vs,ds',e1,e2,e3,_,_,p⟩
 ·cases e
 ·cases e2; exact ⟨a,vs,e1,k,e3,e5,p⟩
 ·cases e2
theorem Aa {τ:Addr->Option (List Nat)} {H:Hp} {n:Nat} {π:List Nat} {v:V} {ds:List D} (h:ThP τ H (n+1) π v (.t ds)):∃ a vs,v=.ref a/\H a=some (.tup vs)/\vs.length=ds.length/\∀ (i:Nat) x y,vs[i]? = some x->ds[i]? = some y->ThP τ H n (i::π) x y:=by
 rcases h with ⟨e,_⟩ | ⟨a,vs,ds',e1,e2,k,e3,_,e5,p⟩ | ⟨a,vs,ds',e1,e2,e3,_,e5,p⟩
 ·cases e
 ·cases e2
 ·cases e2; exact ⟨a,vs,e1,e3,e5,p⟩
theorem ux {τ:Addr->Option (List Nat)} {H:Hp} {n:Nat} {π:List Nat} {v:V} {d1 d2:D} (h:ThP τ H (n+1) π v (.t [d1,d2])):∃ a v1 v2,v=.ref a/\H a=some (.tup [v1,v2])/\ThP τ H n (0::π) v1 d1/\ThP τ H n (1::π) v2 d2:=by
 obtain ⟨a,vs,e,h1,h2,h3⟩:=Aa h
 match vs,h2 with
 | [v1,v2],_=>exact ⟨a,v1,v2,e,h1,h3 0 v1 d1 rfl rfl,h3 1 v2 d2 rfl rfl⟩
theorem By {τ:Addr->Option (List Nat)} {H:Hp} {n:Nat} {π:List Nat} {v:V} {d1 d2 d3:D} (h:ThP τ H (n+1) π v (.t [d1,d2,d3])):∃ a v1 v2 v3,v=.ref a/\H a=some (.tup [v1,v2,v3])/\ThP τ H n (0::π) v1 d1/\ThP τ H n (1::π) v2 d2/\ThP τ H n (2::π) v3 d3:=by
 obtain ⟨a,vs,e,h1,h2,h3⟩:=Aa h
 match vs,h2 with
 | [v1,v2,v3],_=>exact ⟨a,v1,v2,v3,e,h1,h3 0 v1 d1 rfl rfl,h3 1 v2 d2 rfl rfl,h3 2 v3 d3 rfl rfl⟩
theorem tV {α:Type} {f:α -> D} {τ:Addr->Option (List Nat)} {H:Hp} {n:Nat} {π:List Nat} {v:V} {l:List α} (h:ThP τ H (n+1) π v (.l (l.map f))):∃ a vs,v=.ref a/\τ a=some π /\ H a=some (.lst vs)/\vs.length=l.length/\∀ u ∈ vs,∃ i,∃ x ∈ l,ThP τ H n (i::π) u (f x):=by
 obtain ⟨a,vs,e,k,h1,h2,h3⟩:=z9 h;rw [List.length_map] at h2;refine ⟨a,vs,e,k,h1,h2,fun u hu=>?_⟩;obtain ⟨i,hi,rfl⟩:=List.getElem_of_mem hu;exact ⟨i,l[i]'(by omega),List.getElem_mem _,h3 i _ _ (List.getElem?_eq_getElem hi) (by rw [List.getElem?_map,List.getElem?_eq_getElem (by omega)]; rfl)⟩
def isOdd (τ:Addr->Option (List Nat)) (x:Addr):Prop:=(∃ k j i,τ x=some [k,j,1,i,0])\/∃ j,τ x=some [0,j,1]
theorem jr {τ:Addr->Option (List Nat)} {H:Hp} {n b:Nat} {π:List Nat} {u:V} {d:D} {Γ:Kds} (h:ThP τ H (n+1) π u d) (o:OddB b d) (up:∀ a (ls:List (List Nat)),τ a=some π -> H a=some (.lst (ls.map tx))->ls.length<=b->(∀ l ∈ ls,TxtOk b l)->Γ a=some .odd):OddV Γ H b u:=by
 cases d with
 | f v=>
  obtain rfl:=dD (iL _ h);cases u with
  | str a=>exact o
  | non=>trivial
  | bl x=>trivial
  | int i=>exact o
  | _=>exact o.elim
 | l ds=>
  obtain ⟨ls,h1,h2,rfl⟩:=o;obtain ⟨a,vs,rfl,e,p⟩:=yQ (iL _ h);obtain ⟨a',_,e',k,_⟩:=z9 h;cases e';rw [ic p] at e;exact .inl (up a ls k e h1 h2)
 | t ds=>
  obtain ⟨ls,h1,h2,rfl⟩:=o;obtain ⟨a,vs,rfl,e,p⟩:=vR (iL _ h);rw [ic p] at e;exact .inr ⟨ls,h1,h2,e⟩
theorem rM {Γ:Kds} {H H':Hp} {b:Nat} {u:V} {ds:List (List Nat)} {h:LHouse} {τ:Addr->Option (List Nat)} (w0:WT Γ H b) (s:Same H H') (th:ThP τ H' 6 [] u (houseL h)) (f:∀ a,τ a≠none->H a=none/\H' a≠none) (ok:OkHb b ds h):∃ Γ' q g v,u=.ref q/\H' q=some (.tup [.ref g,.ref v])/\WT Γ' H' b/\Go Γ H Γ' H'/\Γ' g=some (.gates ds)/\Γ' v=some .ways:=by
 obtain ⟨q,v1,v2,rfl,eq,t1,t2⟩:=ux th;obtain ⟨g,gv,rfl,kg,eg,gl,ge⟩:=tV t1;obtain ⟨v,wv,rfl,kv,ew,wl,we⟩:=tV t2;have hg:=ok.g;have hw:=ok.w;have ngv:g≠v:=fun z=>by rw [z,kv] at kg; cases kg
 let R:Addr->Prop:=fun x=>(∃ i,τ x=some [1,i,0])/\∃ vs,H' x=some (.lst vs)/\vs.length<=b+300/\∀ u ∈ vs,∃ (i j:Nat) (r:LRule),OkR b r/\ThP τ H' 2 [j,1,i,0] u (ruleL r)
 let O:Addr->Prop:=fun x=>isOdd τ x/\∃ ls:List (List Nat),H' x=some (.lst (ls.map tx))/\ls.length<=b/\∀ l ∈ ls,TxtOk b l
 have rR:∀ x,R x->x≠g/\x≠v:=fun x hx=>by
  obtain ⟨⟨i,e⟩,_⟩:=hx;exact ⟨fun z=>(by rw [z,kg] at e; cases e),fun z=>(by rw [z,kv] at e; cases e)⟩
 have rO:∀ x,isOdd τ x->x≠g/\x≠v/\¬ R x:=fun x hx=>by
  rcases hx with ⟨k,j,i,e⟩ | ⟨j,e⟩
  ·exact ⟨fun z=>(by rw [z,kg] at e; cases e),fun z=>(by rw [z,kv] at e; cases e),fun ⟨⟨i',e'⟩,_⟩=>(by rw [e] at e'; cases e')⟩
  ·exact ⟨fun z=>(by rw [z,kg] at e; cases e),fun z=>(by rw [z,kv] at e; cases e),fun ⟨⟨i',e'⟩,_⟩=>(by rw [e] at e'; cases e')⟩
 have oOdd:∀ {a:Addr} {ls:List (List Nat)},isOdd τ a->H' a=some (.lst (ls.map tx))->ls.length<=b->(∀ l ∈ ls,TxtOk b l)->dk g v ds R O a=some .odd:=fun {a ls} ho e h1 h2=>BV (rO a ho).1 (rO a ho).2.1 (rO a ho).2.2 ⟨ho,ls,e,h1,h2⟩
 have key:WT (dk g v ds R O) H' b:=by
  refine Ac ⟨gv,eg,by show gv.length<=b; omega,fun z=>z.elim,fun u hu=>?_⟩ ⟨wv,ew,by show wv.length<=b; omega,fun z=>z.elim,fun u hu=>?_⟩ (fun x hx=>?_) fun x hx=>?_
  ·obtain ⟨i,y,hy,ty⟩:=ge u hu;obtain ⟨t,a1,a2,rfl,et,y1,y2⟩:=ux ty;obtain rfl:=dD (iL _ y1);obtain ⟨r,rv,rfl,kr,er,rl,re⟩:=tV y2;obtain ⟨⟨n1,n2⟩,n3,n4⟩:=ok.gate y hy;have hR:R r:=⟨⟨i,kr⟩,rv,er,by omega,fun u hu=>by
    obtain ⟨j,z,hz,tz⟩:=re u hu;exact ⟨i,j,z,n4 z hz,tz⟩⟩
   exact ⟨t,y.1,r,rfl,et,n2,n1,BC (rR r hR).1 (rR r hR).2 hR⟩
  ·obtain ⟨j,y,hy,ty⟩:=we u hu;obtain ⟨t,a1,a2,rfl,et,y1,y2⟩:=ux ty;obtain rfl:=dD (iL _ y2);obtain ⟨o1,n1⟩:=ok.way y hy;exact ⟨t,a1,y.2,rfl,et,jr y1 o1 fun a ls ka e h1 h2=>oOdd (.inr ⟨j,ka⟩) e h1 h2,n1⟩
  ·obtain ⟨_,vs,e,hl,he⟩:=hx;refine ⟨vs,e,hl,fun z=>z.elim,fun u hu=>?_⟩;obtain ⟨i,j,r,⟨o1,o2,o3⟩,tr⟩:=he u hu;obtain ⟨t,a1,a2,a3,rfl,et,y1,y2,y3⟩:=By tr;exact ⟨t,a1,a2,a3,rfl,et,jr y1 o1 fun a ls ka e h1 h2=>oOdd (.inl ⟨_,_,_,ka⟩) e h1 h2,jr y2 o2 fun a ls ka e h1 h2=>oOdd (.inl ⟨_,_,_,ka⟩) e h1 h2,jr y3 o3 fun a ls ka e h1 h2=>oOdd (.inl ⟨_,_,_,ka⟩) e h1 h2⟩
  ·obtain ⟨_,ls,e,h1,h2⟩:=hx;refine ⟨_,e,by show (ls.map tx).length<=b; rw [List.length_map]; exact h1,fun z=>z.elim,fun u hu=>?_⟩;obtain ⟨l,hl,rfl⟩:=List.mem_map.mp hu;exact ⟨l,rfl,h2 l hl⟩
 have fr:∀ {x:Addr} {π:List Nat},τ x=some π -> H x=none:=fun {x π} e=>(f x (by rw [e]; exact fun y=>nomatch y)).1
 obtain ⟨k1,k2,k3⟩:=w0.add s key fun x hx=>by
  rcases xo hx with rfl | rfl | h | h
  ·exact fr kg
  ·exact fr kv
  ·obtain ⟨⟨i,e⟩,_⟩:=h; exact fr e
  ·rcases h.1 with ⟨k,j,i,e⟩ | ⟨j,e⟩
   ·exact fr e
   ·exact fr e
 exact ⟨_,q,g,v,rfl,eq,k1,k2,k3 _ _ BQ,k3 _ _ (BE ngv)⟩
def NamedF (D:Addr) (H:Hp) (x:Named) (v:V):Prop:=∃ t q g w,v=.ref t/\H t=some (.tup [tx x.1,.ref q])/\HouseN (fun r=>r≠D) H q g w x.2/\g≠D/\w≠D
theorem sh {D:Addr} {H H':Hp} {acc:List V} (hd:H D=some (.lst acc)) (k:∀ b o,b≠D->H b=some o->H' b=some o) {x:Named} {v:V} (h:NamedF D H x v):NamedF D H' x v:=by
 obtain ⟨t,q,g,w,e,et,hN,ng,nw⟩:=h;have tp:∀ t ts,H t=some (.tup ts)->H' t=some (.tup ts):=fun t ts z=>k _ _ (fun y=>by rw [y,hd] at z; cases z) z
 obtain ⟨vs,eg,pg⟩:=hN.gates;obtain ⟨us,ew,pw⟩:=hN.ways;refine ⟨t,q,g,w,e,tp _ _ et,⟨tp _ _ hN.tup,hN.ne,⟨vs,k _ _ ng eg,L2.Paired.mapP pg ?_⟩,⟨us,k _ _ nw ew,df tp pw⟩⟩,ng,nw⟩;rintro y v ⟨t',r,e',n,h1,⟨rv,er,pr⟩⟩;exact ⟨t',r,e',n,tp _ _ h1,⟨rv,k _ _ n.2.2 er,lD tp pr⟩⟩
theorem vG {D:Addr} {H:Hp} {x:Named} {v:V} (h:NamedF D H x v):NamedAt H x v:=by
 obtain ⟨t,q,g,w,e,et,hN,_,_⟩:=h;exact ⟨t,q,e,et,hN.at⟩
theorem sJ:∀ {hs:List Named},(hs.map (·.1)).Nodup->(∀ x ∈ hs,(x.2.1.map (·.1)).Nodup)->(spotsOf hs).Nodup
 | [],_,_=>by unfold spotsOf; simp
 | x::hs,nd,hd=>by
  rw [List.map_cons,List.nodup_cons] at nd;have ih:=sJ nd.2 fun y hy=>hd y (List.mem_cons_of_mem _ hy)
  have e:spotsOf (x::hs)=(x.2.1.map fun g=>(x.1,g.1))++spotsOf hs:=by unfold spotsOf; rw [List.flatMap_cons]
  rw [e,List.nodup_append];refine ⟨?_,ih,fun a ha b hb z=>?_⟩
  ·have:=hd x List.mem_cons_self;have e2:(x.2.1.map fun g=>((x.1,g.1):Way))=(x.2.1.map (·.1)).map fun n=>(x.1,n):=by rw [List.map_map]; rfl
   rw [e2];exact List.pairwise_map.mpr (List.Pairwise.imp (fun {a b} h z=>h (Prod.mk.inj z).2) this)
  ·obtain ⟨g,_,rfl⟩:=List.mem_map.mp ha;unfold spotsOf at hb;obtain ⟨y,hy,hb⟩:=List.mem_flatMap.mp hb;obtain ⟨g2,_,rfl⟩:=List.mem_map.mp hb;exact nd.1 (List.mem_map.mpr ⟨y,hy,(Prod.mk.inj z).1.symm⟩)
theorem sK {W S:Nat} {pl:List (List Nat)} {h:House} (k:HouseOk W S pl h):HouseOk5 W S h:=⟨k.nd,Nat.le_trans k.g3 (by decide),k.rules,k.many,k.ways,k.w8⟩
theorem iJ {n:List Nat} (h:Low n) (hl:n.length<=100):NmOk n:=⟨fun c hc=>by have:=h c hc; omega,hl⟩
theorem WT.nil (H:Hp) (b:Nat):WT (fun _=>none) H b:=fun _ _ e=>by cases e
theorem rq:∀ {ls:List Fld} {x:Fld},x ∈ ls->x.2<=widthL ls
 | y::ls,x,h=>by
  have hw:widthL (y::ls)=y.2+widthL ls:=by unfold widthL; rw [List.map_cons,List.sum_cons]
  rcases List.mem_cons.mp h with rfl | h
  ·omega
  ·have:=rq h;omega
theorem xa {Γ:Kds} {H:Hp} {b:Nat} {ls:List Fld} {vs:List V} (hb:3<=b) (p:Paired (FldAt H) ls vs) (ok:LayOk ls):LstAt Γ H b .lay vs:=by
 have hl:=p.length;have h3:=ok.len;refine ⟨by show vs.length<=b; omega,fun _ z=>?_,fun v hv=>?_⟩
 ·have hz:ls=[]:=List.eq_nil_of_length_eq_zero (by rw [hl,z]; rfl);have:=ok.w1;rw [hz] at this;simp [widthL] at this
 ·obtain ⟨x,hx,t,rfl,et⟩:=dC p v hv;have lw:=ok.low x hx;have:=rq hx;have:=ok.w2;exact ⟨t,x.1,x.2,rfl,et,iJ lw.1 (by omega),by omega,by omega⟩
theorem WT.keep {Γ:Kds} {H H':Hp} {b:Nat} {D0:Addr} {a:List V} (w:WT Γ H b) (hd:H D0=some (.lst a)) (k:∀ c o,c≠D0->H c=some o->H' c=some o) (n:Γ D0=none):WT Γ H' b/\∀ c vs,H c=some (.tup vs)->H' c=some (.tup vs):=by
 have tp:∀ c vs,H c=some (.tup vs)->H' c=some (.tup vs):=fun c vs e=>k c _ (fun z=>by rw [z,hd] at e; cases e) e
 refine ⟨fun p kd e=>?_,tp⟩;obtain ⟨vs,h1,h2⟩:=w p kd e;exact ⟨vs,k _ _ (fun z=>by rw [z,n] at e; cases e) h1,c8 (fun _ _ z=>z) tp (Nat.le_refl _) h2⟩
noncomputable def kq (K:Frag):Sp:=fun vs H Q _=>match vs with
 | [.ref a,.ref t,.int m]=>∃ (ns:List Int) (ps:List Nat) (M:Nat),SqL K H a (ns.map V.int)/\SqL K H t (ps.map nV)/\ToldOk (wF ns) ps/\m=(M:Int)/\1<=M/\M<=8 /\
   ∀ (q la lh ll:Addr) (H':Hp) (N:Net) (Γ:Kds),Same H H'->NetAt H' q N->NetOk N->NetK Γ H' q la lh ll->WT Γ H' 60->(∀ x,Γ x≠none->H x=none)->(∀ x ∈ N.2.1,NmOk x.1/\∀ g ∈ x.2.1,NmOk g.1)->Q (.ref q) H'
 | _=>False
theorem qU (hs:List Named):spotsL (hs.map fun x=>(x.1,x.2.1.map (·.1)))=spotsOf hs:=by
 unfold spotsL spotsOf;rw [List.flatMap_map];congr 1;funext x;show (x.2.1.map (·.1)).map _=_;rw [List.map_map];rfl
theorem xG {H:Hp} {p:Addr} {hs:List Named} (h:Houses H p hs):SpotH H p (hs.map fun x=>(x.1,x.2.1.map (·.1))):=by
 obtain ⟨vs,e,pr⟩:=h;refine ⟨vs,e,gb (L2.Paired.mapP pr fun x u z=>?_)⟩;obtain ⟨t,q,rfl,et,g,w,eq,⟨gv,eg,pg⟩,_⟩:=z;exact ⟨t,q,rfl,et,g,.ref w,gv,eq,eg,gb (L2.Paired.mapP pg fun x u ⟨t,r,e,e1,_⟩=>⟨t,.ref r,e,e1⟩)⟩
def HouseI (H0:Hp) (p D0:Addr) (W S:Nat) (pl:List (List Nat)) (nm:List (List Nat)) (i:Nat) (acc:List V) (H':Hp):Prop:=∃ (hs:List Named) (Γ:Kds),hs.map (·.1)=nm.take i/\Paired (NamedF D0 H') hs acc/\(∀ x ∈ hs,HouseOk W S pl x.2)/\WT Γ H' 60/\Γ p=some .lay/\Γ D0=none/\(∀ x,Γ x≠none->H0 x=none)/\(∀ v ∈ acc,El Γ H' 60 .houses v)/\acc.length=i
theorem sA (T:Top K mg):Callee P w K mg base 4 "_law_net" ["_law_script", "_law_told_here", "_law_most"] (kq K):=by
 refine T.pM.cal eZ (by intro vs H Q E h; unfold kq at h; split at h <;> first | rfl | exact h.elim) (fun _ _ _ _ _ _ us hl=>match us,hl with | [_,_,_],_=>rfl) (fun f cdv A outer s H vs Q E hr h=>?_);unfold kq at h;split at h
 case h_2=>exact h.elim
 refine ⟨_,(ae (ao (i:=3) eZ.nd rfl lc (aq (ke T) hr.m rfl (aa (qv 0) ac)))
   (ae (ao (i:=4) eZ.nd rfl lc (aq (eN T) hr.m rfl (aa (qv 0) (aa ad (aa ad ac)))))
   (ae (ao (i:=5) eZ.nd rfl lc (am ak ad (aq (aj T) hr.m rfl (aa (qv 0) (aa ad (aa (qv 2) ac))))))
   (ae (ao (i:=6) eZ.nd rfl lc (aq (eN T) hr.m rfl (aa (qv 0) (aa ad (aa (qv 5) ac)))))
   (ae (kK (i:=7) (nt:=1) (fi:=[6,0,1,3,4]) (N':=["_law_h", "_law_names_here", "_law_script", "_law_told_here", "_law_layout_here", "_law_pool"]) eZ.nd rfl lc rfl (cscope rfl (by decide +kernel)) (cnames (N:=["_law_script", "_law_told_here", "_law_most", "_law_layout_here", "_law_pool", "_law_many", "_law_names_here", "_law_houses"]) (sc:=defScope jJ) rfl rfl (by decide +kernel)) (cE (by decide)) (bA rfl T.cF (qv 5)) (fun _ _ _ _ _=>(al (i:=0) (by show (["_law_h", "_law_names_here", "_law_script", "_law_told_here", "_law_layout_here", "_law_pool"]:List Str).Nodup; decide +kernel) rfl lc)) (fun _ _ _ _ _=>bC) (fun _ _ _ _ _=>(aX (aa (az (ixE K rfl) (qv 1) (qv 0) (fun _ _=>rfl)) (aa (aq (qa T) hr.m rfl (aa (qv 2) (aa (am ak ad (am d4 ad (qv 0))) (aa (qv 3) (aa (qv 4) (aa (qv 5) ac)))))) ac)))))
   (af (aw (aX (aa (qv 3) (aa (qv 7) (aa (aq (qd T) hr.m rfl (aa (qv 0) (aa (aq (iO T) hr.m rfl (aa (qv 7) ac)) ac))) ac))))))))))),?_⟩
 rename_i a t m;obtain ⟨ns,ps,M,hS,hT,tok,rfl,hM1,hM8,q⟩:=h;walk_at "rd";refine ⟨ns,hS,fun p H1 ls hp s1 hL ok hwf=>?_⟩;rw [<- hwf] at tok;walk_at "rd";refine ⟨ns,22,5,s1.seq hS,rfl,by decide,rfl,by decide,fun pn H2 pl hpn s2 e2 N=>?_⟩;have s12:=s1.trans s2;walk_at "rd";refine aA (s12.seq hS) (by decide) (by decide) (by omega) (by omega) fun r1 hr1=>?_
 walk_at "rd";refine ⟨ns,18,1+r1,s12.seq hS,rfl,by decide,by omega,by omega,fun pm H3 nm hpm s3 e3 N2=>?_⟩;have s13:=s12.trans s3;have e23:=s3 _ _ e2;have hL3:=hL.same (s2.trans s3);walk_at "rd";refine ⟨by omega,by omega,fun D0 hD=>?_⟩;rw [show (1+(r1:Int)).toNat=1+r1 by omega];have hnl:=N2.len;obtain ⟨lv,el,pl0⟩:=id hL3;have wt1:WT (kput (fun _=>none) p .lay) H3 60:=(WT.new (WT.nil H3 60) s13 (WT.nil H 60) hp el (xa (by decide) pl0 ok)).2.1;refine oF (1+r1) (HouseI H p D0 (widthL ls) ((spanG ls).2 - (spanG ls).1) pl nm) hD (by omega) (fun i acc H4 _ ⟨_,_,_,_,_,_,_,_,_,_,z⟩=>z) (fun i H4 hi s4=>show i < 1+r1 from hi) (fun H4 s4=>show 1+r1<=_ by simp) ?_ ?_ ?_ ?_ ?_
 ·rintro i H4 v H5 _ ⟨rfl,_⟩;exact Same.refl _
 ·intro H4 s4;have n0:p≠D0:=fun z=>by rw [<- z,el] at hD; cases hD
  refine ⟨[],_,by simp,.nil,fun x hx=>(by simp at hx),wt1.same s4,i9,?_,fun x hx=>?_,fun v hv=>(by simp at hv),rfl⟩
  ·unfold kput;rw [if_neg (Ne.symm n0)]
  ·unfold kput at hx;split at hx
   ·rename_i z; rw [z]; exact hp
   ·exact absurd rfl hx
 ·rintro i acc H4 H5 b hd k ⟨hs,Γ,h1,h2,h3,h4,h5,h6,h7,h8,h9⟩;obtain ⟨w5,tp⟩:=h4.keep hd k h6;exact ⟨hs,Γ,h1,L2.Paired.mapP h2 fun x v z=>sh hd k z,h3,w5,h5,h6,h7,fun v hv=>sY (fun _ _ z=>z) tp (Nat.le_refl _) (h8 v hv),h9⟩
 ·rintro i v acc H4a H4 out non hi ⟨hs,Γ,h1,h2,h3,h4,h5,h6,h7,h8,h9⟩ s4 nD ⟨rfl,rfl⟩ ho;have s14:=s13.trans s4;walk_at "rd";refine ⟨_,tx nm[i],.inl (SqL.of (s4 _ _ e3)),aI (by rw [List.getElem?_map,List.getElem?_eq_getElem (by omega)]; rfl),?_⟩;refine ⟨.inl ⟨by decide,by decide⟩,ns,70+50*i,ps,ls,pl,s14.seq hS,by omega,by omega,s14.seq hT,tok,hL3.same s4,ok,SqL.of (s4 _ _ e23),N,fun q' g w H5 hs' hq' hg hw s5 hN hok hw4 hov=>⟨by decide,fun t6 ht6=>?_⟩⟩;have s6:=ai ht6 (.tup [tx nm[i],.ref q']);have s56:=s5.trans s6;have hw2:=ok.w2;obtain ⟨fa,fb,esp,hab,hfb⟩:=ok.to;have eG:spanG ls=(fa,fb):=by unfold spanG; rw [esp]; rfl
  have nmd:∀ x ∈ hs'.1,NmOk x.1:=fun x hx=>iJ (N.low _ (hok.door x hx)) (Nat.le_trans (N.short _ (hok.door x hx)).2 (by decide))
  obtain ⟨Γ',k1,k2,k3,k4⟩:=tX h4 (by decide) s5 hN hg hw hok (by omega) (by rw [eG]; show fb - fa<=50; omega) nmd;have hni:=N2.short nm[i] (List.getElem_mem (by omega));have D4:Γ' D0=none:=by
   cases e:Γ' D0 with
   | none=>rfl
   | some k=>
    exfalso;by_cases z:H4 D0=none
    ·exact nD D0 z rfl
    ·cases e':H4 D0 with
     | none=>exact z e'
     | some o=>rw [(k2.out D0 o h6 e').1] at e; cases e
  refine ho _ _ s56 ⟨hs++[(nm[i],hs')],Γ',?_,?_,fun x hx=>?_,k1.same s6,k2.sub _ _ h5,D4,fun x hx=>?_,fun v hv=>?_,by rw [List.length_append,h9]; rfl⟩
  ·rw [List.map_append,h1,List.take_add_one,List.getElem?_eq_getElem (by omega)];rfl
  ·refine fe (L2.Paired.mapP h2 fun x v ⟨t,q,g,w,e,et,hN,n1,n2⟩=>⟨t,q,g,w,e,s56 _ _ et,hN.same s56,n1,n2⟩) ⟨t6,q',g,w,rfl,ah,?_,nD g hg,nD w hw⟩;have hN6:=hN.same s6;obtain ⟨vs6,eg6,pg6⟩:=hN6.gates;exact ⟨hN6.tup,hN6.ne,⟨vs6,eg6,L2.Paired.mapP pg6 fun _ _ ⟨t',r,e',n,h1,h2⟩=>⟨t',r,e',⟨n.1,n.2.1,nD r n.2.2⟩,h1,h2⟩⟩,hN6.ways⟩
  ·rcases List.mem_append.mp hx with z | z
   ·exact h3 x z
   ·rw [List.mem_singleton.mp z];exact hok
  ·by_cases z:Γ x=none
   ·cases e:H4 x with
    | none=>exact s14.free e
    | some o=>exact absurd (k2.out x o z e).1 hx
   ·exact h7 x z
  ·rcases List.mem_append.mp hv with z | z
   ·exact sY k2.sub (fun a vs e=>s56 _ _ e) (Nat.le_refl _) (h8 v z)
   ·rw [List.mem_singleton.mp z];refine ⟨t6,nm[i],q',g,w,_,rfl,ah,iJ (N2.low _ (List.getElem_mem _)) (by omega),s6 _ _ hN.tup,k3,k4,?_⟩;rw [List.length_map];exact hok.g3
 ·rintro H4 vs s4 e4 ⟨hs,Γ,h1,h2,h3,h4,h5,h6,h7,h8,h9⟩;rw [List.take_of_length_le (by omega)] at h1;have hhl:hs.length=1+r1:=by have:=congrArg List.length h1; rw [List.length_map] at this; omega
  have hH4:Houses H4 D0 hs:=⟨vs,e4,L2.Paired.mapP h2 fun _ _ z=>vG z⟩;have s14:=s13.trans s4;have snd:=sJ (hs:=hs) (by rw [h1]; exact N2.nd) fun x hx=>(h3 x hx).nd
  have slen:=wq (hs:=hs) (c:=3) fun x hx=>(h3 x hx).g3
  walk_at "rd";refine ⟨_,xG hH4,by rw [List.length_map]; omega,fun x hx=>?_,fun sq H5 hsq s5 hWs=>?_⟩
  ·obtain ⟨y,hy,rfl⟩:=List.mem_map.mp hx;show (y.2.1.map (·.1)).length<=100;rw [List.length_map];exact Nat.le_trans (h3 y hy).g3 (by decide)
  rw [qU] at hWs;have s15:=s14.trans s5;walk_at "rd";refine ⟨ns,spotsOf hs,s15.seq hS,hWs,by omega,snd,fun c H6 lns hc s6 hLn en1 en2 en3=>⟨by decide,fun q7 hq7=>?_⟩⟩;have s7:=ai hq7 (.tup [V.ref p,V.ref D0,V.ref c]);have s57:=s5.trans (s6.trans s7);have hlow:∀ x ∈ hs,Low x.1/\x.1.length<=8:=fun x hx=>by
   have hm:x.1 ∈ nm:=by rw [<- h1]; exact List.mem_map.mpr ⟨x,hx,rfl⟩
   exact ⟨N2.low _ hm,(N2.short _ hm).2⟩
  have hdoor:∀ x ∈ hs,∀ g ∈ x.2.1,Low g.1/\g.1.length<=8:=fun x hx g hg=>by
   have hm:=(h3 x hx).door g hg;exact ⟨N.low _ hm,(N.short _ hm).2⟩
  have nok:NetOk (ls,hs,lns):=⟨ok,by rw [h1]; exact N2.nd,fun x hx=>⟨(hlow x hx).1,Nat.le_trans (hlow x hx).2 (by decide)⟩,fun x hx=>sK (h3 x hx),fun x hx g hg=>⟨(hdoor x hx g hg).1,Nat.le_trans (hdoor x hx g hg).2 (by decide)⟩,by show hs.length<=100; omega,en1,en2,en3⟩;have spn:∀ s ∈ spotsOf hs,NmOk s.1/\NmOk s.2:=fun s hs'=>by
   unfold spotsOf at hs';obtain ⟨y,hy,hm⟩:=List.mem_flatMap.mp hs';obtain ⟨g,hg,rfl⟩:=List.mem_map.mp hm;exact ⟨iJ (hlow y hy).1 (Nat.le_trans (hlow y hy).2 (by decide)),iJ (hdoor y hy g hg).1 (Nat.le_trans (hdoor y hy g hg).2 (by decide))⟩
  obtain ⟨cv,ec,pc⟩:=hLn;have hcl:=pc.length;have wD:=(h4.kindly h6 e4 (k:=.houses) ⟨by show vs.length<=60; omega,fun _ z=>(by rw [z] at h9; simp at h9; omega),h8⟩).same s5;have wc:=(wD.same s6).kindly (q:=c) (k:=.lines) (wD.free hc) ec ⟨by show cv.length<=60+500; omega,fun z=>z.elim,fun v hv=>?_⟩
  ·have w7:=wc.same s7;have u1:=js (k:=Kd.lines) (wD.free hc);have u0:=js (k:=Kd.houses) h6;refine q q7 p D0 c _ (ls,hs,lns) _ (s14.trans s57) ⟨p,D0,c,ah,hL3.same (s4.trans s57),hH4.same s57,(show Lines H6 c lns from ⟨cv,ec,pc⟩).same s7⟩ nok ⟨ah,u1 _ _ (u0 _ _ h5),u1 _ _ i9,i9⟩ w7 (fun x hx=>?_) fun x hx=>⟨iJ (hlow x hx).1 (Nat.le_trans (hlow x hx).2 (by decide)),fun g hg=>iJ (hdoor x hx g hg).1 (Nat.le_trans (hdoor x hx g hg).2 (by decide))⟩
   unfold kput at hx;split at hx
   ·rename_i z; rw [z]; exact s15.free hc
   ·split at hx
    ·rename_i z; rw [z]; exact s13.free hD
    ·exact h7 x hx
  ·obtain ⟨l,hl,hla⟩:=dC pc v hv;have m1:l.1 ∈ endsOf lns:=by unfold endsOf; exact List.mem_flatMap.mpr ⟨l,hl,by simp⟩
   have m2:l.2 ∈ endsOf lns:=by unfold endsOf; exact List.mem_flatMap.mpr ⟨l,hl,by simp⟩
   obtain ⟨y1,y2⟩:=spn _ (en2 _ m1);obtain ⟨y3,y4⟩:=spn _ (en2 _ m2);exact ⟨l,hla,y1,y2,y3,y4⟩
theorem tq {X:Cx} {l:List Stmt} {t u:TS} (h:PSs X l t) (k:∀ D σ H,u D σ H->t D σ H):PSs X l u:=fun p s σ H D I q=>h p s σ H D I (k _ _ _ q)
def OddQ (Γ:Kds) (H:Hp) (b:Nat) (Q:VK):Prop:=∀ (v:V) (Γ':Kds) (H':Hp),Same H H'->Go Γ H Γ' H'->WT Γ' H' b->OddV Γ' H' b v->Q v H'
theorem fS {Γ:Kds} {H:Hp} {b:Nat} {n:List Nat} (h:TxtOk b n):OddV Γ H b (tx n):=by
 show TxtOk b (st n).cps.toList;rw [aM];exact h
theorem aW {Γ:Kds} {H H':Hp} {b:Nat} {v:V} {Q:VK} (w:WT Γ H b) (q:OddQ Γ H b Q) (s:Same H H') (h:OddV Γ H' b v):Q v H':=q v Γ H' s (Go.same s) (w.same s) h
theorem o0 {Γ:Kds} {H H':Hp} {b:Nat} {p:Addr} {ls:List (List Nat)} {Q:VK} (w:WT Γ H b) (q:OddQ Γ H b Q) (s:Same H H') (hf:H p=none) (e:H' p=some (.lst (ls.map tx))) (h1:ls.length<=b) (h2:∀ l ∈ ls,TxtOk b l):Q (.ref p) H':=by
 obtain ⟨_,k2,k3⟩:=WT.new (w.same s) s w (k:=.odd) hf e ⟨by show (ls.map tx).length<=b; rw [List.length_map]; exact h1,fun z=>z.elim,fun v hv=>by obtain ⟨l,hl,rfl⟩:=List.mem_map.mp hv; exact ⟨l,rfl,h2 l hl⟩⟩;exact q (.ref p) _ H' s k3 k2 (.inl i9)
theorem qY {Γ:Kds} {H:Hp} {b:Nat} {p:Addr} {ls:List (List Nat)} (e:H p=some (.tup (ls.map tx))) (h1:ls.length<=b) (h2:∀ l ∈ ls,TxtOk b l):OddV Γ H b (.ref p):=.inr ⟨ls,h1,h2,e⟩
theorem jN {b:Nat} (hb:10<=b) {n:List Nat} (h1:∀ c ∈ n,c < 16 ^ 8) (h2:n.length<=10):TxtOk b n:=⟨h1,Nat.le_trans h2 hb⟩
noncomputable def fN (K:Frag):Sp:=fun vs H Q _=>match vs with
 | [.ref a,.int k]=>∃ (ns:List Int) (k0 b:Nat) (Γ:Kds),SqL K H a (ns.map V.int)/\k=(k0:Int)/\k0<=10000/\10<=b/\WT Γ H b/\OddQ Γ H b Q
 | _=>False
theorem mY (T:Top K mg):Callee P w K mg base 2 "_law_odd_word" ["_law_script", "_law_k"] (fN K):=by
 refine T.jY.cal jc (by intro vs H Q E h; unfold fN at h; split at h <;> first | rfl | exact h.elim) (fun _ _ _ _ _ _ us hl=>match us,hl with | [_,_],_=>rfl) (fun f cdv A outer s H vs Q E hr h=>?_);unfold fN at h;split at h
 case h_2=>exact h.elim
 refine ⟨_,(@ae _ _ _ _ _ (@ao _ _ 2 _ _ _ _ jc.nd rfl lc (@aL _ _ _ _ (@aa _ _ _ _ _ lE (@aa _ _ _ _ _ ad (@aa _ _ _ _ _ iy (@aa _ _ _ _ _ (qs []) (@aa _ _ _ _ _ (qs [80,97,115,115]) (@aa _ _ _ _ _ (qs [112,97,115,115,32]) (@aa _ _ _ _ _ (qs [110,111,116,101]) (@aa _ _ _ _ _ (qs [100,114,111,112,115]) (@aa _ _ _ _ _ (@aL _ _ _ _ (@aa _ _ _ _ _ (qs [112,97,115,115]) (@ac _) seC)) (@aa _ _ _ _ _ (@aX _ _ _ _ _ (@aa _ _ _ _ _ (qs [100,114,111,112]) (@aa _ _ _ _ _ (qs [112,97,115,115]) (@ac _) seC) seC)) (@aa _ _ _ _ _ (qs [68,82,79,80]) (@aa _ _ _ _ _ (qs [32,100,114,111,112]) (@aa _ _ _ _ _ (qs [112,97,115]) (@ac _) seC) seC) seC) seT) seL) seC) seC) seC) seC) seC) seC) seC) seC)) swL (by first | exact .inl rfl | exact .inr rfl))
   (af (aw (az (ixE K rfl) (qv 2) (aq (aj T) hr.m rfl (aa (qv 0) (aa (qv 1) (aa ad ac)))) (fun _ _=>rfl))))),?_⟩
 rename_i a k;obtain ⟨ns,k0,b,Γ,hS,rfl,hk,hb,w,q⟩:=h;refine ⟨by decide,fun p hp=>⟨by decide,fun p1 hp1=>⟨by show 13<=sizeLine; decide,fun p2 hp2=>?_⟩⟩⟩;have s1:=ai hp (.lst [tx [112,97,115,115]]);have e1:upd H p (.lst [tx [112,97,115,115]]) p=some (.lst [tx [112,97,115,115]]):=ah;have s2:=ai hp1 (.tup [tx [100,114,111,112],tx [112,97,115,115]]);have e2:upd (upd H p (.lst [tx [112,97,115,115]])) p1 (.tup [tx [100,114,111,112],tx [112,97,115,115]]) p1=some (.tup [tx [100,114,111,112],tx [112,97,115,115]]):=ah;have s3:=ai hp2 (.lst [V.non,V.int 0,V.bl true,tx [],tx [80,97,115,115],tx [112,97,115,115,32],tx [110,111,116,101],tx [100,114,111,112,115],V.ref p,V.ref p1,tx [68,82,79,80],tx [32,100,114,111,112],tx [112,97,115]]);have e3:upd (upd (upd H p (.lst [tx [112,97,115,115]])) p1 (.tup [tx [100,114,111,112],tx [112,97,115,115]])) p2 (.lst [V.non,V.int 0,V.bl true,tx [],tx [80,97,115,115],tx [112,97,115,115,32],tx [110,111,116,101],tx [100,114,111,112,115],V.ref p,V.ref p1,tx [68,82,79,80],tx [32,100,114,111,112],tx [112,97,115]]) p2=some (.lst [V.non,V.int 0,V.bl true,tx [],tx [80,97,115,115],tx [112,97,115,115,32],tx [110,111,116,101],tx [100,114,111,112,115],V.ref p,V.ref p1,tx [68,82,79,80],tx [32,100,114,111,112],tx [112,97,115]]):=ah;show bW K [V.ref a,V.int k0,V.int 13] (upd (upd (upd H p (.lst [tx [112,97,115,115]])) p1 (.tup [tx [100,114,111,112],tx [112,97,115,115]])) p2 (.lst [V.non,V.int 0,V.bl true,tx [],tx [80,97,115,115],tx [112,97,115,115,32],tx [110,111,116,101],tx [100,114,111,112,115],V.ref p,V.ref p1,tx [68,82,79,80],tx [32,100,114,111,112],tx [112,97,115]])) (fun y H2=>kIx K (V.ref p2) y H2 Q) E0;generalize upd (upd H p (.lst [tx [112,97,115,115]])) p1 (.tup [tx [100,114,111,112],tx [112,97,115,115]])=H2 at s2 e2 hp2 s3 e3 ⊢;generalize upd H p (.lst [tx [112,97,115,115]])=H1 at s1 e1 hp1 s2 ⊢;generalize upd H2 p2 (.lst [V.non,V.int 0,V.bl true,tx [],tx [80,97,115,115],tx [112,97,115,115,32],tx [110,111,116,101],tx [100,114,111,112,115],V.ref p,V.ref p1,tx [68,82,79,80],tx [32,100,114,111,112],tx [112,97,115]])=H3 at s3 e3 ⊢;have s13:=s1.trans (s2.trans s3);refine aA (s13.seq hS) (by omega) (by omega) (by decide) (by decide) fun r hr'=>?_
 have hl:r < [V.non,V.int 0,V.bl true,tx [],tx [80,97,115,115],tx [112,97,115,115,32],tx [110,111,116,101],tx [100,114,111,112,115],V.ref p,V.ref p1,tx [68,82,79,80],tx [32,100,114,111,112],tx [112,97,115]].length:=by show r < 13; omega
 refine ⟨_,_,.inl (SqL.of e3),aI (List.getElem?_eq_getElem hl),?_⟩;have hm:=List.getElem_mem hl;generalize [V.non,V.int 0,V.bl true,tx [],tx [80,97,115,115],tx [112,97,115,115,32],tx [110,111,116,101],tx [100,114,111,112,115],V.ref p,V.ref p1,tx [68,82,79,80],tx [32,100,114,111,112],tx [112,97,115]][r]=v at hm ⊢;simp only [List.mem_cons,List.not_mem_nil,or_false] at hm;rcases hm with rfl | rfl | rfl | rfl | rfl | rfl | rfl | rfl | rfl | rfl | rfl | rfl | rfl
 case inr.inr.inr.inr.inr.inr.inr.inr.inl=>exact o0 w q s13 hp ((s2.trans s3) _ _ e1) (ls:=[[112,97,115,115]]) (by simp; omega) fun l hl=>by rw [List.mem_singleton.mp hl]; exact jN hb (by decide) (by decide)
 case inr.inr.inr.inr.inr.inr.inr.inr.inr.inl=>
  refine aW w q s13 (qY (ls:=[[100,114,111,112],[112,97,115,115]]) (s3 _ _ e2) (by simp; omega) fun l hl=>?_);simp only [List.mem_cons,List.not_mem_nil,or_false] at hl;rcases hl with rfl | rfl <;> exact jN hb (by decide) (by decide)
 ·exact aW w q s13 trivial
 ·exact aW w q s13 (.inl rfl)
 ·exact aW w q s13 trivial
 all_goals exact aW w q s13 (fS (jN hb (by decide) (by decide)))
noncomputable def dP (K:Frag):Sp:=fun vs H Q _=>match vs with
 | [.ref a,.int k,.int S]=>∃ (ns:List Int) (k0 b:Nat) (Γ:Kds),SqL K H a (ns.map V.int)/\k=(k0:Int)/\k0<=10000/\60<=b /\ -100000000000<=S/\S<=48/\WT Γ H b/\OddQ Γ H b Q
 | _=>False
theorem jZ (T:Top K mg):Callee P w K mg base 2 "_law_odd_beginning" ["_law_script", "_law_k", "_law_size"] (dP K):=by
 refine T.gf.cal fL (by intro vs H Q E h; unfold dP at h; split at h <;> first | rfl | exact h.elim) (fun _ _ _ _ _ _ us hl=>match us,hl with | [_,_,_],_=>rfl) (fun f cdv A outer s H vs Q E hr h=>?_);unfold dP at h;split at h
 case h_2=>exact h.elim
 refine ⟨_,(@ae _ _ _ _ _ (@ao _ _ 3 _ _ _ _ fL.nd rfl lc (@aL _ _ _ _ (@aa _ _ _ _ _ lE (@aa _ _ _ _ _ ad (@aa _ _ _ _ _ iy (@aa _ _ _ _ _ (qs [50]) (@aa _ _ _ _ _ (qs [45]) (@aa _ _ _ _ _ (am uF (qs [48]) (am ak (qv 2) ad)) (@aa _ _ _ _ _ (am uF (qs [49]) (am ak (qv 2) ad)) (@aa _ _ _ _ _ (@aL _ _ _ _ (@aa _ _ _ _ _ (qs [48]) (@ac _) seC)) (@aa _ _ _ _ _ (@aX _ _ _ _ _ (@aa _ _ _ _ _ (qs []) (@aa _ _ _ _ _ (qs [49]) (@ac _) seC) seC)) (@aa _ _ _ _ _ (qs [32]) (@aa _ _ _ _ _ (qs [97]) (@aa _ _ _ _ _ (qs [79]) (@ac _) seC) seC) seC) seT) seL) seB) seB) seC) seC) seC) seC) seC)) swL (by first | exact .inl rfl | exact .inr rfl))
   (af (aw (az (ixE K rfl) (qv 3) (aq (aj T) hr.m rfl (aa (qv 0) (aa (qv 1) (aa ad ac)))) (fun _ _=>rfl))))),?_⟩
 rename_i a k S;obtain ⟨ns,k0,b,Γ,hS,rfl,hk,hb,hS0,hS1,w,q⟩:=h;refine ⟨48,rfl,by omega,by omega,49,rfl,by omega,by omega,by decide,fun p hp=>⟨by decide,fun p1 hp1=>⟨by show 12<=sizeLine; decide,fun p2 hp2=>?_⟩⟩⟩;have s1:=ai hp (.lst [tx [48]]);have e1:upd H p (.lst [tx [48]]) p=some (.lst [tx [48]]):=ah;have s2:=ai hp1 (.tup [tx [],tx [49]]);have e2:upd (upd H p (.lst [tx [48]])) p1 (.tup [tx [],tx [49]]) p1=some (.tup [tx [],tx [49]]):=ah;have s3:=ai hp2 (.lst [V.non,V.int 5,V.bl false,tx [50],tx [45],tx (List.replicate (S+1).toNat 48),tx (List.replicate (S+3).toNat 49),V.ref p,V.ref p1,tx [32],tx [97],tx [79]]);have e3:upd (upd (upd H p (.lst [tx [48]])) p1 (.tup [tx [],tx [49]])) p2 (.lst [V.non,V.int 5,V.bl false,tx [50],tx [45],tx (List.replicate (S+1).toNat 48),tx (List.replicate (S+3).toNat 49),V.ref p,V.ref p1,tx [32],tx [97],tx [79]]) p2=some (.lst [V.non,V.int 5,V.bl false,tx [50],tx [45],tx (List.replicate (S+1).toNat 48),tx (List.replicate (S+3).toNat 49),V.ref p,V.ref p1,tx [32],tx [97],tx [79]]):=ah;show bW K [V.ref a,V.int k0,V.int 12] (upd (upd (upd H p (.lst [tx [48]])) p1 (.tup [tx [],tx [49]])) p2 (.lst [V.non,V.int 5,V.bl false,tx [50],tx [45],tx (List.replicate (S+1).toNat 48),tx (List.replicate (S+3).toNat 49),V.ref p,V.ref p1,tx [32],tx [97],tx [79]])) (fun y H2=>kIx K (V.ref p2) y H2 Q) E0;generalize upd (upd H p (.lst [tx [48]])) p1 (.tup [tx [],tx [49]])=H2 at s2 e2 hp2 s3 e3 ⊢;generalize upd H p (.lst [tx [48]])=H1 at s1 e1 hp1 s2 ⊢;generalize upd H2 p2 (.lst [V.non,V.int 5,V.bl false,tx [50],tx [45],tx (List.replicate (S+1).toNat 48),tx (List.replicate (S+3).toNat 49),V.ref p,V.ref p1,tx [32],tx [97],tx [79]])=H3 at s3 e3 ⊢;have s13:=s1.trans (s2.trans s3);refine aA (s13.seq hS) (by omega) (by omega) (by decide) (by decide) fun r hr'=>?_
 have hl:r < [V.non,V.int 5,V.bl false,tx [50],tx [45],tx (List.replicate (S+1).toNat 48),tx (List.replicate (S+3).toNat 49),V.ref p,V.ref p1,tx [32],tx [97],tx [79]].length:=by show r < 12; omega
 refine ⟨_,_,.inl (SqL.of e3),aI (List.getElem?_eq_getElem hl),?_⟩;have hm:=List.getElem_mem hl;generalize [V.non,V.int 5,V.bl false,tx [50],tx [45],tx (List.replicate (S+1).toNat 48),tx (List.replicate (S+3).toNat 49),V.ref p,V.ref p1,tx [32],tx [97],tx [79]][r]=v at hm ⊢;simp only [List.mem_cons,List.not_mem_nil,or_false] at hm;have hb10:10<=b:=by omega
 have rep:∀ (m:Int) (c:Nat),c < 16 ^ 8->m<=51->TxtOk b (List.replicate m.toNat c):=fun m c hc hm=>⟨fun x hx=>by rw [List.eq_of_mem_replicate hx]; exact hc,by rw [List.length_replicate]; omega⟩
 rcases hm with rfl | rfl | rfl | rfl | rfl | rfl | rfl | rfl | rfl | rfl | rfl | rfl
 case inr.inr.inr.inr.inr.inr.inr.inl=>exact o0 w q s13 hp ((s2.trans s3) _ _ e1) (ls:=[[48]]) (by simp; omega) fun l hl=>by rw [List.mem_singleton.mp hl]; exact jN hb10 (by decide) (by decide)
 case inr.inr.inr.inr.inr.inr.inr.inr.inl=>
  refine aW w q s13 (qY (ls:=[[],[49]]) (s3 _ _ e2) (by simp; omega) fun l hl=>?_);simp only [List.mem_cons,List.not_mem_nil,or_false] at hl;rcases hl with rfl | rfl <;> exact jN hb10 (by decide) (by decide)
 case inr.inr.inr.inr.inr.inl=>exact aW w q s13 (fS (rep _ _ (by decide) (by omega)))
 case inr.inr.inr.inr.inr.inr.inl=>exact aW w q s13 (fS (rep _ _ (by decide) (by omega)))
 ·exact aW w q s13 trivial
 ·exact aW w q s13 (.inr (.inl rfl))
 ·exact aW w q s13 trivial
 all_goals exact aW w q s13 (fS (jN hb10 (by decide) (by decide)))
noncomputable def gD (K:Frag):Sp:=fun vs H Q _=>match vs with
 | [.ref a,.int k,v]=>∃ (ns:List Int) (k0 b:Nat) (Γ:Kds),SqL K H a (ns.map V.int)/\k=(k0:Int)/\k0<=10000/\10<=b/\b<=99/\WT Γ H (b+1)/\OddV Γ H b v/\OddQ Γ H (b+1) Q
 | _=>False
structure OddF (l:List Nat) (k0 r1 c b:Nat):Prop where
 hk:k0<=10000
 r1:r1 < l.length
 ok:TxtOk b l
 c:c < 16 ^ 8
 b1:10<=b
 b9:b<=99
noncomputable def mOddR (K:Frag):TS:=fun D σ H=>∀ C:TS,(∀ (a:Addr) (ns:List Int) (k0 r1 c b:Nat) (l:List Nat) (Γ:Kds),SqL K H a (ns.map V.int)->OddF l k0 r1 c b->WT Γ H (b+1)->OddQ Γ H (b+1) D.rt->C D [some (.ref a),some (nV k0),some (tx l),some (nV r1),some (tx [c]),none] H)->C D σ H
theorem zH (T:Top K mg) {f:Addr} {cdv:Value} {A:Around} {outer:List Env} {s:Shared} {H₀:Hp} {E:XK} (hr:Room 1 (A.deeper (PyProof.Rows.envOfC "_law_odd_row" (defScope dg) s.heap.objs.size f cdv))):
  PSs (cxOf CX0 P w K mg base ["_law_script", "_law_k", "_law_row", "_law_at", "_law_sign", "_law_some"] "_law_odd_row" (defScope dg) f cdv A outer s H₀ E).nox ((defBody dg).drop 3) (mOddR K):=by
 refine tq (@ae _ _ _ _ _ (@ao _ _ 5 _ _ _ _ eU.nd rfl lc (@aL _ _ _ _ (@aa _ _ _ _ _ lE (@aa _ _ _ _ _ ad (@aa _ _ _ _ _ iy (@aa _ _ _ _ _ (qs []) (@aa _ _ _ _ _ (am ak (qv 2) (qs [48])) (@aa _ _ _ _ _ (dU (slE K rfl) (qv 2) (fu ad) fq) (@aa _ _ _ _ _ (am ak (am ak (dU (slE K rfl) (qv 2) fq (fu (qv 3))) (qv 4)) (dU (slE K rfl) (qv 2) (fu (am ak (qv 3) ad)) fq)) (@aa _ _ _ _ _ (@aL _ _ _ _ (@aa _ _ _ _ _ (qv 2) (@ac _) seN)) (@aa _ _ _ _ _ (@aX _ _ _ _ _ (@aa _ _ _ _ _ (qv 2) (@aa _ _ _ _ _ (qv 2) (@ac _) seN) seN)) (@aa _ _ _ _ _ (am ak (qs [45]) (qv 2)) (@ac _) seB) seT) seL) seB) seS) seB) seC) seC) seC) seC)) swL (by first | exact .inl rfl | exact .inr rfl))
   (af (aw (az (ixE K rfl) (qv 5) (aq (aj T) hr.m rfl (aa (qv 0) (aa (am ak (qv 1) ad) (aa ad ac)))) (fun _ _=>rfl))))) fun D σ H h=>h _ fun a ns k0 r1 c b l Γ hS F w q=>?_
 have hk:=F.hk;have hr1:=F.r1;have h1:=F.ok.2;have h2:=F.b1;have h3:=F.b9;have hlt:=List.length_take_le r1 l;have hld:(l.drop (r1+1)).length<=l.length:=by rw [List.length_drop]; omega
 have ht:((r1:Int)+1).toNat=r1+1:=by omega
 have l0:l.length<=100000:=by omega
 have l1:l.length+1<=100000:=by omega
 have l2:(1:Int)<=l.length:=by omega
 have l3:(r1:Int)<=l.length:=by omega
 have l4:(l.take r1).length+1<=100000:=by omega
 have l5:(r1:Int)+1<=l.length:=by omega
 have l6:(l.take r1++[c]).length+(l.drop (r1+1)).length<=100000:=by rw [List.length_append,List.length_singleton]; omega
 have l7:1+l.length<=100000:=by omega
 refine ⟨l1,l0,by decide,l2,l0,Int.natCast_nonneg r1,l3,l4,l0,Int.natCast_nonneg (r1+1),l5,l6,by show 1<=sizeLine; decide,fun p hp=>⟨by show 2<=sizeLine; decide,fun p1 hp1=>⟨l7,by show 10<=sizeLine; decide,fun p2 hp2=>?_⟩⟩⟩;have s1:=ai hp (.lst [tx l]);have e1:upd H p (.lst [tx l]) p=some (.lst [tx l]):=ah;have s2:=ai hp1 (.tup [tx l,tx l]);have e2:upd (upd H p (.lst [tx l])) p1 (.tup [tx l,tx l]) p1=some (.tup [tx l,tx l]):=ah;have s3:=ai hp2 (.lst [V.non,V.int 7,V.bl true,tx [],tx (l++[48]),tx (l.drop 1),tx (l.take r1++[c]++l.drop (r1+1)),V.ref p,V.ref p1,tx (45::l)]);have e3:upd (upd (upd H p (.lst [tx l])) p1 (.tup [tx l,tx l])) p2 (.lst [V.non,V.int 7,V.bl true,tx [],tx (l++[48]),tx (l.drop 1),tx (l.take r1++[c]++l.drop (r1+1)),V.ref p,V.ref p1,tx (45::l)]) p2=some (.lst [V.non,V.int 7,V.bl true,tx [],tx (l++[48]),tx (l.drop 1),tx (l.take r1++[c]++l.drop (r1+1)),V.ref p,V.ref p1,tx (45::l)]):=ah;show bW K [V.ref a,V.int ((k0:Int)+2),V.int 10] (upd (upd (upd H p (.lst [tx l])) p1 (.tup [tx l,tx l])) p2 (.lst [V.non,V.int 7,V.bl true,tx [],tx (l++[48]),tx (l.drop 1),tx (l.take r1++[c]++l.drop (r1+1)),V.ref p,V.ref p1,tx (45::l)])) (fun y H2=>kIx K (V.ref p2) y H2 D.rt) E0;generalize upd (upd H p (.lst [tx l])) p1 (.tup [tx l,tx l])=H2 at s2 e2 hp2 s3 e3 ⊢;generalize upd H p (.lst [tx l])=H1 at s1 e1 hp1 s2 ⊢;generalize upd H2 p2 (.lst [V.non,V.int 7,V.bl true,tx [],tx (l++[48]),tx (l.drop 1),tx (l.take r1++[c]++l.drop (r1+1)),V.ref p,V.ref p1,tx (45::l)])=H3 at s3 e3 ⊢;have s13:=s1.trans (s2.trans s3);refine aA (s13.seq hS) (by omega) (by omega) (by decide) (by decide) fun r hr'=>?_
 have hl:r < [V.non,V.int 7,V.bl true,tx [],tx (l++[48]),tx (l.drop 1),tx (l.take r1++[c]++l.drop (r1+1)),V.ref p,V.ref p1,tx (45::l)].length:=by show r < 10; omega
 refine ⟨_,_,.inl (SqL.of e3),aI (List.getElem?_eq_getElem hl),?_⟩;have hm:=List.getElem_mem hl;generalize [V.non,V.int 7,V.bl true,tx [],tx (l++[48]),tx (l.drop 1),tx (l.take r1++[c]++l.drop (r1+1)),V.ref p,V.ref p1,tx (45::l)][r]=v at hm ⊢;simp only [List.mem_cons,List.not_mem_nil,or_false] at hm;have cl:∀ x ∈ l,x < 16 ^ 8:=F.ok.1;have hc:=F.c;have ok1:TxtOk (b+1) l:=⟨cl,by omega⟩;have hb1:10<=b+1:=by omega
 rcases hm with rfl | rfl | rfl | rfl | rfl | rfl | rfl | rfl | rfl | rfl
 ·exact aW w q s13 trivial
 ·exact aW w q s13 (.inr (.inr rfl))
 ·exact aW w q s13 trivial
 ·exact aW w q s13 (fS (jN hb1 (by decide) (by decide)))
 ·refine aW w q s13 (fS ⟨fun x hx=>?_,by rw [List.length_append,List.length_singleton]; omega⟩);rcases List.mem_append.mp hx with z | z
  ·exact cl x z
  ·rw [List.mem_singleton.mp z]; decide
 ·exact aW w q s13 (fS ⟨fun x hx=>cl x (List.mem_of_mem_drop hx),by rw [List.length_drop]; omega⟩)
 ·refine aW w q s13 (fS ⟨fun x hx=>?_,by rw [List.length_append,List.length_append,List.length_singleton,List.length_drop]; omega⟩);simp only [List.mem_append,List.mem_singleton] at hx;rcases hx with (z | z) | z
  ·exact cl x (List.mem_of_mem_take z)
  ·rw [z]; exact hc
  ·exact cl x (List.mem_of_mem_drop z)
 ·exact o0 w q s13 hp ((s2.trans s3) _ _ e1) (ls:=[l]) (by simp) fun x hx=>by rw [List.mem_singleton.mp hx]; exact ok1
 ·refine aW w q s13 (qY (ls:=[l,l]) (s3 _ _ e2) (by simp; omega) fun x hx=>?_);simp only [List.mem_cons,List.not_mem_nil,or_false,or_self] at hx;rw [hx];exact ok1
 ·refine aW w q s13 (fS ⟨fun x hx=>?_,by rw [List.length_cons]; omega⟩);rcases List.mem_cons.mp hx with rfl | z
  ·decide
  ·exact cl x z
theorem jU (T:Top K mg):Callee P w K mg base 2 "_law_odd_row" ["_law_script", "_law_k", "_law_row"] (gD K):=by
 refine T.kC.cal eU (by intro vs H Q E h; unfold gD at h; split at h <;> first | rfl | exact h.elim) (fun _ _ _ _ _ _ us hl=>match us,hl with | [_,_,_],_=>rfl) (fun f cdv A outer s H vs Q E hr h=>?_);unfold gD at h;split at h
 case h_2=>exact h.elim
 refine ⟨_,(ae (aE (PW.pt (qI (gp (de (aZ .str rfl T.au (qv 2) rfl T.mz kj))) (oS (aB bz (qv 2) (qs []))))) (af (aw (qv 2))) ar)
   (ae (ao (i:=3) eU.nd rfl lc (aq (aj T) hr.m rfl (aa (qv 0) (aa (qv 1) (aa (av (lenE K rfl) rfl T.bv aN (aa (qv 2) ac)) ac)))))
   (ae (ao (i:=4) eU.nd rfl lc (az (ixE K rfl) (qs [50,32,120,79,111,42,43,46,97,95]) (aq (aj T) hr.m rfl (aa (qv 0) (aa (am ak (qv 1) ad) (aa ad ac)))) (fun _ _=>rfl)))
   (zH T hr)))),?_⟩
 rename_i a k v;obtain ⟨ns,k0,b,Γ,hS,rfl,hk,hb,hb9,w,o,q⟩:=h;have o':OddV Γ H (b+1) v:=dG (fun _ _ z=>z) (fun _ _ z=>z) (Nat.le_succ b) o;have q0:=aW w q (Same.refl _) o';cases v with
 | non=>exact q0
 | bl x=>exact q0
 | int i=>exact q0
 | ref p=>
  rcases o with h | ⟨ls,h1,h2,h3⟩
  ·obtain ⟨vs,e,_⟩:=w p _ h;exact .inl ⟨⟨_,e⟩,q0⟩
  ·exact .inr ⟨⟨_,h3⟩,q0⟩
 | str z=>
  obtain ⟨l,rfl⟩:∃ x,z=st x:=⟨_,(cC z).symm⟩;have o1:TxtOk b l:=by have:=o; rw [show OddV Γ H b (V.str (st l))=TxtOk b (st l).cps.toList from rfl,aM] at this; exact this
  have o2:=o1.2;walk_at "rd";refine ite2 (fun g=>q0) fun g=>?_
  have hl:1<=l.length:=by cases l with | nil=>exact absurd rfl g | cons _ _=>simp
  refine ⟨by omega,aA hS (by omega) (by omega) (by omega) (by omega) fun r1 hr1=>?_⟩;walk_at "rd";refine aA hS (by omega) (by omega) (by decide) (by decide) fun r2 hr2=>?_
  walk_at "rd";have h10:r2 < [50,32,120,79,111,42,43,46,97,95].length:=by show r2 < 10; omega
  exact ⟨_,aI (List.getElem?_eq_getElem h10),fun C hC=>hC a ns k0 r1 _ b l Γ hS ⟨hk,by omega,o1,(by decide:∀ x ∈ [50,32,120,79,111,42,43,46,97,95],x < 16 ^ 8) _ (List.getElem_mem h10),hb,hb9⟩ w q⟩
 | _=>exact o.elim
def Scr (K:Frag) (Γ:Kds) (H:Hp) (a:Addr) (xs:List V):Prop:=∀ Γ' H',Go Γ H Γ' H'->SqL K H' a xs
theorem Scr.go {Γ Γ':Kds} {H H':Hp} {a:Addr} {xs:List V} (h:Scr K Γ H a xs) (g:Go Γ H Γ' H'):Scr K Γ' H' a xs:=fun _ _ g'=>h _ _ (g.trans g')
theorem Scr.at {Γ:Kds} {H:Hp} {a:Addr} {xs:List V} (h:Scr K Γ H a xs):SqL K H a xs:=h _ _ (Go.refl _ _)
theorem Scr.seq {Γ:Kds} {H H':Hp} {a:Addr} {xs:List V} (h:Scr K Γ H a xs) (s:Same H H'):SqL K H' a xs:=h _ _ (Go.same s)
theorem Bn {Γ:Kds} {H:Hp} {a:Addr} {xs:List V} (h:SqL K H a xs) (n:∀ o,H a=some o->Γ a=none):Scr K Γ H a xs:=fun Γ' H' g=>by
 rcases h with (h | ⟨o,h⟩) | h
 ·exact .inl (.inl (g.out _ _ (n _ h) h).2)
 ·exact .inl (.inr ⟨o,(g.out _ _ (n _ h) h).2⟩)
 ·exact .inr h
def SpQ (Γ:Kds) (H:Hp) (b:Nat) (Q:VK):Prop:=∀ Γ' H',Go Γ H Γ' H'->WT Γ' H' (b+1)->Q .non H'
theorem lK {Γ:Kds} {H:Hp} {b:Nat} {k:Kd} {vs:List V} {v:V} {i:Nat} (h:LstAt Γ H b k vs) (e:El Γ H (b+1) k v):LstAt Γ H (b+1) k (insAt vs i v):=by
 refine ⟨?_,fun _ z=>?_,fun u hu=>?_⟩
 ·have:=h.1;unfold insAt;rw [List.length_append,List.length_cons,List.length_take,List.length_drop];omega
 ·have:=congrArg List.length z;unfold insAt at this;simp at this
 ·unfold insAt at hu;rcases List.mem_append.mp hu with z | z
  ·exact sY (fun _ _ z=>z) (fun _ _ z=>z) (Nat.le_succ b) (h.2.2 u (List.mem_of_mem_take z))
  ·rcases List.mem_cons.mp z with rfl | z
   ·exact e
   ·exact sY (fun _ _ z=>z) (fun _ _ z=>z) (Nat.le_succ b) (h.2.2 u (List.mem_of_mem_drop z))
theorem qX {Γ:Kds} {H:Hp} {b:Nat} {k:Kd} {vs:List V} {v:V} {i:Nat} (h:LstAt Γ H b k vs) (e:El Γ H b k v):LstAt Γ H b k (vs.set i v):=by
 refine ⟨by rw [List.length_set]; exact h.1,fun f z=>h.2.1 f ?_,fun u hu=>?_⟩
 ·have:=congrArg List.length z;rw [List.length_set] at this;exact List.eq_nil_of_length_eq_zero this
 ·rcases List.mem_or_eq_of_mem_set hu with z | z
  ·exact h.2.2 u z
  ·rw [z]; exact e
noncomputable def dR (K:Frag):Sp:=fun vs H Q _=>match vs with
 | [.ref a,.int k,.ref p,.int w]=>∃ (ns:List Int) (k0 b:Nat) (Γ:Kds),Scr K Γ H a (ns.map V.int)/\k=(k0:Int)/\k0<=10000/\Γ p=some .lay/\WT Γ H b/\b<=90/\SpQ Γ H b Q
 | _=>False
theorem km (T:Top K mg):Callee P w K mg base 2 "_law_spoil_layout" ["_law_script", "_law_k", "_law_layout_here", "_law_way"] (dR K):=by
 refine T.gF.cal bH (by intro vs H Q E h; unfold dR at h; split at h <;> first | rfl | exact h.elim) (fun _ _ _ _ _ _ us hl=>match us,hl with | [_,_,_,_],_=>rfl) (fun f cdv A outer s H vs Q E hr h=>?_);unfold dR at h;split at h
 case h_2=>exact h.elim
 refine ⟨_,(ae (ao (i:=4) bH.nd rfl lc (aq (aj T) hr.m rfl (aa (qv 0) (aa (am ak (qv 1) ad) (aa (av (lenE K rfl) rfl T.bv aN (aa (qv 2) ac)) ac)))))
   (ae (fO (az (ixE K rfl) (qv 2) (qv 4) (fun _ _=>rfl)) (seqE K rfl rfl (n:=2) (ap (al (i:=5) bH.nd rfl lc) (ap (al (i:=6) bH.nd rfl lc) aR))))
   (af (aE (aB bz (qv 3) ad) (af (aF (eE (qv 2) (aq (aj T) hr.m rfl (aa (qv 0) (aa (am ak (qv 1) ad) (aa (am ak (av (lenE K rfl) rfl T.bv aN (aa (qv 2) ac)) ad) ac)))) (aX (aa (qv 5) (aa (am ak ad (aq (aj T) hr.m rfl (aa (qv 0) (aa (am ak (qv 1) ad) (aa ad ac))))) ac)))))) (af (aE (aB bz (qv 3) ad) (af (fO (aX (aa (qv 5) (aa (az (ixE K rfl) (aL (aa ad (aa (Al ad) (aa (am mi ad (aq (aj T) hr.m rfl (aa (qv 0) (aa (am ak (qv 1) ad) (aa (am zC ad ad) ac))))) ac)))) (aq (aj T) hr.m rfl (aa (qv 0) (aa (am ak (qv 1) ad) (aa ad ac)))) (fun _ _=>rfl)) ac))) (qV (qv 2) (qv 4) mj (fun _=>rfl)))) (af (br PassesOwn.never rfl (bA rfl T.cF (av (lenE K rfl) rfl T.bv aN (aa (qv 2) ac))) (al (i:=4) bH.nd rfl lc) (af (aE (aB bz (az (ixE K rfl) (az (ixE K rfl) (qv 2) (qv 4) (fun _ _=>rfl)) ad (fun _ _=>rfl)) (qs [116,111])) (af (fO (aX (aa (az (ixE K rfl) (aL (aa (qs [116,111,111]) (aa (qs [116]) (aa (qs [111,116]) (aa (qs [102,114,111,109]) ac))))) (aq (aj T) hr.m rfl (aa (qv 0) (aa (am ak (qv 1) ad) (aa ad ac)))) (fun _ _=>rfl)) (aa (az (ixE K rfl) (az (ixE K rfl) (qv 2) (qv 4) (fun _ _=>rfl)) ad (fun _ _=>rfl)) ac))) (qV (qv 2) (qv 4) mj (fun _=>rfl)))) ar)))))))))),?_⟩
 rename_i a k p w';obtain ⟨ns,k0,b,Γ,hS,rfl,hk,hp,w,hb,q⟩:=h;obtain ⟨vs,e0,lv⟩:=w p _ hp;have hl:vs.length<=b:=lv.1;have hne:=lv.2.1 trivial;have hl1:1<=vs.length:=by cases vs with | nil=>exact absurd rfl hne | cons _ _=>simp
 walk_at "rd";refine ⟨_,.inl (SqL.of e0),aA hS.at (by omega) (by omega) (by omega) (by omega) fun r1 hr1=>?_⟩;have h1:r1 < vs.length:=by omega
 obtain ⟨t,n,i,ev,et,nk,i1,i2⟩:=lv.2.2 _ (List.getElem_mem h1);walk_at "rd";refine ⟨_,_,.inl (SqL.of e0),aI (List.getElem?_eq_getElem h1),?_⟩;rw [ev];refine ⟨[_,_],.inr (SqT.of et),rfl,_,[_],rfl,_,[],rfl,rfl,?_⟩;walk_at "rd";refine ite2 (fun g1=>?_) fun g1=>ite2 (fun g2=>?_) fun g2=>?_
 ·refine ⟨⟨_,e0⟩,_,.inl (SqL.of e0),aA hS.at (by omega) (by omega) (by omega) (by omega) fun r2 hr2=>?_⟩;refine aA hS.at (by omega) (by omega) (by decide) (by decide) fun r3 hr3=>?_
  walk_at "rd";refine ⟨by decide,fun t2 ht2=>?_⟩;have s2:=ai ht2 (.tup [tx n,.int (1+(r3:Int))]);have e2:upd H t2 (.tup [tx n,.int (1+(r3:Int))]) t2=some (.tup [tx n,.int (1+(r3:Int))]):=ah;generalize upd H t2 (.tup [tx n,.int (1+(r3:Int))])=H2 at s2 e2 ⊢;refine ⟨vs,r2,rfl,s2 _ _ e0,by omega,by omega,?_⟩;have w2:=w.same s2;obtain ⟨k1,k2⟩:=w2.put (Nat.le_succ b) hp (lK (i:=r2) (c8 (fun _ _ z=>z) (fun _ _ z=>s2 _ _ z) (Nat.le_refl b) lv) (v:=.ref t2) ⟨t2,n,_,rfl,e2,nk,by omega,by omega⟩);exact q _ _ ((Go.same s2).trans k2) k1
 ·refine ⟨by decide,?_⟩;rw [show ((10:Int) ^ Int.toNat 9)=1000000000 from by decide];refine aA hS.at (by omega) (by omega) (by decide) (by decide) fun r2 hr2=>?_
  walk_at "rd";refine ⟨by decide,fun p2 hp2=>?_⟩;have s2:=ai hp2 (.lst [V.int 0,V.int (-1),V.int (0 - (r2:Int))]);have e2:upd H p2 (.lst [V.int 0,V.int (-1),V.int (0 - (r2:Int))]) p2=some (.lst [V.int 0,V.int (-1),V.int (0 - (r2:Int))]):=ah;generalize upd H p2 (.lst [V.int 0,V.int (-1),V.int (0 - (r2:Int))])=H2 at s2 e2 ⊢;refine aA (hS.seq s2) (by omega) (by omega) (by decide) (by decide) fun r3 hr3=>?_
  have h3:r3 < [V.int 0,V.int (-1),V.int (0 - (r2:Int))].length:=by show r3 < 3; omega
  walk_at "rd";refine ⟨_,_,.inl (SqL.of e2),aI (List.getElem?_eq_getElem h3),by decide,fun t3 ht3=>?_⟩;have hm:=List.getElem_mem h3;generalize [V.int 0,V.int (-1),V.int (0 - (r2:Int))][r3]=v at hm ⊢;obtain ⟨z,rfl,z1,z2⟩:∃ z:Int,v=.int z /\ -1000000000<=z/\z<=48:=by
   simp only [List.mem_cons,List.not_mem_nil,or_false] at hm;rcases hm with rfl | rfl | rfl
   ·exact ⟨_,rfl,by decide,by decide⟩
   ·exact ⟨_,rfl,by decide,by decide⟩
   ·exact ⟨_,rfl,by omega,by omega⟩
  have s3:=ai ht3 (.tup [tx n,.int z]);have e3:upd H2 t3 (.tup [tx n,.int z]) t3=some (.tup [tx n,.int z]):=ah;generalize upd H2 t3 (.tup [tx n,.int z])=H3 at s3 e3 ⊢;have s23:=s2.trans s3;refine ⟨vs,r1,s23 _ _ e0,n6 h1,?_⟩;obtain ⟨k1,k2⟩:=(w.same s23).put (Nat.le_refl b) hp (qX (i:=r1) (c8 (fun _ _ z=>z) (fun _ _ z=>s23 _ _ z) (Nat.le_refl b) lv) (v:=.ref t3) ⟨t3,n,z,rfl,e3,nk,z1,z2⟩);exact q _ _ ((Go.same s23).trans k2) (k1.mono (Nat.le_succ b))
 ·refine ⟨_,.inl (SqL.of e0),by omega,by omega,?_⟩;rw [Int.toNat_natCast];refine c9 (lo:=0) (n:=vs.length) (fun j σ H'=>∃ u4,σ = [some (.ref a),some (.int k0),some (.ref p),some (.int w'),u4,some (tx n),some (.int i)]/\Go Γ H Γ H'/\WT Γ H' b/\∃ us,H' p=some (.lst us)/\us.length=vs.length) ⟨_,rfl,Go.refl _ _,w,vs,e0,rfl⟩ ?_ ?_
  ·rintro j σ H1 hj ⟨u4,rfl,g1,w1,us,eu,hul⟩;obtain ⟨us',eu',lu⟩:=w1 p _ hp;rw [eu] at eu';cases eu';have hju:j < us.length:=by omega
   obtain ⟨t2,n2,i2',ev2,et2,nk2,i3,i4⟩:=lu.2.2 _ (List.getElem_mem hju);walk_at "rd";refine ⟨_,_,.inl (SqL.of eu),aI (List.getElem?_eq_getElem hju),?_⟩;rw [ev2];refine ⟨_,_,.inr (SqT.of et2),rfl,?_⟩;walk_at "rd";refine ite2 (fun g3=>?_) fun g3=>⟨_,rfl,g1,w1,us,eu,hul⟩
   refine ⟨by decide,fun p2 hp2=>?_⟩;have s2:=ai hp2 (.lst ([[116,111,111],[116],[111,116],[102,114,111,109]].map tx));have e2:upd H1 p2 (.lst ([[116,111,111],[116],[111,116],[102,114,111,109]].map tx)) p2=some (.lst ([[116,111,111],[116],[111,116],[102,114,111,109]].map tx)):=ah;change bW K [V.ref a,V.int ((k0:Int)+2),V.int 4] (upd H1 p2 (.lst ([[116,111,111],[116],[111,116],[102,114,111,109]].map tx))) _ _;generalize upd H1 p2 (.lst ([[116,111,111],[116],[111,116],[102,114,111,109]].map tx))=H2 at s2 e2 ⊢;refine aA ((hS.go g1).seq s2) (by omega) (by omega) (by decide) (by decide) fun r2 hr2=>?_
   have h4:r2 < [[116,111,111],[116],[111,116],[102,114,111,109]].length:=by show r2 < 4; omega
   walk_at "rd";refine ⟨_,_,.inl (SqL.of e2),aI (by rw [List.getElem?_map,List.getElem?_eq_getElem h4]; rfl),?_⟩;have hnm:NmOk [[116,111,111],[116],[111,116],[102,114,111,109]][r2]:=by
    have:∀ x ∈ [[116,111,111],[116],[111,116],[102,114,111,109]],(∀ c ∈ x,c < 16 ^ 8)/\x.length<=100:=by decide
    exact this _ (List.getElem_mem h4)
   generalize [[116,111,111],[116],[111,116],[102,114,111,109]][r2]=n3 at hnm ⊢;refine ⟨_,_,.inl (SqL.of (s2 _ _ eu)),aI (List.getElem?_eq_getElem hju),?_⟩;rw [ev2];refine ⟨_,_,.inr (SqT.of (s2 _ _ et2)),rfl,by decide,fun t3 ht3=>?_⟩;have s3:=ai ht3 (.tup [tx n3,.int i2']);have e3:upd H2 t3 (.tup [tx n3,.int i2']) t3=some (.tup [tx n3,.int i2']):=ah;change ∃ xs j',upd H2 t3 (.tup [tx n3,.int i2']) p=some (.lst xs)/\_;generalize upd H2 t3 (.tup [tx n3,.int i2'])=H3 at s3 e3 ⊢;have s23:=s2.trans s3;refine ⟨us,j,s23 _ _ eu,n6 hju,?_⟩;obtain ⟨k1,k2⟩:=(w1.same s23).put (Nat.le_refl b) hp (qX (i:=j) (c8 (fun _ _ z=>z) (fun _ _ z=>s23 _ _ z) (Nat.le_refl b) lu) (v:=.ref t3) ⟨t3,n3,i2',rfl,e3,hnm,i3,i4⟩);exact ⟨_,rfl,g1.trans ((Go.same s23).trans k2),k1,_,ah,by rw [List.length_set]; exact hul⟩
  ·rintro σ H1 ⟨u4,rfl,g1,w1,_⟩;exact q _ _ g1 (w1.mono (Nat.le_succ b))
noncomputable def eK (K:Frag):Sp:=fun vs H Q _=>match vs with
 | [.ref a,.int k,.ref g,.int w]=>∃ (ns:List Int) (k0 b:Nat) (Γ:Kds) (ds:List (List Nat)),Scr K Γ H a (ns.map V.int)/\k=(k0:Int)/\k0<=9000/\Γ g=some (.gates ds)/\WT Γ H b/\10<=b/\b<=90/\SpQ Γ H b Q
 | _=>False
theorem kS (T:Top K mg):Callee P w K mg base 3 "_law_spoil_gates" ["_law_script", "_law_k", "_law_gates", "_law_way"] (eK K):=by
 refine T.iq.cal aG (by intro vs H Q E h; unfold eK at h; split at h <;> first | rfl | exact h.elim) (fun _ _ _ _ _ _ us hl=>match us,hl with | [_,_,_,_],_=>rfl) (fun f cdv A outer s H vs Q E hr h=>?_);unfold eK at h;split at h
 case h_2=>exact h.elim
 refine ⟨_,(ae (aE (aB (eqNilE K rfl (hu1 hr)) (qv 2) (aL ac)) (af va) ar)
   (ae (fO (az (ixE K rfl) (qv 2) (aq (aj T) hr.m rfl (aa (qv 0) (aa (am ak (qv 1) ad) (aa (av (lenE K rfl) rfl T.bv aN (aa (qv 2) ac)) ac)))) (fun _ _=>rfl)) (seqE K rfl rfl (n:=2) (ap (al (i:=4) aG.nd rfl lc) (ap (al (i:=5) aG.nd rfl lc) aR))))
   (af (aE (aB bz (qv 3) ad) (af (aF (eE (qv 2) (aq (aj T) hr.m rfl (aa (qv 0) (aa (am ak (qv 1) ad) (aa (am ak (av (lenE K rfl) rfl T.bv aN (aa (qv 2) ac)) ad) ac)))) (aX (aa (qv 4) (aa (aL ac) ac)))))) (af (aE (aB (neNilE K rfl (hu1 hr)) (qv 5) (aL ac)) (ae (ao (i:=6) aG.nd rfl lc (aq (aj T) hr.m rfl (aa (qv 0) (aa (am ak (qv 1) ad) (aa (av (lenE K rfl) rfl T.bv aN (aa (qv 5) ac)) ac)))))
   (ae (fO (az (ixE K rfl) (qv 5) (qv 6) (fun _ _=>rfl)) (seqE K rfl rfl (n:=3) (ap (al (i:=7) aG.nd rfl lc) (ap (al (i:=8) aG.nd rfl lc) (ap (al (i:=9) aG.nd rfl lc) aR)))))
   (ae (ao (i:=10) aG.nd rfl lc (am ak ad (aq (aj T) hr.m rfl (aa (qv 0) (aa (am ak (qv 1) ad) (aa ad ac))))))
   (dX (aE (aB bz (am fA (qv 10) ad) ad) (af (ao (i:=7) aG.nd rfl lc (aq (jU T) hr.m rfl (aa (qv 0) (aa (am ak (qv 1) ad) (aa (qv 7) ac)))))) ar)
   (dX (aE (aB bz (am fA (am jg (qv 10) ad) ad) ad) (af (ao (i:=8) aG.nd rfl lc (aq (mY T) hr.m rfl (aa (qv 0) (aa (am ak (qv 1) ad) ac))))) ar)
   (dX (aE (aB lI (qv 10) ad) (af (ao (i:=9) aG.nd rfl lc (aq (jU T) hr.m rfl (aa (qv 0) (aa (am ak (qv 1) ad) (aa (qv 9) ac)))))) ar)
   (af (fO (aX (aa (qv 7) (aa (qv 8) (aa (qv 9) ac)))) (qV (qv 5) (qv 6) mj (fun _=>rfl)))))))))) ar)))))),?_⟩
 rename_i a k g w';obtain ⟨ns,k0,b,Γ,ds,hS,rfl,hk,hg,w,hb1,hb,q⟩:=h;obtain ⟨vs,e0,lv⟩:=w g _ hg;have hl:vs.length<=b:=lv.1;walk_at "rd";refine ⟨Nat.zero_le _,fun p hp=>?_⟩;have s1:=ai hp (.lst []);have e1:upd H p (.lst []) p=some (.lst []):=ah;generalize upd H p (.lst [])=H1 at s1 e1 ⊢;have w1:=w.same s1;have hS1:=hS.go (Go.same s1);have e01:=s1 _ _ e0;have lv1:=c8 (fun _ _ z=>z) (fun _ _ z=>s1 _ _ z) (Nat.le_refl b) lv;refine ⟨vs,SqL.of e01,SqL.of e1,ite2 (fun g0=>q _ _ (Go.same s1) (w1.mono (Nat.le_succ b))) fun g0=>?_⟩;have hl1:1<=vs.length:=by cases vs with | nil=>exact absurd rfl g0 | cons _ _=>simp
 refine ⟨_,.inl (SqL.of e01),aA hS1.at (by omega) (by omega) (by omega) (by omega) fun r1 hr1=>?_⟩;have h1:r1 < vs.length:=by omega
 obtain ⟨t,n,r,ev,et,nm,nk,hr'⟩:=lv1.2.2 _ (List.getElem_mem h1);walk_at "rd";refine ⟨_,_,.inl (SqL.of e01),aI (List.getElem?_eq_getElem h1),?_⟩;rw [ev];refine ⟨[_,_],.inr (SqT.of et),rfl,_,[_],rfl,_,[],rfl,rfl,?_⟩;walk_at "rd";refine ite2 (fun g4=>?_) fun g4=>?_
 ·refine ⟨⟨_,e01⟩,_,.inl (SqL.of e01),aA hS1.at (by omega) (by omega) (by omega) (by omega) fun r2 hr2=>?_⟩;walk_at "rd";refine ⟨Nat.zero_le _,fun p2 hp2=>?_⟩;have s2:=ai hp2 (.lst []);have e2:upd H1 p2 (.lst []) p2=some (.lst []):=ah;obtain ⟨_,k1,k2⟩:=WT.new (w1.same s2) s2 w1 (k:=.rules) hp2 e2 ⟨by show 0<=_; omega,fun z=>z.elim,fun v hv=>by simp at hv⟩;generalize upd H1 p2 (.lst [])=H2 at s2 e2 k1 k2 ⊢;refine ⟨by decide,fun t3 ht3=>?_⟩;have s3:=ai ht3 (.tup [tx n,.ref p2]);have e3:upd H2 t3 (.tup [tx n,.ref p2]) t3=some (.tup [tx n,.ref p2]):=ah;generalize upd H2 t3 (.tup [tx n,.ref p2])=H3 at s3 e3 ⊢;have g13:=k2.trans (Go.same s3);refine ⟨vs,r2,rfl,s3 _ _ (s2 _ _ e01),by omega,by omega,?_⟩;obtain ⟨j1,j2⟩:=(k1.same s3).put (Nat.le_succ b) (g13.sub _ _ hg) (lK (i:=r2) (c8 g13.sub (fun _ _ z=>s3 _ _ (s2 _ _ z)) (Nat.le_refl b) lv1) (v:=.ref t3) ⟨t3,n,p2,rfl,e3,nm,nk,i9⟩);exact q _ _ ((Go.same s1).trans (g13.trans j2)) j1
 ·obtain ⟨rs,er,lr⟩:=w1 r _ hr';have hrl:rs.length<=b+300:=lr.1;refine ⟨Nat.zero_le _,fun p2 hp2=>?_⟩;have s2:=ai hp2 (.lst []);have e2:upd H1 p2 (.lst []) p2=some (.lst []):=ah;generalize upd H1 p2 (.lst [])=H2 at s2 e2 ⊢;have w2:=w1.same s2;have s12:=s1.trans s2;have hS2:=hS1.go (Go.same s2);have er2:=s2 _ _ er;have lr2:=c8 (fun _ _ z=>z) (fun _ _ z=>s2 _ _ z) (Nat.le_refl b) lr;walk_at "rd";refine ⟨rs,SqL.of er2,SqL.of e2,ite2 (fun g5=>q _ _ (Go.same s12) (w2.mono (Nat.le_succ b))) fun g5=>?_⟩;have hr1:1<=rs.length:=by cases rs with | nil=>exact absurd rfl g5 | cons _ _=>simp
  refine ⟨_,.inl (SqL.of er2),aA hS2.at (by omega) (by omega) (by omega) (by omega) fun r3 hr3=>?_⟩;have h3:r3 < rs.length:=by omega
  obtain ⟨t3,y7,y8,y9,ev3,et3,o7,o8,o9⟩:=lr2.2.2 _ (List.getElem_mem h3);walk_at "rd";refine ⟨_,_,.inl (SqL.of er2),aI (List.getElem?_eq_getElem h3),?_⟩;rw [ev3];refine ⟨[_,_,_],.inr (SqT.of et3),rfl,_,[_,_],rfl,_,[_],rfl,_,[],rfl,rfl,?_⟩;walk_at "rd";refine aA hS2.at (by omega) (by omega) (by decide) (by decide) fun r4 hr4=>?_
  walk_at "rd";have up0:∀ {v:V},OddV Γ H2 b v->OddV Γ H2 (b+1) v:=fun h=>dG (fun _ _ z=>z) (fun _ _ z=>z) (Nat.le_succ b) h
  refine ⟨fun σ' H'=>∃ (v7:V) (Γ3:Kds),σ'=[some (.ref a),some (.int k0),some (.ref g),some (.int w'),some (tx n),some (.ref r),some (.int (r3:Int)),some v7,some y8,some y9,some (.int (1+(r4:Int)))]/\Same H2 H'/\Go Γ H2 Γ3 H'/\WT Γ3 H' (b+1)/\OddV Γ3 H' (b+1) v7,?_,?_⟩
  ·refine ite2 (fun _=>?_) fun _=>⟨y7,Γ,rfl,Same.refl _,Go.refl _ _,w2.mono (Nat.le_succ b),up0 o7⟩
   exact ⟨ns,k0+4,b,Γ,hS2.at,by omega,by omega,hb1,by omega,w2.mono (Nat.le_succ b),o7,fun v Γ3 H3 s3 g3 w3 o3=>⟨v,Γ3,rfl,s3,g3,w3,o3⟩⟩
  rintro σ' H3 ⟨v7,Γ3,rfl,s3,g3,w3,o3⟩;walk_at "rd";refine ⟨fun σ' H'=>∃ (v8:V) (Γ4:Kds),σ'=[some (.ref a),some (.int k0),some (.ref g),some (.int w'),some (tx n),some (.ref r),some (.int (r3:Int)),some v7,some v8,some y9,some (.int (1+(r4:Int)))]/\Same H3 H'/\Go Γ3 H3 Γ4 H'/\WT Γ4 H' (b+1)/\OddV Γ4 H' (b+1) v8,?_,?_⟩
  ·refine ite2 (fun _=>?_) fun _=>⟨y8,Γ3,rfl,Same.refl _,Go.refl _ _,w3,dG g3.sub g3.tup (Nat.le_refl _) (up0 o8)⟩
   exact ⟨ns,k0+4,b+1,Γ3,(hS2.go g3).at,by omega,by omega,by omega,w3,fun v Γ4 H4 s4 g4 w4 o4=>⟨v,Γ4,rfl,s4,g4,w4,o4⟩⟩
  rintro σ' H4 ⟨v8,Γ4,rfl,s4,g4,w4,o4⟩;have g24:=g3.trans g4;walk_at "rd";refine ⟨fun σ' H'=>∃ (v9:V) (Γ5:Kds),σ'=[some (.ref a),some (.int k0),some (.ref g),some (.int w'),some (tx n),some (.ref r),some (.int (r3:Int)),some v7,some v8,some v9,some (.int (1+(r4:Int)))]/\Same H4 H'/\Go Γ4 H4 Γ5 H'/\WT Γ5 H' (b+1)/\OddV Γ5 H' (b+1) v9,?_,?_⟩
  ·refine ite2 (fun _=>?_) fun _=>⟨y9,Γ4,rfl,Same.refl _,Go.refl _ _,w4,dG g24.sub g24.tup (Nat.le_refl _) (up0 o9)⟩
   exact ⟨ns,k0+5,b,Γ4,(hS2.go g24).at,by omega,by omega,hb1,by omega,w4,dG g24.sub g24.tup (Nat.le_refl _) o9,fun v Γ5 H5 s5 g5 w5 o5=>⟨v,Γ5,rfl,s5,g5,w5,o5⟩⟩
  rintro σ' H5 ⟨v9,Γ5,rfl,s5,g5',w5,o5⟩;have g25:=g24.trans g5';have s25:=s3.trans (s4.trans s5);walk_at "rd";refine ⟨by decide,fun t6 ht6=>?_⟩;have s6:=ai ht6 (.tup [v7,v8,v9]);have e6:upd H5 t6 (.tup [v7,v8,v9]) t6=some (.tup [v7,v8,v9]):=ah;generalize upd H5 t6 (.tup [v7,v8,v9])=H6 at s6 e6 ⊢;have s26:=s25.trans s6;refine ⟨rs,r3,s26 _ _ er2,n6 h3,?_⟩;have g56:=g5'.trans (Go.same (Γ:=Γ5) s6);obtain ⟨j1,j2⟩:=(w5.same s6).put (Nat.le_refl (b+1)) (g25.sub _ _ hr') (qX (i:=r3) (c8 g25.sub (fun _ _ z=>s26 _ _ z) (Nat.le_succ b) lr2) (v:=.ref t6) ⟨t6,v7,v8,v9,rfl,e6,dG (g4.trans g56).sub (g4.trans g56).tup (Nat.le_refl _) o3,dG g56.sub g56.tup (Nat.le_refl _) o4,dG (fun _ _ z=>z) (fun _ _ z=>s6 _ _ z) (Nat.le_refl _) o5⟩);exact q _ _ ((Go.same s12).trans (g25.trans ((Go.same s6).trans j2))) j1
theorem x9 {pl ds:List (List Nat)} (nd:pl.Nodup) (h:ds.length+2<=pl.length):2<=(pl.filter fun n=>decide (n ∉ ds)).length:=by
 induction ds generalizing pl with
 | nil=>
  have e:pl.filter (fun n=>decide (n ∉ ([]:List (List Nat))))=pl:=List.filter_eq_self.mpr fun _ _=>by simp
  rw [e];simpa using h
 | cons d ds ih=>
  have e:pl.filter (fun n=>decide (n ∉ d::ds))=(pl.filter fun n=>decide (n≠d)).filter fun n=>decide (n ∉ ds):=by
   rw [List.filter_filter];congr 1;funext n;by_cases h1:n=d <;> by_cases h2:n ∈ ds <;> simp [h1,h2]
  rw [e];refine ih (nd.filter _) ?_;have e2:pl.filter (fun n=>decide (n≠d))=pl.erase d:=by
   rw [nd.erase_eq_filter];congr 1;funext n;by_cases h1:n=d <;> simp [h1]
  rw [e2,List.length_erase];simp only [List.length_cons] at h;split <;> omega
theorem n9 {α β:Type} (f:α -> β) (p:α -> Bool):∀ l:List α,l.flatMap (fun n=>if p n=true then [f n] else [])=(l.filter p).map f
 | []=>rfl
 | x::l=>by
  rw [List.flatMap_cons,n9 f p l,List.filter_cons];by_cases h:p x=true
  ·rw [if_pos h,if_pos h]; rfl
  ·rw [if_neg h,if_neg h]; rfl
theorem qr {α:Type} {p q:α -> Bool} (h:∀ x,p x=true->q x=true):∀ l:List α,(l.filter p).length<=(l.filter q).length
 | []=>Nat.le_refl _
 | x::l=>by
  have:=qr h l;rw [List.filter_cons,List.filter_cons];by_cases hp:p x=true
  ·rw [if_pos hp,if_pos (h x hp),List.length_cons,List.length_cons]; omega
  ·rw [if_neg hp];split
   ·rw [List.length_cons]; omega
   ·exact this
noncomputable def eX (K:Frag):Sp:=fun vs H Q _=>match vs with
 | [.ref a,.int k,.ref q0,.int w,.ref po,.int S]=>∃ (ns:List Int) (k0 b:Nat) (Γ:Kds) (ds pl:List (List Nat)) (g v:Addr),Scr K Γ H a (ns.map V.int)/\Scr K Γ H po (pl.map tx)/\pl.Nodup/\pl.length=5/\(∀ n ∈ pl,NmOk n)/\k=(k0:Int)/\k0<=9000/\H q0=some (.tup [.ref g,.ref v])/\Γ g=some (.gates ds)/\Γ v=some .ways/\ds.length<=3/\WT Γ H b/\60<=b/\b<=90 /\ -100000000000<=S/\S<=48/\SpQ Γ H b Q
 | _=>False
theorem lA (T:Top K mg):Callee P w K mg base 3 "_law_spoil_ways" ["_law_script", "_law_k", "_law_house_here", "_law_way", "_law_pool", "_law_size"] (eX K):=by
 refine T.iA.cal cz (by intro vs H Q E h; unfold eX at h; split at h <;> first | rfl | exact h.elim) (fun _ _ _ _ _ _ us hl=>match us,hl with | [_,_,_,_,_,_],_=>rfl) (fun f cdv A outer s H vs Q E hr h=>?_);unfold eX at h;split at h
 case h_2=>exact h.elim
 refine ⟨_,(ae (ao (i:=6) cz.nd rfl lc (az (ixE K rfl) (qv 2) ad (fun _ _=>rfl)))
   (ae (ao (i:=7) cz.nd rfl lc (bU (nt:=1) (fi:=[]) (N':=["_law_gate"]) rfl (cscope rfl (by decide +kernel)) (cnames (N:=["_law_script", "_law_k", "_law_house_here", "_law_way", "_law_pool", "_law_size", "_law_ways_here", "_law_doors", "_law_none", "_law_at"]) (sc:=defScope c7) rfl rfl (by decide +kernel)) (cE (by decide)) (iterE K rfl (az (ixE K rfl) (qv 2) ad (fun _ _=>rfl))) (fun _ _ _ _ _=>(al (i:=0) (by show (["_law_gate"]:List Str).Nodup; decide +kernel) rfl lc)) (fun _ _ _ _ _=>bC) (fun _ _ _ _ _=>(az (ixE K rfl) (qv 0) ad (fun _ _=>rfl)))))
   (ae (kK (i:=8) (nt:=1) (fi:=[7]) (N':=["_law_name", "_law_doors"]) cz.nd rfl lc rfl (cscope rfl (by decide +kernel)) (cnames (N:=["_law_script", "_law_k", "_law_house_here", "_law_way", "_law_pool", "_law_size", "_law_ways_here", "_law_doors", "_law_none", "_law_at"]) (sc:=defScope c7) rfl rfl (by decide +kernel)) (cE (by decide)) (iterE K rfl (qv 4)) (fun _ _ _ _ _=>(al (i:=0) (by show (["_law_name", "_law_doors"]:List Str).Nodup; decide +kernel) rfl lc)) (fun _ _ _ _ _=>(oq (aB (notinE K rfl) (qv 0) (qv 1)))) (fun _ _ _ _ _=>(qv 0)))
   (ae (ao (i:=9) cz.nd rfl lc (aq (aj T) hr.m rfl (aa (qv 0) (aa (am ak (qv 1) ad) (aa (am ak (av (lenE K rfl) rfl T.bv aN (aa (qv 6) ac)) ad) ac)))))
   (af (aE (aB bz (qv 3) ad) (af (aF (eE (qv 6) (qv 9) (aX (aa (aq (jZ T) hr.m rfl (aa (qv 0) (aa (am ak (qv 1) ad) (aa (qv 5) ac)))) (aa (az (ixE K rfl) (am ak (qv 7) (qv 8)) ad (fun _ _=>rfl)) ac)))))) (af (aE (PW.pt (xx (aB bz (qv 3) ad) (uU (aB (neNilE K rfl (hu1 hr)) (qv 6) (aL ac))))) (af (aF (eE (qv 6) (qv 9) (aX (aa (az (ixE K rfl) (az (ixE K rfl) (qv 6) (aq (aj T) hr.m rfl (aa (qv 0) (aa (am ak (qv 1) ad) (aa (av (lenE K rfl) rfl T.bv aN (aa (qv 6) ac)) ac)))) (fun _ _=>rfl)) ad (fun _ _=>rfl)) (aa (az (ixE K rfl) (am ak (qv 7) (qv 8)) (aq (aj T) hr.m rfl (aa (qv 0) (aa (am ak (qv 1) ad) (aa ad ac)))) (fun _ _=>rfl)) ac)))))) (af (aE (aB bz (qv 3) ad) (af (aF (eE (qv 6) (qv 9) (aX (aa (dU (slE K rfl) (qs [48,49]) fq (fu (aq (aj T) hr.m rfl (aa (qv 0) (aa (am ak (qv 1) ad) (aa ad ac)))))) (aa (az (ixE K rfl) (qv 8) (aq (aj T) hr.m rfl (aa (qv 0) (aa (am ak (qv 1) ad) (aa (av (lenE K rfl) rfl T.bv aN (aa (qv 8) ac)) ac)))) (fun _ _=>rfl)) ac)))))) ar)))))))))),?_⟩
 rename_i a k q0 w' po S;obtain ⟨ns,k0,b,Γ,ds,pl,g,v,hS,hP,pnd,pln,pnm,rfl,hk,eq,hg,hv,hds,w,hb1,hb,hS0,hS1,q⟩:=h;obtain ⟨gv,eg,lg⟩:=w g _ hg;obtain ⟨wv,ew,lw⟩:=w v _ hv;have hgl:gv.length<=b:=lg.1;have hwl:wv.length<=b:=lw.1;obtain ⟨dl,pd⟩:=jM (R:=fun n u=>(∃ t x,u=.ref t/\H t=some (.tup [tx n,x]))/\n ∈ ds/\NmOk n) fun u hu=>by
  obtain ⟨t,n,r,rfl,et,nm,nk,_⟩:=lg.2.2 u hu;exact ⟨n,⟨t,.ref r,rfl,et⟩,nm,nk⟩
 have hdl:=pd.length;have dsub:∀ n ∈ dl,n ∈ ds/\NmOk n:=fun n hn=>by
  obtain ⟨i,hi,rfl⟩:=List.getElem_of_mem hn;obtain ⟨y,_,hy⟩:=aD pd (List.getElem?_eq_getElem hi);exact hy.2
 walk_at "rd";refine ⟨_,_,.inr (SqT.of eq),rfl,?_⟩;walk_at "rd";refine ⟨_,_,.inr (SqT.of eq),rfl,?_⟩;walk_at "rd";refine .inl ⟨⟨_,SqL.of eg⟩,fun D0 hD0=>?_⟩;refine nG (fun x:List Nat=>x) (xs:=dl) eg (L2.Paired.mapP pd fun _ _ z=>z.1) (by omega) hD0 fun H1 s1 e1=>?_
 rw [show dl.map (fun x:List Nat=>x)=dl from List.map_id _] at e1;have hP1:=hP.seq s1;refine .inl ⟨⟨_,hP1⟩,fun D1 hD1=>?_⟩;refine fh (item:=tx) (xs:=pl) (h:=fun n=>if decide (n ∉ dl)=true then [tx n] else []) hD1 hP1 (by omega) (fun n=>by split <;> simp) ?_ ?_
 ·intro n H2 out non hn s2 ho hno;walk_at "rd";refine ⟨_,.inl (SqL.of (s2 _ _ e1)),rfl,eT _,?_⟩;rw [gj];by_cases hm:n ∈ dl
  ·rw [decide_eq_true hm];exact hno _ (by rw [if_neg (by simpa using hm)]) (Same.refl _)
  ·rw [decide_eq_false hm];exact ho _ _ (by rw [if_pos (by simpa using hm)]) (Same.refl _)
 intro H2 s2 e2;rw [n9] at e2;have s12:=s1.trans s2;have two:2<=(pl.filter fun n=>decide (n ∉ dl)).length:=Nat.le_trans (x9 (ds:=ds) pnd (by omega)) (qr (fun x hx=>by simp only [decide_eq_true_eq] at hx ⊢; exact fun z=>hx (dsub x z).1) pl);have nfl:∀ n ∈ pl.filter (fun n=>decide (n ∉ dl)),NmOk n:=fun n hn=>pnm n (List.mem_filter.mp hn).1
 have nlen:(pl.filter fun n=>decide (n ∉ dl)).length<=5:=by have:=List.length_filter_le (fun n=>decide (n ∉ dl)) pl; omega
 generalize pl.filter (fun n=>decide (n ∉ dl))=fl at e2 two nfl nlen;walk_at "rd";refine ⟨_,.inl (SqL.of (s12 _ _ ew)),aA (hS.seq s12) (by omega) (by omega) (by omega) (by omega) fun r1 hr1=>?_⟩;walk_at "rd";have ew2:=s12 _ _ ew;have fin:∀ (Γ3:Kds) (H3:Hp) (x:V) (n:List Nat),Go Γ H2 Γ3 H3->Same H2 H3->WT Γ3 H3 b->OddV Γ3 H3 b x->NmOk n->∀ t6,H3 t6=none->∃ (xs:List V) (kk:Nat),(r1:Int)=(kk:Int)/\upd H3 t6 (.tup [x,tx n]) v=some (.lst xs)/\kk<=xs.length/\xs.length < 100000/\Q .non (upd (upd H3 t6 (.tup [x,tx n])) v (.lst (insAt xs kk (.ref t6)))):=by
  intro Γ3 H3 x n g3 s3 w3 o3 hn t6 ht6;have s6:=ai ht6 (.tup [x,tx n]);refine ⟨wv,r1,rfl,s6 _ _ (s3 _ _ ew2),by omega,by omega,?_⟩;obtain ⟨j1,j2⟩:=(w3.same s6).put (Nat.le_succ b) (g3.sub _ _ hv) (lK (i:=r1) (c8 g3.sub (fun _ _ z=>s6 _ _ (s3 _ _ (s12 _ _ z))) (Nat.le_refl b) lw) (v:=.ref t6) ⟨t6,x,n,rfl,ah,dG (fun _ _ z=>z) (fun _ _ z=>s6 _ _ z) (Nat.le_succ b) o3,hn⟩);exact q _ _ ((Go.same s12).trans (g3.trans ((Go.same s6).trans j2))) j1
 have ncat:∀ (i:Nat),i < 2->∃ n,((dl.map tx)++(fl.map tx))[i]? = some (tx n)/\NmOk n:=fun i hi=>by
  rw [<- List.map_append];have hl:i < (dl++fl).length:=by rw [List.length_append]; omega
  refine ⟨(dl++fl)[i],by rw [List.getElem?_map,List.getElem?_eq_getElem hl]; rfl,?_⟩;rcases List.mem_append.mp (List.getElem_mem hl) with z | z
  ·exact (dsub _ z).2
  ·exact nfl _ z
 have big:(dl.map tx).length+(fl.map tx).length<=sizeLine:=by
  rw [List.length_map,List.length_map];exact Nat.le_of_lt (sizeBig (by omega))
 refine ite2 (fun g8=>?_) fun g8=>ite2 (fun g9=>?_) fun g9=>?_
 ·refine ⟨⟨_,ew2⟩,ns,k0+2,b,Γ,hS.seq s12,by omega,by omega,hb1,hS0,hS1,w.same s12,fun x Γ3 H3 s3 g3 w3 o3=>?_⟩;refine ⟨_,_,s3 _ _ (s2 _ _ e1),s3 _ _ e2,big,fun p4 hp4=>?_⟩;have s4:=ai hp4 (.lst (dl.map tx++fl.map tx));obtain ⟨n,en,hn⟩:=ncat 0 (by decide);refine ⟨_,tx n,.inl (SqL.of ah),aI en,by decide,fun t6 ht6=>?_⟩;exact fin Γ3 _ x n (g3.trans (Go.same s4)) (s3.trans s4) (w3.same s4) (dG (fun _ _ z=>z) (fun _ _ z=>s4 _ _ z) (Nat.le_refl _) o3) hn t6 ht6
 ·refine ⟨Nat.zero_le _,fun p3 hp3=>?_⟩;have s3:=ai hp3 (.lst []);have e3:upd H2 p3 (.lst []) p3=some (.lst []):=ah;generalize upd H2 p3 (.lst [])=H3 at s3 e3 ⊢;have s13:=s12.trans s3;refine ⟨wv,SqL.of (s3 _ _ ew2),SqL.of e3,ite2 (fun g0=>?_) fun g0=>?_⟩
  ·rw [if_neg (by omega)];exact q _ _ (Go.same s13) ((w.same s13).mono (Nat.le_succ b))
  ·have hl1:1<=wv.length:=by cases wv with | nil=>exact absurd rfl g0 | cons _ _=>simp
   refine ⟨⟨_,s3 _ _ ew2⟩,_,.inl (SqL.of (s3 _ _ ew2)),aA (hS.seq s13) (by omega) (by omega) (by omega) (by omega) fun r2 hr2=>?_⟩;have h2:r2 < wv.length:=by omega
   obtain ⟨t,x,n,ev,et,ox,_⟩:=lw.2.2 _ (List.getElem_mem h2);walk_at "rd";refine ⟨_,_,.inl (SqL.of (s3 _ _ ew2)),aI (List.getElem?_eq_getElem h2),?_⟩;rw [ev];refine ⟨_,_,.inr (SqT.of (s13 _ _ et)),rfl,?_⟩;refine ⟨_,_,s3 _ _ (s2 _ _ e1),s3 _ _ e2,big,fun p4 hp4=>?_⟩;have s4:=ai hp4 (.lst (dl.map tx++fl.map tx));have e4:upd H3 p4 (.lst (dl.map tx++fl.map tx)) p4=some (.lst (dl.map tx++fl.map tx)):=ah;generalize upd H3 p4 (.lst (dl.map tx++fl.map tx))=H4 at s4 e4 ⊢;have s14:=s13.trans s4;refine aA (hS.seq s14) (by omega) (by omega) (by decide) (by decide) fun r3 hr3=>?_
   obtain ⟨n3,en,hn⟩:=ncat r3 (by omega);walk_at "rd";refine ⟨_,tx n3,.inl (SqL.of e4),aI en,by decide,fun t6 ht6=>?_⟩;exact fin Γ H4 x n3 (Go.same (s3.trans s4)) (s3.trans s4) (w.same s14) (dG (fun _ _ z=>z) (fun _ _ z=>s14 _ _ z) (Nat.le_refl _) ox) hn t6 ht6
 ·refine ite2 (fun g10=>?_) fun g10=>q _ _ (Go.same s12) ((w.same s12).mono (Nat.le_succ b))
  refine ⟨⟨_,ew2⟩,aA (hS.seq s12) (by omega) (by omega) (by decide) (by decide) fun r2 hr2=>?_⟩;walk_at "rd";refine ⟨by omega,by omega,_,.inl (SqL.of e2),aA (hS.seq s12) (by omega) (by omega) (by rw [List.length_map]; omega) (by rw [List.length_map]; omega) fun r3 hr3=>?_⟩;rw [List.length_map] at hr3;have h3:r3 < fl.length:=by omega
  walk_at "rd";refine ⟨_,tx fl[r3],.inl (SqL.of e2),aI (by rw [List.getElem?_map,List.getElem?_eq_getElem h3]; rfl),by decide,fun t6 ht6=>?_⟩;refine fin Γ H2 _ fl[r3] (Go.refl _ _) (Same.refl _) (w.same s12) (fS ⟨fun c hc=>?_,?_⟩) (nfl _ (List.getElem_mem h3)) t6 ht6
  ·have:=List.mem_of_mem_take hc;simp only [List.mem_cons,List.not_mem_nil,or_false] at this;rcases this with rfl | rfl <;> decide
  ·have:=List.length_take_le (Int.toNat (r2:Int)) [48,49];omega
theorem vk {hs:List LNamed} (h:∀ x ∈ hs,NmOk x.1/\OkH x.2):∀ s ∈ spotsL (doorsN hs),NmOk s.1/\NmOk s.2:=fun s hs'=>by
 unfold spotsL doorsN at hs';obtain ⟨y,hy,hm⟩:=List.mem_flatMap.mp hs';obtain ⟨x,hx,rfl⟩:=List.mem_map.mp hy;obtain ⟨d,hd,rfl⟩:=List.mem_map.mp hm;obtain ⟨g,hg,rfl⟩:=List.mem_map.mp hd;exact ⟨(h x hx).1,(h x hx).2.door g hg⟩
noncomputable def eJ (K:Frag):Sp:=fun vs H Q _=>match vs with
 | [.ref a,.int k,.ref q0,.int w,.ref po]=>∃ (ns:List Int) (k0 b:Nat) (Γ:Kds) (pl:List (List Nat)) (la lh ll:Addr),Scr K Γ H a (ns.map V.int)/\Scr K Γ H po (pl.map tx)/\pl.length=5/\(∀ n ∈ pl,NmOk n)/\k=(k0:Int)/\k0<=9000/\NetK Γ H q0 la lh ll/\WT Γ H b/\b<=90/\SpQ Γ H b Q
 | _=>False
theorem kR (T:Top K mg):Callee P w K mg base 3 "_law_spoil_lines" ["_law_script", "_law_k", "_law_net_here", "_law_way", "_law_pool"] (eJ K):=by
 refine T.ik.cal aK (by intro vs H Q E h; unfold eJ at h; split at h <;> first | rfl | exact h.elim) (fun _ _ _ _ _ _ us hl=>match us,hl with | [_,_,_,_,_],_=>rfl) (fun f cdv A outer s H vs Q E hr h=>?_);unfold eJ at h;split at h
 case h_2=>exact h.elim
 refine ⟨_,(ae (ao (i:=5) aK.nd rfl lc (aq (iO T) hr.m rfl (aa (az (ixE K rfl) (qv 2) ad (fun _ _=>rfl)) ac)))
   (ae (aE (aB (eqNilE K rfl (hu1 hr)) (qv 5) (aL ac)) (af va) ar)
   (ae (ao (i:=6) aK.nd rfl lc (az (ixE K rfl) (qv 5) (aq (aj T) hr.m rfl (aa (qv 0) (aa (am ak (qv 1) ad) (aa (av (lenE K rfl) rfl T.bv aN (aa (qv 5) ac)) ac)))) (fun _ _=>rfl)))
   (ae (ao (i:=7) aK.nd rfl lc (qv 6))
   (dX (aE (aB bz (qv 3) ad) (af (ao (i:=7) aK.nd rfl lc (aX (aa (az (ixE K rfl) (aq (eN T) hr.m rfl (aa (qv 0) (aa ad (aa ad ac)))) ad (fun _ _=>rfl)) (aa (az (ixE K rfl) (qv 6) ad (fun _ _=>rfl)) ac))))) (af (aE (aB bz (qv 3) ad) (ae (ao (i:=8) aK.nd rfl lc (bU (nt:=1) (fi:=[6]) (N':=["_law_spot", "_law_own"]) rfl (cscope rfl (by decide +kernel)) (cnames (N:=["_law_script", "_law_k", "_law_net_here", "_law_way", "_law_pool", "_law_spots_here", "_law_own", "_law_bad", "_law_doors", "_law_none", "_law_other", "_law_line"]) (sc:=defScope cA) rfl rfl (by decide +kernel)) (cE (by decide)) (iterE K rfl (qv 5)) (fun _ _ _ _ _=>(al (i:=0) (by show (["_law_spot", "_law_own"]:List Str).Nodup; decide +kernel) rfl lc)) (fun _ _ _ _ _=>(oq (aB bz (az (ixE K rfl) (qv 0) ad (fun _ _=>rfl)) (az (ixE K rfl) (qv 1) ad (fun _ _=>rfl))))) (fun _ _ _ _ _=>(az (ixE K rfl) (qv 0) ad (fun _ _=>rfl)))))
   (ae (kK (i:=9) (nt:=1) (fi:=[8]) (N':=["_law_name", "_law_doors"]) aK.nd rfl lc rfl (cscope rfl (by decide +kernel)) (cnames (N:=["_law_script", "_law_k", "_law_net_here", "_law_way", "_law_pool", "_law_spots_here", "_law_own", "_law_bad", "_law_doors", "_law_none", "_law_other", "_law_line"]) (sc:=defScope cA) rfl rfl (by decide +kernel)) (cE (by decide)) (iterE K rfl (qv 4)) (fun _ _ _ _ _=>(al (i:=0) (by show (["_law_name", "_law_doors"]:List Str).Nodup; decide +kernel) rfl lc)) (fun _ _ _ _ _=>(oq (aB (notinE K rfl) (qv 0) (qv 1)))) (fun _ _ _ _ _=>(qv 0)))
   (af (aE (aB (neNilE K rfl (hu1 hr)) (qv 9) (aL ac)) (af (ao (i:=7) aK.nd rfl lc (aX (aa (az (ixE K rfl) (qv 6) ad (fun _ _=>rfl)) (aa (az (ixE K rfl) (qv 9) ad (fun _ _=>rfl)) ac))))) ar)))) ar)))
   (ae (ao (i:=10) aK.nd rfl lc (az (ixE K rfl) (qv 5) (aq (aj T) hr.m rfl (aa (qv 0) (aa (am ak (qv 1) ad) (aa (av (lenE K rfl) rfl T.bv aN (aa (qv 5) ac)) ac)))) (fun _ _=>rfl)))
   (ae (ao (i:=11) aK.nd rfl lc (az (ixE K rfl) (aL (aa (aX (aa (qv 7) (aa (qv 10) ac))) (aa (aX (aa (qv 10) (aa (qv 7) ac))) (aa (aX (aa (qv 7) (aa (qv 7) ac))) ac)))) (aq (aj T) hr.m rfl (aa (qv 0) (aa (am ak (qv 1) ad) (aa ad ac)))) (fun _ _=>rfl)))
   (af (aF (eE (az (ixE K rfl) (qv 2) ad (fun _ _=>rfl)) (aq (aj T) hr.m rfl (aa (qv 0) (aa (am ak (qv 1) ad) (aa (am ak (av (lenE K rfl) rfl T.bv aN (aa (az (ixE K rfl) (qv 2) ad (fun _ _=>rfl)) ac)) ad) ac)))) (qv 11))))))))))),?_⟩
 rename_i a k q0 w' po;obtain ⟨ns,k0,b,Γ,pl,la,lh,ll,hS,hP,pln,pnm,rfl,hk,nk,w,hb,q⟩:=h;obtain ⟨hs,th,hl,hok⟩:=qE w (by omega) nk.kh;obtain ⟨lv,el,lw⟩:=w ll _ nk.kl;have hll:lv.length<=b+500:=lw.1;have hnm:=vk hok;walk_at "rd";refine ⟨_,_,.inr (SqT.of nk.tup),rfl,?_⟩;walk_at "rd";refine ⟨doorsN hs,pf th,by unfold doorsN; rw [List.length_map]; omega,fun x hx=>?_,fun sq H1 hsq s1 hWs=>?_⟩
 ·unfold doorsN at hx;obtain ⟨y,hy,rfl⟩:=List.mem_map.mp hx;rw [List.length_map];exact (hok y hy).2.g
 have slen:=ot (hs:=doorsN hs) (c:=100) fun x hx=>by
  unfold doorsN at hx;obtain ⟨y,hy,rfl⟩:=List.mem_map.mp hx;rw [List.length_map];exact (hok y hy).2.g
 have dlen:(doorsN hs).length=hs.length:=by unfold doorsN; rw [List.length_map]
 obtain ⟨sv,es,ps⟩:=hWs;have hsl:=ps.length;generalize spotsL (doorsN hs)=sp at ps hnm slen hsl;have hsv:sv.length<=10000:=by omega
 walk_at "rd";refine ⟨Nat.zero_le _,fun p2 hp2=>?_⟩;have s2:=ai hp2 (.lst []);have e2:upd H1 p2 (.lst []) p2=some (.lst []):=ah;generalize upd H1 p2 (.lst [])=H2 at s2 e2 ⊢;have s12:=s1.trans s2;have es2:=s2 _ _ es;have ps2:=df (fun t us q=>s2 _ _ q) ps;refine ⟨sv,SqL.of es2,SqL.of e2,ite2 (fun g0=>q _ _ (Go.same s12) ((w.same s12).mono (Nat.le_succ b))) fun g0=>?_⟩;have hl1:1<=sv.length:=by cases sv with | nil=>exact absurd rfl g0 | cons _ _=>simp
 refine ⟨_,.inl (SqL.of es2),aA (hS.seq s12) (by omega) (by omega) (by omega) (by omega) fun r1 hr1=>?_⟩;have h1:r1 < sp.length:=by omega
 obtain ⟨vo,hvo,to,rfl,eto⟩:=aD ps2 (List.getElem?_eq_getElem h1);obtain ⟨no1,no2⟩:=hnm _ (List.getElem_mem h1);generalize sp[r1]=o at eto no1 no2;walk_at "rd";refine ⟨_,_,.inl (SqL.of es2),aI hvo,?_⟩;walk_at "rd";refine ⟨fun σ' H'=>∃ (x:Way) (vb:V) (u8 u9:Option V),σ'=[some (.ref a),some (.int k0),some (.ref q0),some (.int w'),some (.ref po),some (.ref sq),some (.ref to),some vb,u8,u9,none,none]/\Same H2 H'/\WayAt H' x vb/\NmOk x.1/\NmOk x.2,?_,?_⟩
 ·refine ite2 (fun g11=>?_) fun g11=>ite2 (fun g12=>?_) fun g12=>⟨o,_,none,none,rfl,Same.refl _,⟨to,rfl,eto⟩,no1,no2⟩
  ·refine ⟨ns,18,5,hS.seq s12,rfl,by decide,rfl,by decide,fun pm H3 nm hpm s3 e3 N2=>?_⟩;have h4:4 < nm.length:=by rw [N2.len]; decide
   walk_at "rd";refine ⟨_,tx nm[4],.inl (SqL.of e3),aI (j:=4) (by rw [List.getElem?_map,List.getElem?_eq_getElem h4]; rfl),?_⟩;refine ⟨_,_,.inr (SqT.of (s3 _ _ eto)),rfl,by decide,fun t4 ht4=>?_⟩;have hm:=List.getElem_mem h4;exact ⟨(nm[4],o.2),.ref t4,none,none,rfl,s3.trans (ai ht4 _),⟨t4,rfl,ah⟩,iJ (N2.low _ hm) (Nat.le_trans (N2.short _ hm).2 (by decide)),no2⟩
  ·obtain ⟨z1,z2⟩:=dE ps2;refine .inl ⟨⟨_,SqL.of es2⟩,fun D0 hD0=>?_⟩;refine fh (item:=fun x:Way × V=>x.2) (xs:=sp.zip sv) (h:=fun x=>if decide (x.1.1=o.1)=true then [tx x.1.2] else []) hD0 (by rw [z1]; exact SqL.of es2) (by rw [List.length_zip]; omega) (fun x=>by split <;> simp) ?_ ?_
   ·intro x H3 out non hx s3 ho hno;obtain ⟨t,ex,et⟩:=z2 x hx;rw [ex];walk_at "rd";refine ⟨_,_,.inr (SqT.of (s3 _ _ et)),rfl,_,_,.inr (SqT.of (s3 _ _ eto)),rfl,?_⟩;walk_at "rd";refine ite2 (fun g=>?_) fun g=>hno _ (by rw [if_neg (by simpa using g)]) (Same.refl _)
    exact ⟨_,_,.inr (SqT.of (s3 _ _ et)),rfl,ho _ _ (by rw [if_pos (by simpa using g)]) (Same.refl _)⟩
   intro H3 s3 e3;rw [n9 (fun x:Way × V=>tx x.1.2) (fun x=>decide (x.1.1=o.1)),show ((sp.zip sv).filter fun x=>decide (x.1.1=o.1)).map (fun x:Way × V=>tx x.1.2)=(((sp.zip sv).filter fun x=>decide (x.1.1=o.1)).map fun x:Way × V=>x.1.2).map tx by rw [List.map_map]; rfl] at e3;generalize ((sp.zip sv).filter fun x=>decide (x.1.1=o.1)).map (fun x:Way × V=>x.1.2)=dl at e3;have s13:=s12.trans s3;have hP3:=hP.seq s13;refine .inl ⟨⟨_,hP3⟩,fun D1 hD1=>?_⟩;refine fh (item:=tx) (xs:=pl) (h:=fun n=>if decide (n ∉ dl)=true then [tx n] else []) hD1 hP3 (by omega) (fun n=>by split <;> simp) ?_ ?_
   ·intro n H4 out non hn s4 ho hno;walk_at "rd";refine ⟨_,.inl (SqL.of (s4 _ _ e3)),rfl,eT _,?_⟩;rw [gj];by_cases hm:n ∈ dl
    ·rw [decide_eq_true hm];exact hno _ (by rw [if_neg (by simpa using hm)]) (Same.refl _)
    ·rw [decide_eq_false hm];exact ho _ _ (by rw [if_pos (by simpa using hm)]) (Same.refl _)
   intro H4 s4 e4;rw [n9] at e4;have nfl:∀ n ∈ pl.filter (fun n=>decide (n ∉ dl)),NmOk n:=fun n hn=>pnm n (List.mem_filter.mp hn).1
   generalize pl.filter (fun n=>decide (n ∉ dl))=fl at e4 nfl;refine ⟨Nat.zero_le _,fun p5 hp5=>?_⟩;have s5:=ai hp5 (.lst []);have e5:upd H4 p5 (.lst []) p5=some (.lst []):=ah;generalize upd H4 p5 (.lst [])=H5 at s5 e5 ⊢;have s25:=s3.trans (s4.trans s5);walk_at "rd";refine ⟨_,SqL.of (s5 _ _ e4),SqL.of e5,ite2 (fun g=>⟨o,_,_,_,rfl,s25,⟨to,rfl,s25 _ _ eto⟩,no1,no2⟩) fun g=>?_⟩;cases fl with
   | nil=>exact absurd rfl g
   | cons n fl=>
    refine ⟨_,_,.inr (SqT.of (s25 _ _ eto)),rfl,_,tx n,.inl (SqL.of (s5 _ _ e4)),aI (j:=0) rfl,by decide,fun t6 ht6=>?_⟩;exact ⟨(o.1,n),.ref t6,_,_,rfl,s25.trans (ai ht6 _),⟨t6,rfl,ah⟩,no1,nfl n List.mem_cons_self⟩
 rintro σ' H3 ⟨x,vb,u8,u9,rfl,s3,hx,nx1,nx2⟩;have s13:=s12.trans s3;have es3:=s3 _ _ es2;have ps3:=df (fun t us q=>s3 _ _ q) ps2;walk_at "rd";refine ⟨_,.inl (SqL.of es3),aA (hS.seq s13) (by omega) (by omega) (by omega) (by omega) fun r2 hr2=>?_⟩;have h2:r2 < sp.length:=by omega
 obtain ⟨vo2,hvo2,ho2⟩:=aD ps3 (List.getElem?_eq_getElem h2);obtain ⟨n1,n2⟩:=hnm _ (List.getElem_mem h2);generalize sp[r2]=y at ho2 n1 n2;walk_at "rd";refine ⟨_,_,.inl (SqL.of es3),aI hvo2,by decide,fun t4 ht4=>⟨by decide,fun t5 ht5=>⟨by decide,fun t6 ht6=>⟨by decide,fun p7 hp7=>?_⟩⟩⟩⟩;have s4:=ai ht4 (.tup [vb,vo2]);have e4:upd H3 t4 (.tup [vb,vo2]) t4=some (.tup [vb,vo2]):=ah;generalize upd H3 t4 (.tup [vb,vo2])=H4 at s4 e4 ht5 ht6 hp7 ⊢;have s5:=ai ht5 (.tup [vo2,vb]);have e5:upd H4 t5 (.tup [vo2,vb]) t5=some (.tup [vo2,vb]):=ah;generalize upd H4 t5 (.tup [vo2,vb])=H5 at s5 e5 ht6 hp7 ⊢;have s6:=ai ht6 (.tup [vb,vb]);have e6:upd H5 t6 (.tup [vb,vb]) t6=some (.tup [vb,vb]):=ah;generalize upd H5 t6 (.tup [vb,vb])=H6 at s6 e6 hp7 ⊢;have s7:=ai hp7 (.lst [V.ref t4,V.ref t5,V.ref t6]);have e7:upd H6 p7 (.lst [V.ref t4,V.ref t5,V.ref t6]) p7=some (.lst [V.ref t4,V.ref t5,V.ref t6]):=ah;generalize upd H6 p7 (.lst [V.ref t4,V.ref t5,V.ref t6])=H7 at s7 e7 ⊢;have s37:=s4.trans (s5.trans (s6.trans s7));have s17:=s13.trans s37;refine aA (hS.seq s17) (by omega) (by omega) (by decide) (by decide) fun r3 hr3=>?_
 have h3:r3 < [V.ref t4,V.ref t5,V.ref t6].length:=by show r3 < 3; omega
 walk_at "rd";refine ⟨_,_,.inl (SqL.of e7),aI (List.getElem?_eq_getElem h3),?_⟩;have hm:=List.getElem_mem h3;generalize [V.ref t4,V.ref t5,V.ref t6][r3]=vl at hm ⊢;have keepW:∀ {x:Way} {v:V} {H H':Hp},Same H H'->WayAt H x v->WayAt H' x v:=fun s ⟨t,e,h⟩=>⟨t,e,s _ _ h⟩
 have hx7:=keepW s37 hx;have hy7:=keepW s37 ho2;obtain ⟨l,hla,m1,m2,m3,m4⟩:∃ l:Line,LineAt H7 l vl/\NmOk l.1.1/\NmOk l.1.2/\NmOk l.2.1/\NmOk l.2.2:=by
  simp only [List.mem_cons,List.not_mem_nil,or_false] at hm;rcases hm with rfl | rfl | rfl
  ·exact ⟨(x,y),⟨t4,_,_,rfl,(s5.trans (s6.trans s7)) _ _ e4,hx7,hy7⟩,nx1,nx2,n1,n2⟩
  ·exact ⟨(y,x),⟨t5,_,_,rfl,(s6.trans s7) _ _ e5,hy7,hx7⟩,n1,n2,nx1,nx2⟩
  ·exact ⟨(x,x),⟨t6,_,_,rfl,s7 _ _ e6,hx7,hx7⟩,nx1,nx2,nx1,nx2⟩
 refine ⟨_,_,.inr (SqT.of (s17 _ _ nk.tup)),rfl,⟨_,s17 _ _ el⟩,?_⟩;refine ⟨_,_,.inr (SqT.of (s17 _ _ nk.tup)),rfl,?_⟩;walk_at "rd";refine ⟨_,.inl (SqL.of (s17 _ _ el)),aA (hS.seq s17) (by omega) (by omega) (by omega) (by omega) fun r4 hr4=>?_⟩;refine ⟨lv,r4,rfl,s17 _ _ el,by omega,by omega,?_⟩;obtain ⟨j1,j2⟩:=(w.same s17).put (Nat.le_succ b) nk.kl (lK (i:=r4) (c8 (fun _ _ z=>z) (fun _ _ z=>s17 _ _ z) (Nat.le_refl b) lw) (v:=vl) ⟨l,hla,m1,m2,m3,m4⟩);exact q _ _ ((Go.same s17).trans j2) j1
noncomputable def iW (K:Frag):Sp:=fun vs H Q _=>match vs with
 | [.ref p]=>∃ (n:Nat) (ls:List LFld),Th H (n+2) (.ref p) (.l (ls.map fldL))/\ls.length<=100/\(∀ x ∈ ls,-1000000000<=x.2/\x.2<=48)/\∀ t H' (x y:Int),H t=none->Same H H'->-1000000000<=y - x->y - x<=48->H' t=some (.tup [.int x,.int y])->Q (.ref t) H'
 | _=>False
theorem qi (T:Top K mg):Callee P w K mg base 1 "_law_span" ["_law_layout_here"] (iW K):=by
 refine T.kB.cal bD (by intro vs H Q E h; unfold iW at h; split at h <;> first | rfl | exact h.elim) (fun _ _ _ _ _ _ us hl=>match us,hl with | [_],_=>rfl) (fun f cdv A outer s H vs Q E hr h=>?_);unfold iW at h;split at h
 case h_2=>exact h.elim
 refine ⟨_,(ae (ao (i:=1) bD.nd rfl lc ad)
   (ae (br PassesOwn.never rfl (iterE K rfl (qv 0)) (tupE K rfl rfl (n:=2) (ap (al (i:=2) bD.nd rfl lc) (ap (al (i:=3) bD.nd rfl lc) aR))) (ae (aE (aB bz (qv 2) (qs [116,111])) (af (aw (aX (aa (qv 1) (aa (am ak (qv 1) (qv 3)) ac))))) ar)
   (af (ao (i:=1) bD.nd rfl lc (am ak (qv 1) (qv 3))))))
   (af (aw (aX (aa ad (aa ad ac))))))),?_⟩
 rename_i p;obtain ⟨n,ls,hT,hl100,hx,q⟩:=h;obtain ⟨_,vs,⟨⟩,e0,pr⟩:=eH hT;have hl:=pr.length;walk_at "rd";refine .inl ⟨⟨_,SqL.of e0⟩,?_⟩;refine bw (xs:=vs) (fun i σ H'=>∃ (z:Int) (u v:Option V),σ = [some (.ref p),some (.int z),u,v]/\Same H H') ⟨0,none,none,rfl,Same.refl _⟩ (fun i σ H' _ ⟨_,_,_,_,z⟩=>SqL.of (z _ _ e0)) ?_ ?_
 ·rintro i x σ H1 hx1 ⟨z,u,v,rfl,s1⟩;have hi:i < vs.length:=(List.getElem?_eq_some_iff.mp hx1).1;have hil:i < ls.length:=by omega
  obtain ⟨y,hy,th⟩:=aD pr (List.getElem?_eq_getElem hil);obtain ⟨t,v1,v2,ey,et,k1,k2⟩:=dZ th;obtain rfl:x=.ref t:=by rw [hy] at hx1; rw [<- Option.some.inj hx1,ey]
  obtain rfl:=dD k1;obtain rfl:=dD k2;obtain ⟨i1,i2⟩:=hx _ (List.getElem_mem hil);refine ⟨t,[_,_],rfl,SqT.of (s1 _ _ et),rfl,_,[_],rfl,_,[],rfl,rfl,?_⟩;walk_at "rd";refine ite2 (fun g=>⟨by decide,fun t2 ht2=>?_⟩) fun g=>⟨_,_,_,rfl,s1⟩
  exact q t2 _ z (z+ls[i].2) (s1.free ht2) (s1.trans (ai ht2 _)) (by omega) (by omega) ah
 ·rintro σ H1 ⟨z,u,v,rfl,s1⟩;walk_at "rd";exact ⟨by decide,fun t2 ht2=>q t2 _ 0 0 (s1.free ht2) (s1.trans (ai ht2 _)) (by decide) (by decide) ah⟩
noncomputable def iQ (K:Frag):Sp:=fun vs H Q _=>match vs with
 | [.ref a,.int k,.ref q0,.ref po]=>∃ (ns:List Int) (k0 b:Nat) (Γ:Kds) (pl:List (List Nat)) (la lh ll:Addr),Scr K Γ H a (ns.map V.int)/\Scr K Γ H po (pl.map tx)/\pl.Nodup/\pl.length=5/\(∀ n ∈ pl,NmOk n)/\k=(k0:Int)/\k0<=9000/\NetK Γ H q0 la lh ll/\WT Γ H b/\60<=b/\b<=90/\SpQ Γ H b Q
 | _=>False
theorem qc (T:Top K mg):Callee P w K mg base 12 "_law_spoil" ["_law_script", "_law_k", "_law_net_here", "_law_pool"] (iQ K):=by
 refine T.mm.cal da (by intro vs H Q E h; unfold iQ at h; split at h <;> first | rfl | exact h.elim) (fun _ _ _ _ _ _ us hl=>match us,hl with | [_,_,_,_],_=>rfl) (fun f cdv A outer s H vs Q E hr h=>?_);unfold iQ at h;split at h
 case h_2=>exact h.elim
 refine ⟨_,(ae (ao (i:=4) da.nd rfl lc (aq (aj T) hr.m rfl (aa (qv 0) (aa (qv 1) (aa ad ac)))))
   (ae (ao (i:=5) da.nd rfl lc (az (ixE K rfl) (qv 2) ad (fun _ _=>rfl)))
   (ae (ao (i:=6) da.nd rfl lc (az (ixE K rfl) (qv 5) (aq (aj T) hr.m rfl (aa (qv 0) (aa (am ak (qv 1) ad) (aa (av (lenE K rfl) rfl T.bv aN (aa (qv 5) ac)) ac)))) (fun _ _=>rfl)))
   (af (aE (aB pF (qv 4) ad) (af (aF (aq (km T) hr.m rfl (aa (qv 0) (aa (qv 1) (aa (az (ixE K rfl) (qv 2) ad (fun _ _=>rfl)) (aa (qv 4) ac))))))) (af (aE (aB bz (qv 4) ad) (ae (ao (i:=7) da.nd rfl lc (az (ixE K rfl) (az (ixE K rfl) (qv 5) (aq (aj T) hr.m rfl (aa (qv 0) (aa (am ak (qv 1) ad) (aa (av (lenE K rfl) rfl T.bv aN (aa (qv 5) ac)) ac)))) (fun _ _=>rfl)) ad (fun _ _=>rfl)))
   (af (aF (eE (qv 5) (aq (aj T) hr.m rfl (aa (qv 0) (aa (am ak (qv 1) ad) (aa (am ak (av (lenE K rfl) rfl T.bv aN (aa (qv 5) ac)) ad) ac)))) (aX (aa (qv 7) (aa (aq (jI T) hr.m rfl (aa (az (ixE K rfl) (qv 6) ad (fun _ _=>rfl)) ac)) ac))))))) (af (aE (aB pF (qv 4) ad) (af (aF (aq (kS T) hr.m rfl (aa (qv 0) (aa (qv 1) (aa (az (ixE K rfl) (az (ixE K rfl) (qv 6) ad (fun _ _=>rfl)) ad (fun _ _=>rfl)) (aa (qv 4) ac))))))) (af (aE (aB pF (qv 4) ad) (ae (fO (aq (qi T) hr.m rfl (aa (az (ixE K rfl) (qv 2) ad (fun _ _=>rfl)) ac)) (seqE K rfl rfl (n:=2) (ap (al (i:=8) da.nd rfl lc) (ap (al (i:=9) da.nd rfl lc) aR))))
   (af (aF (aq (lA T) hr.m rfl (aa (qv 0) (aa (qv 1) (aa (az (ixE K rfl) (qv 6) ad (fun _ _=>rfl)) (aa (qv 4) (aa (qv 3) (aa (am mi (qv 9) (qv 8)) ac)))))))))) (af (aF (aq (kR T) hr.m rfl (aa (qv 0) (aa (qv 1) (aa (qv 2) (aa (qv 4) (aa (qv 3) ac))))))))))))))))))),?_⟩
 rename_i a k q0 po;obtain ⟨ns,k0,b,Γ,pl,la,lh,ll,hS,hP,pnd,pln,pnm,rfl,hk,nk,w,hb1,hb,q⟩:=h;obtain ⟨hv,eh,lw⟩:=w lh _ nk.kh;have hl:hv.length<=b:=lw.1;have hne:=lw.2.1 trivial;have hl1:1<=hv.length:=by cases hv with | nil=>exact absurd rfl hne | cons _ _=>simp
 walk_at "rd";refine aA hS.at (by omega) (by omega) (by decide) (by decide) fun r1 hr1=>?_
 walk_at "rd";refine ⟨_,_,.inr (SqT.of nk.tup),rfl,?_⟩;walk_at "rd";refine ⟨_,.inl (SqL.of eh),aA hS.at (by omega) (by omega) (by omega) (by omega) fun r2 hr2=>?_⟩;have h2:r2 < hv.length:=by omega
 obtain ⟨t,n,hq,g,v,ds,ev,et,nkn,eq,hg,hvk,hds⟩:=lw.2.2 _ (List.getElem_mem h2);walk_at "rd";refine ⟨_,_,.inl (SqL.of eh),aI (List.getElem?_eq_getElem h2),?_⟩;rw [ev];refine ite2 (fun g1=>?_) fun g1=>ite2 (fun g2=>?_) fun g2=>ite2 (fun g3=>?_) fun g3=>ite2 (fun g4=>?_) fun g4=>?_
 ·refine ⟨_,_,.inr (SqT.of nk.tup),rfl,?_⟩;walk_at "rd";exact ⟨ns,k0,b,Γ,hS,rfl,by omega,nk.ka,w,hb,q⟩
 ·refine ⟨_,.inl (SqL.of eh),aA hS.at (by omega) (by omega) (by omega) (by omega) fun r3 hr3=>?_⟩;have h3:r3 < hv.length:=by omega
  obtain ⟨t3,n3,_,_,_,_,ev3,et3,nk3,_⟩:=lw.2.2 _ (List.getElem_mem h3);walk_at "rd";refine ⟨_,_,.inl (SqL.of eh),aI (List.getElem?_eq_getElem h3),?_⟩;rw [ev3];refine ⟨_,_,.inr (SqT.of et3),rfl,⟨_,eh⟩,_,.inl (SqL.of eh),aA hS.at (by omega) (by omega) (by omega) (by omega) fun r4 hr4=>?_⟩;refine ⟨_,_,.inr (SqT.of et),rfl,?_⟩;obtain ⟨hh,th,okb⟩:=sG w (by omega) eq hg hvk;refine ⟨6,houseL hh,[],by decide,th,fun v' H1 τ s1 f1 t1=>?_⟩;obtain ⟨Γ1,q1,g1',v1,rfl,eq1,w1,go1,k1,k2⟩:=rM w s1 t1 f1 okb;refine ⟨by decide,fun t5 ht5=>?_⟩;have s5:=ai ht5 (.tup [tx n3,.ref q1]);have e5:upd H1 t5 (.tup [tx n3,.ref q1]) t5=some (.tup [tx n3,.ref q1]):=ah;generalize upd H1 t5 (.tup [tx n3,.ref q1])=H5 at s5 e5 ⊢;refine ⟨hv,r4,rfl,s5 _ _ (s1 _ _ eh),by omega,by omega,?_⟩;obtain ⟨j1,j2⟩:=(w1.same s5).put (Nat.le_succ b) (go1.sub _ _ nk.kh) (lK (i:=r4) (c8 go1.sub (fun _ _ z=>s5 _ _ (s1 _ _ z)) (Nat.le_refl b) lw) (v:=.ref t5) ⟨t5,n3,q1,g1',v1,ds,rfl,e5,nk3,s5 _ _ eq1,k1,k2,hds⟩);exact q _ _ (go1.trans ((Go.same s5).trans j2)) j1
 ·refine ⟨_,_,.inr (SqT.of et),rfl,?_⟩;walk_at "rd";refine ⟨_,_,.inr (SqT.of eq),rfl,?_⟩;walk_at "rd";exact ⟨ns,k0,b,Γ,ds,hS,rfl,by omega,hg,w,by omega,hb,q⟩
 ·refine ⟨_,_,.inr (SqT.of nk.tup),rfl,?_⟩;obtain ⟨ls,tl,ll1,_,lo⟩:=wS w (by omega) nk.ka 0;refine ⟨0,ls,tl,by omega,fun x hx=>(lo x hx).2,fun t1 H1 x y ht1 s1 y1 y2 e1=>?_⟩;refine ⟨[_,_],.inr (SqT.of e1),rfl,_,[_],rfl,_,[],rfl,rfl,?_⟩;walk_at "rd";refine ⟨_,_,.inr (SqT.of (s1 _ _ et)),rfl,?_⟩;walk_at "rd";refine ⟨ns,k0,b,Γ,ds,pl,g,v,hS.go (Go.same s1),hP.go (Go.same s1),pnd,pln,pnm,rfl,by omega,s1 _ _ eq,hg,hvk,hds,w.same s1,hb1,hb,by omega,by omega,fun Γ' H' g' w'=>q Γ' H' ((Go.same s1).trans g') w'⟩
 ·exact ⟨ns,k0,b,Γ,pl,la,lh,ll,hS,hP,pln,pnm,rfl,by omega,nk,w,hb,q⟩
noncomputable def marksI (i:Nat):List V:=[.bl (i == 0),.bl (i == 1),.bl (i == 2),.bl (i == 3),.bl (i == 4),.bl false,.bl false,.bl false,.bl (i == 8),.bl false,.bl true]
structure MK (K:Frag) (c:Str) (i:Nat):Prop where
 cl:XCl K (xA K c)
 m0:Xm K c "BadWord" (i == 0)
 m1:Xm K c "Misfit" (i == 1)
 m2:Xm K c "NoDoor" (i == 2)
 m3:Xm K c "NoField" (i == 3)
 m4:Xm K c "NoHouse" (i == 4)
 m5:Xm K c "NoLine" false
 m6:Xm K c "NoRule" false
 m7:Xm K c "NoWay" false
 m8:Xm K c "Twice" (i == 8)
 m9:Xm K c "Unlike" false
 v:Xv K c
 th:Xm K c "ThrongError" true
noncomputable def iY (K:Frag):Sp:=fun vs H Q _=>match vs with
 | [.ref ea]=>∃ (c:Str) (i:Nat),H ea=some (XO (xA K c) ea)/\MK K c i/\∀ p H',H p=none->Same H H'->H' p=some (.lst (marksI i))->Q (.ref p) H'
 | _=>False
theorem pU (T:Top K mg):CalleeH P w K mg base 1 "_law_marks" ["_law_e"] (iY K):=by
 refine T.mG.calH i7 (by intro vs H Q E h; unfold iY at h; split at h <;> first | rfl | exact h.elim) (fun _ _ _ _ _ _ us hl=>match us,hl with | [_],_=>rfl) (fun f cdv A outer s H vs Q E hr h=>?_);unfold iY at h;split at h
 case h_2=>exact h.elim
 refine ⟨_,(ae (ao (i:=1) i7.nd rfl lc (aL (aa (fF K rfl rfl rfl T.au (qv 0) (i6 T.gQ rfl)) (aa (fF K rfl rfl rfl T.au (qv 0) (i6 T.dJ rfl)) (aa (fF K rfl rfl rfl T.au (qv 0) (i6 T.jh rfl)) (aa (fF K rfl rfl rfl T.au (qv 0) (i6 T.fj rfl)) ac))))))
   (ae (ao (i:=1) i7.nd rfl lc (am ak (qv 1) (aL (aa (fF K rfl rfl rfl T.au (qv 0) (i6 T.gR rfl)) (aa (fF K rfl rfl rfl T.au (qv 0) (i6 T.pN rfl)) (aa (fF K rfl rfl rfl T.au (qv 0) (i6 T.pK rfl)) (aa (fF K rfl rfl rfl T.au (qv 0) (i6 T.rW rfl)) ac)))))))
   (af (aw (am ak (qv 1) (aL (aa (fF K rfl rfl rfl T.au (qv 0) (i6 T.kP rfl)) (aa (fF K rfl rfl rfl T.au (qv 0) (i6 T.pL rfl)) (aa (fF K rfl rfl rfl T.au (qv 0) (Ab rfl T.mw ql)) ac))))))))),?_⟩
 rename_i ea;obtain ⟨c,i,e0,⟨xc,m0,m1,m2,m3,m4,m5,m6,m7,m8,m9,v,_⟩,q⟩:=h;walk_at "rd";refine ⟨_,_,e0,xc,Xn.kit m0 T.gQ,_,_,e0,xc,Xn.kit m1 T.dJ,_,_,e0,xc,Xn.kit m2 T.jh,_,_,e0,xc,Xn.kit m3 T.fj,by decide,fun p1 hp1=>?_⟩;have s1:=ai hp1 (.lst [.bl (i == 0),.bl (i == 1),.bl (i == 2),.bl (i == 3)]);have f1:upd H p1 (.lst [.bl (i == 0),.bl (i == 1),.bl (i == 2),.bl (i == 3)]) p1=some (.lst [.bl (i == 0),.bl (i == 1),.bl (i == 2),.bl (i == 3)]):=ah;have x1:=s1 _ _ e0;generalize upd H p1 (.lst [.bl (i == 0),.bl (i == 1),.bl (i == 2),.bl (i == 3)])=H1 at s1 f1 x1 ⊢;walk_at "rd";refine ⟨_,_,x1,xc,Xn.kit m4 T.gR,_,_,x1,xc,Xn.kit m5 T.pN,_,_,x1,xc,Xn.kit m6 T.pK,_,_,x1,xc,Xn.kit m7 T.rW,by decide,fun p2 hp2=>?_⟩;have s2:=ai hp2 (.lst [.bl (i == 4),.bl false,.bl false,.bl false]);have f2:upd H1 p2 (.lst [.bl (i == 4),.bl false,.bl false,.bl false]) p2=some (.lst [.bl (i == 4),.bl false,.bl false,.bl false]):=ah;have f12:=s2 _ _ f1;generalize upd H1 p2 (.lst [.bl (i == 4),.bl false,.bl false,.bl false])=H2 at s2 f2 f12 ⊢;walk_at "rd";refine ⟨[.bl (i == 0),.bl (i == 1),.bl (i == 2),.bl (i == 3)],[.bl (i == 4),.bl false,.bl false,.bl false],f12,f2,Nat.le_of_lt (sizeBig (by simp)),fun p3 hp3=>?_⟩;have s3:=ai hp3 (.lst [.bl (i == 0),.bl (i == 1),.bl (i == 2),.bl (i == 3),.bl (i == 4),.bl false,.bl false,.bl false]);have f3:upd H2 p3 (.lst [.bl (i == 0),.bl (i == 1),.bl (i == 2),.bl (i == 3),.bl (i == 4),.bl false,.bl false,.bl false]) p3=some (.lst [.bl (i == 0),.bl (i == 1),.bl (i == 2),.bl (i == 3),.bl (i == 4),.bl false,.bl false,.bl false]):=ah;have s13:=s1.trans (s2.trans s3);have x3:=s13 _ _ e0;walk_at "rd";generalize upd H2 p3 (.lst [.bl (i == 0),.bl (i == 1),.bl (i == 2),.bl (i == 3),.bl (i == 4),.bl false,.bl false,.bl false])=H3 at s3 f3 s13 x3 ⊢;refine ⟨_,_,x3,xc,Xn.kit m8 T.kP,_,_,x3,xc,Xn.kit m9 T.pL,_,_,x3,xc,Xv.kit v,by decide,fun p4 hp4=>?_⟩;have s4:=ai hp4 (.lst [.bl (i == 8),.bl false,.bl true]);have f4:upd H3 p4 (.lst [.bl (i == 8),.bl false,.bl true]) p4=some (.lst [.bl (i == 8),.bl false,.bl true]):=ah;have f34:=s4 _ _ f3;generalize upd H3 p4 (.lst [.bl (i == 8),.bl false,.bl true])=H4 at s4 f4 f34 ⊢;walk_at "rd";refine ⟨[.bl (i == 0),.bl (i == 1),.bl (i == 2),.bl (i == 3),.bl (i == 4),.bl false,.bl false,.bl false],[.bl (i == 8),.bl false,.bl true],f34,f4,Nat.le_of_lt (sizeBig (by simp)),fun p5 hp5=>?_⟩;exact q p5 _ (s13.free (s4.free hp5)) (s13.trans (s4.trans (ai hp5 _))) ah
noncomputable def classL:List (List Nat):=[[66,97,100,87,111,114,100],[77,105,115,102,105,116],[78,111,68,111,111,114],[78,111,70,105,101,108,100],[78,111,72,111,117,115,101],[78,111,76,105,110,101],[78,111,82,117,108,101],[78,111,87,97,121],[84,119,105,99,101],[85,110,108,105,107,101]]
noncomputable def clsL (i:Nat):List Nat:=classL.getD i []
def IsC (i:Nat):Prop:=i=0\/i=1\/i=2\/i=3\/i=4\/i=8
noncomputable def fH (K:Frag):Sp:=fun vs H Q _=>match vs with
 | [.str n]=>∃ i:Nat,IsC i/\n=st (clsL i)/\∀ p H',H p=none->Same H H'->H' p=some (.lst (marksI i))->Q (.ref p) H'
 | _=>False
theorem lU (T:Top K mg):Callee P w K mg base 1 "_law_marks_due" ["_law_name"] (fH K):=by
 refine T.jj.cal ir (by intro vs H Q E h; unfold fH at h; split at h <;> first | rfl | exact h.elim) (fun _ _ _ _ _ _ us hl=>match us,hl with | [_],_=>rfl) (fun f cdv A outer s H vs Q E hr h=>?_);unfold fH at h;split at h
 case h_2=>exact h.elim
 refine ⟨_,(@ae _ _ _ _ _ (@ao _ _ 1 _ _ _ _ ir.nd rfl lc (@aL _ _ _ _ (@aa _ _ _ _ _ (qs [66,97,100,87,111,114,100]) (@aa _ _ _ _ _ (qs [77,105,115,102,105,116]) (@aa _ _ _ _ _ (qs [78,111,68,111,111,114]) (@aa _ _ _ _ _ (qs [78,111,70,105,101,108,100]) (@aa _ _ _ _ _ (qs [78,111,72,111,117,115,101]) (@aa _ _ _ _ _ (qs [78,111,76,105,110,101]) (@aa _ _ _ _ _ (qs [78,111,82,117,108,101]) (@aa _ _ _ _ _ (qs [78,111,87,97,121]) (@aa _ _ _ _ _ (qs [84,119,105,99,101]) (@aa _ _ _ _ _ (qs [85,110,108,105,107,101]) (@ac _) seC) seC) seC) seC) seC) seC) seC) seC) seC) seC)) swL (by first | exact .inl rfl | exact .inr rfl))
   (af (aw (am ak (bU (nt:=1) (fi:=[0]) (N':=["_law_own", "_law_name"]) rfl (cscope rfl (by decide +kernel)) (cnames (N:=["_law_name", "_law_some"]) (sc:=defScope d0) rfl rfl (by decide +kernel)) (cE (by decide)) (iterE K rfl (qv 1)) (fun _ _ _ _ _=>(al (i:=0) (by show (["_law_own", "_law_name"]:List Str).Nodup; decide +kernel) rfl lc)) (fun _ _ _ _ _=>bC) (fun _ _ _ _ _=>(gn bz (qv 0) (qv 1)))) (@aL _ _ _ _ (@aa _ _ _ _ _ iy (@ac _) seC)))))),?_⟩
 rename_i n;obtain ⟨i,hi,rfl,q⟩:=h;walk_at "rd";refine ⟨by decide,fun p hp=>?_⟩;have s1:=ai hp (.lst (classL.map tx));have e1:upd H p (.lst (classL.map tx)) p=some (.lst (classL.map tx)):=ah;change ((∃ xs,SqL K (upd H p (.lst (classL.map tx))) p xs)/\∀ D,upd H p (.lst (classL.map tx)) D=none->compW _ _ _ _ _ D _ (upd H p (.lst (classL.map tx))))\/_;generalize upd H p (.lst (classL.map tx))=H1 at s1 e1 ⊢;have hcl:classL.length<=100000:=by simp [classL]
 refine .inl ⟨⟨_,SqL.of e1⟩,fun D hD=>?_⟩;refine fh (item:=tx) (xs:=classL) (h:=fun x=>[V.bl (decide (x=clsL i))]) hD (SqL.of e1) hcl (fun _=>by simp) ?_ ?_
 ·intro x H2 out non hx s2 ho _;walk_at "rd";exact ho _ _ rfl (Same.refl _)
 intro H2 s2 e2;have e3:classL.flatMap (fun x=>[V.bl (decide (x=clsL i))])++[V.bl true]=marksI i:=by
  rcases hi with rfl | rfl | rfl | rfl | rfl | rfl <;> rfl
 refine ⟨by decide,fun p3 hp3=>?_⟩;have s3:=ai hp3 (.lst [V.bl true]);walk_at "rd";refine ⟨_,_,s3 _ _ e2,ah,Nat.le_of_lt (sizeBig (by rw [fR (fun x=>V.bl (decide (x=clsL i))),List.length_map]; simp [classL])),fun p4 hp4=>?_⟩;have s4:=ai hp4 (.lst (classL.flatMap (fun x=>[V.bl (decide (x=clsL i))])++[V.bl true]));exact q p4 _ (s1.free (s2.free (s3.free hp4))) (s1.trans (s2.trans (s3.trans s4))) (by rw [ah,e3])
theorem BF (T:Top K mg) {c:Str} (h:c ∈ six):∃ i,IsC i/\c=st (clsL i)/\MK K c i:=by
 unfold six at h;simp only [List.mem_cons,List.not_mem_nil,or_false] at h;rcases h with rfl | rfl | rfl | rfl | rfl | rfl
 ·exact ⟨8,.inr (.inr (.inr (.inr (.inr (rfl))))),by decide,T.kP.2,T.cG,T.du,T.dq,T.cR,T.cL,T.dB,T.dm,T.dO,T.dN,T.dj,T.kO,T.bx⟩
 ·exact ⟨1,.inr (.inl rfl),by decide,T.dJ.2,T.cr,T.cT,T.cH,T.b8,T.b6,T.cK,T.cV,T.dw,T.di,T.cJ,T.jk,T.bp⟩
 ·exact ⟨3,.inr (.inr (.inr (.inl rfl))),by decide,T.fj.2,T.bK,T.bZ,T.cf,T.bO,T.bL,T.cp,T.cx,T.cO,T.cS,T.ci,T.gP,T.bc⟩
 ·exact ⟨0,.inl rfl,by decide,T.gQ.2,T.bM,T.cu,T.b7,T.bQ,T.bR,T.b5,T.cg,T.cU,T.cQ,T.b3,T.gO,T.be⟩
 ·exact ⟨2,.inr (.inr (.inl rfl)),by decide,T.jh.2,T.cw,T.cY,T.cN,T.ck,T.cm,T.cX,T.cM,T.dz,T.dA,T.cW,T.ji,T.bo⟩
 ·exact ⟨4,.inr (.inr (.inr (.inr (.inl rfl)))),by decide,T.gR.2,T.bN,T.cj,T.cc,T.bJ,T.bP,T.cb,T.cy,T.cI,T.cP,T.cq,T.gS,T.ba⟩
theorem nF {H:Hp} {p:Addr} {i:Nat} (h:H p=some (.lst (marksI i))):Deep K H 1 (.ref p) (.l ((marksI i).map D.f)):=
 .inr (.inl ⟨p,_,_,rfl,rfl,SqL.of h,fM rfl⟩)
theorem vM {i:Nat} (h:IsC i):eqD (.l ((marksI i).map D.f)) (.l ((marksI i).map D.f))=true:=by
 rcases h with rfl | rfl | rfl | rfl | rfl | rfl <;> decide +kernel
theorem qp:∀ (ls:List Fld) (n:List Nat) (a x y:Nat),spanF ls n a=some (x,y)->n ∈ ls.map (·.1)
 | [],_,_,_,_,h=>by cases h
 | (f,z)::l,n,a,x,y,h=>by
  rw [spanF] at h;split at h
  ·rename_i e;rw [List.map_cons,<- e];exact List.mem_cons_self
  ·exact List.mem_cons_of_mem _ (qp l n _ x y h)
noncomputable def mLaw5 (K:Frag):TS:=fun E0 σ H=>∀ C:TS,(∀ (a td q0 gq po:Addr) (u5:Option V) (N G:LNet),Th H 9 (.ref q0) (netL N)->OkN N->Th H 9 (.ref gq) (netL G)->OkN G->netF G=none->(∀ H',E0.rt (.bl true) H')->C E0 [some (.ref a),some (.ref td),some (.ref q0),some (.ref gq),some (.ref po),u5,none,none,none,none,none] H)->C E0 σ H
theorem Bv (T:Top K mg) {f:Addr} {cdv:Value} {A:Around} {outer:List Env} {s:Shared} {H₀:Hp} {E:XK} (hr:Room 12 (A.deeper (PyProof.Rows.envOfC "law" (defScope ou) s.heap.objs.size f cdv))):
  PSs (cxOf CX0 P w K mg base ["_law_script", "_law_told_here", "_law_net_here", "_law_good", "_law_pool", "_law_j", "_law_fault_here", "_law_handed", "_law_found", "_law_marks_here", "_law_e"] "law" (defScope ou) f cdv A outer s H₀ E).nox ((defBody ou).drop 5) (mLaw5 K):=by
 refine tq (ae (ao (i:=6) fP.nd rfl lc (aq (pV T) hr.m rfl (aa (qv 2) ac)))
   (ae (ao (i:=7) fP.nd rfl lc (aq (jI T) hr.m rfl (aa (qv 2) ac)))
   (ae (ao (i:=8) fP.nd rfl lc lE)
   (ae (ao (i:=9) fP.nd rfl lc (aL ac))
   (dX (xR (D:=xA K "ThrongError") (i:=10) (fun _ _=>(af (ao (i:=8) fP.nd rfl lc (Ak (ki T) hr.m passesT rfl (aa (qv 7) ac))))) (fun _=>(af (ao (i:=9) fP.nd rfl lc (AH (pU T) ((hr.h.mark _).mono (by first | decide | omega)) rfl (aa (qv 10) ac))))) rfl rfl rfl T.i8.1 T.i8.2 fP.nd rfl rfl)
   (ae (aE (PW.pt (qI (gp (de (aq (jq T) hr.m rfl (aa (qv 7) (aa (qv 2) ac))))) (oS (gp (de (aq (jq T) hr.m rfl (aa (aq (ki T).calm hr.m rfl (aa (qv 3) ac)) (aa iy ac)))))))) (af (aw iy)) ar)
   (ae (aE (aB bz (qv 6) (qs [])) (af (aw (iG (gn (eqNilE K rfl (hu1 hr)) (qv 9) (aL ac)) (lB (aq (jq T) hr.m rfl (aa (qv 8) (aa iy ac))))))) ar)
   (af (aw (iG (gn ur (qv 8) lE) (lB (gn (eqDE K rfl hr) (qv 9) (aq (lU T) hr.m rfl (aa (qv 6) ac)))))))))))))) fun E1 σ H h=>h _ fun a td q0 gq po u5 N G th ok thG okG fG q=>?_
 walk_at "rd";refine ⟨N,th,ok,fun H1 s1=>?_⟩;walk_at "rd";refine ⟨9,netL N,[],by decide,aH s1 9 th,fun v' H2 τ s2 _ t2=>?_⟩;have t2:=iL 9 t2;obtain ⟨hq,_,_,_,rfl,_⟩:=pB t2;have s12:=s1.trans s2;refine ⟨Nat.zero_le _,fun p3 hp3=>?_⟩;have s3:=ai hp3 (.lst []);have e3:upd H2 p3 (.lst []) p3=some (.lst []):=ah;generalize upd H2 p3 (.lst [])=H3 at s3 e3 ⊢;have s13:=s12.trans s3;walk_at "rd";refine ⟨fun σ' H'=>∃ (vf:V) (pm:Addr) (u10:Option V),σ'=[some (.ref a),some (.ref td),some (.ref q0),some (.ref gq),some (.ref po),u5,some (ft (netF N)),some (.ref hq),some vf,some (.ref pm),u10]/\Same H3 H'/\((netF N=none/\vf=.bl true/\H' pm=some (.lst []))\/∃ i,IsC i/\netF N=some (st (clsL i))/\vf=.non/\H' pm=some (.lst (marksI i))),?_,?_⟩
 ·refine ⟨N,aH s3 9 t2,ok,fun f0 H4 s4=>⟨_,p3,_,rfl,s4,.inl ⟨f0,rfl,s4 _ _ e3⟩⟩,fun c fc H4 s4=>?_⟩;obtain ⟨i,hi,rfl,mk⟩:=BF T (uV c fc);refine ⟨_,rfl,mk.th.caught,fun ea he=>?_⟩;have s5:=ai he (XO (xA K (st (clsL i))) ea);refine ⟨_,i,ah,mk,fun pm H5 hpm s6 e6=>⟨_,pm,_,rfl,s4.trans (s5.trans s6),.inr ⟨i,hi,fc,rfl,e6⟩⟩⟩
 rintro σ' H4 ⟨vf,pm,u10,rfl,s4,hv⟩;have s14:=s13.trans s4;walk_at "rd";refine ⟨9,netL N,by decide,aH (s3.trans s4) 9 t2,aH s14 9 th,fun H5 s5=>?_⟩;have s15:=s14.trans s5;walk_at "rd";refine ⟨G,aH s15 9 thG,okG,fun _ H6 s6=>?_,fun c hc=>by rw [fG] at hc; cases hc⟩;walk_at "rd";refine ⟨0,.f (.bl true),by decide,bj 0 rfl,bj 0 rfl,fun H7 s7=>?_⟩;have s47:=s5.trans (s6.trans s7);rcases hv with ⟨f0,rfl,ep⟩ | ⟨i,hi,fc,rfl,ep⟩
 ·rw [f0,rf];walk_at "rd";refine ⟨Nat.zero_le _,fun p8 hp8=>?_⟩;have s8:=ai hp8 (.lst []);refine ⟨[],SqL.of (s8 _ _ (s47 _ _ ep)),SqL.of ah,?_⟩;rw [if_pos rfl];exact ⟨0,.f (.bl true),by decide,bj 0 rfl,bj 0 rfl,fun H9 _=>q H9⟩
 ·have hne:=tL (uV _ fc);rw [aM] at hne;rw [fc,rj];walk_at "rd";rw [if_neg hne];refine ⟨i,hi,rfl,fun p8 H8 hp8 s8 e8=>?_⟩;refine ⟨1,_,_,by decide,nF (s8 _ _ (s47 _ _ ep)),nF e8,?_⟩;rw [vM hi];exact q H8
theorem wC {W:Nat} {r:Rule} (k:RuleOk W r):ruleF W (D.f (tx r.1),D.f (tx r.2.1),D.f (tx r.2.2))=none:=by
 have h1:rowOk W (D.f (tx r.1))=true:=su k.row k.rowN;have h3:rowOk W (D.f (tx r.2.2))=true:=su k.over k.overN;have h2:wordOk (D.f (tx r.2.1))=true:=by
  rcases k.word with z | z
  ·rw [show r.2.1=passT from z]; decide +kernel
  ·rw [show r.2.1=dropT from z]; decide +kernel
 unfold ruleF;rw [if_pos h1,if_pos h2,if_pos h3]
noncomputable def looseH (h:House):LHouse:=(h.1.map fun g=>(g.1,g.2.map fun r=>(D.f (tx r.1),D.f (tx r.2.1),D.f (tx r.2.2))),h.2.map fun w=>(D.f (tx w.1),w.2))
noncomputable def looseN (N:Net):LNet:=(N.1.map fun x=>(x.1,(x.2:Int)),N.2.1.map fun x=>(x.1,looseH x.2),N.2.2)
theorem uR (N:Net):netL (looseN N)=netD N:=by
 unfold netL looseN netD layD;dsimp only;rw [List.map_map,List.map_map];congr 2;congr 2
 ·congr 1;funext x;show namedL (x.1,looseH x.2)=namedD x;unfold namedL namedD houseL houseD looseH;dsimp only;rw [List.map_map,List.map_map];have e:∀ g ∈ x.2.1,gateL (g.1,g.2.map fun r=>(D.f (tx r.1),D.f (tx r.2.1),D.f (tx r.2.2)))=gateD g:=fun g _=>by
   unfold gateL gateD;dsimp only;rw [List.map_map];rfl
  have e2:=List.map_congr_left (f:=gateL ∘ fun g:Gate=>(g.1,g.2.map fun r=>(D.f (tx r.1),D.f (tx r.2.1),D.f (tx r.2.2)))) (g:=gateD) e;rw [e2];rfl
theorem xW (ls:List Fld):unI (ls.map fun x=>(x.1,(x.2:Int)))=ls:=by
 unfold unI;rw [List.map_map]
 conv=>rhs; rw [<- List.map_id ls]
 exact List.map_congr_left fun x _=>by simp
theorem lW {α β:Type} [DecidableEq β] {f:α -> β} {l:List α} (nd:(l.map f).Nodup) {i:Nat} (h:i < l.length):newF (f l[i]) ((l.take i).map f)=none:=by
 have:=si nd (i:=i) (by simpa using h);rw [List.getElem_map,<- List.map_take] at this;exact if_neg this
theorem uz {W S:Nat} {h:House} (k:HouseOk5 W S h):houseF W S (looseH h)=none:=by
 unfold houseF;have e1:(looseH h).1.map (·.1)=h.1.map (·.1):=by unfold looseH; dsimp only; rw [List.map_map]; rfl
 have e2:(looseH h).2.map (fun y=>dt y.1)=h.2.map (·.1):=by
  unfold looseH; dsimp only; rw [List.map_map];exact List.map_congr_left fun w _=>by show (st w.1).cps.toList=w.1; rw [aM]
 rw [kN fun i hi=>?_,e1,kN fun i hi=>?_]
 ·rfl
 ·have hi2:i < h.2.length:=by have:=hi; unfold looseH at this; simpa using this
  have hm:=List.getElem_mem hi2;have ed:(looseH h).2[i]=(D.f (tx h.2[i].1),h.2[i].2):=List.getElem_map (fun w:Way=>(D.f (tx w.1),w.2));have hn:=lW (f:=fun y:LWay=>dt y.1) (l:=(looseH h).2) (by rw [e2]; exact k.ways.nd) hi;have hnot:=kL hn;have hdt:dt (D.f (tx h.2[i].1))=h.2[i].1:=by show (st h.2[i].1).cps.toList=_; rw [aM]
  unfold wayF;rw [if_pos ?_,if_neg hnot,if_pos ?_]
  ·rw [ed];exact k.ways.door _ hm
  ·rw [ed];show begOk S (D.f (tx h.2[i].1))=true;rw [vd,decide_eq_true (k.ways.n _ hm),Bool.true_and,List.all_eq_true];intro c hc;rcases k.ways.bits _ hm c hc with z | z <;> simp [z]
 ·have hi2:i < h.1.length:=by have:=hi; unfold looseH at this; simpa using this
  have ed:(looseH h).1[i]=(h.1[i].1,h.1[i].2.map fun r=>(D.f (tx r.1),D.f (tx r.2.1),D.f (tx r.2.2))):=List.getElem_map (fun g:Gate=>(g.1,g.2.map fun r=>(D.f (tx r.1),D.f (tx r.2.1),D.f (tx r.2.2))));have hn:=lW (f:=fun y:LGate=>y.1) (l:=(looseH h).1) (by rw [e1]; exact k.nd) hi;unfold gateF;rw [hn,ed];refine kN fun j hj=>?_
  have hj2:j < h.1[i].2.length:=by simpa using hj
  rw [List.getElem_map];exact wC (k.rules _ (List.getElem_mem hi2) _ (List.getElem_mem hj2))
theorem xH {N:Net} (k:NetOk N):netF (looseN N)=none:=by
 have eu:unI (looseN N).1=N.1:=xW N.1;have el:(looseN N).1.map (·.1)=N.1.map (·.1):=by unfold looseN; dsimp only; rw [List.map_map]; rfl
 have eh:(looseN N).2.1.map (·.1)=N.2.1.map (·.1):=by unfold looseN; dsimp only; rw [List.map_map]; rfl
 have ed:doorsN (looseN N).2.1=N.2.1.map fun x=>(x.1,x.2.1.map (·.1)):=by
  unfold doorsN looseN;dsimp only;rw [List.map_map];exact List.map_congr_left fun x _=>by
   show (x.1,(looseH x.2).1.map (·.1))=_;unfold looseH;dsimp only;rw [List.map_map];rfl
 obtain ⟨fa,fb,esp,_,_⟩:=k.lay.to;unfold netF layF;rw [eu,kN fun i hi=>?_,el,if_pos (qp _ _ _ _ _ esp),kN fun i hi=>?_,ed,kN fun i hi=>?_]
 ·rfl
 ·have hi':i < (endsOf N.2.2).length:=hi;have hsp:=k.spots _ (List.getElem_mem hi');have nd1:((N.2.1.map fun x=>(x.1,x.2.1.map (·.1))).map (·.1)).Nodup:=by rw [List.map_map]; exact k.nd
  have hm1:(endsOf N.2.2)[i].1 ∈ (N.2.1.map fun x=>(x.1,x.2.1.map (·.1))).map (·.1):=by
   rw [List.map_map];unfold spotsOf at hsp;obtain ⟨y,hy,hh⟩:=List.mem_flatMap.mp hsp;obtain ⟨g,_,eg⟩:=List.mem_map.mp hh;exact List.mem_map.mpr ⟨y,hy,by rw [<- eg]; rfl⟩
  change endF _ ((endsOf N.2.2).take i) (endsOf N.2.2)[i]=none;unfold endF;rw [qq nd1,if_pos hm1,qU,if_pos hsp];exact if_neg (si k.ends hi')
 ·have hi2:i < N.2.1.length:=by have:=hi; unfold looseN at this; simpa using this
  have e1:(looseN N).2.1[i]=(N.2.1[i].1,looseH N.2.1[i].2):=List.getElem_map (fun x:Named=>(x.1,looseH x.2));have hn:=lW (f:=fun y:LNamed=>y.1) (l:=(looseN N).2.1) (by rw [eh]; exact k.nd) hi;unfold namedF;rw [hn,e1];exact uz (k.house _ (List.getElem_mem hi2))
 ·have hi2:i < N.1.length:=by have:=hi; unfold looseN at this; simpa using this
  have e1:(looseN N).1[i]=(N.1[i].1,(N.1[i].2:Int)):=List.getElem_map (fun x:Fld=>(x.1,(x.2:Int)));have hn:=kL (lW (f:=fun y:LFld=>y.1) (l:=(looseN N).1) (by rw [el]; exact k.lay.nd) hi);have hp:=k.lay.pos _ (List.getElem_mem hi2);unfold fldF;rw [if_neg hn,e1,if_neg (by show ¬ ((N.1[i].2:Int) < 1); omega)]
theorem wN {N:Net} (k:NetOk N) (sm:∀ x ∈ N.2.1,NmOk x.1/\∀ g ∈ x.2.1,NmOk g.1):OkN (looseN N):=by
 have w2:=k.lay.w2;obtain ⟨fa,fb,esp,hab,hfb⟩:=k.lay.to;have eG:spanG N.1=(fa,fb):=by unfold spanG; rw [esp]; rfl
 refine ⟨fun x hx=>?_,?_,fun x hx=>?_,?_,fun s hs=>?_,Nat.le_trans k.l500 (by decide)⟩
 ·unfold looseN at hx;obtain ⟨y,hy,rfl⟩:=List.mem_map.mp hx;have:=rq hy;have lw:=k.lay.low y hy;exact ⟨iJ lw.1 (by show y.1.length<=100; omega),by show ((y.2:Nat):Int)<=48; omega⟩
 ·have:=k.lay.len;unfold looseN;simp;omega
 ·unfold looseN at hx;obtain ⟨y,hy,rfl⟩:=List.mem_map.mp hx;have ho:=k.house y hy;rw [eG] at ho;have g3:=ho.g3;have w8:=ho.w8;refine ⟨(sm y hy).1,by show (y.2.1.map _).length<=100; rw [List.length_map]; omega,by show (y.2.2.map _).length<=1000; rw [List.length_map]; omega,fun g hg=>?_,fun g hg r hr=>?_,fun v hv=>?_⟩
  ·obtain ⟨g0,hg0,rfl⟩:=List.mem_map.mp hg;exact (sm y hy).2 g0 hg0
  ·obtain ⟨g0,hg0,rfl⟩:=List.mem_map.mp hg;obtain ⟨r0,hr0,rfl⟩:=List.mem_map.mp hr;have kr:=ho.rules g0 hg0 r0 hr0;have t1:=oa (b:=100) (by omega) kr.row kr.rowN;have t3:=oa (b:=100) (by omega) kr.over kr.overN;refine ⟨jf t1,jf ?_,jf t3⟩;rcases kr.word with z | z
   ·rw [show r0.2.1=passT from z]; exact ⟨by decide,by decide⟩
   ·rw [show r0.2.1=dropT from z]; exact ⟨by decide,by decide⟩
  ·obtain ⟨v0,hv0,rfl⟩:=List.mem_map.mp hv;have hn:=ho.ways.n v0 hv0;obtain ⟨g0,hg0,eg⟩:=List.mem_map.mp (ho.ways.door v0 hv0);refine ⟨jf ⟨fun c hc=>by rcases ho.ways.bits v0 hv0 c hc with z | z <;> omega,?_⟩,?_⟩
   ·have:v0.1.length<=fb - fa:=hn;omega
   ·rw [<- eg];exact (sm y hy).2 g0 hg0
 ·have:=k.h100;unfold looseN;simp;omega
 ·have hsp:=k.spots s hs;unfold spotsOf at hsp;obtain ⟨y,hy,hh⟩:=List.mem_flatMap.mp hsp;obtain ⟨g,hg,rfl⟩:=List.mem_map.mp hh;exact ⟨(sm y hy).1,(sm y hy).2 g hg⟩
theorem xF {Γ:Kds} {H H5:Hp} {a:Addr} {xs:List V} (h:SqL K H a xs) (s:Same H H5) (n:∀ o,H a=some o->Γ a=none):Scr K Γ H5 a xs:=fun Γ' H' g=>by
 rcases h with (h | ⟨o,h⟩) | h
 ·exact .inl (.inl (g.out _ _ (n _ h) (s _ _ h)).2)
 ·exact .inl (.inr ⟨o,(g.out _ _ (n _ h) (s _ _ h)).2⟩)
 ·exact .inr h
noncomputable def mT (K:Frag):Sp:=fun vs H Q _=>match vs with
 | [.ref a]=>∃ ns:List Int,SqL K H a (ns.map V.int)/\ns.length<=63/\∀ H',Q (.bl true) H'
 | _=>False
theorem AG (T:Top K mg) {f:Addr} {fd:FuncData} (F:Fun K "law" "law" ou f fd):FnOk P w K mg base CX0 13 f fd ["_law_script"] (mT K):=by
 refine F.ok fP (by intro vs H Q E h; unfold mT at h; split at h <;> first | rfl | exact h.elim) (fun cdv A outer s H vs Q E hr h=>?_);unfold mT at h;split at h
 case h_2=>exact h.elim
 refine ⟨_,(ae (ao (i:=1) fP.nd rfl lc (aq (rd T) hr.m rfl (aa (qv 0) (aa (aq (ke T) hr.m rfl (aa (qv 0) ac)) ac))))
   (ae (ao (i:=2) fP.nd rfl lc (aq (sA T) hr.m rfl (aa (qv 0) (aa (qv 1) (aa ad ac)))))
   (ae (ao (i:=3) fP.nd rfl lc (aq (jI T) hr.m rfl (aa (qv 2) ac)))
   (ae (ao (i:=4) fP.nd rfl lc (aq (eN T) hr.m rfl (aa (qv 0) (aa ad (aa ad ac)))))
   (ae (br PassesOwn.never rfl (bA rfl T.cF (am ak ad (aq (aj T) hr.m rfl (aa (qv 0) (aa ad (aa ad ac)))))) (al (i:=5) fP.nd rfl lc) (af (aF (aq (qc T) hr.m rfl (aa (qv 0) (aa (am ak ad (am d4 ad (qv 5))) (aa (qv 2) (aa (qv 4) ac))))))))
   (Bv T hr)))))),?_⟩
 rename_i a;obtain ⟨ns,hS,_,q⟩:=h;walk_at "rd";refine ⟨ns,hS,fun p H1 ls hp s1 hL ok hwf=>?_⟩;walk_at "rd";refine ⟨ns,ls,s1.seq hS,hL,ok,fun td H2 ps htd s2 e2 tok=>?_⟩;have s12:=s1.trans s2;rw [hwf] at tok;walk_at "rd";refine ⟨ns,ps,4,s12.seq hS,SqL.of e2,tok,rfl,by decide,by decide,fun q0 la lh ll H3 N Γ s3 hN nok nk w3 fr sm=>?_⟩;have s13:=s12.trans s3;have th3:=tE 8 (AR hN nok);walk_at "rd";refine ⟨9,netD N,[],by decide,th3,fun v' H4 τ s4 f4 t4=>?_⟩;have s14:=s13.trans s4;have tg4:=iL 9 t4;rw [<- uR] at tg4;obtain ⟨gq,_,_,_,rfl,_⟩:=pB tg4;walk_at "rd";refine ⟨ns,22,5,s14.seq hS,rfl,by decide,rfl,by decide,fun po H5 pl hpo s5 e5 Np=>?_⟩;have s15:=s14.trans s5;have w5:=(w3.same s4).same s5;have sa:Scr K Γ H5 a (ns.map V.int):=xF hS s15 fun o e=>by
  cases eg:Γ a with
  | none=>rfl
  | some k=>have:=fr a (by rw [eg]; exact fun z=>nomatch z); rw [s12 _ _ e] at this; cases this
 have sp:Scr K Γ H5 po (pl.map tx):=Bn (SqL.of e5) fun _ _=>(w3.same s4).free hpo
 have nk5:=nk.go (Go.same (s4.trans s5));walk_at "rd";refine aA (s15.seq hS) (by decide) (by decide) (by decide) (by decide) fun r hr'=>?_
 walk_at "rd";refine ⟨by omega,by omega,?_⟩;rw [show (1+(r:Int)).toNat=1+r by omega];refine c9 (lo:=0) (n:=1+r) (fun i σ H'=>∃ (u5:Option V) (Γ':Kds),σ = [some (.ref a),some (.ref td),some (.ref q0),some (.ref gq),some (.ref po),u5,none,none,none,none,none]/\Go Γ H5 Γ' H'/\WT Γ' H' (60+i)) ⟨none,Γ,rfl,Go.refl _ _,w5⟩ ?_ ?_
 ·rintro i σ H6 hi ⟨u5,Γ6,rfl,g6,w6⟩;walk_at "rd";refine ⟨.inl ⟨by decide,by decide⟩,ns,351+12*i,60+i,Γ6,pl,la,lh,ll,sa.go g6,sp.go g6,Np.nd,Np.len,fun n hn=>iJ (Np.low n hn) (Nat.le_trans (Np.short n hn).2 (by decide)),by omega,by omega,nk5.go g6,w6,by omega,by omega,fun Γ7 H7 g7 w7=>⟨_,Γ7,rfl,g6.trans g7,w7⟩⟩
 ·rintro σ H6 ⟨u5,Γ6,rfl,g6,w6⟩;obtain ⟨N6,th6,ok6⟩:=AI w6 (by omega) (nk5.go g6);have tg6:Th H6 9 (.ref gq) (netL (looseN N)):=by
   rw [uR];exact iL 9 (ix (fun x o hx e=>(g6.out x o (w3.free (f4 x hx).1) (s5 _ _ e)).2) (fun x vs e=>g6.tup _ _ (s5 _ _ e)) (fun _ _ z=>z) 9 t4)
  exact fun C hC=>hC a td q0 gq po u5 N6 (looseN N) th6 ok6 tg6 (wN nok sm) (xH nok) fun H'=>q H'
end
def DefI (K:Frag) (x:Str) (t:Stmt):Prop:=∃ (f:Addr) (od an:Option Addr) (sl:Array (Option Value)) (oc kV dc pm cd ct:Value),nsIn K mainGlobals x=some (some (.ref f))/\K.lookup f=some ⟨oc,od,.func (fnOf x x (defArgs t) (defBody t) (defScope t) .none kV dc pm an cd ct),sl⟩/\codeIn K cd x=true/\keepIn K (.ref f)=true
theorem DefI.of {K:Frag} {x:Str} {t:Stmt} {f:Addr} {od an:Option Addr} {sl:Array (Option Value)} {oc kV dc pm cd ct:Value} (a:nsIn K mainGlobals x=some (some (.ref f))) (l:K.lookup f=some ⟨oc,od,.func (fnOf x x (defArgs t) (defBody t) (defScope t) .none kV dc pm an cd ct),sl⟩) (c:codeIn K cd x=true) (k:keepIn K (.ref f)=true):DefI K x t:=⟨f,od,an,sl,oc,kV,dc,pm,cd,ct,a,l,c,k⟩
theorem DefI.fn {K:Frag} {h:Heap} {mg:Str->Option Value} {x:Str} {t:Stmt} (d:DefI K x t) (X:K.In h) (G:h.Ns mainGlobals mg):Fn K mg x t:=by
 obtain ⟨f,od,an,sl,oc,kV,dc,pm,cd,ct,a,l,c,k⟩:=d;exact ⟨_,_,Ba (st:=t) l c k,mg_of X G a⟩
def ExcI (K:Frag) (x:Str) (C:Addr):Prop:=nsIn K mainGlobals x=some (some (.ref C))/\PySem.W.excIn K C bmV "ValueError.__new__" = true/\PySem.W.typeIn K (.ref C)=some (.type "type")/\PySem.W.mroIn K C (.type "BaseException")=some true/\findIn K (.ref C) "__getattribute__" = some (some (.builtin "BaseException.__getattribute__"))/\findIn K (.ref C) "__getattr__" = some none/\findIn K (.ref C) "__class__" = some (some (.builtin "object.__class__"))/\PySem.W.mroIn K C (.type "object")=some true
theorem ExcI.xn {K:Frag} {h:Heap} {mg:Str->Option Value} {x:Str} {C:Addr} (e:ExcI K x C) (X:K.In h) (G:h.Ns mainGlobals mg) (sgt:PySem.W.specialIn K (.builtin "object.__class__") "__get__" = some (some (.builtin "getset_descriptor.__get__"))) (stk:PySem.W.takesIn K (.builtin "object.__class__")=some true):Xn K mg x:=
 BD X G e.1 e.2.1 e.2.2.1 e.2.2.2.1 e.2.2.2.2.1 e.2.2.2.2.2.1 e.2.2.2.2.2.2.1 e.2.2.2.2.2.2.2 sgt stk
def MI (K:Frag) (C D:Addr):Prop:=PySem.W.mroIn K C (.ref D)=some false/\C≠D
theorem MI.of {K:Frag} {C D:Addr} (m:PySem.W.mroIn K C (.ref D)=some false) (d:C≠D):MI K C D:=⟨m,d⟩
theorem MI.xm {K:Frag} {C D:Addr} {x y:Str} (e:MI K C D) (n:nsIn K mainGlobals x=some (some (.ref C))) (n':nsIn K mainGlobals y=some (some (.ref D))):Xm K x y false:=jb n n' e.1 fun _=>e.2
theorem all_mk {K:Frag} {h:Heap} {mg:Str->Option Value} (X:K.In h) (G:h.Ns mainGlobals mg)
  (a0:DefI K "is_row" oT)
  (a1:DefI K "is_letter" j5)
  (a2:DefI K "is_text_of" jE)
  (a3:DefI K "layout_width" fk)
  (a4:DefI K "field_span" jK)
  (a5:DefI K "is_beginning" gY)
  (a6:DefI K "gate_rules" jx)
  (a7:DefI K "net_checked" iN)
  (a8:DefI K "check_new" kw)
  (a9:DefI K "check_layout" hG)
  (a10:DefI K "check_houses" gX)
  (a11:DefI K "check_gates" i0)
  (a12:DefI K "check_rule" jB)
  (a13:DefI K "check_ways" jD)
  (a14:DefI K "check_way" j9)
  (a15:DefI K "check_lines" iU)
  (a16:DefI K "check_spot" jG)
  (a17:DefI K "house_named" iC)
  (a18:DefI K "_law_draw" j7)
  (a19:DefI K "_law_names" fw)
  (a20:DefI K "_law_layout" fX)
  (a21:DefI K "_law_width" gH)
  (a22:DefI K "_law_span" kc)
  (a23:DefI K "_law_told" kx)
  (a24:DefI K "_law_signs" jQ)
  (a25:DefI K "_law_rule" kt)
  (a26:DefI K "_law_ways" iz)
  (a27:DefI K "_law_house" fE)
  (a28:DefI K "_law_spots" gG)
  (a29:DefI K "_law_lines" jz)
  (a30:DefI K "_law_net" jJ)
  (a31:DefI K "_law_same" iw)
  (a32:DefI K "_law_copy" fZ)
  (a33:DefI K "_law_marks" jn)
  (a34:DefI K "_law_marks_due" d0)
  (a35:DefI K "_law_is_row" fW)
  (a36:DefI K "_law_odd_row" dg)
  (a37:DefI K "_law_odd_word" gC)
  (a38:DefI K "_law_odd_beginning" dY)
  (a39:DefI K "_law_spoil_layout" eI)
  (a40:DefI K "_law_spoil_gates" eY)
  (a41:DefI K "_law_spoil_ways" c7)
  (a42:DefI K "_law_spoil_lines" cA)
  (a43:DefI K "_law_spoil" jy)
  (a44:DefI K "_law_layout_fault" bT)
  (a45:DefI K "_law_house_fault" cB)
  (a46:DefI K "_law_line_fault" dQ)
  (a47:DefI K "_law_fault" gI)
  (a48:DefI K "law" ou)
  (jR:nsIn K mainGlobals "isinstance" = some none)
  (yp:nsIn K mainGlobals "str" = some none)
  (yo:nsIn K mainGlobals "len" = some none)
  (yy:nsIn K mainGlobals "sum" = some none)
  (rV:nsIn K mainGlobals "range" = some none)
  (uD:nsIn K mainGlobals "list" = some none)
  (pO:nsIn K mainGlobals "sorted" = some none)
  (yq:nsIn K mainGlobals "set" = some none)
  (yx:nsIn K mainGlobals "min" = some none)
  (yr:nsIn K mainGlobals "max" = some none)
  (yz:nsIn K mainGlobals "int" = some none)
  (rX:nsIn K mainGlobals "tuple" = some none)
  (yt:nsIn K mainGlobals "all" = some none)
  (uC:nsIn K mainGlobals "bool" = some none)
  (yu:nsIn K mainGlobals "zip" = some none)
  (jT:nsIn K mainGlobals "ValueError" = some none)
  (yl:nsIn K mainGlobals "any" = some none)
  {U_WORDS:Addr} (rT:nsIn K mainGlobals "WORDS" = some (some (.ref U_WORDS))) (l_WORDS:txtsLook K ["pass", "drop"] U_WORDS=true)
  {aT:Addr} (aQ:ExcI K "NoField" aT)
  {bu:Addr} (bh:ExcI K "NoDoor" bu)
  {aV:Addr} (aO:ExcI K "NoHouse" aV)
  {bX:Addr} (bG:ExcI K "Twice" bX)
  {bt:Addr} (bi:ExcI K "Misfit" bt)
  {aU:Addr} (aP:ExcI K "BadWord" aU)
  {db:Addr} (bF:ExcI K "ThrongError" db)
  {ip:Addr} (fK:ExcI K "NoLine" ip)
  {im:Addr} (fI:ExcI K "NoRule" im)
  {jS:Addr} (gM:ExcI K "NoWay" jS)
  {io:Addr} (fJ:ExcI K "Unlike" io)
  (sgt:PySem.W.specialIn K (.builtin "object.__class__") "__get__" = some (some (.builtin "getset_descriptor.__get__"))) (stk:PySem.W.takesIn K (.builtin "object.__class__")=some true)
  (gP:PySem.W.mroIn K aT (.type "ValueError")=some true)
  (bc:PySem.W.mroIn K aT (.ref db)=some true)
  (bK:MI K aT aU)
  (bZ:MI K aT bt)
  (cf:MI K aT bu)
  (bO:PySem.W.mroIn K aT (.ref aT)=some true)
  (bL:MI K aT aV)
  (cp:MI K aT ip)
  (cx:MI K aT im)
  (cO:MI K aT jS)
  (cS:MI K aT bX)
  (ci:MI K aT io)
  (ji:PySem.W.mroIn K bu (.type "ValueError")=some true)
  (bo:PySem.W.mroIn K bu (.ref db)=some true)
  (cw:MI K bu aU)
  (cY:MI K bu bt)
  (cN:PySem.W.mroIn K bu (.ref bu)=some true)
  (ck:MI K bu aT)
  (cm:MI K bu aV)
  (cX:MI K bu ip)
  (cM:MI K bu im)
  (dz:MI K bu jS)
  (dA:MI K bu bX)
  (cW:MI K bu io)
  (gS:PySem.W.mroIn K aV (.type "ValueError")=some true)
  (ba:PySem.W.mroIn K aV (.ref db)=some true)
  (bN:MI K aV aU)
  (cj:MI K aV bt)
  (cc:MI K aV bu)
  (bJ:MI K aV aT)
  (bP:PySem.W.mroIn K aV (.ref aV)=some true)
  (cb:MI K aV ip)
  (cy:MI K aV im)
  (cI:MI K aV jS)
  (cP:MI K aV bX)
  (cq:MI K aV io)
  (kO:PySem.W.mroIn K bX (.type "ValueError")=some true)
  (bx:PySem.W.mroIn K bX (.ref db)=some true)
  (cG:MI K bX aU)
  (du:MI K bX bt)
  (dq:MI K bX bu)
  (cR:MI K bX aT)
  (cL:MI K bX aV)
  (dB:MI K bX ip)
  (dm:MI K bX im)
  (dO:MI K bX jS)
  (dN:PySem.W.mroIn K bX (.ref bX)=some true)
  (dj:MI K bX io)
  (jk:PySem.W.mroIn K bt (.type "ValueError")=some true)
  (bp:PySem.W.mroIn K bt (.ref db)=some true)
  (cr:MI K bt aU)
  (cT:PySem.W.mroIn K bt (.ref bt)=some true)
  (cH:MI K bt bu)
  (b8:MI K bt aT)
  (b6:MI K bt aV)
  (cK:MI K bt ip)
  (cV:MI K bt im)
  (dw:MI K bt jS)
  (di:MI K bt bX)
  (cJ:MI K bt io)
  (gO:PySem.W.mroIn K aU (.type "ValueError")=some true)
  (be:PySem.W.mroIn K aU (.ref db)=some true)
  (bM:PySem.W.mroIn K aU (.ref aU)=some true)
  (cu:MI K aU bt)
  (b7:MI K aU bu)
  (bQ:MI K aU aT)
  (bR:MI K aU aV)
  (b5:MI K aU ip)
  (cg:MI K aU im)
  (cU:MI K aU jS)
  (cQ:MI K aU bX)
  (b3:MI K aU io)
  : Top K mg where
 tF:=a0.fn X G
 nI:=a1.fn X G
 mC:=a2.fn X G
 kE:=a3.fn X G
 mD:=a4.fn X G
 kz:=a5.fn X G
 mB:=a6.fn X G
 ln:=a7.fn X G
 nK:=a8.fn X G
 kA:=a9.fn X G
 kD:=a10.fn X G
 lp:=a11.fn X G
 mI:=a12.fn X G
 mJ:=a13.fn X G
 nM:=a14.fn X G
 lq:=a15.fn X G
 mF:=a16.fn X G
 lm:=a17.fn X G
 nJ:=a18.fn X G
 mx:=a19.fn X G
 li:=a20.fn X G
 mE:=a21.fn X G
 kB:=a22.fn X G
 nN:=a23.fn X G
 mv:=a24.fn X G
 nH:=a25.fn X G
 nL:=a26.fn X G
 mH:=a27.fn X G
 my:=a28.fn X G
 mt:=a29.fn X G
 pM:=a30.fn X G
 ky:=a31.fn X G
 kF:=a32.fn X G
 mG:=a33.fn X G
 jj:=a34.fn X G
 lj:=a35.fn X G
 kC:=a36.fn X G
 jY:=a37.fn X G
 gf:=a38.fn X G
 gF:=a39.fn X G
 iq:=a40.fn X G
 iA:=a41.fn X G
 ik:=a42.fn X G
 mm:=a43.fn X G
 gE:=a44.fn X G
 ij:=a45.fn X G
 iB:=a46.fn X G
 mr:=a47.fn X G
 Af:=a48.fn X G
 au:=PySem.W.mg_none_of X G jR
 mz:=PySem.W.mg_none_of X G yp
 bv:=PySem.W.mg_none_of X G yo
 yv:=PySem.W.mg_none_of X G yy
 cF:=PySem.W.mg_none_of X G rV
 nu:=PySem.W.mg_none_of X G uD
 tG:=PySem.W.mg_none_of X G pO
 Ae:=PySem.W.mg_none_of X G yq
 ym:=PySem.W.mg_none_of X G yx
 Ad:=PySem.W.mg_none_of X G yr
 yw:=PySem.W.mg_none_of X G yz
 mq:=PySem.W.mg_none_of X G rX
 yn:=PySem.W.mg_none_of X G yt
 pP:=PySem.W.mg_none_of X G uC
 Ah:=PySem.W.mg_none_of X G yu
 mw:=PySem.W.mg_none_of X G jT
 Ag:=PySem.W.mg_none_of X G yl
 u_WORDS:=⟨_,mg_of X G rT,l_WORDS⟩
 fj:=aQ.xn X G sgt stk
 jh:=bh.xn X G sgt stk
 gR:=aO.xn X G sgt stk
 kP:=bG.xn X G sgt stk
 dJ:=bi.xn X G sgt stk
 gQ:=aP.xn X G sgt stk
 i8:=bF.xn X G sgt stk
 pN:=fK.xn X G sgt stk
 pK:=fI.xn X G sgt stk
 rW:=gM.xn X G sgt stk
 pL:=fJ.xn X G sgt stk
 gP:=qt aQ.1 gP
 bc:=jb aQ.1 bF.1 bc (fun z=>nomatch z)
 bK:=bK.xm aQ.1 aP.1
 bZ:=bZ.xm aQ.1 bi.1
 cf:=cf.xm aQ.1 bh.1
 bO:=jb aQ.1 aQ.1 bO (fun z=>nomatch z)
 bL:=bL.xm aQ.1 aO.1
 cp:=cp.xm aQ.1 fK.1
 cx:=cx.xm aQ.1 fI.1
 cO:=cO.xm aQ.1 gM.1
 cS:=cS.xm aQ.1 bG.1
 ci:=ci.xm aQ.1 fJ.1
 ji:=qt bh.1 ji
 bo:=jb bh.1 bF.1 bo (fun z=>nomatch z)
 cw:=cw.xm bh.1 aP.1
 cY:=cY.xm bh.1 bi.1
 cN:=jb bh.1 bh.1 cN (fun z=>nomatch z)
 ck:=ck.xm bh.1 aQ.1
 cm:=cm.xm bh.1 aO.1
 cX:=cX.xm bh.1 fK.1
 cM:=cM.xm bh.1 fI.1
 dz:=dz.xm bh.1 gM.1
 dA:=dA.xm bh.1 bG.1
 cW:=cW.xm bh.1 fJ.1
 gS:=qt aO.1 gS
 ba:=jb aO.1 bF.1 ba (fun z=>nomatch z)
 bN:=bN.xm aO.1 aP.1
 cj:=cj.xm aO.1 bi.1
 cc:=cc.xm aO.1 bh.1
 bJ:=bJ.xm aO.1 aQ.1
 bP:=jb aO.1 aO.1 bP (fun z=>nomatch z)
 cb:=cb.xm aO.1 fK.1
 cy:=cy.xm aO.1 fI.1
 cI:=cI.xm aO.1 gM.1
 cP:=cP.xm aO.1 bG.1
 cq:=cq.xm aO.1 fJ.1
 kO:=qt bG.1 kO
 bx:=jb bG.1 bF.1 bx (fun z=>nomatch z)
 cG:=cG.xm bG.1 aP.1
 du:=du.xm bG.1 bi.1
 dq:=dq.xm bG.1 bh.1
 cR:=cR.xm bG.1 aQ.1
 cL:=cL.xm bG.1 aO.1
 dB:=dB.xm bG.1 fK.1
 dm:=dm.xm bG.1 fI.1
 dO:=dO.xm bG.1 gM.1
 dN:=jb bG.1 bG.1 dN (fun z=>nomatch z)
 dj:=dj.xm bG.1 fJ.1
 jk:=qt bi.1 jk
 bp:=jb bi.1 bF.1 bp (fun z=>nomatch z)
 cr:=cr.xm bi.1 aP.1
 cT:=jb bi.1 bi.1 cT (fun z=>nomatch z)
 cH:=cH.xm bi.1 bh.1
 b8:=b8.xm bi.1 aQ.1
 b6:=b6.xm bi.1 aO.1
 cK:=cK.xm bi.1 fK.1
 cV:=cV.xm bi.1 fI.1
 dw:=dw.xm bi.1 gM.1
 di:=di.xm bi.1 bG.1
 cJ:=cJ.xm bi.1 fJ.1
 gO:=qt aP.1 gO
 be:=jb aP.1 bF.1 be (fun z=>nomatch z)
 bM:=jb aP.1 aP.1 bM (fun z=>nomatch z)
 cu:=cu.xm aP.1 bi.1
 b7:=b7.xm aP.1 bh.1
 bQ:=bQ.xm aP.1 aQ.1
 bR:=bR.xm aP.1 aO.1
 b5:=b5.xm aP.1 fK.1
 cg:=cg.xm aP.1 fI.1
 cU:=cU.xm aP.1 gM.1
 cQ:=cQ.xm aP.1 bG.1
 b3:=b3.xm aP.1 fJ.1
theorem law_bind {P:Program} {w:World} {K:Frag} {mg:Str->Option Value} (T:Top K mg):∃ f fd,(∀ base:Heap,FnOk P w K mg base CX0 13 f fd ["_law_script"] (mT K))/\(∀ (s:Shared) (u:Value),BindsTo s fd ⟨[u],[]⟩ [("_law_script",u)])/\mg "law" = some (.ref f):=by
 obtain ⟨f,fd,F,m⟩:=T.Af;refine ⟨f,fd,fun base=>AG T F,?_,m⟩;obtain ⟨oc,od,kV,doc,pm,an,cdv,ct,osl,rfl,lk,hcd⟩:=F.ex;exact fun s u=>.of_eq rfl
theorem walk {l:PySem.W.OpenLaw} {q:Program} {loose:List Str} {XP:(Str->Option Value)->Heap->Prop} {α:Type} {Yf:Shared->α} {Ya:World->α} {d:DefRec} {K:Params->Frag} (hn:l.most=some 63) (hdf:d.params.defaults=[])
  (hY:∀ (w:World) (s:Shared),Yf s=Ya w->(K w.params).In s.heap/\0 < s.toks)
  (F:∀ (w:World) (mg:Str->Option Value) (fa:Addr) (h:Heap),(K w.params).In h->h.Ns mainGlobals mg->mg d.name=some (.ref fa) ->
   ∃ fd:FuncData,(∀ (s:Shared) (u:Value),BindsTo s fd ⟨[u],[]⟩ [("_law_script",u)])/\∀ base:Heap,(K w.params).In base->base.Ns mainGlobals mg->FnOk l.prog w (K w.params) mg base CX0 13 fa fd ["_law_script"] (mT (K w.params))):
  PySem.W.WalkX q loose XP Yf Ya l.row.toRowW d [] (fun f vs=>PySem.call f vs):=
 L2.walk_ofX (n:=63) (k:=13) (x := "_law_script") (CX:=fun _=>CX0) (sp:=fun w=>mT (K w.params)) hn (by decide) hdf ⟨rfl,by decide,by decide,rfl⟩ hY F (fun _ _ a ns hl _ hS=>⟨ns,hS,hl,fun _=>rfl⟩) fun _ _ _ _ _ z=>z
end Law
open PySem PySem.W PyProof.Rows
local macro_rules | `(tactic| walk_at "mi")=>`(tactic| (refine' Law.MI.of ?m ?d; (case m=>k_is); (case d=>decide)))
local macro_rules | `(tactic| walk_at "df")=>`(tactic| (refine' Law.DefI.of ?a ?l ?c ?k; (case a=>k_is); (case l=>k_is); (case c=>k_is); (case k=>k_is)))
local macro_rules | `(tactic| walk_at "ec")=>`(tactic| (refine' ⟨?n,?q,?t,?b,?g,?h,?a,?o⟩; (case n=>k_is); (case q=>k_exc); (case t=>k_is); (case b=>k_is); (case g=>k_is); (case h=>k_is); (case a=>k_is); (case o=>k_is)))
set_option maxRecDepth 100000 in
set_option maxHeartbeats 0 in
theorem PySem.Challenge.cw_throng_k36_nets_refused_holds : PySem.Challenge.rw_throng_k36_nets_refused.Holds := by
 w_on; o_law; z_head; (case hw=>w_witness2)
 k_fill
 refine Law.walk (l:=PySem.Challenge.rw_throng_k36_nets_refused) rfl rfl (fun w s Y=>L2.z_pos Y (fun _=>rfl) (by decide)) ?F
 case F=>
  intro w mg fa h KX G hmg;have T:Law.Top (L2.KOf KX) mg:=by
   dsimp only [L2.KOf];refine' Law.all_mk KX G ?a0 ?a1 ?a2 ?a3 ?a4 ?a5 ?a6 ?a7 ?a8 ?a9 ?a10 ?a11 ?a12 ?a13 ?a14 ?a15 ?a16 ?a17 ?a18 ?a19 ?a20 ?a21 ?a22 ?a23 ?a24 ?a25 ?a26 ?a27 ?a28 ?a29 ?a30 ?a31 ?a32 ?a33 ?a34 ?a35 ?a36 ?a37 ?a38 ?a39 ?a40 ?a41 ?a42 ?a43 ?a44 ?a45 ?a46 ?a47 ?a48 ?jR ?yp ?yo ?yy ?rV ?uD ?pO ?yq ?yx ?yr ?yz ?rX ?yt ?uC ?yu ?jT ?yl ?rT ?l_WORDS ?aQ ?bh ?aO ?bG ?bi ?aP ?bF ?fK ?fI ?gM ?fJ ?sgt ?stk ?gP ?bc ?bK ?bZ ?cf ?bO ?bL ?cp ?cx ?cO ?cS ?ci ?ji ?bo ?cw ?cY ?cN ?ck ?cm ?cX ?cM ?dz ?dA ?cW ?gS ?ba ?bN ?cj ?cc ?bJ ?bP ?cb ?cy ?cI ?cP ?cq ?kO ?bx ?cG ?du ?dq ?cR ?cL ?dB ?dm ?dO ?dN ?dj ?jk ?bp ?cr ?cT ?cH ?b8 ?b6 ?cK ?cV ?dw ?di ?cJ ?gO ?be ?bM ?cu ?b7 ?bQ ?bR ?b5 ?cg ?cU ?cQ ?b3
   (case a0 | a1 | a2 | a3 | a4 | a5 | a6 | a7 | a8 | a9 | a10 | a11 | a12 | a13 | a14 | a15 | a16 | a17 | a18 | a19 | a20 | a21 | a22 | a23 | a24 | a25 | a26 | a27 | a28 | a29 | a30 | a31 | a32 | a33 | a34 | a35 | a36 | a37 | a38 | a39 | a40 | a41 | a42 | a43 | a44 | a45 | a46 | a47 | a48=>walk_at "df")
   (case jR | yp | yo | yy | rV | uD | pO | yq | yx | yr | yz | rX | yt | uC | yu | jT | yl=>k_is)
   (case rT=>k_is); (case l_WORDS=>kernel_rfl)
   (case aQ | bh | aO | bG | bi | aP | bF | fK | fI | gM | fJ=>walk_at "ec")
   (case sgt=>k_is); (case stk=>k_is)
   (case gP | bc=>k_is)
   (case bK | bZ | cf=>walk_at "mi")
   (case bO=>k_is)
   (case bL | cp | cx | cO | cS | ci=>walk_at "mi")
   (case ji | bo=>k_is)
   (case cw | cY=>walk_at "mi")
   (case cN=>k_is)
   (case ck | cm | cX | cM | dz | dA | cW=>walk_at "mi")
   (case gS | ba=>k_is)
   (case bN | cj | cc | bJ=>walk_at "mi")
   (case bP=>k_is)
   (case cb | cy | cI | cP | cq=>walk_at "mi")
   (case kO | bx=>k_is)
   (case cG | du | dq | cR | cL | dB | dm | dO=>walk_at "mi")
   (case dN=>k_is)
   (case dj=>walk_at "mi")
   (case jk | bp=>k_is)
   (case cr=>walk_at "mi")
   (case cT=>k_is)
   (case cH | b8 | b6 | cK | cV | dw | di | cJ=>walk_at "mi")
   (case gO | be | bM=>k_is)
   (case cu | b7 | bQ | bR | b5 | cg | cU | cQ | b3=>walk_at "mi")
  obtain ⟨f,fd,F,b,m⟩:=Law.law_bind (P:=PySem.Challenge.pw_throng_k36_nets_refused) (w:=w) T;have e0:=hmg.symm.trans m;cases e0;exact ⟨fd,b,fun base _ _=>F base⟩
#print axioms PySem.Challenge.cw_throng_k36_nets_refused_holds
