import PyProof.Rows.All
import Wide.All
import OpenK.AllK
import Wide.FinOn
import Lean
import PyProof.EqAt
import PyProof.EqKinds
import PyProof.TupleCall
import PySem.Challenge.RW_throng_k19_rule_needed
namespace PySem.W.Fast
def tw5366812656833129472:=0
def tw10036827656570572832:=0
def tw3428515193325686944:=0
def tw9525528223100143872:=0
def tw12412438092214701376:=0
def tw6361205817582595488:=0
def tw12020792467957685760:=0
def tw13667119115636727456:=0
def tw10541249861455272672:=0
def tw7123602343964421888:=0
def tw4937824942236783520:=0
def tw952834883308781504:=0
def tw17099404994134688801:=0
def tw9153336497717416161:=0
def tw16181403537858042209:=0
def tw5322857552313762305:=0
def tw5311717385439547937:=0
def tw17628384133769276065:=0
def tw16499058984329156353:=0
def tw1898128205106114305:=0
def tw10014985441099035521:=0
def tw5597449712629323778:=0
def tw11242470358675101698:=0
def tw7571550916465011810:=0
def tw9998096520711961698:=0
def tw207787353678080162:=0
def tw9139241325291545762:=0
def tw8611242129082344674:=0
def tw3031664480382187842:=0
def tw1504703201857278306:=0
def tw5367584492654782882:=0
def tw11494214044759582178:=0
def tw812863439566860962:=0
def tw5455861263045563074:=0
def tw14683574293158178530:=0
def tw9377761644382183138:=0
def tw10245753007458641666:=0
def tw10082314258946057315:=0
def tw8393743286946239619:=0
def tw6905252111155011811:=0
def tw11994725309531991267:=0
def tw2622924385195997411:=0
def tw3952401153306436035:=0
def tw13158745712572632675:=0
def tw4684833031038735971:=0
def tw10794228415681541731:=0
def tw7608177474679155331:=0
def tw4336618468697780867:=0
def tw11428604189099059843:=0
def tw509617539657379:=0
def tw11314093600521376419:=0
def tw3130528681100296899:=0
def tw7580563150808870595:=0
def tw10625730504473192195:=0
def tw6728424111599976227:=0
def tw6018788244043702147:=0
def tw16105582097048685475:=0
def tw914492093785034659:=0
def tw4411334585257029539:=0
def tw14312408281195876356:=0
def tw15145759990913914916:=0
def tw11999296206842989604:=0
def tw874635908783003748:=0
def tw9978782173426982052:=0
def tw8176634276530637988:=0
def tw12653303548452807876:=0
def tw6115700420207870180:=0
def tw14598235982418227428:=0
def tw15086717317637899588:=0
def tw13466165942019051876:=0
def tw10436620557707299236:=0
def tw1914056413559281060:=0
def tw7969897659419947428:=0
def tw7214956665737124356:=0
def tw15712821078398453284:=0
def tw9954347453191922308:=0
def tw3856783825290940036:=0
def tw15629098618609296356:=0
def tw18174977333162143749:=0
def tw3949642044137162821:=0
def tw13572100952707621989:=0
def tw10060913767127269637:=0
def tw12486138040810882341:=0
def tw16153179295094854981:=0
def tw15709223108094973285:=0
def tw14516564758580230533:=0
def tw16010069843242601925:=0
def tw15142340987418213861:=0
def tw11181859427422825989:=0
def tw7080990448971304549:=0
def tw15883752603637738085:=0
def tw17063322298337867461:=0
def tw11737600527540012741:=0
def tw14675586435686949637:=0
def tw8662447159909881701:=0
def tw5919208737387186085:=0
def tw16500225054768105445:=0
def tw4389772720583918598:=0
def tw16689932276607931558:=0
def tw14348517623168061606:=0
def tw10854895548061988102:=0
def tw6533999509615306054:=0
def tw14807155867890252166:=0
def tw3973015841774566950:=0
def tw11870530040727160390:=0
def tw5518133333071001254:=0
def tw13170096237694516902:=0
def tw11684134270983935782:=0
def tw5378343832799000390:=0
def tw5201937550553501542:=0
def tw6132014706511181702:=0
def tw268911270882831270:=0
def tw9009808024697773990:=0
def tw9257491210050436038:=0
def tw6130229280556984327:=0
def tw6692923069069649959:=0
def tw16800660268948045927:=0
def tw17554220761281213607:=0
def tw9139633159718618439:=0
def tw3124289151569705319:=0
def tw14494185055112230311:=0
def tw6618822563512569287:=0
def tw616849441250140711:=0
def tw8252206195296905895:=0
def tw5807602106394676935:=0
def tw11430135909480562503:=0
def tw14689321127368128391:=0
def tw4345552098927182759:=0
def tw5171334609341306823:=0
def tw7179686162615876583:=0
def tw7762056629809785928:=0
def tw15950465144471415976:=0
def tw11709933817046877384:=0
def tw6050766421990629640:=0
def tw12735335743747902856:=0
def tw12097498691320160680:=0
def tw4442499801271589480:=0
def tw14866172266692588200:=0
def tw1316166616564892392:=0
def tw6008461535679966984:=0
def tw5326003715617910568:=0
def tw2701169904646004616:=0
def tw9772562969215074345:=0
def tw17101153235651202313:=0
def tw4266887340890102121:=0
def tw5222726064063954441:=0
def tw3928919144867786537:=0
def tw5371018562019568457:=0
def tw6114859124674734090:=0
def tw10823443957217374218:=0
def tw6013374672423552074:=0
def tw18260909693049583690:=0
def tw2159081767310282826:=0
def tw10678297213037372490:=0
def tw11453088892374245482:=0
def tw13442553781982112906:=0
def tw14223197777962156202:=0
def tw16911890453421885738:=0
def tw12062711158627640650:=0
def tw7831312040873390538:=0
def tw14062291840499564170:=0
def tw3686449627204678282:=0
def tw17238224361004893930:=0
def tw11857100608013573866:=0
def tw5704710194704598762:=0
def tw4662125067516440619:=0
def tw6499950543206341707:=0
def tw14842605916717203595:=0
def tw16952872427876505771:=0
def tw16065219771918964971:=0
def tw3877948012486276363:=0
def tw15816141716377862539:=0
def tw4508625586521461131:=0
def tw7569457005980458411:=0
def tw14554415063741639083:=0
def tw9030647758799003083:=0
def tw9236693680597045739:=0
def tw13268950532018352619:=0
def tw12741784657618595307:=0
def tw15504300827685484043:=0
def tw14414839542588236299:=0
def tw2938843997430788683:=0
def tw12019221042224245387:=0
def tw16960504244011635627:=0
def tw12146008710425735276:=0
def tw14306597664906726508:=0
def tw7259840790973964428:=0
def tw12625024862480331948:=0
def tw17882290028952704204:=0
def tw9616565022560283884:=0
def tw17333258543732860300:=0
def tw8902741945975864716:=0
def tw944678720865669548:=0
def tw16303885063674170860:=0
def tw10554281238004877004:=0
def tw5259612349117842252:=0
def tw9104733231545036684:=0
def tw15390160857141988493:=0
def tw14839064426113389709:=0
def tw12356952349573707917:=0
def tw4244569431580739821:=0
def tw4935030221026278733:=0
def tw4590929669074448717:=0
def tw1636594930357204429:=0
def tw17264828225959448077:=0
def tw1230632323321317933:=0
def tw15646668948447303245:=0
def tw5374995916715547277:=0
def tw11772370016728651437:=0
def tw14715955415838294797:=0
def tw8332601384673229709:=0
def tw10678714541696744878:=0
def tw18314667151442843214:=0
def tw17061954365882088142:=0
def tw15624112249639508718:=0
def tw16461103163353705262:=0
def tw17692567651135734670:=0
def tw1406528679420528558:=0
def tw7376645927167362990:=0
def tw17526361196326858670:=0
def tw62926979893109710:=0
def tw12798136274818270223:=0
def tw7116772132708952111:=0
def tw11557996854990320815:=0
def tw2764756911715844303:=0
def tw4163360132928795055:=0
def tw13724549940803366319:=0
def tw6934644751893803503:=0
def tw1959338433233346031:=0
def tw14242979662660306415:=0
def tw9628641783659776559:=0
def tw3406933538387156591:=0
def tw12138974437630410383:=0
def tw857510198217665199:=0
def tw17297594665593746159:=0
def tw16550667700648940335:=0
def tw1292560837186443087:=0
def tw14515617335138497423:=0
def tw6852848642853355439:=0
def tw10478904377607539663:=0
def tw4654020268400119888:=0
def tw17305340907202412624:=0
def tw14292577613703393392:=0
def tw7935797348012782704:=0
def tw7445042441736032400:=0
def tw12079886696505429136:=0
def tw16960766020651214032:=0
def tw15640850659479785712:=0
def tw5613230776703569136:=0
def tw16612617229098505552:=0
def tw15743674185649565008:=0
def tw911958496582512016:=0
def tw790094534703311376:=0
def tw1578347793476752944:=0
def tw7316335587082113648:=0
def tw14998116951747250864:=0
def tw1252825990530689712:=0
def tw14271110554129510096:=0
def tw16725504991831607024:=0
def tw17062713173828353808:=0
def tw16194309456538824592:=0
def tw10129504789019157488:=0
def tw14192235463890264209:=0
def tw12012188462081385649:=0
def tw8423282265462303953:=0
def tw14219129075541764433:=0
def tw15125612423721546097:=0
def tw5207443199580304817:=0
def tw16058314009179720113:=0
def tw502043479964733969:=0
def tw15162058089756068401:=0
def tw10529436842080120369:=0
def tw8612568729981368945:=0
def tw10779859049481467505:=0
def tw7418098004823721873:=0
def tw14370086429072483217:=0
def tw5131730084286320561:=0
def tw4816172343361767377:=0
def tw9405357588497460242:=0
def tw16921110625001753682:=0
def tw3821100874246904978:=0
def tw5942557218128135346:=0
def tw14828241270704548050:=0
def tw15311802714572091602:=0
def tw12838555391089131922:=0
def tw14720783331655999954:=0
def tw13288703342549962258:=0
def tw6294595327161488946:=0
def tw14605152129835560658:=0
def tw1290346112217304818:=0
def tw14192209854880594770:=0
def tw18043647953207554898:=0
def tw8133575616484973458:=0
def tw3898237839332718514:=0
def tw11882681873670910930:=0
def tw13139524606908181619:=0
def tw14661042095289660563:=0
def tw16917560276980739251:=0
def tw6772997376130226579:=0
def tw10935412227845789107:=0
def tw6659688424349822419:=0
def tw783060017776100979:=0
def tw839365415491895987:=0
def tw1236199447766980339:=0
def tw1708216588452410099:=0
def tw9938727295843075923:=0
def tw17578812879689998259:=0
def tw9878208166890508211:=0
def tw12256104471541738708:=0
def tw10351124947493653716:=0
def tw5222691008745367860:=0
def tw2247405153689391444:=0
def tw7467674276390131092:=0
def tw1164797461141812628:=0
def tw7676672279616370132:=0
def tw6535565513788163572:=0
def tw2260255201592612404:=0
def tw15049566348824935988:=0
def tw13274309207343716980:=0
def tw14805735106842855124:=0
def tw2517223151658552020:=0
def tw15413205874052554644:=0
def tw5556593033737628660:=0
def tw7356228046744938549:=0
def tw4855930176857945237:=0
def tw15105430098545043605:=0
def tw13096725689337137333:=0
def tw4185769906818475541:=0
def tw9702186495889563221:=0
def tw1314913136329929301:=0
def tw16332743926471336565:=0
def tw8735786908371254933:=0
def tw11127202682851493525:=0
def tw15680980877054254837:=0
def tw2772125934818946933:=0
def tw14020294254415306613:=0
def tw47978168570278805:=0
def tw5515061682104595574:=0
def tw12053608904260541654:=0
def tw10977159077260739862:=0
def tw13037599897486116342:=0
def tw13877761789614190070:=0
def tw18244847156665347574:=0
def tw12140121842505570838:=0
def tw3673996847737905142:=0
def tw17843971231882480663:=0
def tw10711204670513829943:=0
def tw10608646956042171511:=0
def tw7727122342961294487:=0
def tw15595995378863405207:=0
def tw5893198878830714071:=0
def tw754339677661030871:=0
def tw15763234067142947319:=0
def tw17876840134163708439:=0
def tw6233211362528953975:=0
def tw8418324041771142775:=0
def tw11523148708910611223:=0
def tw18250474069258727415:=0
def tw299219838001269816:=0
def tw16776510612049062040:=0
def tw8351549555472626040:=0
def tw2116793886277605752:=0
def tw12630778674706993656:=0
def tw5494931325160111928:=0
def tw278681020818840504:=0
def tw2799848521320965112:=0
def tw10921824439712198745:=0
def tw13284518083240845465:=0
def tw7189518354797659385:=0
def tw11812872694034853337:=0
def tw16156706532794089945:=0
def tw8473711804498383385:=0
def tw17993273281427542553:=0
def tw3429210080447949401:=0
def tw5449278455991258745:=0
def tw14488238034355909241:=0
def tw12974777296687497881:=0
def tw3876381778283549337:=0
def tw8900107773620237081:=0
def tw9596648436406157145:=0
def tw9641839400324340762:=0
def tw14433846142753103066:=0
def tw6598964048093082874:=0
def tw15854443676991440154:=0
def tw9061927042094824762:=0
def tw17606463538252433754:=0
def tw14550008512087164442:=0
def tw5767884008905107034:=0
def tw2621716146248571482:=0
def tw14679977611803461402:=0
def tw3058912068999269178:=0
def tw574746702300240730:=0
def tw12367453000377337754:=0
def tw6965149395001241530:=0
def tw9021056299629326427:=0
def tw16370604904413063515:=0
def tw10170714583935964539:=0
def tw14399364208291342779:=0
def tw13413884966894382555:=0
def tw6587022023461157371:=0
def tw2137802699574067707:=0
def tw9739719366777388571:=0
def tw1119756892435896923:=0
def tw988251090254225083:=0
def tw11197881960630634235:=0
def tw3229196667067761435:=0
def tw9689958201885860667:=0
def tw6690435859584635739:=0
def tw16979037932318922651:=0
def tw12649152121401094043:=0
def tw14691349306030216187:=0
def tw2293143195089423388:=0
def tw6927064832483901500:=0
def tw18017505085391826140:=0
def tw655421485866872060:=0
def tw7184502524243980572:=0
def tw2785397565464151388:=0
def tw11435759374246584668:=0
def tw7078751415316782780:=0
def tw7220131892224296700:=0
def tw3420583401851294460:=0
def tw7713254363820660508:=0
def tw6196716735046896444:=0
def tw8285337913084209020:=0
def tw7144871805736273852:=0
def tw17238658087486011613:=0
def tw7968071529863469437:=0
def tw1607754897077783165:=0
def tw7286919445636092605:=0
def tw4474836066285622302:=0
def tw15759287270109913118:=0
def tw3029248105955976222:=0
def tw7235967226064379038:=0
def tw1912187970554646718:=0
def tw9544782577800590686:=0
def tw17091624356008258942:=0
def tw3372518740296126942:=0
def tw12702546645026080318:=0
def tw3413573313675501150:=0
def tw15621028992149107294:=0
def tw9793130525850299998:=0
def tw17482293540232540830:=0
def tw12659799355698369246:=0
def tw17216623180532752222:=0
def tw12870970321398465438:=0
def tw15228655149251890110:=0
def tw13358170245422812255:=0
def tw12528728969132871775:=0
def tw13701253596565900639:=0
def tw14643909427356309919:=0
def tw17494178223905468831:=0
def tw7400809436279792191:=0
def tw2906721496605858431:=0
def tw17836589087628434079:=0
def tw10103437226363146015:=0
def tw2807674156728130752:=0
end PySem.W.Fast
open PySem.W (Frag nsIn keepIn fnOf codeIn mg_of findIn)
set_option compiler.extract_closed false
set_option Elab.async false
set_option linter.all false
set_option maxRecDepth 100000
namespace L2
open PySem PySem.Spec PyProof.Rows
noncomputable abbrev Key:=Sum Int Str
noncomputable def keyIs:Key -> Value -> Bool
 | .inl k,v=>Value.isInt k v
 | .inr x,v=>Value.isStrOf x v
noncomputable def keyH (w:World):Key -> Int
 | .inl k=>hashInt k
 | .inr x=>hashStr w x
theorem keyIs_shape:∀ {k:Key} {v:Value},keyIs k v = true -> (∃ i t,k = Sum.inl i /\ v = Value.int i t) \/ (∃ x t,k = Sum.inr x /\ v = Value.str x t)
 | .inl i,v,h=>by
  obtain ⟨t,e⟩:=Value.isInt_shape (k:=i) (v:=v) h
  exact .inl ⟨i,t,rfl,e⟩
 | .inr x,v,h=>by
  obtain ⟨t,e⟩:=Value.isStrOf_shape (x:=x) (v:=v) h
  exact .inr ⟨x,t,rfl,e⟩
theorem keyIs_int (i:Int) (t:Tok):keyIs (.inl i) (.int i t) = true:=by simp [keyIs,Value.isInt]
theorem keyIs_str (x:Str) (t:Tok):keyIs (.inr x) (.str x t) = true:=by simp [keyIs,Value.isStrOf]
theorem key_ll (a b:Int):decide ((Sum.inl a:Key) = Sum.inl b) = (a == b):=by
 by_cases e:a = b
 ·subst e; simp
 ·have h:¬ (Sum.inl a:Key) = Sum.inl b:=fun q=>e (Sum.inl.inj q)
  rw [decide_eq_false h]
  exact (beq_eq_false_iff_ne.mpr e).symm
theorem key_rr (a b:Str):decide ((Sum.inr a:Key) = Sum.inr b) = decide (a = b):=by
 by_cases e:a = b
 ·subst e; simp
 ·have h:¬ (Sum.inr a:Key) = Sum.inr b:=fun q=>e (Sum.inr.inj q)
  rw [decide_eq_false h,decide_eq_false e]
theorem key_lr (a:Int) (b:Str):decide ((Sum.inl a:Key) = Sum.inr b) = false:=decide_eq_false (fun q=>nomatch q)
theorem key_rl (a:Str) (b:Int):decide ((Sum.inr a:Key) = Sum.inl b) = false:=decide_eq_false (fun q=>nomatch q)
noncomputable def mixKind (prog:Program) (w:World):PySem.KeyKind prog w Key where
 is:=keyIs
 hash:=keyH w
 inj:=fun v a b ha hb=>by
  rcases keyIs_shape ha with ⟨i,t,rfl,rfl⟩ | ⟨x,t,rfl,rfl⟩
  ·rcases keyIs_shape hb with ⟨j,u,rfl,e⟩ | ⟨y,u,rfl,e⟩
   ·injection e with e1 _; rw [e1]
   ·exact nomatch e
  ·rcases keyIs_shape hb with ⟨j,u,rfl,e⟩ | ⟨y,u,rfl,e⟩
   ·exact nomatch e
   ·injection e with e1 _; rw [e1]
 byValue:=fun k v h=>by
  rcases keyIs_shape h with ⟨i,t,rfl,rfl⟩ | ⟨x,t,rfl,rfl⟩ <;> rfl
 pyHash:=fun hv h=>by
  rcases keyIs_shape hv with ⟨i,t,rfl,rfl⟩ | ⟨x,t,rfl,rfl⟩
  ·exact wpAny_pyHash_int h
  ·exact wpAny_pyHash_str h
 eqBool:=fun hu hv h=>by
  rcases keyIs_shape hu with ⟨i,t,rfl,rfl⟩ | ⟨x,t,rfl,rfl⟩
  ·rcases keyIs_shape hv with ⟨j,u,rfl,rfl⟩ | ⟨y,u,rfl,rfl⟩
   ·rw [key_ll] at h; exact wpAny_eqBool_int h
   ·rw [key_lr] at h; exact SeqAt.EqAt.int_str i t y u _ _ _ _ h
  ·rcases keyIs_shape hv with ⟨j,u,rfl,rfl⟩ | ⟨y,u,rfl,rfl⟩
   ·rw [key_rl] at h; exact SeqAt.EqAt.str_int x t j u _ _ _ _ h
   ·rw [key_rr] at h; exact wpAny_eqBool_str h
 «strs»:=fun k x t v h=>by
  rcases keyIs_shape h with ⟨i,u,rfl,e⟩ | ⟨y,u,rfl,e⟩
  ·exact nomatch e
  ·injection e with e1 _
   subst e1
   cases v <;> rfl
theorem mixKind_int (prog:Program) (w:World) (i:Int) (t:Tok):(mixKind prog w).is (.inl i) (.int i t) = true:=keyIs_int i t
theorem mixKind_str (prog:Program) (w:World) (x:Str) (t:Tok):(mixKind prog w).is (.inr x) (.str x t) = true:=keyIs_str x t
inductive V where
 | non | bl (b:Bool) | int (i:Int) | str (x:Str) | byt (b:Array UInt8) | flt (b:UInt64) | ref (a:Addr) | ty (n:String)
 deriving DecidableEq
noncomputable def RelV:V -> Value -> Prop
 | .non,u=>u = Value.none
 | .bl b,u=>u = Value.bool b
 | .int i,u=>∃ t,u = Value.int i t
 | .str x,u=>∃ t,u = Value.str x t
 | .byt b,u=>∃ t,u = Value.bytes b t
 | .flt b,u=>∃ t,u = Value.float b t
 | .ref a,u=>u = Value.ref a
 | .ty n,u=>u = Value.type n
noncomputable abbrev Vals:List V -> List Value -> Prop:=Paired RelV
theorem Vals.length {xs:List V} {us:List Value} (r:Vals xs us):xs.length = us.length:=Paired.length r
theorem Vals.get:∀ {xs:List V} {us:List Value} {i:Nat} {x:V},Vals xs us -> xs[i]? = some x -> ∃ u,us[i]? = some u /\ RelV x u
 | _,_,_,_,.nil,e=>by simp at e
 | _,_,0,_,.cons r _,e=>by simp at e; subst e; exact ⟨_,rfl,r⟩
 | _,_,i + 1,x,.cons _ t,e=>by
  obtain ⟨u,h1,h2⟩:=Vals.get (i:=i) (x:=x) t (by simpa using e)
  exact ⟨u,by simpa using h1,h2⟩
theorem Vals.set {x:V} {u:Value} (r:RelV x u):∀ {xs:List V} {us:List Value} (i:Nat),Vals xs us -> Vals (xs.set i x) (us.set i u)
 | _,_,_,.nil=>.nil
 | _,_,0,.cons _ t=>.cons r t
 | _,_,i + 1,.cons q t=>.cons q (Vals.set r i t)
theorem Vals.append:∀ {xs ys:List V} {us ws:List Value},Vals xs us -> Vals ys ws -> Vals (xs ++ ys) (us ++ ws)
 | _,_,_,_,.nil,s=>s
 | _,_,_,_,.cons r t,s=>.cons r (Vals.append t s)
theorem Vals.take:∀ {xs:List V} {us:List Value} (n:Nat),Vals xs us -> Vals (xs.take n) (us.take n)
 | _,_,0,_=>.nil
 | _,_,_ + 1,.nil=>.nil
 | _,_,n + 1,.cons r t=>.cons r (Vals.take n t)
theorem Vals.drop:∀ {xs:List V} {us:List Value} (n:Nat),Vals xs us -> Vals (xs.drop n) (us.drop n)
 | _,_,0,r=>r
 | _,_,_ + 1,.nil=>.nil
 | _,_,n + 1,.cons _ t=>Vals.drop n t
theorem Vals.none_of:∀ {xs:List V} {us:List Value} {i:Nat},Vals xs us -> xs[i]? = none -> us[i]? = none:=fun {xs us i} r e=>by
 have h1:=r.length
 have h2:xs.length <= i:=List.getElem?_eq_none_iff.mp e
 exact List.getElem?_eq_none_iff.mpr (by omega)
noncomputable def RelO:Option V -> Option Value -> Prop
 | some v,some u=>RelV v u
 | none,none=>True
 | _,_=>False
noncomputable def KV {κ:Type}:List (κ × V) -> List (κ × Value) -> Prop:=Paired fun (p:κ × V) (q:κ × Value)=>p.1 = q.1 /\ RelV p.2 q.2
noncomputable def kV:Key -> V
 | .inl i=>.int i
 | .inr x=>.str x
inductive HO where
 | lst (xs:List V)
 | tup (xs:List V)
 | dK (kvs:List (Key × V)) | dT (kvs:List (List Key × V))
 | set (S:Int -> Bool) (n:Nat)
 | ins (C dx:Addr) (fs:List (Str × V))
 | own (x:Addr)
 | xd (fs:List (Str × V))
 | met (f x:Addr)
 | rng (lo hi:Int)
 | frz (o:Obj) (u:HO)
 | tbl (ps:Array Value)
 | ext (φ:Heap -> Prop)
noncomputable abbrev Hp:=Addr -> Option HO
noncomputable def upd (H:Hp) (a:Addr) (o:HO):Hp:=fun b=>if b = a then some o else H b
theorem upd_same {H:Hp} {a:Addr} {o:HO}:upd H a o a = some o:=by unfold upd; rw [if_pos rfl]
theorem upd_ne {H:Hp} {a b:Addr} {o:HO} (h:b ≠ a):upd H a o b = H b:=by unfold upd; rw [if_neg h]
theorem ne_of_none {H:Hp} {a b:Addr} {o:HO} (h:H a = some o) (h':H b = none):a ≠ b:=by
 intro e; subst e; rw [h] at h'; cases h'
section
variable (P:Program) (w:World)
noncomputable def ObjOk (H:Hp) (h:Heap) (a:Addr):HO -> Prop
 | .lst xs=>xs.length <= sizeLine /\ ∃ (its:List Value) (n:Nat),Vals xs its /\ h.get? a = some { cls:=.type "list",data:=.seq its.toArray n }
 | .tup xs=>xs.length <= sizeLine /\ ∃ its:List Value,Vals xs its /\ IsTup h a its.toArray
 | .dK kvs=>kvs.length <= sizeLine /\ (a == sysModules) = false /\ ∃ vs,KV kvs vs /\ h.DictOf (mixKind P w) a vs
 | .dT kvs=>kvs.length <= sizeLine /\ (a == sysModules) = false /\ ∃ xs:List (List Key × Addr × Value),
   Paired (fun (p:List Key × V) (q:List Key × Addr × Value)=>p.1 = q.1 /\ H q.2.1 = some (.tup (p.1.map kV)) /\ RelV p.2 q.2.2) kvs xs /\
   ∃ o es ep,h.get? a = some o /\ o.ExactDict /\ o.data = .dict es ep /\ es.toList = xs.map (entryOfKey (tupleKind (mixKind P w))) /\ (xs.map (·.1)).Nodup
 | .set S n=>h.SetOf (intKind P w) a S n
 | .ins C dx fs=>H dx = some (.own a) /\ fs.length <= 1000 /\ dx ≠ a /\ h.get? a = some (PySem.W.instObj C dx) /\
   ∃ mA,h.Ns1 dx mA /\ (∀ f,RelO (fs.lookup f) (mA f)) /\ PySem.Within mA (fs.map (·.1))
 | .own _=>∃ o,h.get? a = some o
 | .xd fs=>∃ mA,h.Ns1 a mA /\ ∀ f,RelO (fs.lookup f) (mA f)
 | .rng lo hi=>∃ t u v,h.get? a = some { cls:=.type "range",data:=.fields #[.int lo t,.int hi u,.int 1 v] }
 | .frz o u=>h.get? a = some o /\ ObjOk H h a u
 | .tbl ps=>h.get? a = some { cls:=.none,data:=.fields ps }
 | .met f x=>h.get? a = some (PySem.W.methodObj (.ref f) (.ref x))
 | .ext φ=>φ h /\ (∃ o,h.get? a = some o) /\ ∀ h1 h2:Heap,φ h1 -> (∀ o,h1.get? a = some o -> h2.get? a = some o) -> φ h2
def HOk (H:Hp) (h:Heap):Prop:=∀ a o,H a = some o -> ObjOk P w H h a o
end
section
variable {P:Program} {w:World} {H H':Hp} {h h':Heap} {a:Addr} {o:HO}
theorem ObjOk.lt (x:ObjOk P w H h a o):a < h.objs.size:=by
 cases o with
 | lst xs=>obtain ⟨_,_,_,_,e⟩:=x; exact Heap.lt_size e
 | tup xs=>obtain ⟨_,_,_,p⟩:=x; exact p.lt
 | dK kvs=>obtain ⟨_,_,_,_,o,_,_,e,_⟩:=x; exact Heap.lt_size e
 | dT kvs=>obtain ⟨_,_,_,_,o,_,_,e,_⟩:=x; exact Heap.lt_size e
 | set S n=>obtain ⟨o,_,_,_,e,_⟩:=x; exact Heap.lt_size e
 | ins C dx fs=>obtain ⟨_,_,_,e,_⟩:=x; exact Heap.lt_size e
 | own y=>obtain ⟨_,e⟩:=x; exact Heap.lt_size e
 | xd fs=>obtain ⟨_,⟨_,_,_,e,_⟩,_⟩:=x; exact Heap.lt_size e
 | rng lo hi=>obtain ⟨_,_,_,e⟩:=x; exact Heap.lt_size e
 | frz ob u=>obtain ⟨e,_⟩:=x; exact Heap.lt_size e
 | tbl ps=>exact Heap.lt_size (show h.get? a = some _ from x)
 | met f y=>exact Heap.lt_size (show h.get? a = some _ from x)
 | ext φ=>obtain ⟨_,⟨_,e⟩,_⟩:=x; exact Heap.lt_size e
theorem Paired.mapP {α β:Type} {F G:α -> β -> Prop}:∀ {l₁:List α} {l₂:List β},Paired F l₁ l₂ -> (∀ a b,F a b -> G a b) -> Paired G l₁ l₂
 | _,_,.nil,_=>.nil
 | _,_,.cons r t,f=>.cons (f _ _ r) (Paired.mapP t f)
theorem Paired.imp' {α β:Type} {F G:α -> β -> Prop} (f:∀ a b,F a b -> G a b) {l₁:List α} {l₂:List β} (r:Paired F l₁ l₂):Paired G l₁ l₂:=Paired.mapP r f
theorem ObjOk.stay (x:ObjOk P w H h a o) (k:∀ b u,(b = a \/ H b = some (.own a)) -> h.get? b = some u -> h'.get? b = some u)
  (ho:∀ b,H b = some (.own a) -> H' b = some (.own a)) (ht:∀ b xs,H b = some (.tup xs) -> H' b = some (.tup xs)):ObjOk P w H' h' a o:=by
 induction o with
 | lst xs=>obtain ⟨z,its,n,r,e⟩:=x; exact ⟨z,its,n,r,k _ _ (.inl rfl) e⟩
 | tup xs=>obtain ⟨z,its,r,ob,e,c⟩:=x; exact ⟨z,its,r,ob,k _ _ (.inl rfl) e,c⟩
 | dK kvs=>obtain ⟨z,y,vs,r,ob,es,ep,e,c⟩:=x; exact ⟨z,y,vs,r,ob,es,ep,k _ _ (.inl rfl) e,c⟩
 | dT kvs=>
  obtain ⟨z,y,xs,r,ob,es,ep,e,c⟩:=x
  exact ⟨z,y,xs,Paired.mapP r fun p q z=>⟨z.1,ht _ _ z.2.1,z.2.2⟩,ob,es,ep,k _ _ (.inl rfl) e,c⟩
 | set S n=>obtain ⟨ob,es,ep,t,e,c⟩:=x; exact ⟨ob,es,ep,t,k _ _ (.inl rfl) e,c⟩
 | ins C dx fs=>
  obtain ⟨d,z,ne,e,mA,⟨od,es,ep,e2,c⟩,r⟩:=x
  exact ⟨ho _ d,z,ne,k _ _ (.inl rfl) e,mA,⟨od,es,ep,k _ _ (.inr d) e2,c⟩,r⟩
 | own y=>obtain ⟨ob,e⟩:=x; exact ⟨ob,k _ _ (.inl rfl) e⟩
 | xd fs=>obtain ⟨mA,⟨od,es,ep,e,c⟩,r⟩:=x; exact ⟨mA,⟨od,es,ep,k _ _ (.inl rfl) e,c⟩,r⟩
 | rng lo hi=>obtain ⟨t,u,v,e⟩:=x; exact ⟨t,u,v,k _ _ (.inl rfl) e⟩
 | frz ob u ih=>obtain ⟨e,q⟩:=x; exact ⟨k _ _ (.inl rfl) e,ih q⟩
 | tbl ps=>
  have e:h.get? a = some { cls:=.none,data:=.fields ps }:=x
  show h'.get? a = some { cls:=.none,data:=.fields ps }
  exact k a _ (.inl rfl) e
 | met f y=>
  have e:h.get? a = some (PySem.W.methodObj (.ref f) (.ref y)):=x
  show h'.get? a = some (PySem.W.methodObj (.ref f) (.ref y))
  exact k a _ (.inl rfl) e
 | ext φ=>obtain ⟨p,⟨o,e⟩,st⟩:=x; exact ⟨st _ _ p fun o q=>k _ _ (.inl rfl) q,⟨o,k _ _ (.inl rfl) e⟩,st⟩
theorem HOk.lt (x:HOk P w H h) (e:H a = some o):a < h.objs.size:=(x a o e).lt
theorem HOk.fresh (x:HOk P w H h) (e:h.objs.size <= a):H a = none:=by
 cases q:H a with
 | none=>rfl
 | some u=>exact absurd (Nat.lt_of_lt_of_le (x.lt q) e) (Nat.lt_irrefl _)
theorem HOk.kept (x:HOk P w H h) (k:∀ b u,h.get? b = some u -> h'.get? b = some u):HOk P w H h':=fun a o e=>
 (x a o e).stay (fun b u _ q=>k b u q) (fun _ q=>q) fun _ _ q=>q
theorem HOk.laid (x:HOk P w H h) (k:∀ b u,h.get? b = some u -> h'.get? b = some u) (hp:h.objs.size <= a) (new:ObjOk P w (upd H a o) h' a o):HOk P w (upd H a o) h':=fun b u e=>by
 have hn:=x.fresh hp
 by_cases hb:b = a
 ·subst hb; rw [upd_same] at e; cases e; exact new
 ·rw [upd_ne hb] at e
  exact (x b u e).stay (fun c v _ q=>k c v q) (fun c q=>by rw [upd_ne (ne_of_none q hn)]; exact q) fun c xs q=>by rw [upd_ne (ne_of_none q hn)]; exact q
end
def Rd (H:Hp) (a:Addr) (u:HO):Prop:=H a = some u \/ ∃ o,H a = some (.frz o u)
theorem Rd.of {H:Hp} {a:Addr} {u:HO} (h:H a = some u):Rd H a u:=.inl h
theorem Rd.ok {P:Program} {w:World} {H:Hp} {h:Heap} {a:Addr} {u:HO} (r:Rd H a u) (x:HOk P w H h):ObjOk P w H h a u:=by
 rcases r with r | ⟨o,r⟩
 ·exact x a u r
 ·obtain ⟨_,q⟩:=x a _ r
  exact q
noncomputable def Mut:Option HO -> Prop
 | some (.lst _)=>True
 | some (.dK _)=>True
 | some (.dT _)=>True
 | some (.set _ _)=>True
 | some (.ins _ _ _)=>True
 | some (.ext _)=>True
 | _=>False
section
variable {P:Program} {w:World} {H:Hp} {h h':Heap} {x e:Addr} {o':HO}
theorem HOk.write (ok:HOk P w H h) (mu:Mut (H x)) (he:e = x \/ H e = some (.own x)) (k:∀ b u,b ≠ e -> h.get? b = some u -> h'.get? b = some u) (heo:∃ u,h'.get? e = some u)
  (new:ObjOk P w (upd H x o') h' x o'):HOk P w (upd H x o') h':=fun b u q=>by
 have nown:∀ c y,H c = some (.own y) -> c ≠ x:=fun c y r z=>by subst z; rw [r] at mu; exact mu
 have ntup:∀ c xs,H c = some (.tup xs) -> c ≠ x:=fun c xs r z=>by subst z; rw [r] at mu; exact mu
 by_cases hb:b = x
 ·subst hb; rw [upd_same] at q; cases q; exact new
 ·rw [upd_ne hb] at q
  by_cases hbe:b = e
  ·have q':H b = some (.own x):=by
    rcases he with z | z
    ·exact absurd (hbe.trans z) hb
    ·rw [hbe]; exact z
   rw [q] at q'; cases q'
   obtain ⟨v,hv⟩:=heo
   exact ⟨v,by rw [hbe]; exact hv⟩
  ·refine (ok b u q).stay (fun c v hc r=>k c v ?_ r) (fun c r=>by rw [upd_ne (nown c b r)]; exact r) fun c xs r=>by rw [upd_ne (ntup c xs r)]; exact r
   rcases hc with rfl | hc
   ·exact hbe
   ·rintro rfl
    rcases he with z | z
    ·exact nown c b hc z
    ·rw [hc] at z; cases z; exact hb rfl
end
structure Un (fs ex:List Addr) (H H':Hp) (h h':Heap):Prop where
 keep:∀ b o,h.get? b = some o -> H b = none -> b ∉ fs -> b ∉ ex -> h'.get? b = some o
 slot:∀ b o,h.get? b = some o -> H b = none -> b ∈ fs -> b ∉ ex -> ∃ sl,h'.get? b = some { o with slots:=sl }
 free:∀ b o,h.get? b = some o -> H b = none -> b ∉ ex -> H' b = none
 there:∀ b o,h.get? b = some o -> b ∉ ex -> ∃ o',h'.get? b = some o'
 tups:∀ b xs,H b = some (.tup xs) -> H' b = some (.tup xs)
 frzs:∀ b o xs,H b = some (.frz o (.lst xs)) -> H' b = some (.frz o (.lst xs))
 tbls:∀ b ps,H b = some (.tbl ps) -> ∃ more,H' b = some (.tbl (ps ++ more))
section
variable {fs fs' ex ex':List Addr} {H H1 H2:Hp} {h h1 h2 h':Heap} {a x e:Addr} {o:HO}
theorem Un.any (u:Un fs ex H H1 h h1) {b:Addr} {ob:Obj} (q:h.get? b = some ob) (n:H b = none) (hx:b ∉ ex):∃ sl,h1.get? b = some { ob with slots:=sl }:=by
 by_cases hb:b ∈ fs
 ·exact u.slot b ob q n hb hx
 ·exact ⟨ob.slots,u.keep b ob q n hb hx⟩
theorem Un.trans (a:Un fs ex H H1 h h1) (b:Un fs ex H1 H2 h1 h2):Un fs ex H H2 h h2 where
 keep:=fun c ob q n hc hx=>b.keep c ob (a.keep c ob q n hc hx) (a.free c ob q n hx) hc hx
 slot:=fun c ob q n hc hx=>by
  obtain ⟨sl,e1⟩:=a.slot c ob q n hc hx
  obtain ⟨sl',e2⟩:=b.slot c _ e1 (a.free c ob q n hx) hc hx
  exact ⟨sl',e2⟩
 free:=fun c ob q n hx=>by
  obtain ⟨o',e1⟩:=a.there c ob q hx
  exact b.free c o' e1 (a.free c ob q n hx) hx
 there:=fun c ob q hx=>by
  obtain ⟨o',e1⟩:=a.there c ob q hx
  exact b.there c o' e1 hx
 tups:=fun c xs q=>b.tups c xs (a.tups c xs q)
 frzs:=fun c ob xs q=>b.frzs c ob xs (a.frzs c ob xs q)
 tbls:=fun c ps q=>by
  obtain ⟨m1,e1⟩:=a.tbls c ps q
  obtain ⟨m2,e2⟩:=b.tbls c _ e1
  exact ⟨m1 ++ m2,by rw [e2,Array.append_assoc]⟩
theorem Un.kept (k:∀ b u,h.get? b = some u -> h'.get? b = some u):Un fs ex H H h h':=
 ⟨fun b ob q _ _ _=>k b ob q,fun b ob q _ _ _=>⟨ob.slots,k b ob q⟩,fun _ _ _ n _=>n,fun b ob q _=>⟨ob,k b ob q⟩,fun _ _ q=>q,fun _ _ _ q=>q,fun _ ps q=>⟨#[],by rw [q]; simp⟩⟩
theorem Un.refl:Un fs ex H H h h:=Un.kept fun _ _ q=>q
theorem Un.laid (k:∀ b u,h.get? b = some u -> h'.get? b = some u) (hp:h.objs.size <= a) (hn:H a = none):Un fs ex H (upd H a o) h h' where
 keep:=fun b u q _ _ _=>k b u q
 slot:=fun b u q _ _ _=>⟨u.slots,k b u q⟩
 free:=fun b u q n _=>by rw [upd_ne (Nat.ne_of_lt (Nat.lt_of_lt_of_le (Heap.lt_size q) hp))]; exact n
 there:=fun b u q _=>⟨u,k b u q⟩
 tups:=fun b xs q=>by rw [upd_ne (ne_of_none q hn)]; exact q
 frzs:=fun b u xs q=>by rw [upd_ne (ne_of_none q hn)]; exact q
 tbls:=fun b ps q=>⟨#[],by rw [upd_ne (ne_of_none q hn),q]; simp⟩
theorem Un.write (mu:Mut (H x)) (he:e = x \/ H e = some (.own x)) (k:∀ b u,b ≠ e -> h.get? b = some u -> h'.get? b = some u) (heo:∃ u,h'.get? e = some u):Un fs ex H (upd H x o) h h':=by
 have hx:∀ b,H b = none -> b ≠ x:=fun b n z=>by subst z; rw [n] at mu; exact mu
 have hb:∀ b,H b = none -> b ≠ e:=fun b n z=>by
  subst z
  rcases he with r | r
  ·exact hx b n r
  ·rw [n] at r; cases r
 have hm:∀ b u,H b = some u -> ¬ Mut (some u) -> b ≠ x:=fun b u q nm z=>by subst z; rw [q] at mu; exact nm mu
 refine ⟨fun b u q n _ _=>k b u (hb b n) q,fun b u q n _ _=>⟨u.slots,k b u (hb b n) q⟩,fun b u q n _=>by rw [upd_ne (hx b n)]; exact n,fun b u q _=>?_,
  fun b xs q=>by rw [upd_ne (hm b _ q fun z=>z)]; exact q,fun b u xs q=>by rw [upd_ne (hm b _ q fun z=>z)]; exact q,fun b ps q=>⟨#[],by rw [upd_ne (hm b _ q fun z=>z),q]; simp⟩⟩
 by_cases hbe:b = e
 ·subst hbe; exact heo
 ·exact ⟨u,k b u hbe q⟩
theorem Un.mono (u:Un fs ex H H1 h h1) (hs:∀ b ∈ fs,b ∈ fs') (hx:∀ b ∈ ex,b ∈ ex'):Un fs' ex' H H1 h h1:=
 ⟨fun b ob q n hb he=>u.keep b ob q n (fun z=>hb (hs b z)) fun z=>he (hx b z),fun _ _ q n _ he=>u.any q n fun z=>he (hx _ z),fun b ob q n he=>u.free b ob q n fun z=>he (hx b z),fun b ob q he=>u.there b ob q fun z=>he (hx b z),u.tups,u.frzs,u.tbls⟩
end
noncomputable def trk (h:Heap) (H:Hp):List Addr:=(List.range h.objs.size).filter fun a=>(H a).isSome
noncomputable def hidT (h:Heap) (H:Hp):Heap:=PySem.W.hideAll h (trk h H)
theorem hidT_size (h:Heap) (H:Hp):(hidT h H).objs.size = h.objs.size:=PySem.W.hideAll_size _ _
theorem hidT_get {h:Heap} {H:Hp} {b:Addr} {o:Obj} (e:h.get? b = some o) (n:H b = none):(hidT h H).get? b = some o:=
 PySem.W.hideAll_get _ e fun hm=>by
  have q:(H b).isSome = true:=(List.mem_filter.mp hm).2
  rw [n] at q; simp at q
theorem of_hidT {h:Heap} {H:Hp} {b:Addr} {o:Obj} (e:(hidT h H).get? b = some o):h.get? b = some o /\ H b = none:=by
 have e':h.get? b = some o:=PySem.W.of_hideAll (trk h H) e
 refine ⟨e',?_⟩
 cases q:H b with
 | none=>rfl
 | some x=>
  have hm:b ∈ trk h H:=List.mem_filter.mpr ⟨List.mem_range.mpr (Heap.lt_size e'),by simp [q]⟩
  have z:(hidT h H).get? b = none:=PySem.W.hideAll_none (trk h H) hm
  rw [z] at e; cases e
noncomputable def allNews (g h:Heap) (L:Addr):List (Addr × Obj):=(List.range h.objs.size).filterMap fun a=>if a = L \/ (g.get? a).isSome = true then none else (h.get? a).map fun o=>(a,o)
noncomputable def rest (g h:Heap) (L d:Addr):List (Addr × Obj):=(allNews g h L).filter fun p=>decide (p.1 ≠ d)
structure Mod (K:Frag) (mg:Str -> Option Value) (base:Heap):Prop where
 kin:K.In base
 glob:base.Ns mainGlobals mg
 blt:∃ mb,base.Ns builtinsNs mb /\ ∀ x:Str,x ≠ "__name__" -> mb x = bootBuiltins x
 nolimit:base.NoLimit
structure Cx where
 prog:Program
 w:World
 K:Frag
 mg:Str -> Option Value
 base:Heap
 A:Around
 N:List Str
 s₀:Shared
 H₀:Hp
 env:Env
 outer:List Env
 stack:List Env
 ex:List Addr
 fn:Str -> Bool
 calm:Bool
 pn:List (Addr × Obj)
 xe:Value -> Shared -> Prop
noncomputable def frs (l:List Env):List Addr:=l.filterMap (·.frame)
noncomputable abbrev Cx.fs (X:Cx):List Addr:=frs X.outer
def Vis (sc:Scope) (x:Str):Prop:=sc.names.lookup x = some .local \/ sc.names.lookup x = some .cell \/ sc.names.lookup x = some .free
def Loc (sc:Scope) (x:Str):Prop:=sc.names.lookup x = some .local \/ sc.names.lookup x = some .cell
def Look (env:Env) (h:Heap) (m:Str -> Option Value) (x:Str) (u:Value):Prop:=
 (env.kindOf x = some .local /\ m x = some u) \/ ((env.kindOf x = some .cell \/ env.kindOf x = some .free) /\ ∃ c,env.cells.lookup x = some c /\ h.IsCell c (some u))
structure Cx.Ok (X:Cx):Prop where
 mod:Mod X.K X.mg X.base
 kind:X.env.scope.kind = .function
 glob:X.env.globals = mainGlobals
 blt:X.env.builtins = builtinsNs
 above:X.s₀.heap.objs.size <= X.env.locals
 inj:∀ x y c,X.env.cells.lookup x = some c -> X.env.cells.lookup y = some c -> x = y
 has:∀ x,(X.env.kindOf x = some .cell \/ X.env.kindOf x = some .free) -> ∃ c,X.env.cells.lookup x = some c
 cab:∀ x c,X.fn x = true -> X.env.cells.lookup x = some c -> X.s₀.heap.objs.size <= c
 hd:X.calm = true -> X.A.handled = none
 frames:X.A.frames = some X.stack
 stk:X.stack = X.outer \/ (X.stack = X.env :: X.outer /\ X.env.frame = some X.env.locals)
 exf:∀ b ∈ X.ex,b ≠ X.env.locals /\ ∀ x c,X.env.cells.lookup x = some c -> c ≠ b
 bs:∀ b o,X.base.get? b = some o -> X.s₀.heap.get? b = some o /\ X.H₀ b = none
 bsz:X.base.objs.size <= X.s₀.heap.objs.size
 noex:∀ b o,X.base.get? b = some o -> b ∉ X.ex
 exfs:∀ b ∈ X.ex,b ∉ X.fs
 funs:X.s₀.heap.FunFrames X.base X.outer
 frf:∀ b ∈ X.fs,X.H₀ b = none
structure Inv (X:Cx) (pins:List (Addr × Obj)) (σ:List (Option V)) (H:Hp) (s:Shared):Prop where
 ok:X.Ok
 os:s.os = X.s₀.os
 bare:AllBare s.gens
 base:Un X.fs X.ex X.H₀ H X.s₀.heap s.heap
 loc:∃ m,s.heap.Ns X.env.locals m /\ ∀ (i:Nat) (x:Str) (v:V),X.N[i]? = some x -> σ[i]? = some (some v) -> Vis X.env.scope x -> ∃ u,RelV v u /\ Look X.env s.heap m x u
 cell:∀ x c,X.env.cells.lookup x = some c -> ∃ v,s.heap.IsCell c v
 free:H X.env.locals = none
 freeC:∀ x c,X.env.cells.lookup x = some c -> H c = none
 pin:∀ p ∈ X.pn ++ pins,s.heap.get? p.1 = some p.2 /\ H p.1 = none /\ p.1 ≠ X.env.locals /\ p.1 ∉ X.fs /\ ∀ v,p.2.data ≠ .cell v
 hok:HOk X.prog X.w H s.heap
 len:σ.length = X.N.length
 tk:0 < s.toks
section
variable {X:Cx} {pins:List (Addr × Obj)} {σ:List (Option V)} {H H':Hp} {s:Shared} {h':Heap}
theorem Cx.Ok.nofr (ok:X.Ok) {b:Addr} {o:Obj} (e:X.base.get? b = some o):b ∉ X.fs:=fun hb=>by
 have:=(ok.funs.mem hb).1
 rw [e] at this; cases this
theorem Inv.bs (I:Inv X pins σ H s):∀ b o,X.base.get? b = some o -> s.heap.get? b = some o /\ H b = none:=fun b o e=>
 ⟨I.base.keep b o (I.ok.bs b o e).1 (I.ok.bs b o e).2 (I.ok.nofr e) (I.ok.noex b o e),I.base.free b o (I.ok.bs b o e).1 (I.ok.bs b o e).2 (I.ok.noex b o e)⟩
theorem Inv.bk (I:Inv X pins σ H s):∀ b o,X.base.get? b = some o -> s.heap.get? b = some o:=fun b o e=>(I.bs b o e).1
theorem Inv.mod (I:Inv X pins σ H s):Mod X.K X.mg X.base:=I.ok.mod
theorem Inv.kIn (I:Inv X pins σ H s):X.K.In s.heap:=I.ok.mod.kin.keeps I.bk
theorem Inv.nolimit (I:Inv X pins σ H s):s.heap.NoLimit:=I.ok.mod.nolimit.keeps I.bk
theorem Inv.fr (I:Inv X pins σ H s):∃ m,Fr X.base X.env.locals s.heap m:=
 let ⟨m,hn,_⟩:=I.loc
 ⟨m,hn,I.bk,Nat.le_trans I.ok.bsz I.ok.above⟩
theorem Inv.lt (I:Inv X pins σ H s):X.env.locals < s.heap.objs.size:=let ⟨_,hn,_⟩:=I.loc; hn.lt
theorem Inv.sz (I:Inv X pins σ H s):X.s₀.heap.objs.size <= s.heap.objs.size:=Nat.le_trans I.ok.above (Nat.le_of_lt I.lt)
theorem Inv.nofs (I:Inv X pins σ H s) {a:Addr} (h:s.heap.objs.size <= a):a ∉ X.fs:=fun hb=>by
 obtain ⟨_,o,ho,_⟩:=I.ok.funs.mem hb
 exact absurd (Nat.lt_of_lt_of_le (Heap.lt_size ho) (Nat.le_trans I.sz h)) (Nat.lt_irrefl _)
theorem Inv.cne (I:Inv X pins σ H s):∀ x c,X.env.cells.lookup x = some c -> c ≠ X.env.locals:=fun x c e z=>by
 obtain ⟨v,o,ho,hd⟩:=I.cell x c e
 obtain ⟨m,⟨o',es,ep,ho',hd',_⟩,_⟩:=I.loc
 rw [z,ho'] at ho; cases ho; rw [hd'] at hd; cases hd
theorem Inv.funs (I:Inv X pins σ H s):s.heap.FunFrames X.base X.outer:=by
 have all:∀ (l:List Env),(∀ b ∈ frs l,b ∈ X.fs) -> X.s₀.heap.FunFrames X.base l -> s.heap.FunFrames X.base l:=by
  intro l
  induction l with
  | nil=>intro _ _; trivial
  | cons env r ih=>
   intro hs hl
   obtain ⟨hk,⟨L,o,hf,hn,ho,hd⟩,hr⟩:=hl
   have hL:L ∈ X.fs:=hs L (by unfold frs; rw [List.filterMap_cons,hf]; exact List.mem_cons_self)
   obtain ⟨sl,e⟩:=I.base.slot L o ho (I.ok.frf L hL) hL fun z=>I.ok.exfs L z hL
   exact ⟨hk,⟨L,_,hf,hn,e,hd⟩,ih (fun b hb=>hs b (by unfold frs; rw [List.filterMap_cons,hf]; exact List.mem_cons_of_mem _ hb)) hr⟩
 exact all X.outer (fun _ hb=>hb) I.ok.funs
theorem Inv.stack (I:Inv X pins σ H s):s.heap.FunFrames X.base X.stack:=by
 rcases I.ok.stk with e | ⟨e,hf⟩
 ·rw [e]; exact I.funs
 ·rw [e]
  obtain ⟨m,hn,_⟩:=I.loc
  refine .cons (by rw [I.ok.kind]; decide) hf hn ?_ I.funs
  exact Heap.get?_none_of_le (Nat.le_trans I.ok.bsz I.ok.above)
theorem Inv.stkSub (I:Inv X pins σ H s):∀ b ∈ frs X.stack,b ∈ X.env.locals :: X.fs:=fun b hb=>by
 rcases I.ok.stk with e | ⟨e,hf⟩
 ·rw [e] at hb; exact List.mem_cons_of_mem _ hb
 ·rw [e] at hb
  unfold frs at hb
  rw [List.filterMap_cons,hf] at hb
  exact hb
theorem Inv.stkFree (I:Inv X pins σ H s):∀ b ∈ frs X.stack,H b = none:=fun b hb=>by
 rcases List.mem_cons.mp (I.stkSub b hb) with e | hb
 ·rw [e]; exact I.free
 ·obtain ⟨_,o,ho,_⟩:=I.ok.funs.mem hb
  exact I.base.free b o ho (I.ok.frf b hb) fun z=>I.ok.exfs b z hb
theorem Inv.step {g':Array GenState} {t':Nat} {d':Drawn} {ch:List Addr} (I:Inv X pins σ H s)
  (hch:∀ b ∈ ch,(b ∈ X.ex \/ X.s₀.heap.objs.size <= b) /\ b ≠ X.env.locals /\ (∀ x c,X.env.cells.lookup x = some c -> c ≠ b) /\ ∀ p ∈ X.pn ++ pins,p.1 ≠ b)
  (keep:∀ b o,b ≠ X.env.locals -> b ∉ X.fs -> b ∉ ch -> s.heap.get? b = some o -> H b = none -> h'.get? b = some o)
  (slot:∀ b o,b ≠ X.env.locals -> b ∈ X.fs -> b ∉ ch -> s.heap.get? b = some o -> H b = none -> ∃ sl,h'.get? b = some { o with slots:=sl }) (free:∀ b o,b ∉ ch -> s.heap.get? b = some o -> H b = none -> H' b = none)
  (there:∀ b o,b ∉ ch -> s.heap.get? b = some o -> ∃ o',h'.get? b = some o')
  (tups:∀ b xs,H b = some (.tup xs) -> H' b = some (.tup xs)) (frzs:∀ b o xs,H b = some (.frz o (.lst xs)) -> H' b = some (.frz o (.lst xs))) (tbls:∀ b ps,H b = some (.tbl ps) -> ∃ more,H' b = some (.tbl (ps ++ more)))
  (ns:∀ m,s.heap.Ns X.env.locals m -> h'.Ns X.env.locals m) (hok:HOk X.prog X.w H' h') (hg:AllBare g') (ht:0 < t':=by first | assumption | exact Nat.succ_pos _ | (apply Inv.tk; assumption) | omega):
  Inv X pins σ H' { s with heap:=h',gens:=g',drawn:=d',toks:=t' }:=by
 have neL:∀ b o,X.s₀.heap.get? b = some o -> b ≠ X.env.locals:=fun b o e=>Nat.ne_of_lt (Nat.lt_of_lt_of_le (Heap.lt_size e) I.ok.above)
 have neC:∀ b o,X.s₀.heap.get? b = some o -> b ∉ X.ex -> b ∉ ch:=fun b o e hx hb=>by
  rcases (hch b hb).1 with z | z
  ·exact hx z
  ·exact absurd (Nat.lt_of_lt_of_le (Heap.lt_size e) z) (Nat.lt_irrefl _)
 have cellK:∀ x c,X.env.cells.lookup x = some c -> ∀ v,s.heap.IsCell c v -> h'.IsCell c v:=fun x c e v ⟨o,ho,hd⟩=>by
  have nch:c ∉ ch:=fun z=>(hch c z).2.2.1 x c e rfl
  by_cases hc:c ∈ X.fs
  ·obtain ⟨sl,q⟩:=slot c o (I.cne x c e) hc nch ho (I.freeC x c e)
   exact ⟨_,q,hd⟩
  ·exact ⟨o,keep c o (I.cne x c e) hc nch ho (I.freeC x c e),hd⟩
 refine ⟨I.ok,I.os,hg,⟨fun b o e n hb hx=>?_,fun b o e n hb hx=>?_,fun b o e n hx=>?_,fun b o e hx=>?_,fun b xs e=>tups b xs (I.base.tups b xs e),fun b o xs e=>frzs b o xs (I.base.frzs b o xs e),fun b ps e=>?_⟩,?_,fun x c e=>?_,?_,fun x c e=>?_,fun p hp=>?_,hok,I.len,ht⟩
 ·exact keep b o (neL b o e) hb (neC b o e hx) (I.base.keep b o e n hb hx) (I.base.free b o e n hx)
 ·obtain ⟨sl,e1⟩:=I.base.slot b o e n hb hx
  obtain ⟨sl',e2⟩:=slot b _ (neL b o e) hb (neC b o e hx) e1 (I.base.free b o e n hx)
  exact ⟨sl',e2⟩
 ·obtain ⟨o',e1⟩:=I.base.there b o e hx
  exact free b o' (neC b o e hx) e1 (I.base.free b o e n hx)
 ·obtain ⟨o',e1⟩:=I.base.there b o e hx
  exact there b o' (neC b o e hx) e1
 ·obtain ⟨m1,e1⟩:=I.base.tbls b ps e
  obtain ⟨m2,e2⟩:=tbls b _ e1
  exact ⟨m1 ++ m2,by rw [e2,Array.append_assoc]⟩
 ·obtain ⟨m,hn,hl⟩:=I.loc
  refine ⟨m,ns m hn,fun i x v e1 e2 e3=>?_⟩
  obtain ⟨u,r,l⟩:=hl i x v e1 e2 e3
  refine ⟨u,r,?_⟩
  rcases l with l | ⟨k,c,e,z⟩
  ·exact .inl l
  ·exact .inr ⟨k,c,e,cellK x c e _ z⟩
 ·obtain ⟨v,z⟩:=I.cell x c e
  exact ⟨v,cellK x c e v z⟩
 ·obtain ⟨m,⟨o,_,_,ho,_⟩,_⟩:=I.loc
  exact free _ o (fun z=>(hch _ z).2.1 rfl) ho I.free
 ·obtain ⟨v,o,ho,hd⟩:=I.cell x c e
  exact free c o (fun z=>(hch c z).2.2.1 x c e rfl) ho (I.freeC x c e)
 ·obtain ⟨e,n,ne,nf,d⟩:=I.pin p hp
  have nch:p.1 ∉ ch:=fun z=>(hch p.1 z).2.2.2 p hp rfl
  exact ⟨keep p.1 p.2 ne nf nch e n,free p.1 p.2 nch e n,ne,nf,d⟩
theorem Inv.un {t':Nat} (I:Inv X pins σ H s) (u:Un X.fs [] H H' s.heap h') (hok:HOk X.prog X.w H' h') (ht:0 < t':=by first | assumption | exact Nat.succ_pos _ | (apply Inv.tk; assumption) | omega):Inv X pins σ H' { s with heap:=h',toks:=t' }:=by
 obtain ⟨m,⟨o,es,ep,ho,r⟩,_⟩:=id I.loc
 obtain ⟨sl,hL⟩:=u.any ho I.free (by simp)
 exact I.step (g':=s.gens) (d':=s.drawn) (ch:=[]) (fun _ z=>nomatch z) (fun b o _ hb _ e n=>u.keep b o e n hb (by simp)) (fun b o _ hb _ e n=>u.slot b o e n hb (by simp)) (fun b o _ e n=>u.free b o e n (by simp)) (fun b o _ e=>u.there b o e (by simp)) u.tups u.frzs u.tbls (fun m' hm=>by
  obtain ⟨o',es',ep',ho',r'⟩:=hm
  rw [ho] at ho'; cases ho'
  exact ⟨_,es',ep',hL,r'⟩) hok I.bare ht
theorem Inv.call {g':Array GenState} {t':Nat} {d':Drawn} {ch:List Addr} (I:Inv X pins σ H s) (u:Un (frs X.stack) ch H H' s.heap h') (hok:HOk X.prog X.w H' h') (hg:AllBare g')
  (hch:∀ b ∈ ch,(b ∈ X.ex \/ X.s₀.heap.objs.size <= b) /\ b ≠ X.env.locals /\ (∀ x c,X.env.cells.lookup x = some c -> c ≠ b) /\ ∀ p ∈ X.pn ++ pins,p.1 ≠ b) (ht:0 < t':=by first | assumption | exact Nat.succ_pos _ | (apply Inv.tk; assumption) | omega):
  Inv X pins σ H' { s with heap:=h',gens:=g',drawn:=d',toks:=t' }:=by
 obtain ⟨m,⟨o,es,ep,ho,r⟩,_⟩:=id I.loc
 obtain ⟨sl,hL⟩:=u.any ho I.free fun z=>(hch _ z).2.1 rfl
 exact I.step (ch:=ch) hch (fun b o hL hb hc e n=>u.keep b o e n (fun z=>(List.mem_cons.mp (I.stkSub b z)).elim hL hb) hc) (fun b o _ _ hc e n=>u.any e n hc) (fun b o hc e n=>u.free b o e n hc) (fun b o hc e=>u.there b o e hc) u.tups u.frzs u.tbls (fun m' hm=>by
  obtain ⟨o',es',ep',ho',r'⟩:=hm
  rw [ho] at ho'; cases ho'
  exact ⟨_,es',ep',hL,r'⟩) hok hg ht
theorem Inv.turned {t':Nat} {it:Addr} (I:Inv X pins σ H s) (k:∀ b o,b ≠ it -> s.heap.get? b = some o -> h'.get? b = some o) (hn:H it = none) (hL:it ≠ X.env.locals)
  (h1:it ∈ X.ex \/ X.s₀.heap.objs.size <= it) (h2:∀ x c,X.env.cells.lookup x = some c -> c ≠ it) (h3:∀ p ∈ X.pn ++ pins,p.1 ≠ it) (ht:0 < t':=by first | assumption | exact Nat.succ_pos _ | (apply Inv.tk; assumption) | omega):Inv X pins σ H { s with heap:=h',toks:=t' }:=by
 have nit:∀ b u,H b = some u -> b ≠ it:=fun b u e z=>by rw [z,hn] at e; cases e
 refine I.step (g':=s.gens) (d':=s.drawn) (ch:=[it]) (fun b hb=>?_) (fun b o _ _ hc e _=>k b o (fun z=>hc (by simp [z])) e) (fun b o _ _ hc e _=>⟨o.slots,k b o (fun z=>hc (by simp [z])) e⟩) (fun _ _ _ _ n=>n)
  (fun b o hc e=>⟨o,k b o (fun z=>hc (by simp [z])) e⟩) (fun _ _ e=>e) (fun _ _ _ e=>e) (fun b ps e=>⟨#[],by rw [e]; simp⟩) (fun m hm=>?_) (fun b u e=>?_) I.bare
 ·have e:b = it:=by simpa using hb
  subst e
  exact ⟨h1,hL,h2,h3⟩
 ·obtain ⟨o,es,ep,ho,r⟩:=hm
  exact ⟨o,es,ep,k _ o (Ne.symm hL) ho,r⟩
 ·refine (I.hok b u e).stay (fun c v hc q=>k c v ?_ q) (fun _ q=>q) fun _ _ q=>q
  rcases hc with z | z
  ·rw [z]; exact nit b u e
  ·exact nit c _ z
theorem Inv.tok (I:Inv X pins σ H s) (t:Nat) (ht:0 < t:=by first | assumption | exact Nat.succ_pos _ | (apply Inv.tk; assumption) | omega):Inv X pins σ H { s with toks:=t }:=I.un (h':=s.heap) (t':=t) Un.refl I.hok ht
theorem Inv.kept {t':Nat} (I:Inv X pins σ H s) (k:∀ b u,s.heap.get? b = some u -> h'.get? b = some u) (ht:0 < t':=by first | assumption | exact Nat.succ_pos _ | (apply Inv.tk; assumption) | omega):Inv X pins σ H { s with heap:=h',toks:=t' }:=I.un (Un.kept k) (I.hok.kept k) ht
theorem Inv.laid {a:Addr} {o:HO} {t':Nat} (I:Inv X pins σ H s) (k:∀ b u,s.heap.get? b = some u -> h'.get? b = some u) (hp:s.heap.objs.size <= a) (new:ObjOk X.prog X.w (upd H a o) h' a o) (ht:0 < t':=by first | assumption | exact Nat.succ_pos _ | (apply Inv.tk; assumption) | omega):
  Inv X pins σ (upd H a o) { s with heap:=h',toks:=t' }:=I.un (Un.laid k hp (I.hok.fresh hp)) (I.hok.laid k hp new) ht
theorem Inv.write {x e:Addr} {o:HO} {t':Nat} (I:Inv X pins σ H s) (mu:Mut (H x)) (he:e = x \/ H e = some (.own x)) (k:∀ b u,b ≠ e -> s.heap.get? b = some u -> h'.get? b = some u) (heo:∃ u,h'.get? e = some u)
  (new:ObjOk X.prog X.w (upd H x o) h' x o) (ht:0 < t':=by first | assumption | exact Nat.succ_pos _ | (apply Inv.tk; assumption) | omega):Inv X pins σ (upd H x o) { s with heap:=h',toks:=t' }:=I.un (Un.write mu he k heo) (I.hok.write mu he k heo new) ht
theorem Inv.weak {σ':List (Option V)} (I:Inv X pins σ H s) (hl:σ'.length = σ.length) (w:∀ (i:Nat) v,σ'[i]? = some (some v) -> σ[i]? = some (some v)):Inv X pins σ' H s:=
 ⟨I.ok,I.os,I.bare,I.base,let ⟨m,hn,hl'⟩:=I.loc; ⟨m,hn,fun i x v e1 e2 e3=>hl' i x v e1 (w i v e2) e3⟩,I.cell,I.free,I.freeC,I.pin,I.hok,hl.trans I.len,I.tk⟩
theorem Inv.pins_of {pins':List (Addr × Obj)} (I:Inv X pins σ H s) (h:∀ p ∈ pins',s.heap.get? p.1 = some p.2 /\ H p.1 = none /\ p.1 ≠ X.env.locals /\ p.1 ∉ X.fs /\ ∀ v,p.2.data ≠ .cell v):Inv X pins' σ H s:=
 ⟨I.ok,I.os,I.bare,I.base,I.loc,I.cell,I.free,I.freeC,fun p hp=>(List.mem_append.mp hp).elim (fun z=>I.pin p (List.mem_append_left _ z)) (h p),I.hok,I.len,I.tk⟩
theorem nodup_ix {N:List Str} (hN:N.Nodup) {i j:Nat} {x:Str} (a:N[i]? = some x) (b:N[j]? = some x):i = j:=by
 obtain ⟨h1,e1⟩:=List.getElem?_eq_some_iff.mp a
 obtain ⟨h2,e2⟩:=List.getElem?_eq_some_iff.mp b
 exact (List.getElem_inj hN).mp (e1.trans e2.symm)
theorem store_ok2 {M:Model} {A:Around} {E:Value -> Shared -> Prop} {i:Nat} {x:Str} {v:V} {u:Value} {Q:Unit -> Shared -> Prop} (I:Inv X pins σ H s) (hN:X.N.Nodup) (hi:X.N[i]? = some x) (hx:Loc X.env.scope x) (r:RelV v u)
  (h:∀ s',Inv X pins (σ.set i (some v)) H s' -> (∃ a,Heap.SameBut a s.heap s'.heap /\ (a = X.env.locals \/ X.env.cells.lookup x = some a)) -> Q () s') (hf:X.fn x = true \/ X.env.scope.names.lookup x = some .local:=by first | exact .inl rfl | exact .inr rfl | assumption):wpAny M A (storeName X.env x u) Q E s:=by
 obtain ⟨m,hn,hl⟩:=id I.loc
 have hcls:(X.env.scope.kind == .class || (X.env.scope.kind == .module && X.env.locals != X.env.globals)) = false:=by rw [I.ok.kind]; rfl
 have hiσ:i < σ.length:=by rw [I.len]; exact (List.getElem?_eq_some_iff.mp hi).1
 have cne:=I.cne
 have tracked:∀ {a:Addr} {h':Heap},(∃ o,s.heap.get? a = some o /\ H a = none) -> Heap.SameBut a s.heap h' -> HOk X.prog X.w H h':=fun {a h'} ha hs b ob e=>by
  obtain ⟨_,_,hfree⟩:=ha
  refine (I.hok b ob e).stay (fun c w' hc q=>(hs.2 c ?_).trans q) (fun _ q=>q) fun _ _ q=>q
  rintro rfl
  rcases hc with rfl | hc
  ·rw [hfree] at e; cases e
  ·rw [hfree] at hc; cases hc
 rcases hx with hk | hk
 ·refine wpAny_storeName_local hk hn (fun h' hn' hs=>?_) hcls
  obtain ⟨oL,_,_,hoL,_⟩:=id hn
  refine h _ ⟨I.ok,I.os,I.bare,⟨fun b o e n hb hx=>?_,fun b o e n hb hx=>?_,I.base.free,fun b o e hx=>?_,I.base.tups,I.base.frzs,I.base.tbls⟩,⟨_,hn',fun j y v' e1 e2 e3=>?_⟩,fun y c e=>?_,I.free,I.freeC,fun p hp=>?_,tracked ⟨oL,hoL,I.free⟩ hs,by simpa using I.len,(by first | exact Nat.succ_pos _ | exact I.tk)⟩ ⟨_,hs,.inl rfl⟩
  ·exact (hs.2 b (Nat.ne_of_lt (Nat.lt_of_lt_of_le (Heap.lt_size e) I.ok.above))).trans (I.base.keep b o e n hb hx)
  ·obtain ⟨sl,e1⟩:=I.base.slot b o e n hb hx
   exact ⟨sl,(hs.2 b (Nat.ne_of_lt (Nat.lt_of_lt_of_le (Heap.lt_size e) I.ok.above))).trans e1⟩
  ·obtain ⟨o',e1⟩:=I.base.there b o e hx
   exact ⟨o',(hs.2 b (Nat.ne_of_lt (Nat.lt_of_lt_of_le (Heap.lt_size e) I.ok.above))).trans e1⟩
  ·by_cases hj:j = i
   ·subst hj
    rw [hi] at e1; cases e1
    rw [List.getElem?_set_self hiσ] at e2
    cases e2
    exact ⟨u,r,.inl ⟨hk,by simp⟩⟩
   ·rw [List.getElem?_set_ne (Ne.symm hj)] at e2
    obtain ⟨u',r',q⟩:=hl j y v' e1 e2 e3
    refine ⟨u',r',?_⟩
    rcases q with ⟨k,e⟩ | ⟨k,c,e,z⟩
    ·refine .inl ⟨k,?_⟩
     have:y ≠ x:=fun e=>hj (nodup_ix hN e1 (e ▸ hi))
     simp [this,e]
    ·exact .inr ⟨k,c,e,z.sameBut hs (cne y c e)⟩
  ·obtain ⟨w',z⟩:=I.cell y c e
   exact ⟨w',z.sameBut hs (cne y c e)⟩
  ·obtain ⟨e,n,ne,nf,d⟩:=I.pin p hp
   exact ⟨(hs.2 p.1 ne).trans e,n,ne,nf,d⟩
 ·have hfn:X.fn x = true:=by
   rcases hf with z | z
   ·exact z
   ·rw [z] at hk; cases hk
  obtain ⟨c,hc⟩:=I.ok.has x (.inl hk)
  obtain ⟨w',z⟩:=I.cell x c hc
  refine wpAny_storeName_cell I.ok.kind hk hc z (fun h' hc' hs=>?_)
  obtain ⟨oc,hoc,hocd⟩:=id z
  refine h { s with heap:=h' } ⟨I.ok,I.os,I.bare,⟨fun b o e n hb hx=>?_,fun b o e n hb hx=>?_,I.base.free,fun b o e hx=>?_,I.base.tups,I.base.frzs,I.base.tbls⟩,⟨m,hn.sameBut hs (Ne.symm (cne x c hc)),fun j y v' e1 e2 e3=>?_⟩,fun y c' e=>?_,I.free,I.freeC,fun p hp=>?_,tracked ⟨oc,hoc,I.freeC x c hc⟩ hs,by simpa using I.len,I.tk⟩ ⟨c,hs,.inr hc⟩
  ·exact (hs.2 b (Nat.ne_of_lt (Nat.lt_of_lt_of_le (Heap.lt_size e) (I.ok.cab x c hfn hc)))).trans (I.base.keep b o e n hb hx)
  ·obtain ⟨sl,e1⟩:=I.base.slot b o e n hb hx
   exact ⟨sl,(hs.2 b (Nat.ne_of_lt (Nat.lt_of_lt_of_le (Heap.lt_size e) (I.ok.cab x c hfn hc)))).trans e1⟩
  ·obtain ⟨o',e1⟩:=I.base.there b o e hx
   exact ⟨o',(hs.2 b (Nat.ne_of_lt (Nat.lt_of_lt_of_le (Heap.lt_size e) (I.ok.cab x c hfn hc)))).trans e1⟩
  ·by_cases hj:j = i
   ·subst hj
    rw [hi] at e1; cases e1
    rw [List.getElem?_set_self hiσ] at e2
    cases e2
    exact ⟨u,r,.inr ⟨.inl hk,c,hc,hc'⟩⟩
   ·rw [List.getElem?_set_ne (Ne.symm hj)] at e2
    obtain ⟨u',r',q⟩:=hl j y v' e1 e2 e3
    refine ⟨u',r',?_⟩
    rcases q with q | ⟨k,c',e,z'⟩
    ·exact .inl q
    ·refine .inr ⟨k,c',e,z'.sameBut hs ?_⟩
     rintro rfl
     exact hj (nodup_ix hN e1 (I.ok.inj _ _ _ e hc ▸ hi))
  ·by_cases hcc:c' = c
   ·subst hcc; exact ⟨_,hc'⟩
   ·obtain ⟨w2,z2⟩:=I.cell y c' e
    exact ⟨w2,z2.sameBut hs hcc⟩
  ·obtain ⟨e,n,ne,nf,d⟩:=I.pin p hp
   refine ⟨(hs.2 p.1 ?_).trans e,n,ne,nf,d⟩
   intro q
   rw [q,hoc] at e
   have q':oc = p.2:=Option.some.inj e
   exact d w' (by rw [<- q']; exact hocd)
theorem store_ok {M:Model} {A:Around} {E:Value -> Shared -> Prop} {i:Nat} {x:Str} {v:V} {u:Value} {Q:Unit -> Shared -> Prop} (I:Inv X pins σ H s) (hN:X.N.Nodup) (hi:X.N[i]? = some x) (hx:Loc X.env.scope x) (r:RelV v u)
  (h:∀ s',Inv X pins (σ.set i (some v)) H s' -> Q () s') (hf:X.fn x = true \/ X.env.scope.names.lookup x = some .local:=by first | exact .inl rfl | exact .inr rfl | assumption):wpAny M A (storeName X.env x u) Q E s:=
 store_ok2 I hN hi hx r (fun s' I' _=>h s' I') hf
theorem Inv.call' {s':Shared} {ch:List Addr} (I:Inv X pins σ H s) (ho:s'.os = s.os) (u:Un (frs X.stack) ch H H' s.heap s'.heap) (hok:HOk X.prog X.w H' s'.heap) (hg:AllBare s'.gens)
  (hch:∀ b ∈ ch,(b ∈ X.ex \/ X.s₀.heap.objs.size <= b) /\ b ≠ X.env.locals /\ (∀ x c,X.env.cells.lookup x = some c -> c ≠ b) /\ ∀ p ∈ X.pn ++ pins,p.1 ≠ b) (ht:0 < s'.toks:=by first | assumption | exact Nat.succ_pos _ | (apply Inv.tk; assumption) | omega):Inv X pins σ H' s':=by
 obtain ⟨h',g',d',t',o'⟩:=s'
 have e:o' = s.os:=ho
 subst e
 exact I.call (g':=g') (t':=t') (d':=d') u hok hg hch ht
end
noncomputable abbrev XK:=Value -> Option Addr -> Hp -> Prop
noncomputable abbrev St:=List (Option V)
noncomputable abbrev VK:=V -> Hp -> Prop
noncomputable abbrev TE:=St -> Hp -> VK -> Prop
noncomputable abbrev TT:=St -> Hp -> (Bool -> Hp -> Prop) -> Prop
noncomputable abbrev TA:=St -> Hp -> (List V -> Hp -> Prop) -> Prop
structure Ends where
 nx:St -> Hp -> Prop
 rt:VK
 bk:St -> Hp -> Prop:=fun _ _=>False
 ct:St -> Hp -> Prop:=fun _ _=>False
noncomputable abbrev TS:=Ends -> St -> Hp -> Prop
def EP (X:Cx) (pins:List (Addr × Obj)) (σ:St) (Q:VK) (u:Value) (s':Shared):Prop:=∃ v H',Inv X pins σ H' s' /\ RelV v u /\ Q v H'
def TP (X:Cx) (pins:List (Addr × Obj)) (σ:St) (Q:Bool -> Hp -> Prop) (b:Bool) (s':Shared):Prop:=∃ H',Inv X pins σ H' s' /\ Q b H'
def AP (X:Cx) (pins:List (Addr × Obj)) (σ:St) (Q:List V -> Hp -> Prop) (us:List Value) (s':Shared):Prop:=∃ vs H',Inv X pins σ H' s' /\ Vals vs us /\ Q vs H'
def SP (X:Cx) (pins:List (Addr × Obj)) (D:Ends) (f:Flow) (s':Shared):Prop:=
 match f with
 | .next=>∃ σ' H',Inv X pins σ' H' s' /\ D.nx σ' H'
 | .brk=>∃ σ' H',Inv X pins σ' H' s' /\ D.bk σ' H'
 | .cont=>∃ σ' H',Inv X pins σ' H' s' /\ D.ct σ' H'
 | .ret u=>∃ v σ' H',Inv X pins σ' H' s' /\ RelV v u /\ D.rt v H'
def PE (X:Cx) (e:Expr) (t:TE):Prop:=
 ∀ (pins:List (Addr × Obj)) (s:Shared) (σ:St) (H:Hp) (Q:VK),Inv X pins σ H s -> t σ H Q -> wpAny (model X.prog X.w) X.A (eval e X.env) (EP X pins σ Q) X.xe s
def PT (X:Cx) (e:Expr) (t:TT):Prop:=
 ∀ (pins:List (Addr × Obj)) (s:Shared) (σ:St) (H:Hp) (Q:Bool -> Hp -> Prop),Inv X pins σ H s -> t σ H Q -> wpAny (model X.prog X.w) X.A (isTrue e X.env (eval e X.env)) (TP X pins σ Q) X.xe s
def PW (X:Cx) (e:Expr) (t:TT):Prop:=
 ∀ (whole:Sem Value) (pins:List (Addr × Obj)) (s:Shared) (σ:St) (H:Hp) (Q:Bool -> Hp -> Prop),Inv X pins σ H s -> t σ H Q -> wpAny (model X.prog X.w) X.A (isTrue e X.env whole) (TP X pins σ Q) X.xe s
theorem PW.pt {X:Cx} {e:Expr} {t:TT} (h:PW X e t):PT X e t:=h _
def PA (X:Cx) (es:List Expr) (t:TA):Prop:=
 ∀ (pos:Pos) (pins:List (Addr × Obj)) (s:Shared) (σ:St) (H:Hp) (Q:List V -> Hp -> Prop),Inv X pins σ H s -> t σ H Q -> wpAny (model X.prog X.w) X.A (spliced (backTo pos (starEach es X.env))) (AP X pins σ Q) X.xe s
def PS (X:Cx) (st:Stmt) (t:TS):Prop:=
 ∀ (pins:List (Addr × Obj)) (s:Shared) (σ:St) (H:Hp) (D:Ends),Inv X pins σ H s -> t D σ H -> wpAny (model X.prog X.w) X.A (exec st X.env) (SP X pins D) X.xe s
def PSs (X:Cx) (st:List Stmt) (t:TS):Prop:=
 ∀ (pins:List (Addr × Obj)) (s:Shared) (σ:St) (H:Hp) (D:Ends),Inv X pins σ H s -> t D σ H -> wpAny (model X.prog X.w) X.A (execs st X.env) (SP X pins D) X.xe s
theorem thn {α:Type} {t:Sem α} {Q Q':α -> Shared -> Prop} {M:Model} {A:Around} {E:Value -> Shared -> Prop} {s:Shared} (h:wpAny M A t Q E s) (hQ:∀ a s,Q a s -> Q' a s):wpAny M A t Q' E s:=wpAny_mono h hQ fun _ _ x=>x
theorem tokQ {α:Type} {t:Sem α} {Q:α -> Shared -> Prop} {M:Model} {A:Around} {E:Value -> Shared -> Prop} {s:Shared} (h0:0 < s.toks) (h:wpAny M A t (fun a s'=>0 < s'.toks -> Q a s') E s):wpAny M A t Q E s:=
 wpAny_mono (wpAny_toks_of (n:=1) h0 h) (fun _ _ z=>z.2 z.1) fun _ _ z=>z.2
section
variable {X:Cx}
noncomputable def tVar (i:Nat):TE:=fun σ H Q=>∃ v,σ[i]? = some (some v) /\ Q v H
noncomputable def tC (v:V):TE:=fun _ H Q=>Q v H
theorem pe_var {i:Nat} {x:Str} {pos:Pos} (hN:X.N[i]? = some x) (hv:Vis X.env.scope x) (hd:(x == ("__debug__" : Str)) = false:=by decide) (hcd:(x == ("__classdict__" : Str)) = false:=by decide):PE X (.Name x pos) (tVar i):=by
 intro pins s σ H Q I h
 obtain ⟨v,e,h⟩:=h
 obtain ⟨m,hn,hl⟩:=I.loc
 obtain ⟨u,r,l⟩:=hl i x v hN e hv
 have fin:EP X pins σ Q u s:=⟨v,H,I,r,h⟩
 rcases l with ⟨hk,hm⟩ | ⟨hk,c,hc,hcell⟩
 ·exact wpAny_Name (wpAny_loadName_local I.ok.kind hk hn hm fin) hd
 ·rcases hk with hk | hk
  ·exact wpAny_Name (wpAny_loadName_cell I.ok.kind hk hc hcell fin) hd
  ·exact wpAny_Name (wpAny_loadName_free I.ok.kind hk hc hcell fin hcd) hd
theorem pe_int {i j pos}:PE X (.Constant (.int i) j pos) (tC (.int i)):=fun _ _ _ H _ I h=>wpAny_Constant_int ⟨.int i,H,I.tok _,⟨_,rfl⟩,h⟩
theorem pe_bl {b j pos}:PE X (.Constant (.bool b) j pos) (tC (.bl b)):=fun _ _ _ H _ I h=>Constant_bool ⟨.bl b,H,I,rfl,h⟩
theorem pe_non {j pos}:PE X (.Constant .none j pos) (tC .non):=fun _ _ _ H _ I h=>Constant_none ⟨.non,H,I,rfl,h⟩
theorem pe_str {x j pos}:PE X (.Constant (.str x) j pos) (tC (.str x)):=fun _ _ _ H _ I h=>Calls.Constant_str ⟨.str x,H,I.tok _,⟨_,rfl⟩,h⟩
def Gl (X:Cx) (x:Str):Prop:=X.env.kindOf x = some .globalImplicit
theorem ld_glob {E:Value -> Shared -> Prop} {pins:List (Addr × Obj)} {s:Shared} {σ:St} {H:Hp} {x:Str} {u:Value} {pos:Pos} {Q:Value -> Shared -> Prop} (I:Inv X pins σ H s) (hg:Gl X x) (hm:X.mg x = some u) (h:Q u s)
  (hd:(x == ("__debug__" : Str)) = false:=by decide):wpAny (model X.prog X.w) X.A (eval (.Name x pos) X.env) Q E s:=
 Calls.Name_function_global I.ok.kind hg (Calls.loadGlobal_global (by rw [I.ok.glob]; exact I.mod.glob.keeps I.bk) hm h) hd
theorem ld_blt {E:Value -> Shared -> Prop} {pins:List (Addr × Obj)} {s:Shared} {σ:St} {H:Hp} {x:Str} {u:Value} {pos:Pos} {Q:Value -> Shared -> Prop} (I:Inv X pins σ H s) (hg:Gl X x) (hm:X.mg x = none) (hv:bootBuiltins x = some u) (h:Q u s)
  (hn:x ≠ "__name__" := by decide) (hd:(x == ("__debug__" : Str)) = false:=by decide):wpAny (model X.prog X.w) X.A (eval (.Name x pos) X.env) Q E s:=by
 obtain ⟨mb,h1,h2⟩:=I.mod.blt
 exact Calls.Name_function_global I.ok.kind hg (Calls.loadGlobal_builtin (by rw [I.ok.glob]; exact I.mod.glob.keeps I.bk) hm (by rw [I.ok.blt]; exact h1.keeps I.bk) ((h2 x hn).trans hv) h) hd
theorem pe_glob {x:Str} {v:V} {u:Value} {pos:Pos} (hg:Gl X x) (hm:X.mg x = some u) (r:RelV v u) (hd:(x == ("__debug__" : Str)) = false:=by decide):PE X (.Name x pos) (tC v):=
 fun _ _ _ H _ I h=>ld_glob I hg hm ⟨v,H,I,r,h⟩ hd
theorem pe_bltn {x:Str} {v:V} {u:Value} {pos:Pos} (hg:Gl X x) (hm:X.mg x = none) (hv:bootBuiltins x = some u) (r:RelV v u) (hn:x ≠ "__name__" := by decide) (hd:(x == ("__debug__" : Str)) = false:=by decide):PE X (.Name x pos) (tC v):=
 fun _ _ _ H _ I h=>ld_blt I hg hm hv ⟨v,H,I,r,h⟩ hn hd
variable {a b:Expr} {ta tb:TE} {pos:Pos}
noncomputable def tB (t:TE):TT:=fun σ H Q=>t σ H fun x H1=>∃ c,x = .bl c /\ Q c H1
theorem pt_val {e:Expr} {t:TE} (h:PE X e t) (he:∀ whole,isTrue e X.env whole = (do let v <- whole; standAt e.pos; holding [v] (truthy v)):=by intro _; rfl):PT X e (tB t):=by
 intro pins s σ H Q I hw
 refine isTrue_plain (thn (h pins s σ H _ I hw) fun v s1 ⟨x,H1,I1,r1,q1⟩=>?_) (he _)
 obtain ⟨d,rfl,q⟩:=q1
 cases r1
 exact wpAny_truthy_bool ⟨H1,I1,q⟩
variable {tA tB':TT} {rest:List Expr}
noncomputable def tAnd (t u:TT):TT:=fun σ H Q=>t σ H fun c H1=>if c = true then u σ H1 Q else Q false H1
noncomputable def tOr (t u:TT):TT:=fun σ H Q=>t σ H fun c H1=>if c = true then Q true H1 else u σ H1 Q
noncomputable def tNot (t:TT):TT:=fun σ H Q=>t σ H fun c H1=>Q (!c) H1
theorem pw_and1 (ha:PT X a tA):PW X (.BoolOp .And [a] pos) tA:=by
 intro wh pins s σ H Q I h
 refine isTrue_and (thn (ha pins s σ H Q I h) fun c s1 e=>?_)
 cases c with
 | true=>exact isTrue_and_nil e
 | false=>exact e
theorem pw_or1 (ha:PT X a tA):PW X (.BoolOp .Or [a] pos) tA:=by
 intro wh pins s σ H Q I h
 refine isTrue_or (thn (ha pins s σ H Q I h) fun c s1 e=>?_)
 cases c with
 | false=>exact isTrue_or_nil e
 | true=>exact e
theorem pw_and (ha:PT X a tA) (hb:PW X (.BoolOp .And (b :: rest) pos) tB'):PW X (.BoolOp .And (a :: b :: rest) pos) (tAnd tA tB'):=by
 intro wh pins s σ H Q I h
 refine isTrue_and (thn (ha pins s σ H _ I h) fun c s1 ⟨H1,I1,q1⟩=>?_)
 cases c with
 | true=>exact hb wh pins s1 σ H1 Q I1 q1
 | false=>exact ⟨H1,I1,q1⟩
theorem pw_or (ha:PT X a tA) (hb:PW X (.BoolOp .Or (b :: rest) pos) tB'):PW X (.BoolOp .Or (a :: b :: rest) pos) (tOr tA tB'):=by
 intro wh pins s σ H Q I h
 refine isTrue_or (thn (ha pins s σ H _ I h) fun c s1 ⟨H1,I1,q1⟩=>?_)
 cases c with
 | true=>exact ⟨H1,I1,q1⟩
 | false=>exact hb wh pins s1 σ H1 Q I1 q1
theorem pt_not (ha:PT X a tA):PT X (.UnaryOp .Not a pos) (tNot tA):=by
 intro pins s σ H Q I h
 exact isTrue_not (ha pins s σ H (fun c H1=>Q (!c) H1) I h)
noncomputable def tAndV (ta tb:TE):TE:=fun σ H Q=>ta σ H fun x H1=>∃ c,x = .bl c /\ if c = true then tb σ H1 Q else Q (.bl false) H1
noncomputable def tOrV (ta tb:TE):TE:=fun σ H Q=>ta σ H fun x H1=>∃ c,x = .bl c /\ if c = true then Q (.bl true) H1 else tb σ H1 Q
theorem pe_one {op} {t:TE} (h:PE X a t):PE X (.BoolOp op [a] pos) t:=fun pins s σ H Q I hw=>BoolOp_one (h pins s σ H Q I hw)
theorem pe_and (ha:PE X a ta) (hb:PE X (.BoolOp .And (b :: rest) pos) tb):PE X (.BoolOp .And (a :: b :: rest) pos) (tAndV ta tb):=by
 intro pins s σ H Q I h
 refine BoolOp_and (thn (ha pins s σ H _ I h) fun v s1 ⟨x,H1,I1,r1,q1⟩=>?_)
 obtain ⟨c,rfl,q1⟩:=q1
 cases r1
 refine wpAny_truthy_bool ?_
 cases c with
 | true=>exact hb pins s1 σ H1 Q I1 q1
 | false=>exact ⟨.bl false,H1,I1,rfl,q1⟩
theorem pe_or (ha:PE X a ta) (hb:PE X (.BoolOp .Or (b :: rest) pos) tb):PE X (.BoolOp .Or (a :: b :: rest) pos) (tOrV ta tb):=by
 intro pins s σ H Q I h
 refine BoolOp_or (thn (ha pins s σ H _ I h) fun v s1 ⟨x,H1,I1,r1,q1⟩=>?_)
 obtain ⟨c,rfl,q1⟩:=q1
 cases r1
 refine wpAny_truthy_bool ?_
 cases c with
 | false=>exact hb pins s1 σ H1 Q I1 q1
 | true=>exact ⟨.bl true,H1,I1,rfl,q1⟩
noncomputable def tIf (t:TT) (ta tb:TE):TE:=fun σ H Q=>t σ H fun c H1=>if c = true then ta σ H1 Q else tb σ H1 Q
theorem pe_ifExp {c:Expr} (hc:PT X c tA) (ha:PE X a ta) (hb:PE X b tb):PE X (.IfExp c a b pos) (tIf tA ta tb):=by
 intro pins s σ H Q I h
 refine wpAny_IfExp (thn (hc pins s σ H _ I h) fun d s1 ⟨H1,I1,q1⟩=>?_)
 cases d with
 | true=>exact ha pins s1 σ H1 Q I1 q1
 | false=>exact hb pins s1 σ H1 Q I1 q1
end
def SqL (K:Frag) (H:Hp) (a:Addr) (xs:List V):Prop:=
 Rd H a (.lst xs) \/
  ∃ (o:Obj) (its:Array Value) (n:Nat),K.lookup a = some o /\ o.cls = .type "list" /\ o.dict = none /\ o.data = .seq its n /\ its.size <= sizeLine /\ Vals xs its.toList
def SqT (K:Frag) (H:Hp) (a:Addr) (xs:List V):Prop:=
 Rd H a (.tup xs) \/
  ∃ (o:Obj) (its:Array Value) (n:Nat),K.lookup a = some o /\ o.cls = .type "tuple" /\ o.data = .seq its n /\ its.size <= sizeLine /\ Vals xs its.toList
noncomputable def absV:Value -> Option V
 | .none=>some .non
 | .bool b=>some (.bl b)
 | .int i _=>some (.int i)
 | .str x _=>some (.str x)
 | .bytes b _=>some (.byt b)
 | .float b _=>some (.flt b)
 | .ref a=>some (.ref a)
 | .type n=>some (.ty n)
 | _=>none
theorem RelV.abs {x:V} {u:Value} (r:RelV x u):absV u = some x:=by
 cases x with
 | non=>cases r; rfl
 | bl _=>cases r; rfl
 | int _=>obtain ⟨t,rfl⟩:=r; rfl
 | str _=>obtain ⟨t,rfl⟩:=r; rfl
 | byt _=>obtain ⟨t,rfl⟩:=r; rfl
 | flt _=>obtain ⟨t,rfl⟩:=r; rfl
 | ref _=>cases r; rfl
 | ty _=>cases r; rfl
theorem RelV.inj {x y:V} {u:Value} (r:RelV x u) (q:RelV y u):x = y:=Option.some.inj (r.abs.symm.trans q.abs)
theorem Vals.inj:∀ {xs ys:List V} {us:List Value},Vals xs us -> Vals ys us -> xs = ys
 | _,_,_,.nil,.nil=>rfl
 | _,_,_,.cons r t,.cons r' t'=>by rw [r.inj r',Vals.inj t t']
section
variable {X:Cx} {pins:List (Addr × Obj)} {σ:St} {H:Hp} {s:Shared} {a:Addr} {xs ys:List V}
theorem SqL.of {K:Frag} (h:H a = some (.lst xs)):SqL K H a xs:=.inl (.inl h)
theorem SqT.of {K:Frag} (h:H a = some (.tup xs)):SqT K H a xs:=.inl (.inl h)
theorem Inv.list (I:Inv X pins σ H s) (h:SqL X.K H a xs):∃ its:List Value,Vals xs its /\ PlainL s.heap a its.toArray /\ xs.length <= sizeLine:=by
 rcases h with h | ⟨o,its,n,hk,hc,hd,hs,hz,r⟩
 ·obtain ⟨z,its,n,r,e⟩:=h.ok I.hok
  exact ⟨its,r,⟨_,n,e,rfl,rfl,rfl⟩,z⟩
 ·refine ⟨its.toList,r,⟨o,n,I.kIn a o hk,hc,hd,by simpa using hs⟩,?_⟩
  have e:=r.length
  simp only [Array.length_toList] at e
  omega
theorem Inv.tuple (I:Inv X pins σ H s) (h:SqT X.K H a xs):∃ its:List Value,Vals xs its /\ IsTup s.heap a its.toArray /\ xs.length <= sizeLine:=by
 rcases h with h | ⟨o,its,n,hk,hc,hs,hz,r⟩
 ·obtain ⟨z,its,r,p⟩:=h.ok I.hok
  exact ⟨its,r,p,z⟩
 ·refine ⟨its.toList,r,⟨o,I.kIn a o hk,hc,n,by simpa using hs⟩,?_⟩
  have e:=r.length
  simp only [Array.length_toList] at e
  omega
theorem Inv.list_inj (I:Inv X pins σ H s) (h:SqL X.K H a xs) (h':SqL X.K H a ys):xs = ys:=by
 obtain ⟨its,r,⟨o,n,e,_,_,d⟩,_⟩:=I.list h
 obtain ⟨its',r',⟨o',n',e',_,_,d'⟩,_⟩:=I.list h'
 rw [e] at e'; cases e'
 rw [d] at d'
 injection d' with d1 _
 have:its = its':=by simpa using congrArg Array.toList d1
 subst this
 exact r.inj r'
theorem Inv.tuple_inj (I:Inv X pins σ H s) (h:SqT X.K H a xs) (h':SqT X.K H a ys):xs = ys:=by
 obtain ⟨its,r,⟨o,e,_,n,d⟩,_⟩:=I.tuple h
 obtain ⟨its',r',⟨o',e',_,n',d'⟩,_⟩:=I.tuple h'
 rw [e] at e'; cases e'
 rw [d] at d'
 injection d' with d1 _
 have:its = its':=by simpa using congrArg Array.toList d1
 subst this
 exact r.inj r'
end
noncomputable abbrev Cx.wish (X:Cx) (E:Value -> Shared -> Prop):Cx:={ X with xe:=E }
noncomputable abbrev Cx.nox (X:Cx):Cx:=X.wish fun _ _=>False
theorem Cx.Ok.wish {X:Cx} (ok:X.Ok) (E:Value -> Shared -> Prop):(X.wish E).Ok:=
 ⟨ok.mod,ok.kind,ok.glob,ok.blt,ok.above,ok.inj,ok.has,ok.cab,ok.hd,ok.frames,ok.stk,ok.exf,ok.bs,ok.bsz,ok.noex,ok.exfs,ok.funs,ok.frf⟩
theorem Cx.Ok.unwish {X:Cx} {E:Value -> Shared -> Prop} (ok:(X.wish E).Ok):X.Ok:=
 ⟨ok.mod,ok.kind,ok.glob,ok.blt,ok.above,ok.inj,ok.has,ok.cab,ok.hd,ok.frames,ok.stk,ok.exf,ok.bs,ok.bsz,ok.noex,ok.exfs,ok.funs,ok.frf⟩
section
variable {X:Cx} {pins:List (Addr × Obj)} {σ:St} {H:Hp} {s:Shared} {E:Value -> Shared -> Prop}
theorem Inv.wish (I:Inv X pins σ H s) (E:Value -> Shared -> Prop):Inv (X.wish E) pins σ H s:=⟨I.ok.wish E,I.os,I.bare,I.base,I.loc,I.cell,I.free,I.freeC,I.pin,I.hok,I.len,I.tk⟩
theorem Inv.unwish (I:Inv (X.wish E) pins σ H s):Inv X pins σ H s:=⟨I.ok.unwish,I.os,I.bare,I.base,I.loc,I.cell,I.free,I.freeC,I.pin,I.hok,I.len,I.tk⟩
theorem SP.unwish {D:Ends} {f:Flow} {s':Shared} (h:SP (X.wish E) pins D f s'):SP X pins D f s':=by
 cases f with
 | next=>obtain ⟨σ',H',I,q⟩:=h; exact ⟨σ',H',I.unwish,q⟩
 | brk=>obtain ⟨σ',H',I,q⟩:=h; exact ⟨σ',H',I.unwish,q⟩
 | cont=>obtain ⟨σ',H',I,q⟩:=h; exact ⟨σ',H',I.unwish,q⟩
 | ret u=>obtain ⟨v,σ',H',I,r,q⟩:=h; exact ⟨v,σ',H',I.unwish,r,q⟩
theorem PE.nox {e:Expr} {t:TE} (h:PE X.nox e t):PE X e t:=fun pins s σ H Q I hw=>
 wpAny_mono (h pins s σ H Q (I.wish _) hw) (fun _ _ ⟨v,H',I',r,q⟩=>⟨v,H',I'.unwish,r,q⟩) fun _ _ z=>False.elim z
theorem PT.nox {e:Expr} {t:TT} (h:PT X.nox e t):PT X e t:=fun pins s σ H Q I hw=>
 wpAny_mono (h pins s σ H Q (I.wish _) hw) (fun _ _ ⟨H',I',q⟩=>⟨H',I'.unwish,q⟩) fun _ _ z=>False.elim z
theorem PSs.nox {st:List Stmt} {t:TS} (h:PSs X.nox st t):PSs X st t:=fun pins s σ H D I hw=>
 wpAny_mono (h pins s σ H D (I.wish _) hw) (fun _ _ q=>q.unwish) fun _ _ z=>False.elim z
end
section
variable {X:Cx} {st:Stmt} {rest:List Stmt} {t u:TS} {e:Expr} {te:TE} {pos:Pos}
noncomputable def tNext:TS:=fun D σ H=>D.nx σ H
noncomputable def tSeq (t u:TS):TS:=fun D σ H=>t { D with nx:=u D } σ H
theorem pss_nil:PSs X [] tNext:=fun _ _ σ H _ I h=>wpAny_execs_nil ⟨σ,H,I,h⟩
theorem pss_cons (h1:PS X st t) (h2:PSs X rest u):PSs X (st :: rest) (tSeq t u):=by
 intro pins s σ H D I h
 refine wpAny_execs_cons (thn (h1 pins s σ H { D with nx:=u D } I h) fun f s1 q=>?_)
 cases f with
 | next=>
  obtain ⟨σ',H',I',q⟩:=q
  exact h2 pins s1 σ' H' D I' q
 | ret v=>exact q
 | brk=>exact q
 | cont=>exact q
theorem pss_one (h1:PS X st t):PSs X [st] t:=by
 intro pins s σ H D I h
 refine wpAny_execs_cons (thn (h1 pins s σ H D I h) fun f s1 q=>?_)
 cases f with
 | next=>exact wpAny_execs_nil q
 | ret v=>exact q
 | brk=>exact q
 | cont=>exact q
noncomputable def tBreak:TS:=fun D σ H=>D.bk σ H
theorem ps_break:PS X (.Break pos) tBreak:=fun _ _ σ H _ I h=>wpAny_Break ⟨σ,H,I,h⟩
theorem Inv.quiet {pins:List (Addr × Obj)} {σ:St} {H:Hp} {s:Shared} (I:Inv X pins σ H s):interactive X.env = false:=by simp [interactive,I.ok.kind]
noncomputable def tDrop (te:TE):TS:=fun D σ H=>te σ H fun _ H1=>D.nx σ H1
theorem ps_expr (he:PE X e te) (hs:swapsWith e none pos.line X.env = pure false:=by rfl):PS X (.Expr e pos) (tDrop te):=by
 intro pins s σ H D I h
 exact wpAny_Expr_any (thn (he pins s σ H _ I h) fun v s1 ⟨x,H1,I1,r1,q1⟩=>⟨σ,H1,I1,q1⟩) I.quiet hs
noncomputable def tRet (te:TE):TS:=fun D σ H=>te σ H D.rt
theorem ps_ret (he:PE X e te):PS X (.Return (some e) pos) (tRet te):=by
 intro pins s σ H D I h
 exact wpAny_Return_some (thn (he pins s σ H _ I h) fun v s1 ⟨x,H1,I1,r1,q1⟩=>⟨x,σ,H1,I1,r1,q1⟩)
noncomputable def tIfS (c:TT) (t u:TS):TS:=fun D σ H=>c σ H fun b H1=>if b = true then t D σ H1 else u D σ H1
theorem ps_if {c:Expr} {a b:List Stmt} {tc:TT} (hc:PT X c tc) (ha:PSs X a t) (hb:PSs X b u):PS X (.If c a b pos) (tIfS tc t u):=by
 intro pins s σ H D I h
 refine wpAny_If (thn (hc pins s σ H _ I h) fun d s1 ⟨H1,I1,q1⟩=>?_)
 cases d with
 | true=>exact ha pins s1 σ H1 D I1 q1
 | false=>exact hb pins s1 σ H1 D I1 q1
end
noncomputable abbrev TG:=V -> St -> Hp -> (St -> Hp -> Prop) -> Prop
noncomputable abbrev TGs:=List V -> St -> Hp -> (St -> Hp -> Prop) -> Prop
def PG (X:Cx) (target:Expr) (t:TG):Prop:=
 ∀ (pins:List (Addr × Obj)) (s:Shared) (σ:St) (H:Hp) (v:V) (u:Value) (Q:St -> Hp -> Prop),Inv X pins σ H s -> RelV v u -> t v σ H Q ->
  wpAny (model X.prog X.w) X.A (assign target X.env u) (fun _ s'=>∃ σ' H',Inv X pins σ' H' s' /\ Q σ' H') X.xe s
def PGs (X:Cx) (ts:List Expr) (t:TGs):Prop:=
 ∀ (pins:List (Addr × Obj)) (s:Shared) (σ:St) (H:Hp) (vs:List V) (us:List Value) (Q:St -> Hp -> Prop),Inv X pins σ H s -> Vals vs us -> t vs σ H Q ->
  wpAny (model X.prog X.w) X.A (assignInOrder ((assignEach ts X.env).map (·.2)) us) (fun _ s'=>∃ σ' H',Inv X pins σ' H' s' /\ Q σ' H') X.xe s
noncomputable abbrev TSet:=V -> V -> V -> Hp -> (Hp -> Prop) -> Prop
def PSet (X:Cx) (t:TSet):Prop:=
 ∀ (pins:List (Addr × Obj)) (s:Shared) (σ:St) (H:Hp) (o i v:V) (ov iv u:Value) (Q:Hp -> Prop),Inv X pins σ H s -> RelV o ov -> RelV i iv -> RelV v u -> t o i v H Q ->
  wpAny (model X.prog X.w) X.A (setItem ov iv u) (fun _ s'=>∃ H',Inv X pins σ H' s' /\ Q H') X.xe s
section
variable {X:Cx} {pos:Pos}
noncomputable def gName (i:Nat):TG:=fun v σ H Q=>Q (σ.set i (some v)) H
theorem pg_name {i:Nat} {x:Str} (hN:X.N.Nodup) (hi:X.N[i]? = some x) (hx:Loc X.env.scope x) (hf:X.fn x = true \/ X.env.scope.names.lookup x = some .local:=by first | exact .inl rfl | exact .inr rfl | assumption):PG X (.Name x pos) (gName i):=by
 intro pins s σ H v u Q I r h
 exact wpAny_assign_Name (store_ok I hN hi hx r (fun s' I'=>⟨_,H,I',h⟩) hf)
noncomputable def gNil:TGs:=fun vs σ H Q=>vs = [] /\ Q σ H
noncomputable def gCons (t:TG) (u:TGs):TGs:=fun vs σ H Q=>∃ v r,vs = v :: r /\ t v σ H fun σ' H'=>u r σ' H' Q
theorem pgs_nil:PGs X [] gNil:=by
 intro pins s σ H vs us Q I r h
 obtain ⟨e,h⟩:=h
 subst e
 cases r
 exact assignInOrder_nil ⟨σ,H,I,h⟩
theorem pgs_cons {e:Expr} {es:List Expr} {t:TG} {u:TGs} (h1:PG X e t) (h2:PGs X es u)
  (hs:(assignEach (e :: es) X.env).map (·.2) = assign e X.env :: (assignEach es X.env).map (·.2):=by rfl):PGs X (e :: es) (gCons t u):=by
 intro pins s σ H vs us Q I r h
 obtain ⟨v,vr,e1,h⟩:=h
 subst e1
 cases r with
 | cons r rr=>
  rw [hs]
  refine assignInOrder_cons (thn (h1 pins s σ H _ _ _ I r h) fun _ s1 ⟨σ1,H1,I1,q1⟩=>?_)
  exact h2 pins s1 σ1 H1 _ _ Q I1 rr q1
noncomputable def gTup (K:Frag) (n:Nat) (t:TGs):TG:=fun v σ H Q=>∃ a xs,v = .ref a /\ SqT K H a xs /\ xs.length = n /\ t xs σ H Q
theorem pg_tup {es:List Expr} {k:Nat} {t:TGs} {n:Nat} (hc:X.calm = true) (h:PGs X es t)
  (hn:(assignEach es X.env).length = n:=by rfl) (hst:(assignEach es X.env).findIdx? (·.1) = none:=by rfl):PG X (.Tuple es k pos) (gTup X.K n t):=by
 intro pins s σ H v u Q I r hw
 obtain ⟨a,xs,e1,hq,hl,hw⟩:=hw
 subst e1
 cases r
 obtain ⟨its,rv,ht,hz⟩:=I.tuple hq
 refine assign_Tuple_tuple (I.ok.hd hc) ht (by simp [hn,<- hl,rv.length]) hst fun h' hx=>?_
 have I1:Inv X pins σ H { s with heap:=h' }:=I.kept (t':=s.toks) fun b o e=>hx b o (Nat.ne_of_lt (Heap.lt_size e)) e
 exact h pins _ σ H xs _ Q I1 (by simpa using rv) hw
noncomputable def gSub (to ti:TE) (t:TSet):TG:=fun v σ H Q=>to σ H fun o H1=>ti σ H1 fun i H2=>t o i v H2 fun H3=>Q σ H3
theorem pg_sub {o i:Expr} {to ti:TE} {t:TSet} (ho:PE X o to) (hi:PE X i ti) (hs:PSet X t)
  (ha:∀ v,assign (.Subscript o i pos) X.env v = (do
   let ov <- holding [v] (eval o X.env)
   let iv <- holding [v,ov] (eval i X.env)
   standAt pos
   holding [v,ov,iv] (setItem ov iv v)
   release [v,ov,iv] []):=by intro _; rfl):PG X (.Subscript o i pos) (gSub to ti t):=by
 intro pins s σ H v u Q I r h
 rw [ha]
 refine wpAny_bind (wpAny_holding (thn (ho pins s σ H _ I h) fun ov s1 ⟨x,H1,I1,r1,q1⟩=>?_))
 refine wpAny_bind (wpAny_holding (thn (hi pins s1 σ H1 _ I1 q1) fun iv s2 ⟨y,H2,I2,r2,q2⟩=>?_))
 refine wpAny_bind (wpAny_standAt (wpAny_bind (wpAny_holding (thn (hs pins s2 σ H2 x y v ov iv u _ I2 r1 r2 r q2) fun _ s3 ⟨H3,I3,q3⟩=>?_))))
 exact wpAny_release ⟨σ,H3,I3,q3⟩
noncomputable def tAsg (te:TE) (g:TG):TS:=fun D σ H=>te σ H fun x H1=>g x σ H1 D.nx
theorem ps_asg {tg e:Expr} {te:TE} {g:TG} (he:PE X e te) (hg:PG X tg g) (hs:swapsWithSole [tg] e pos.line X.env = pure false:=by rfl) (hw:swappedStores [tg] e X.env = pure none:=by rfl)
  (h1:(assignEach [tg] X.env).map (·.2) = [assign tg X.env]:=by rfl):PS X (.Assign [tg] e pos) (tAsg te g):=by
 intro pins s σ H D I h
 refine wpAny_Assign_stores (thn (he pins s σ H _ I h) fun v s1 ⟨x,H1,I1,r1,q1⟩=>?_) hs hw
 rw [h1]
 exact thn (hg pins s1 σ H1 x v _ I1 r1 q1) fun _ s2 q=>q
theorem ps_set {i:Nat} {x:Str} {e:Expr} {te:TE} {pos':Pos} (hN:X.N.Nodup) (hi:X.N[i]? = some x) (hx:Loc X.env.scope x) (he:PE X e te) (hs:swapsWith e (some (.Name x pos')) pos.line X.env = pure false:=by rfl) (hf:X.fn x = true \/ X.env.scope.names.lookup x = some .local:=by first | exact .inl rfl | exact .inr rfl | assumption):
  PS X (.Assign [.Name x pos'] e pos) (tAsg te (gName i)):=by
 intro pins s σ H D I h
 refine wpAny_Assign_Name (thn (he pins s σ H _ I h) fun v s1 ⟨y,H1,I1,r1,q1⟩=>?_) hs
 exact store_ok I1 hN hi hx r1 (fun s2 I2=>⟨_,H1,I2,q1⟩) hf
end
section
variable {X:Cx} {pos:Pos}
end
structure It where
 go:Nat -> Hp -> Prop
 yld:Nat -> Hp -> V -> Hp -> Prop
 stop:Nat -> Hp -> Prop
def FpOk (X:Cx) (pins:List (Addr × Obj)) (H:Hp) (b:Addr):Prop:=
 H b = none /\ b ≠ X.env.locals /\ b ∉ X.fs /\ (b ∈ X.ex \/ X.s₀.heap.objs.size <= b) /\ (∀ x c,X.env.cells.lookup x = some c -> c ≠ b) /\ ∀ p ∈ X.pn ++ pins,p.1 ≠ b
theorem Inv.fpOk {X:Cx} {pins:List (Addr × Obj)} {σ:St} {H H':Hp} {s:Shared} {b:Addr} (I:Inv X pins σ H s) (hb:s.heap.objs.size <= b) (hn:H' b = none):FpOk X pins H' b:=by
 refine ⟨hn,Nat.ne_of_gt (Nat.lt_of_lt_of_le I.lt hb),I.nofs hb,.inr (Nat.le_trans I.sz hb),fun x c e z=>?_,fun p hp z=>?_⟩
 ·obtain ⟨v,q⟩:=I.cell x c e
  exact absurd (Nat.lt_of_lt_of_le q.lt (by rw [z]; exact hb)) (Nat.lt_irrefl _)
 ·exact absurd (Nat.lt_of_lt_of_le (Heap.lt_size (I.pin p hp).1) (by rw [z]; exact hb)) (Nat.lt_irrefl _)
structure Turn (P:Program) (w:World) (K:Frag) (tg:Expr) (J:It) (fp:List Addr) (it:Addr) (tn:Nat -> Heap -> Prop):Prop where
 mem:it ∈ fp
 obj:∀ i h,tn i h -> ∀ b ∈ fp,∃ o,h.get? b = some o /\ ∀ v,o.data ≠ .cell v
 keep:∀ i h h',tn i h -> (∀ b ∈ fp,∀ o,h.get? b = some o -> h'.get? b = some o) -> tn i h'
 item:∀ (X:Cx),X.prog = P -> X.w = w -> X.K = K -> X.calm = true -> ∀ (i:Nat) (pins:List (Addr × Obj)) (s:Shared) (σ:St) (H:Hp) (E:Value -> Shared -> Prop),Inv X pins σ H s -> (∀ b ∈ fp,FpOk X pins H b) -> tn i s.heap -> J.go i H ->
  wpAny (model P w) X.A (pyNext (.ref it)) (fun r s1=>∃ u,r = some u /\
   wpAny (model P w) X.A (letOwnedTupleGo tg (.ref it) u) (fun _ s2=>∃ x H',Inv X pins σ H' s2 /\ RelV x u /\ J.yld i H x H' /\ tn (i + 1) s2.heap /\ ∀ b ∈ fp,H' b = none) E s1) E s
 done:∀ (X:Cx),X.prog = P -> X.w = w -> X.K = K -> X.calm = true -> ∀ (i:Nat) (pins:List (Addr × Obj)) (s:Shared) (σ:St) (H:Hp) (E:Value -> Shared -> Prop),Inv X pins σ H s -> (∀ b ∈ fp,FpOk X pins H b) -> tn i s.heap -> J.stop i H ->
  wpAny (model P w) X.A (pyNext (.ref it)) (fun r s1=>r = none /\ Inv X pins σ H s1) E s
 self:∀ (A:Around) (i:Nat) (s:Shared) (Q:Value -> Shared -> Prop) (E:Value -> Shared -> Prop),tn i s.heap -> Q (.ref it) s -> wpAny (model P w) A (pyIter (.ref it)) Q E s
noncomputable abbrev TI:=St -> Hp -> (It -> Hp -> Prop) -> Prop
def PIE (X:Cx) (pins:List (Addr × Obj)) (σ:St) (tg:Expr) (R:It -> Hp -> Prop) (itv:Value) (s2:Shared):Prop:=
 ∃ (it:Addr) (fp:List Addr) (tn:Nat -> Heap -> Prop) (J:It) (H':Hp),itv = .ref it /\ Inv X pins σ H' s2 /\ Turn X.prog X.w X.K tg J fp it tn /\ tn 0 s2.heap /\ (∀ b ∈ fp,FpOk X pins H' b) /\ R J H'
def PI (X:Cx) (tg iter:Expr) (wi:TI):Prop:=
 ∀ (pins:List (Addr × Obj)) (s:Shared) (σ:St) (H:Hp) (R:It -> Hp -> Prop),Inv X pins σ H s -> wi σ H R ->
  wpAny (model X.prog X.w) X.A (eval iter X.env) (fun v s1=>wpAny (model X.prog X.w) X.A (pyIter v) (PIE X pins σ tg R) X.xe s1) X.xe s
theorem go_of {M:Model} {A:Around} {E:Value -> Shared -> Prop} {s:Shared} {tg:Expr} {it:Addr} {u:Value} {o:Obj} {n:String} {vs:Array Value} {Q:Unit -> Shared -> Prop} (ho:s.heap.get? it = some o) (hc:o.cls = .type n) (hd:o.data = .fields vs)
  (hn:["enumerate", "zip", "dict_itemiterator", "dict_reverseitemiterator", "odict_iterator", "itertools.zip_longest", "itertools.pairwise"].contains n = false) (hQ:Q () s):wpAny M A (letOwnedTupleGo tg (.ref it) u) Q E s:=by
 unfold letOwnedTupleGo
 cases tg <;> first
  | exact wpAny_pure hQ
  | (cases u <;> first
    | exact wpAny_pure hQ
    | (refine wpAny_bind (wpAny_load ho ?_); rw [hc,hd]; show wpAny M A (if (["enumerate", "zip", "dict_itemiterator", "dict_reverseitemiterator", "odict_iterator", "itertools.zip_longest", "itertools.pairwise"].contains n && vs[0]? == some (rawInt _)) = true then _ else _) Q E s; rw [if_neg (by intro h; rw [hn,Bool.false_and] at h; cases h)]; exact wpAny_pure hQ))
noncomputable def Itl (K:Frag) (a:Addr):It:=
 ⟨fun i H=>∃ xs x,SqL K H a xs /\ xs[i]? = some x,fun i H x H'=>H' = H /\ ∀ xs,SqL K H a xs -> xs[i]? = some x,fun i H=>∃ xs,SqL K H a xs /\ xs.length <= i⟩
noncomputable def Itt (K:Frag) (a:Addr):It:=
 ⟨fun i H=>∃ xs x,SqT K H a xs /\ xs[i]? = some x,fun i H x H'=>H' = H /\ ∀ xs,SqT K H a xs -> xs[i]? = some x,fun i H=>∃ xs,SqT K H a xs /\ xs.length <= i⟩
noncomputable def Itr (lo:Int) (n:Nat):It:=⟨fun i _=>i < n,fun i H x H'=>H' = H /\ x = .int (lo + i),fun i _=>n <= i⟩
theorem turn_list {P:Program} {w:World} {K:Frag} {tg:Expr} (a it:Addr):Turn P w K tg (Itl K a) [it] it (fun i h=>h.IsListIter it a i) where
 mem:=by simp
 obj:=fun i h st b hb=>by
  have e:b = it:=by simpa using hb
  subst e
  obtain ⟨o,e,c,d⟩:=st
  exact ⟨o,e,fun v z=>by rw [d] at z; cases z⟩
 keep:=fun i h h' st k=>st.at fun o e=>k it (by simp) o e
 item:=by
  intro X hP hw hK hc i pins s σ H E I hf st hg
  subst hP hw hK
  obtain ⟨xs,x,hq,hx⟩:=hg
  obtain ⟨its,rv,p,hz⟩:=I.list hq
  obtain ⟨u,hu,ru⟩:=rv.get hx
  obtain ⟨f0,f1,f2,f3,f4,f5⟩:=hf it (by simp)
  refine wpAny_pyNext_list_item st p.isList (x:=u) (by simpa using hu) fun h' st' sb=>?_
  have I1:Inv X pins σ H { s with heap:=h' }:=I.turned (t':=s.toks) (fun b o hb e=>(sb.2 b hb).trans e) f0 f1 f3 f4 f5
  obtain ⟨o,e,c,d⟩:=id st'
  exact ⟨u,rfl,go_of (s:={ s with heap:=h' }) e c d (by decide) ⟨x,H,I1,ru,⟨rfl,fun ys hy=>by rw [I.list_inj hy hq]; exact hx⟩,st',fun b hb=>(hf b hb).1⟩⟩
 done:=by
  intro X hP hw hK hc i pins s σ H E I hf st hg
  subst hP hw hK
  obtain ⟨xs,hq,hx⟩:=hg
  obtain ⟨its,rv,p,hz⟩:=I.list hq
  obtain ⟨f0,f1,f2,f3,f4,f5⟩:=hf it (by simp)
  have hl:=rv.length
  exact wpAny_pyNext_list_end (I.ok.hd hc) st p.isList (by simp; omega) fun h' eb=>⟨rfl,I.turned (t':=s.toks) (fun b o hb e=>eb b o hb e) f0 f1 f3 f4 f5⟩
 self:=fun _ _ _ _ _ st h=>wpAny_pyIter_listiter st h
theorem turn_tuple {P:Program} {w:World} {K:Frag} {tg:Expr} (a it:Addr):Turn P w K tg (Itt K a) [it] it (fun i h=>h.IsTupleIter it a i) where
 mem:=by simp
 obj:=fun i h st b hb=>by
  have e:b = it:=by simpa using hb
  subst e
  obtain ⟨o,e,c,d⟩:=st
  exact ⟨o,e,fun v z=>by rw [d] at z; cases z⟩
 keep:=fun i h h' st k=>st.at fun o e=>k it (by simp) o e
 item:=by
  intro X hP hw hK hc i pins s σ H E I hf st hg
  subst hP hw hK
  obtain ⟨xs,x,hq,hx⟩:=hg
  obtain ⟨its,rv,p,hz⟩:=I.tuple hq
  obtain ⟨u,hu,ru⟩:=rv.get hx
  obtain ⟨f0,f1,f2,f3,f4,f5⟩:=hf it (by simp)
  refine wpAny_pyNext_tuple_item st (show s.heap.IsTuple a its.toArray from p) (x:=u) (by simpa using hu) fun h' st' sb=>?_
  have I1:Inv X pins σ H { s with heap:=h' }:=I.turned (t':=s.toks) (fun b o hb e=>(sb.2 b hb).trans e) f0 f1 f3 f4 f5
  obtain ⟨o,e,c,d⟩:=id st'
  exact ⟨u,rfl,go_of (s:={ s with heap:=h' }) e c d (by decide) ⟨x,H,I1,ru,⟨rfl,fun ys hy=>by rw [I.tuple_inj hy hq]; exact hx⟩,st',fun b hb=>(hf b hb).1⟩⟩
 done:=by
  intro X hP hw hK hc i pins s σ H E I hf st hg
  subst hP hw hK
  obtain ⟨xs,hq,hx⟩:=hg
  obtain ⟨its,rv,p,hz⟩:=I.tuple hq
  obtain ⟨f0,f1,f2,f3,f4,f5⟩:=hf it (by simp)
  have hl:=rv.length
  exact wpAny_pyNext_tuple_end (I.ok.hd hc) st (show s.heap.IsTuple a its.toArray from p) (by simp; omega) fun h' eb=>⟨rfl,I.turned (t':=s.toks) (fun b o hb e=>eb b o hb e) f0 f1 f3 f4 f5⟩
 self:=fun _ _ _ _ _ st h=>wpAny_pyIter_tupleiter st h
theorem turn_range {P:Program} {w:World} {K:Frag} {tg:Expr} (it:Addr) (lo:Int) (n:Nat):Turn P w K tg (Itr lo n) [it] it (fun i h=>IsRangeIter h it (lo + (i:Nat) * 1) ((n:Int) - (i:Nat)) 1) where
 mem:=by simp
 obj:=fun i h st b hb=>by
  have e:b = it:=by simpa using hb
  subst e
  exact ⟨_,st,fun v z=>by
   have z':Data.fields _ = Data.cell v:=z
   cases z'⟩
 keep:=fun i h h' st k=>k it (by simp) _ st
 item:=by
  intro X hP hw hK hc i pins s σ H E I hf st hg
  subst hP hw hK
  obtain ⟨f0,f1,f2,f3,f4,f5⟩:=hf it (by simp)
  have W:=Walks.range (prog:=X.prog) (w:=X.w) (I.ok.hd hc) it lo 1 n
  refine tokQ I.tk (W.item i s _ _ hg st fun v h' tk hv st' kk (htk:0 < tk)=>?_)
  obtain ⟨t,rfl⟩:=hv
  have I1:Inv X pins σ H { s with heap:=h',toks:=tk }:=I.turned (fun b o hb e=>kk b o (by simpa using hb) e) f0 f1 f3 f4 f5
  refine ⟨_,rfl,go_of (s:={ s with heap:=h',toks:=tk }) (n := "range_iterator") st' rfl rfl (by decide) ⟨.int (lo + i),H,I1,⟨t,?_⟩,⟨rfl,rfl⟩,st',fun b hb=>(hf b hb).1⟩⟩
  rw [Int.mul_one]
 done:=by
  intro X hP hw hK hc i pins s σ H E I hf st hg
  subst hP hw hK
  obtain ⟨f0,f1,f2,f3,f4,f5⟩:=hf it (by simp)
  exact wpAny_pyNext_range_end (I.ok.hd hc) st (by have:n <= i:=hg; omega) fun h' eb=>⟨rfl,I.turned (t':=s.toks) (fun b o hb e=>eb b o hb e) f0 f1 f3 f4 f5⟩
 self:=fun _ _ _ _ _ st h=>wpAny_pyIter_rangeiter st h
section
variable {X:Cx} {tg:Expr}
theorem range_it {pins:List (Addr × Obj)} {σ:St} {H:Hp} {s:Shared} {R:It -> Hp -> Prop} {E:Value -> Shared -> Prop} {lo hi:Int} {t u v:Tok} {tk:Nat} (I:Inv X pins σ H s) (h1:-(2 ^ 62) <= lo) (h2:lo < 2 ^ 62) (h3:-(2 ^ 62) <= hi) (h4:hi < 2 ^ 62)
  (q:R (Itr lo (hi - lo).toNat) H) (htk:0 < tk:=by first | assumption | exact Nat.succ_pos _ | (apply Inv.tk; assumption) | omega):wpAny (model X.prog X.w) X.A (pyIter (.ref s.heap.objs.size)) (PIE X pins σ tg R) E { s with heap:=s.heap.push { cls:=.type "range",data:=.fields #[.int lo t,.int hi u,.int 1 v] },toks:=tk }:=by
 refine wpAny_pyIter_range (IsRange.new ..) (small_one h1 h2 h3 h4) ?_
 have I1:Inv X pins σ H { s with heap:=s.heap.push { cls:=.type "range",data:=.fields #[.int lo t,.int hi u,.int 1 v] },toks:=tk }:=I.kept fun b o e=>Heap.get?_push_of_some _ e
 refine ⟨(s.heap.push { cls:=.type "range",data:=.fields #[.int lo t,.int hi u,.int 1 v] }).objs.size,[(s.heap.push { cls:=.type "range",data:=.fields #[.int lo t,.int hi u,.int 1 v] }).objs.size],_,_,H,rfl,
  I1.kept (t':=tk) fun b o e=>Heap.get?_push_of_some _ e,turn_range _ lo (hi - lo).toNat,?_,fun b hb=>?_,q⟩
 ·have e1:lo + ((0:Nat):Int) * 1 = lo:=by simp
  have e2:(((hi - lo).toNat:Nat):Int) - ((0:Nat):Int) = Builtin.Range.rangeSize lo hi 1:=by rw [rangeSize_one]; split <;> omega
  show IsRangeIter _ _ (lo + ((0:Nat):Int) * 1) ((((hi - lo).toNat:Nat):Int) - ((0:Nat):Int)) 1
  rw [e1,e2]
  exact Heap.get?_push_size _ rfl
 ·have e:b = (s.heap.push { cls:=.type "range",data:=.fields #[.int lo t,.int hi u,.int 1 v] }).objs.size:=by simpa using hb
  subst e
  exact I1.fpOk (Nat.le_refl _) (I1.hok.fresh (Nat.le_refl _))
noncomputable def iRng1 (ta:TA):TI:=fun σ H R=>ta σ H fun vs H1=>∃ j:Int,vs = [.int j] /\ -(2 ^ 62) <= j /\ j < 2 ^ 62 /\ R (Itr 0 j.toNat) H1
theorem pi_range1 {a:Expr} {ta:TA} {p pos:Pos} (hg:Gl X "range") (hm:X.mg "range" = none) (ha:PA X [a] ta) (hs:starEach [a] X.env = [(false,eval a X.env)]:=by rfl):PI X tg (.Call (.Name "range" p) [a] [] pos) (iRng1 ta):=by
 intro pins s σ H R I h
 refine Call_ (ld_blt I hg hm boot_range (PyProof.Rows.callWith_type1 (thn (ha pos pins s σ H _ I h) fun us s1 ⟨vs,H1,I1,r1,q1⟩=>?_) hs rfl))
 obtain ⟨j,e,q1,q2,q⟩:=q1
 subst e
 cases r1 with
 | cons r rr=>
  cases rr
  obtain ⟨t,rfl⟩:=r
  exact call_range_1 (range_it I1 (by omega) (by omega) q1 q2 (by simpa using q))
noncomputable def tFor (wi:TI) (g:TG) (tb:TS):TS:=fun D σ H=>wi σ H fun J H1=>∃ W:Nat -> Nat -> St -> Hp -> Prop,(∃ m,W 0 m σ H1) /\ ∀ i m σ H,W i m σ H ->
 (J.stop i H /\ D.nx σ H) \/ (J.go i H /\ ∃ N:St -> Hp -> Prop,(∀ σ' H',N σ' H' -> ∃ m',m' < m /\ W (i + 1) m' σ' H') /\ ∀ x H',J.yld i H x H' -> g x σ H' fun σ2 H2=>tb { D with nx:=N,ct:=N,bk:=D.nx } σ2 H2)
noncomputable def pinsAt (fp:List Addr) (h:Heap):List (Addr × Obj):=fp.filterMap fun b=>(h.get? b).map fun o=>(b,o)
theorem mem_pinsAt {fp:List Addr} {h:Heap} {b:Addr} {o:Obj} (hb:b ∈ fp) (e:h.get? b = some o):(b,o) ∈ pinsAt fp h:=List.mem_filterMap.mpr ⟨b,hb,by rw [e]; rfl⟩
theorem of_pinsAt {fp:List Addr} {h:Heap} {p:Addr × Obj} (hp:p ∈ pinsAt fp h):p.1 ∈ fp /\ h.get? p.1 = some p.2:=by
 obtain ⟨b,hb,e⟩:=List.mem_filterMap.mp hp
 cases q:h.get? b with
 | none=>rw [q] at e; cases e
 | some o=>
  rw [q] at e
  have e':(b,o) = p:=Option.some.inj e
  subst e'
  exact ⟨hb,q⟩
theorem Inv.pinned {pins:List (Addr × Obj)} {σ:St} {H:Hp} {s:Shared} {fp:List Addr} (I:Inv X pins σ H s) (hf:∀ b ∈ fp,FpOk X pins H b) (ho:∀ b ∈ fp,∃ o,s.heap.get? b = some o /\ ∀ v,o.data ≠ .cell v):Inv X (pins ++ pinsAt fp s.heap) σ H s:=
 I.pins_of fun p hp=>(List.mem_append.mp hp).elim (fun z=>I.pin p (List.mem_append_right _ z)) fun z=>by
  obtain ⟨hb,e⟩:=of_pinsAt z
  obtain ⟨f0,f1,f2,_⟩:=hf p.1 hb
  obtain ⟨o,e',d⟩:=ho p.1 hb
  rw [e] at e'; cases e'
  exact ⟨e,f0,f1,f2,d⟩
theorem Inv.unpinned {pins pl:List (Addr × Obj)} {σ:St} {H:Hp} {s:Shared} (I:Inv X (pins ++ pl) σ H s):Inv X pins σ H s:=I.pins_of fun p hp=>I.pin p (List.mem_append_right _ (List.mem_append_left _ hp))
theorem ps_for {iter:Expr} {body:List Stmt} {wi:TI} {g:TG} {tb:TS} {pos:Pos} (hp:PassesOwn (model X.prog X.w) X.A X.env X.xe) (hc:X.calm = true) (hi:PI X tg iter wi) (hg:PG X tg g) (hb:PSs X body tb)
  (hs:∀ x,foldedSetIterable iter X.env x = pure x:=by intro _; rfl):PS X (.For tg iter body [] pos) (tFor wi g tb):=by
 intro pins s σ H D I h
 refine wpAny_For (thn (hi pins s σ H _ I h) fun v s1 h1=>thn h1 fun itv s2 h2=>?_) hs
 obtain ⟨it,fp,tn,J,H2,e,I2,T,st2,f2,W,⟨m0,w0⟩,turn⟩:=h2
 subst e
 have stat:∀ {H':Hp},(∀ b ∈ fp,H' b = none) -> ∀ b ∈ fp,FpOk X pins H' b:=fun hn b hb=>⟨hn b hb,(f2 b hb).2⟩
 refine codeAny_forLoop_any (fun n s'=>∃ i σ' H',Inv X pins σ' H' s' /\ tn i s'.heap /\ (∀ b ∈ fp,H' b = none) /\ W i n σ' H') ?_ m0 ⟨0,σ,H2,I2,st2,fun b hb=>(f2 b hb).1,w0⟩
 rintro n s3 ⟨i,σ3,H3,I3,st3,fr3,w3⟩
 rcases turn i n σ3 H3 w3 with ⟨stop,qn⟩ | ⟨go,N,hN,step⟩
 ·refine wpAny_passesOwn hp (thn (T.done X rfl rfl rfl hc i pins s3 σ3 H3 X.xe I3 (stat fr3) st3 stop) fun r s4 ⟨hr,I4⟩=>?_)
  subst hr
  exact wpAny_execs_nil ⟨σ3,H3,I4,qn⟩
 ·refine wpAny_passesOwn hp (thn (T.item X rfl rfl rfl hc i pins s3 σ3 H3 X.xe I3 (stat fr3) st3 go) fun r s4 ⟨u,hr,h4⟩=>?_)
  subst hr
  refine wpAny_passesOwn hp (thn h4 fun _ s5 ⟨x,H5,I5,r5,y5,st5,fr5⟩=>?_)
  have I5':=I5.pinned (stat fr5) (T.obj _ _ st5)
  refine wpAny_passesOwn hp (thn (hg _ s5 σ3 H5 x u _ I5' r5 (step x H5 y5)) fun _ s6 ⟨σ6,H6,I6,q6⟩=>?_)
  refine wpAny_passesOwn hp (thn (hb _ s6 σ6 H6 _ I6 q6) fun f s7 q7=>?_)
  have again:∀ {σ7:St} {H7:Hp},Inv X (pins ++ pinsAt fp s5.heap) σ7 H7 s7 -> N σ7 H7 -> ∃ m,m < n /\ ∃ i σ' H',Inv X pins σ' H' s7 /\ tn i s7.heap /\ (∀ b ∈ fp,H' b = none) /\ W i m σ' H':=fun {σ7 H7} I7 n7=>by
   obtain ⟨m',hm,w7⟩:=hN σ7 H7 n7
   refine ⟨m',hm,i + 1,σ7,H7,I7.unpinned,T.keep _ _ _ st5 fun b hb o e=>(I7.pin (b,o) (List.mem_append_right _ (List.mem_append_right _ (mem_pinsAt hb e)))).1,fun b hb=>?_,w7⟩
   obtain ⟨o,e,d⟩:=T.obj _ _ st5 b hb
   exact (I7.pin (b,o) (List.mem_append_right _ (List.mem_append_right _ (mem_pinsAt hb e)))).2.1
  cases f with
  | next=>obtain ⟨σ7,H7,I7,n7⟩:=q7; exact again I7 n7
  | cont=>obtain ⟨σ7,H7,I7,n7⟩:=q7; exact again I7 n7
  | brk=>obtain ⟨σ7,H7,I7,q7⟩:=q7; exact ⟨σ7,H7,I7.unpinned,q7⟩
  | ret v=>obtain ⟨x7,σ7,H7,I7,r7,q7⟩:=q7; exact ⟨x7,σ7,H7,I7.unpinned,r7,q7⟩
end
theorem for_list {K:Frag} {a:Addr} {xs:List V} {g:TG} {tb:TS} {D:Ends} {σ:St} {H:Hp} (Pv:Nat -> St -> Hp -> Prop) (h0:Pv 0 σ H) (hl:∀ i σ H,i <= xs.length -> Pv i σ H -> SqL K H a xs)
  (hs:∀ i x σ H,xs[i]? = some x -> Pv i σ H -> g x σ H fun σ2 H2=>tb { D with nx:=Pv (i + 1),ct:=Pv (i + 1),bk:=D.nx } σ2 H2) (hd:∀ σ H,Pv xs.length σ H -> D.nx σ H):
  ∃ W:Nat -> Nat -> St -> Hp -> Prop,(∃ m,W 0 m σ H) /\ ∀ i m σ H,W i m σ H ->
   ((Itl K a).stop i H /\ D.nx σ H) \/ ((Itl K a).go i H /\ ∃ N:St -> Hp -> Prop,(∀ σ' H',N σ' H' -> ∃ m',m' < m /\ W (i + 1) m' σ' H') /\ ∀ x H',(Itl K a).yld i H x H' -> g x σ H' fun σ2 H2=>tb { D with nx:=N,ct:=N,bk:=D.nx } σ2 H2):=by
 refine ⟨fun i m σ H=>m = xs.length - i /\ i <= xs.length /\ Pv i σ H,⟨xs.length,by simp,Nat.zero_le _,h0⟩,?_⟩
 rintro i m σ H ⟨rfl,hi,p⟩
 have q:=hl i σ H hi p
 by_cases hlt:i < xs.length
 ·refine .inr ⟨⟨xs,xs[i],q,by simp [hlt]⟩,Pv (i + 1),fun σ' H' p'=>⟨xs.length - (i + 1),by omega,rfl,hlt,p'⟩,fun x H' y=>?_⟩
  obtain ⟨e,y⟩:=y
  subst e
  exact hs i x σ _ (y xs q) p
 ·have e:i = xs.length:=by omega
  subst e
  exact .inl ⟨⟨xs,q,Nat.le_refl _⟩,hd σ H p⟩
theorem for_tup {K:Frag} {a:Addr} {xs:List V} {g:TG} {tb:TS} {D:Ends} {σ:St} {H:Hp} (Pv:Nat -> St -> Hp -> Prop) (h0:Pv 0 σ H) (hl:∀ i σ H,i <= xs.length -> Pv i σ H -> SqT K H a xs)
  (hs:∀ i x σ H,xs[i]? = some x -> Pv i σ H -> g x σ H fun σ2 H2=>tb { D with nx:=Pv (i + 1),ct:=Pv (i + 1),bk:=D.nx } σ2 H2) (hd:∀ σ H,Pv xs.length σ H -> D.nx σ H):
  ∃ W:Nat -> Nat -> St -> Hp -> Prop,(∃ m,W 0 m σ H) /\ ∀ i m σ H,W i m σ H ->
   ((Itt K a).stop i H /\ D.nx σ H) \/ ((Itt K a).go i H /\ ∃ N:St -> Hp -> Prop,(∀ σ' H',N σ' H' -> ∃ m',m' < m /\ W (i + 1) m' σ' H') /\ ∀ x H',(Itt K a).yld i H x H' -> g x σ H' fun σ2 H2=>tb { D with nx:=N,ct:=N,bk:=D.nx } σ2 H2):=by
 refine ⟨fun i m σ H=>m = xs.length - i /\ i <= xs.length /\ Pv i σ H,⟨xs.length,by simp,Nat.zero_le _,h0⟩,?_⟩
 rintro i m σ H ⟨rfl,hi,p⟩
 have q:=hl i σ H hi p
 by_cases hlt:i < xs.length
 ·refine .inr ⟨⟨xs,xs[i],q,by simp [hlt]⟩,Pv (i + 1),fun σ' H' p'=>⟨xs.length - (i + 1),by omega,rfl,hlt,p'⟩,fun x H' y=>?_⟩
  obtain ⟨e,y⟩:=y
  subst e
  exact hs i x σ _ (y xs q) p
 ·have e:i = xs.length:=by omega
  subst e
  exact .inl ⟨⟨xs,q,Nat.le_refl _⟩,hd σ H p⟩
theorem for_range {lo:Int} {n:Nat} {g:TG} {tb:TS} {D:Ends} {σ:St} {H:Hp} (Pv:Nat -> St -> Hp -> Prop) (h0:Pv 0 σ H)
  (hs:∀ i σ H,i < n -> Pv i σ H -> g (.int (lo + i)) σ H fun σ2 H2=>tb { D with nx:=Pv (i + 1),ct:=Pv (i + 1),bk:=D.nx } σ2 H2) (hd:∀ σ H,Pv n σ H -> D.nx σ H):
  ∃ W:Nat -> Nat -> St -> Hp -> Prop,(∃ m,W 0 m σ H) /\ ∀ i m σ H,W i m σ H ->
   ((Itr lo n).stop i H /\ D.nx σ H) \/ ((Itr lo n).go i H /\ ∃ N:St -> Hp -> Prop,(∀ σ' H',N σ' H' -> ∃ m',m' < m /\ W (i + 1) m' σ' H') /\ ∀ x H',(Itr lo n).yld i H x H' -> g x σ H' fun σ2 H2=>tb { D with nx:=N,ct:=N,bk:=D.nx } σ2 H2):=by
 refine ⟨fun i m σ H=>m = n - i /\ i <= n /\ Pv i σ H,⟨n,by simp,Nat.zero_le _,h0⟩,?_⟩
 rintro i m σ H ⟨rfl,hi,p⟩
 by_cases hlt:i < n
 ·refine .inr ⟨hlt,Pv (i + 1),fun σ' H' p'=>⟨n - (i + 1),by omega,rfl,hlt,p'⟩,fun x H' y=>?_⟩
  obtain ⟨e,y⟩:=y
  subst e y
  exact hs i σ _ hlt p
 ·have e:i = n:=by omega
  subst e
  exact .inl ⟨Nat.le_refl _,hd σ H p⟩
noncomputable abbrev R2:=V -> V -> Hp -> VK -> Prop
def OpR (X:Cx) (f:Value -> Value -> Sem Value) (r:R2):Prop:=
 ∀ (pins:List (Addr × Obj)) (s:Shared) (σ:St) (H:Hp) (x y:V) (v u:Value) (Q:VK),Inv X pins σ H s -> RelV x v -> RelV y u -> r x y H Q ->
  wpAny (model X.prog X.w) X.A (f v u) (EP X pins σ Q) X.xe s
def UnR (X:Cx) (f:Value -> Sem Value) (r:V -> Hp -> VK -> Prop):Prop:=
 ∀ (pins:List (Addr × Obj)) (s:Shared) (σ:St) (H:Hp) (x:V) (v:Value) (Q:VK),Inv X pins σ H s -> RelV x v -> r x H Q ->
  wpAny (model X.prog X.w) X.A (f v) (EP X pins σ Q) X.xe s
def CallR (X:Cx) (f:Value) (r:List V -> Hp -> VK -> Prop):Prop:=
 ∀ (pins:List (Addr × Obj)) (s:Shared) (σ:St) (H:Hp) (xs:List V) (us:List Value) (Q:VK),Inv X pins σ H s -> Vals xs us -> r xs H Q ->
  wpAny (model X.prog X.w) X.A (call f us) (EP X pins σ Q) X.xe s
noncomputable def tOp (r:R2) (ta tb:TE):TE:=fun σ H Q=>ta σ H fun x H1=>tb σ H1 fun y H2=>r x y H2 Q
noncomputable def tUn (r:V -> Hp -> VK -> Prop) (ta:TE):TE:=fun σ H Q=>ta σ H fun x H1=>r x H1 Q
noncomputable def rI (C:Int -> Int -> Prop) (g:Int -> Int -> V):R2:=fun x y H Q=>∃ i j,x = .int i /\ y = .int j /\ C i j /\ Q (g i j) H
noncomputable def rI0 (g:Int -> Int -> V):R2:=fun x y H Q=>∃ i j,x = .int i /\ y = .int j /\ Q (g i j) H
noncomputable def rU (g:Int -> V):V -> Hp -> VK -> Prop:=fun x H Q=>∃ i,x = .int i /\ Q (g i) H
section
variable {X:Cx} {a b c:Expr} {ta tb tc:TE} {pos:Pos}
theorem binT (ha:PE X a ta) (hb:PE X b tb) {pins:List (Addr × Obj)} {s:Shared} {σ:St} {H:Hp} {R:V -> V -> Hp -> Prop} (I:Inv X pins σ H s)
  (h:ta σ H fun x H1=>tb σ H1 fun y H2=>R x y H2) {Q:Value -> Shared -> Prop} {f:Value -> Value -> Sem Value}
  (hf:∀ v u s2 x y H2,Inv X pins σ H2 s2 -> RelV x v -> RelV y u -> R x y H2 -> wpAny (model X.prog X.w) X.A (f v u) Q X.xe s2):
  wpAny (model X.prog X.w) X.A (eval a X.env) (fun v s₁=>wpAny (model X.prog X.w) X.A (eval b X.env) (fun u s₂=>wpAny (model X.prog X.w) X.A (f v u) Q X.xe s₂) X.xe s₁) X.xe s:=by
 refine thn (ha pins s σ H _ I h) fun v s1 ⟨x,H1,I1,r1,q1⟩=>?_
 refine thn (hb pins s1 σ H1 _ I1 q1) fun u s2 ⟨y,H2,I2,r2,q2⟩=>?_
 exact hf v u s2 x y H2 I2 r1 r2 q2
theorem pe_op {op:Operator} {r:R2} (ho:OpR X (binaryOp op) r) (ha:PE X a ta) (hb:PE X b tb):PE X (.BinOp a op b pos) (tOp r ta tb):=by
 intro pins s σ H Q I h
 exact wpAny_BinOp (binT ha hb I h fun v u s2 x y H2 I2 rx ry q=>ho pins s2 σ H2 x y v u Q I2 rx ry q)
theorem pe_un {op:UnaryOp} {r:V -> Hp -> VK -> Prop} (ho:UnR X (unaryOp op) r) (ha:PE X a ta):PE X (.UnaryOp op a pos) (tUn r ta):=by
 intro pins s σ H Q I h
 exact UnaryOp_ (thn (ha pins s σ H _ I h) fun v s1 ⟨x,H1,I1,r1,q1⟩=>ho pins s1 σ H1 x v Q I1 r1 q1)
theorem opI {f:Value -> Value -> Sem Value} {C:Int -> Int -> Prop} {g:Int -> Int -> Int}
  (rule:∀ (i j:Int) (t u:Tok) (s:Shared) (Q:Value -> Shared -> Prop) (E:Value -> Shared -> Prop),C i j -> Q (.int (g i j) s.toks) { s with toks:=s.toks + 1 } -> wpAny (model X.prog X.w) X.A (f (.int i t) (.int j u)) Q E s):
  OpR X f (rI C fun i j=>.int (g i j)):=by
 intro pins s σ H x y v u Q I rx ry h
 obtain ⟨i,j,rfl,rfl,hc,q⟩:=h
 obtain ⟨t,rfl⟩:=rx
 obtain ⟨t',rfl⟩:=ry
 exact rule i j t t' s _ _ hc ⟨.int (g i j),H,I.tok _,⟨_,rfl⟩,q⟩
theorem opI0 {f:Value -> Value -> Sem Value} {g:Int -> Int -> Int}
  (rule:∀ (i j:Int) (t u:Tok) (s:Shared) (Q:Value -> Shared -> Prop) (E:Value -> Shared -> Prop),Q (.int (g i j) s.toks) { s with toks:=s.toks + 1 } -> wpAny (model X.prog X.w) X.A (f (.int i t) (.int j u)) Q E s):
  OpR X f (rI0 fun i j=>.int (g i j)):=by
 intro pins s σ H x y v u Q I rx ry h
 obtain ⟨i,j,rfl,rfl,q⟩:=h
 obtain ⟨t,rfl⟩:=rx
 obtain ⟨t',rfl⟩:=ry
 exact rule i j t t' s _ _ ⟨.int (g i j),H,I.tok _,⟨_,rfl⟩,q⟩
theorem opB0 {f:Value -> Value -> Sem Value} {g:Int -> Int -> Bool}
  (rule:∀ (i j:Int) (t u:Tok) (s:Shared) (Q:Value -> Shared -> Prop) (E:Value -> Shared -> Prop),Q (.bool (g i j)) s -> wpAny (model X.prog X.w) X.A (f (.int i t) (.int j u)) Q E s):
  OpR X f (rI0 fun i j=>.bl (g i j)):=by
 intro pins s σ H x y v u Q I rx ry h
 obtain ⟨i,j,rfl,rfl,q⟩:=h
 obtain ⟨t,rfl⟩:=rx
 obtain ⟨t',rfl⟩:=ry
 exact rule i j t t' s _ _ ⟨.bl (g i j),H,I,rfl,q⟩
def CDiv (i j:Int):Prop:=0 < j /\ j < 1073741824
def CPow (i j:Int):Prop:=0 <= j /\ j <= 1000000 /\ i.natAbs < 2 ^ 64
def CMul (i j:Int):Prop:=(-(2 ^ 64) < i /\ i < 2 ^ 64) \/ (-(2 ^ 64) < j /\ j < 2 ^ 64)
theorem CMul.ok {i j:Int} (h:CMul i j):IntMulOk i j:=by
 rcases h with ⟨h1,h2⟩ | ⟨h1,h2⟩
 ·exact .of_left (intBits_le_64 h1 h2)
 ·exact .of_right (intBits_le_64 h1 h2)
theorem op_add:OpR X (binaryOp .Add) (rI0 fun i j=>.int (i + j)):=opI0 fun _ _ _ _ _ _ _ q=>add_int q
theorem op_sub:OpR X (binaryOp .Sub) (rI0 fun i j=>.int (i - j)):=opI0 fun _ _ _ _ _ _ _ q=>sub_int q
theorem op_mul:OpR X (binaryOp .Mult) (rI CMul fun i j=>.int (i * j)):=opI fun _ _ _ _ _ _ _ hc q=>mul_int q hc.ok
theorem op_fdiv:OpR X (binaryOp .FloorDiv) (rI CDiv fun i j=>.int (i / j)):=opI fun i j _ _ _ _ _ hc q=>by
 have h1:(0:Int) < j:=hc.1
 have h2:j < 1073741824:=hc.2
 exact floordiv_int (by omega) (by rw [Int.fdiv_eq_ediv_of_nonneg i (by omega)]; exact q) (.inl (PyProof.noPylong_small (by omega)))
theorem op_mod:OpR X (binaryOp .Mod) (rI (fun _ j=>0 < j) fun i j=>.int (i % j)):=opI fun i j _ _ _ _ _ hc q=>by
 have h1:(0:Int) < j:=hc
 exact mod_int' (by omega) (by rw [Int.fmod_eq_emod_of_nonneg i (by omega)]; exact q)
theorem unI {f:Value -> Sem Value} {g:Int -> Int}
  (rule:∀ (i:Int) (t:Tok) (s:Shared) (Q:Value -> Shared -> Prop) (E:Value -> Shared -> Prop),Q (.int (g i) s.toks) { s with toks:=s.toks + 1 } -> wpAny (model X.prog X.w) X.A (f (.int i t)) Q E s):
  UnR X f (rU fun i=>.int (g i)):=by
 intro pins s σ H x v Q I rx h
 obtain ⟨i,rfl,q⟩:=h
 obtain ⟨t,rfl⟩:=rx
 exact rule i t s _ _ ⟨.int (g i),H,I.tok _,⟨_,rfl⟩,q⟩
theorem un_neg:UnR X (unaryOp .USub) (rU fun i=>.int (-i)):=unI fun _ _ _ _ _ q=>neg_int q
end
noncomputable def scal:V -> V -> Bool
 | .non,.non=>true | .non,.int _=>true | .int _,.non=>true | .non,.bl _=>true | .bl _,.non=>true | .non,.str _=>true | .str _,.non=>true
 | .int _,.int _=>true | .bl _,.bl _=>true | .str _,.str _=>true | .byt _,.byt _=>true
 | .int _,.str _=>true | .str _,.int _=>true | .bl _,.str _=>true | .str _,.bl _=>true
 | _,_=>false
noncomputable def rEq:R2:=fun x y H Q=>scal x y = true /\ Q (.bl (decide (x = y))) H
noncomputable def rNe:R2:=fun x y H Q=>scal x y = true /\ Q (.bl (!decide (x = y))) H
theorem dec_int {i j:Int}:decide (V.int i = V.int j) = (i == j):=by
 rw [Bool.eq_iff_iff]
 simp
theorem dec_bl {i j:Bool}:decide (V.bl i = V.bl j) = (i == j):=by
 rw [Bool.eq_iff_iff]
 simp
theorem dec_str {i j:Str}:decide (V.str i = V.str j) = (i == j):=by
 rw [Bool.eq_iff_iff]
 simp
theorem dec_byt {i j:Array UInt8}:decide (V.byt i = V.byt j) = (i.toList == j.toList):=by
 rw [Bool.eq_iff_iff]
 cases i
 cases j
 simp
section
variable {X:Cx} {a b c:Expr} {ta tb tc:TE} {pos:Pos}
theorem fin_bl {pins:List (Addr × Obj)} {σ:St} {H:Hp} {s:Shared} {Q:VK} {k k':Bool} (I:Inv X pins σ H s) (q:Q (.bl k) H) (e:k = k'):EP X pins σ Q (.bool k') s:=by
 subst e
 exact ⟨.bl k,H,I,rfl,q⟩
theorem op_eq:OpR X (compareOp .Eq) rEq:=by
 intro pins s σ H x y v u Q I rx ry h
 obtain ⟨hs,q⟩:=h
 cases x with
 | non=>
  cases rx
  cases y with
  | non=>cases ry; exact PySem.EqNone.eq_none_none (fin_bl I q (by simp))
  | bl j=>cases ry; exact PySem.EqNone.eq_none_bool (fin_bl I q (by simp))
  | int j=>obtain ⟨t',rfl⟩:=ry; exact PySem.EqNone.eq_none_int (fin_bl I q (by simp))
  | str j=>obtain ⟨t',rfl⟩:=ry; exact PySem.EqNone.eq_none_str (fin_bl I q (by simp))
  | _=>exact absurd (show false = true from hs) Bool.false_ne_true
 | bl i=>
  cases rx
  cases y with
  | non=>cases ry; exact PySem.EqNone.eq_bool_none (fin_bl I q (by simp))
  | bl j=>cases ry; exact eq_bool (fin_bl I q dec_bl)
  | str j=>obtain ⟨t',rfl⟩:=ry; exact PySem.EqMixed.eq_bool_str (fin_bl I q (by simp))
  | _=>exact absurd (show false = true from hs) Bool.false_ne_true
 | int i=>
  obtain ⟨t,rfl⟩:=rx
  cases y with
  | non=>cases ry; exact PySem.EqNone.eq_int_none (fin_bl I q (by simp))
  | int j=>obtain ⟨t',rfl⟩:=ry; exact eq_int (fin_bl I q dec_int)
  | str j=>obtain ⟨t',rfl⟩:=ry; exact PySem.EqMixed.eq_int_str (fin_bl I q (by simp))
  | _=>exact absurd (show false = true from hs) Bool.false_ne_true
 | str i=>
  obtain ⟨t,rfl⟩:=rx
  cases y with
  | non=>cases ry; exact PySem.EqNone.eq_str_none (fin_bl I q (by simp))
  | bl j=>cases ry; exact PySem.EqMixed.eq_str_bool (fin_bl I q (by simp))
  | int j=>obtain ⟨t',rfl⟩:=ry; exact PySem.EqMixed.eq_str_int (fin_bl I q (by simp))
  | str j=>obtain ⟨t',rfl⟩:=ry; exact eq_str (fin_bl I q dec_str)
  | _=>exact absurd (show false = true from hs) Bool.false_ne_true
 | byt i=>
  obtain ⟨t,rfl⟩:=rx
  cases y with
  | byt j=>obtain ⟨t',rfl⟩:=ry; exact PySem.W.eq_bytes (fin_bl I q dec_byt)
  | _=>exact absurd (show false = true from hs) Bool.false_ne_true
 | _=>cases y <;> exact absurd (show false = true from hs) Bool.false_ne_true
theorem op_ne:OpR X (compareOp .NotEq) rNe:=by
 intro pins s σ H x y v u Q I rx ry h
 obtain ⟨hs,q⟩:=h
 cases x with
 | non=>
  cases rx
  cases y with
  | non=>cases ry; exact PySem.EqNone.ne_none_none (fin_bl I q (by simp))
  | bl j=>cases ry; exact PySem.EqNone.ne_none_bool (fin_bl I q (by simp))
  | int j=>obtain ⟨t',rfl⟩:=ry; exact PySem.EqNone.ne_none_int (fin_bl I q (by simp))
  | str j=>obtain ⟨t',rfl⟩:=ry; exact PySem.EqNone.ne_none_str (fin_bl I q (by simp))
  | _=>exact absurd (show false = true from hs) Bool.false_ne_true
 | bl i=>
  cases rx
  cases y with
  | non=>cases ry; exact PySem.EqNone.ne_bool_none (fin_bl I q (by simp))
  | bl j=>cases ry; exact ne_bool (fin_bl I q (congrArg not dec_bl))
  | str j=>obtain ⟨t',rfl⟩:=ry; exact PySem.EqMixed.ne_bool_str (fin_bl I q (by simp))
  | _=>exact absurd (show false = true from hs) Bool.false_ne_true
 | int i=>
  obtain ⟨t,rfl⟩:=rx
  cases y with
  | non=>cases ry; exact PySem.EqNone.ne_int_none (fin_bl I q (by simp))
  | int j=>obtain ⟨t',rfl⟩:=ry; exact ne_int (fin_bl I q (congrArg not dec_int))
  | str j=>obtain ⟨t',rfl⟩:=ry; exact PySem.EqMixed.ne_int_str (fin_bl I q (by simp))
  | _=>exact absurd (show false = true from hs) Bool.false_ne_true
 | str i=>
  obtain ⟨t,rfl⟩:=rx
  cases y with
  | non=>cases ry; exact PySem.EqNone.ne_str_none (fin_bl I q (by simp))
  | bl j=>cases ry; exact PySem.EqMixed.ne_str_bool (fin_bl I q (by simp))
  | int j=>obtain ⟨t',rfl⟩:=ry; exact PySem.EqMixed.ne_str_int (fin_bl I q (by simp))
  | str j=>obtain ⟨t',rfl⟩:=ry; exact ne_str (fin_bl I q (congrArg not dec_str))
  | _=>exact absurd (show false = true from hs) Bool.false_ne_true
 | byt i=>
  obtain ⟨t,rfl⟩:=rx
  cases y with
  | byt j=>obtain ⟨t',rfl⟩:=ry; exact PySem.W.ne_bytes (fin_bl I q (congrArg not dec_byt))
  | _=>exact absurd (show false = true from hs) Bool.false_ne_true
 | _=>cases y <;> exact absurd (show false = true from hs) Bool.false_ne_true
theorem op_lt:OpR X (compareOp .Lt) (rI0 fun i j=>.bl (decide (i < j))):=opB0 fun _ _ _ _ _ _ _ q=>lt_int q
theorem op_le:OpR X (compareOp .LtE) (rI0 fun i j=>.bl (decide (i <= j))):=opB0 fun _ _ _ _ _ _ _ q=>le_int q
theorem op_ge:OpR X (compareOp .GtE) (rI0 fun i j=>.bl (decide (j <= i))):=opB0 fun _ _ _ _ _ _ _ q=>ge_int q
theorem op_in_str:OpR X (compareOp .In) (fun x y H Q=>∃ i j,x = .str i /\ y = .str j /\ Q (.bl (!(Builtin.Str.occurrences j i 0 j.length 1).isEmpty)) H):=by
 intro pins s σ H x y v u Q I rx ry h
 obtain ⟨i,j,rfl,rfl,q⟩:=h
 obtain ⟨t,rfl⟩:=rx
 obtain ⟨t',rfl⟩:=ry
 exact in_str (fin_bl I q rfl)
theorem op_isN:OpR X (compareOp .Is) (fun x y H Q=>y = .non /\ Q (.bl (decide (x = .non))) H):=by
 intro pins s σ H x y v u Q I rx ry h
 obtain ⟨rfl,q⟩:=h
 cases ry
 refine is_none_gen (fin_bl I q ?_)
 cases x <;> first
  | (cases rx; rfl)
  | (obtain ⟨t,rfl⟩:=rx; rfl)
theorem op_notN:OpR X (compareOp .IsNot) (fun x y H Q=>y = .non /\ Q (.bl (!decide (x = .non))) H):=by
 intro pins s σ H x y v u Q I rx ry h
 obtain ⟨rfl,q⟩:=h
 cases ry
 refine isnot_none_gen (fin_bl I q ?_)
 cases x <;> first
  | (cases rx; rfl)
  | (obtain ⟨t,rfl⟩:=rx; rfl)
theorem op_notin_str:OpR X (compareOp .NotIn) (fun x y H Q=>∃ i j,x = .str i /\ y = .str j /\ Q (.bl (!(!(Builtin.Str.occurrences j i 0 j.length 1).isEmpty))) H):=by
 intro pins s σ H x y v u Q I rx ry h
 obtain ⟨i,j,rfl,rfl,q⟩:=h
 obtain ⟨t,rfl⟩:=rx
 obtain ⟨t',rfl⟩:=ry
 exact notIn_str (fin_bl I q rfl)
theorem OpR.or {f:Value -> Value -> Sem Value} {r r':R2} (h:OpR X f r) (h':OpR X f r'):OpR X f (fun x y H Q=>r x y H Q \/ r' x y H Q):=by
 intro pins s σ H x y v u Q I rx ry q
 rcases q with q | q
 ·exact h pins s σ H x y v u Q I rx ry q
 ·exact h' pins s σ H x y v u Q I rx ry q
theorem nomark (b:Expr) {op:CmpOp} (h:op ≠ .In:=by decide) (h2:op ≠ .NotIn:=by decide):behindInMarks op b = false:=by
 have e1:(op == CmpOp.In) = false:=by cases op <;> first | rfl | exact absurd rfl h
 have e2:(op == CmpOp.NotIn) = false:=by cases op <;> first | rfl | exact absurd rfl h2
 cases b <;> simp [behindInMarks,e1,e2]
theorem pe_cmpR {op:CmpOp} {r:R2} (ho:OpR X (compareOp op) r) (ha:PE X a ta) (hb:PE X b tb) (hm:behindInMarks op b = false):PE X (.Compare a [op] [b] pos) (tOp r ta tb):=by
 intro pins s σ H Q I h
 exact wpAny_Compare1 (binT ha hb I h fun v u s2 x y H2 I2 rx ry q=>ho pins s2 σ H2 x y v u Q I2 rx ry q) hm
noncomputable def tTest (t:TE):TT:=fun σ H Q=>t σ H fun x H'=>∃ k,x = .bl k /\ Q k H'
theorem pt_cmpR {op:CmpOp} {r:R2} (ho:OpR X (compareOp op) r) (ha:PE X a ta) (hb:PE X b tb) (hm:behindInMarks op b = false):PT X (.Compare a [op] [b] pos) (tTest (tOp r ta tb)):=by
 intro pins s σ H Q I h
 refine wpAny_isTrue_Compare1 (thn (ha pins s σ H _ I h) fun v s1 ⟨x,H1,I1,r1,q1⟩=>thn (hb pins s1 σ H1 _ I1 q1) fun u s2 ⟨y,H2,I2,r2,q2⟩=>
  thn (ho pins s2 σ H2 x y v u _ I2 r1 r2 q2) fun c s3 ⟨z,H3,I3,r3,k,e,q3⟩=>?_) hm
 subst e
 cases r3
 exact wpAny_truthy_bool ⟨H3,I3,q3⟩
theorem line63:(sizeLine:Nat) < 2 ^ 63:=by rw [sizeLine_eq]; decide
theorem op_add_str:OpR X (binaryOp .Add) (fun x y H Q=>∃ i j,x = .str i /\ y = .str j /\ i.length + j.length <= sizeLine /\ Q (.str (i ++ j)) H):=by
 intro pins s σ H x y v u Q I rx ry h
 obtain ⟨i,j,rfl,rfl,hz,q⟩:=h
 obtain ⟨t,rfl⟩:=rx
 obtain ⟨t',rfl⟩:=ry
 exact tokQ I.tk (add_str (fun t' tk (htk:0 < tk)=>⟨.str (i ++ j),H,I.tok _,⟨_,rfl⟩,q⟩) hz)
theorem vals1 {x:V} {us:List Value} (r:Vals [x] us):∃ u,us = [u] /\ RelV x u:=by
 cases r with
 | cons r1 r2=>cases r2; exact ⟨_,rfl,r1⟩
theorem vals2 {x y:V} {us:List Value} (r:Vals [x,y] us):∃ u w',us = [u,w'] /\ RelV x u /\ RelV y w':=by
 cases r with
 | cons r1 r2=>
  cases r2 with
  | cons r3 r4=>cases r4; exact ⟨_,_,rfl,r1,r3⟩
theorem call_int1:CallR X (.type "int") (fun xs H Q=>(∃ i,xs = [.int i] /\ Q (.int i) H) \/ ∃ k,xs = [.bl k] /\ Q (.int (if k then 1 else 0)) H):=by
 intro pins s σ H xs us Q I r h
 rcases h with ⟨i,rfl,q⟩ | ⟨k,rfl,q⟩
 ·obtain ⟨u,rfl,t,rfl⟩:=vals1 r
  exact call_int_int ⟨.int i,H,I,⟨_,rfl⟩,q⟩
 ·obtain ⟨u,rfl,r1⟩:=vals1 r
  cases r1
  exact call_int_bool ⟨.int (if k then 1 else 0),H,I.tok _,⟨_,rfl⟩,q⟩
end
structure ObjM (h:Heap) (x dx C:Addr) (mA:Str -> Option Value):Prop where
 obj:h.get? x = some (PySem.W.instObj C dx)
 ns:h.Ns1 dx mA
 ne:dx ≠ x
theorem lookIn_ns {h:Heap} {dx:Addr} {mA:Str -> Option Value} (n:h.Ns1 dx mA):∃ od,h.get? dx = some od /\ ∀ name,PySem.W.lookIn name od = some (mA name):=by
 obtain ⟨o,es,ep,ho,hd,hk,_,hm⟩:=n
 refine ⟨o,ho,fun name=>?_⟩
 have e:=hm name
 unfold nsFind findBy at e
 rw [<- Array.find?_toList] at e
 unfold PySem.W.lookIn
 rw [hd]
 dsimp only
 split
 ·rename_i y q
  rw [q] at e
  exact congrArg some e
 ·rename_i q
  rw [q] at e
  have a:es.toList.any (·.refKey) = false:=by
   rw [List.any_eq_false]
   intro y hy
   obtain ⟨z,t,hkey⟩:=hk y (Array.mem_toList_iff.mp hy)
   simp [DictEntry.refKey,hkey]
  have a':¬ es.toList.any (·.refKey) = true:=by rw [a]; exact Bool.false_ne_true
  rw [if_neg a']
  exact congrArg some e
theorem ObjM.look {h:Heap} {x dx C:Addr} {mA:Str -> Option Value} (I:ObjM h x dx C mA):∃ od,PySem.W.InstAt h x (PySem.W.instObj C dx) C (some od) /\ ∀ name,PySem.W.lookIn name od = some (mA name):=
 let ⟨od,ho,hl⟩:=lookIn_ns I.ns
 ⟨od,⟨I.obj,rfl,rfl,ho⟩,hl⟩
section
variable {prog:Program} {w:World} {A:Around} {E:Value -> Shared -> Prop} {s:Shared} {K:Frag} {x dx C f:Addr} {mA:Str -> Option Value} {name:Str} {v:Value}
end
theorem RelO.some_of {v:V} {o:Option Value} (r:RelO (some v) o):∃ u,o = some u /\ RelV v u:=by
 cases o with
 | none=>exact (show False from r).elim
 | some u=>exact ⟨u,rfl,r⟩
theorem RelO.none_of {o:Option Value} (r:RelO none o):o = none:=by
 cases o with
 | none=>rfl
 | some u=>exact (show False from r).elim
section
variable {P:Program} {w:World} {H H':Hp} {h h':Heap} {a C dx:Addr} {fs fs':List (Str × V)}
theorem ins_get (hok:HOk P w H h) (e:H a = some (.ins C dx fs)):∃ mA,ObjM h a dx C mA /\ (∀ f,RelO (fs.lookup f) (mA f)) /\ PySem.Within mA (fs.map (·.1)) /\ fs.length <= 1000 /\ H dx = some (.own a):=by
 obtain ⟨d,z,ne,ob,mA,n,r,q⟩:=(show ObjOk P w H h a (.ins C dx fs) from hok a _ e)
 exact ⟨mA,⟨ob,n,ne⟩,r,q,z,d⟩
end
structure Cls (K:Frag) (C:Addr):Prop where
 pg:PySem.W.plainGet K C Str.empty = true
 hd:PySem.W.hasDictIn K C = true
 po:PySem.W.plainOver K C = true
 sa:findIn K (.ref C) "__setattr__" = some (some (.builtin "object.__setattr__"))
theorem Cls.get {K:Frag} {C:Addr} (c:Cls K C) (f:Str):PySem.W.plainGet K C f = true:=c.pg
structure Con (K:Frag) (C:Addr) (f:Str) (v:V) (u:Value):Prop where
 at_:findIn K (.ref C) f = some (some u)
 rel:RelV v u
 get:PySem.W.specialIn K u "__get__" = some none
 cp:PySem.W.copiedNames.contains f = false
structure Meth (K:Frag) (C:Addr) (m:Str) (f:Addr):Prop where
 at_:findIn K (.ref C) m = some (some (.ref f))
 fn:PySem.W.isFn K (.ref f) = true
 kp:keepIn K (.ref f) = true
section
variable {X:Cx} {pins:List (Addr × Obj)} {σ:St} {H:Hp} {s:Shared} {a C dx:Addr} {fs:List (Str × V)} {f:Str} {v:V} {A:Around} {E:Value -> Shared -> Prop}
theorem Inv.made (I:Inv X pins σ H s):Inv X pins σ (upd (upd H s.heap.objs.size (.own (s.heap.objs.size + 1))) (s.heap.objs.size + 1) (.ins C s.heap.objs.size []))
  { s with heap:=(s.heap.push PySem.W.emptyDict).push (PySem.W.instObj C s.heap.objs.size) }:=by
 have e1:(s.heap.push PySem.W.emptyDict).get? s.heap.objs.size = some PySem.W.emptyDict:=Heap.get?_push_size s.heap rfl
 have e2:((s.heap.push PySem.W.emptyDict).push (PySem.W.instObj C s.heap.objs.size)).get? (s.heap.objs.size + 1) = some (PySem.W.instObj C s.heap.objs.size):=by
  have:=Heap.get?_push_size (s.heap.push PySem.W.emptyDict) (o:=PySem.W.instObj C s.heap.objs.size) rfl
  rwa [Heap.size_push] at this
 have e3:(s.heap.push PySem.W.emptyDict).Ns s.heap.objs.size (fun _=>none):=⟨PySem.W.emptyDict,#[],_,e1,rfl,(fun e he=>absurd he (by simp)),fun _=>rfl⟩
 have I1:=I.laid (a:=s.heap.objs.size) (o:=.own (s.heap.objs.size + 1)) (h':=s.heap.push PySem.W.emptyDict) (t':=s.toks) (fun b u q=>Heap.get?_push_of_some _ q) (Nat.le_refl _) ⟨_,e1⟩
 refine I1.laid (a:=s.heap.objs.size + 1) (o:=.ins C s.heap.objs.size []) (t':=s.toks) (fun b u q=>Heap.get?_push_of_some _ q) (Nat.le_of_eq (Heap.size_push _ _)) ?_
 have ne:s.heap.objs.size ≠ s.heap.objs.size + 1:=Nat.ne_of_lt (Nat.lt_succ_self _)
 refine ⟨by rw [upd_ne ne,upd_same],Nat.zero_le _,ne,e2,fun _=>none,(Heap.Ns1.of_empty e3).at fun o q=>Heap.get?_push_of_some _ q,fun _=>True.intro,fun y hy=>absurd rfl hy⟩
end
section
variable {X:Cx} {o e value:Expr} {f:Str} {pos pos' tpos:Pos} {ta tv:TE}
end
section
variable {X:Cx} {pins:List (Addr × Obj)} {σ:St} {H:Hp} {s:Shared} {A:Around} {E:Value -> Shared -> Prop} {Q:Value -> Shared -> Prop} {c:Value} {b:Bool}
inductive TyOf (K:Frag) (H:Hp):V -> Value -> Prop where
 | non:TyOf K H .non (.type "NoneType")
 | bl (x:Bool):TyOf K H (.bl x) (.type "bool")
 | int (i:Int):TyOf K H (.int i) (.type "int")
 | str (x:Str):TyOf K H (.str x) (.type "str")
 | flt (x:UInt64):TyOf K H (.flt x) (.type "float")
 | lst {a:Addr} {xs:List V} (e:H a = some (.lst xs)):TyOf K H (.ref a) (.type "list")
 | frz {a:Addr} {o:Obj} {xs:List V} (e:H a = some (.frz o (.lst xs))):TyOf K H (.ref a) (.type "list")
 | tup {a:Addr} {xs:List V} (e:H a = some (.tup xs)):TyOf K H (.ref a) (.type "tuple")
 | dK {a:Addr} {kvs:List (Key × V)} (e:H a = some (.dK kvs)):TyOf K H (.ref a) (.type "dict")
 | dT {a:Addr} {kvs:List (List Key × V)} (e:H a = some (.dT kvs)):TyOf K H (.ref a) (.type "dict")
 | ins {a C dx:Addr} {fs:List (Str × V)} (e:H a = some (.ins C dx fs)) (cl:Cls K C) (ha:findIn K (.ref C) "__class__" = some (some (.builtin "object.__class__")))
   (hn:PySem.W.specialIn K (.builtin "object.__class__") "__get__" = some (some (.builtin "getset_descriptor.__get__"))) (htk:PySem.W.takesIn K (.builtin "object.__class__") = some true)
   (hm:PySem.W.mroIn K C (.type "object") = some true):TyOf K H (.ref a) (.ref C)
theorem isinst_ok {x:V} {u t:Value} (I:Inv X pins σ H s) (rx:RelV x u) (ty:TyOf X.K H x t) (e:PySem.W.kitOne X.K t c = some b) (h:∀ tk,Q (.bool b) { s with toks:=tk }):
  wpAny (model X.prog X.w) A (call (.builtin "isinstance") [u,c]) Q E s:=by
 cases ty with
 | non=>cases (show u = Value.none from rx); exact PySem.W.kia_one PySem.W.kitx_none I.kIn True.intro e (fun z=>nomatch z) h
 | bl y=>cases (show u = Value.bool y from rx); exact PySem.W.kia_one PySem.W.kitx_bool I.kIn True.intro e (fun z=>nomatch z) h
 | int i=>obtain ⟨t,q⟩:=(show ∃ t,u = Value.int i t from rx); cases q; exact PySem.W.kia_one PySem.W.kitx_int I.kIn True.intro e (fun z=>nomatch z) h
 | str y=>obtain ⟨t,q⟩:=(show ∃ t,u = Value.str y t from rx); cases q; exact PySem.W.kia_one PySem.W.kitx_str I.kIn True.intro e (fun z=>nomatch z) h
 | flt y=>obtain ⟨t,q⟩:=(show ∃ t,u = Value.float y t from rx); cases q; exact PySem.W.kia_one PySem.W.kitx_float I.kIn True.intro e (fun z=>nomatch z) h
 | @lst a xs ea=>
  cases (show u = Value.ref a from rx)
  obtain ⟨_,_,n,_,h1⟩:=(show ObjOk X.prog X.w H s.heap a (.lst xs) from I.hok a _ ea)
  exact PySem.W.kia_one PySem.W.kitx_list I.kIn ⟨_,h1,rfl⟩ e (fun z=>nomatch z) h
 | @frz a ob xs ea=>
  cases (show u = Value.ref a from rx)
  obtain ⟨_,_,_,n,_,h1⟩:=(show ObjOk X.prog X.w H s.heap a (.frz ob (.lst xs)) from I.hok a _ ea)
  exact PySem.W.kia_one PySem.W.kitx_list I.kIn ⟨_,h1,rfl⟩ e (fun z=>nomatch z) h
 | @tup a xs ea=>
  cases (show u = Value.ref a from rx)
  obtain ⟨_,_,_,p⟩:=(show ObjOk X.prog X.w H s.heap a (.tup xs) from I.hok a _ ea)
  obtain ⟨o,h1,h2,_⟩:=p
  exact PySem.W.kia_one PySem.W.kitx_tuple I.kIn ⟨o,h1,h2⟩ e (fun z=>nomatch z) h
 | @dK a kvs ea=>
  cases (show u = Value.ref a from rx)
  obtain ⟨_,_,vs,_,p⟩:=(show ObjOk X.prog X.w H s.heap a (.dK kvs) from I.hok a _ ea)
  obtain ⟨o,es,ep,h1,h2,_⟩:=p
  exact PySem.W.kia_one PySem.W.kitx_dict I.kIn ⟨o,h1,h2.1⟩ e (fun z=>nomatch z) h
 | @dT a kvs ea=>
  cases (show u = Value.ref a from rx)
  obtain ⟨_,_,xs,_,o,es,ep,h1,h2,_⟩:=(show ObjOk X.prog X.w H s.heap a (.dT kvs) from I.hok a _ ea)
  exact PySem.W.kia_one PySem.W.kitx_dict I.kIn ⟨o,h1,h2.1⟩ e (fun z=>nomatch z) h
 | @ins a C dx fs ea cl ha hn htk hm=>
  cases (show u = Value.ref a from rx)
  obtain ⟨mA,O,_⟩:=ins_get I.hok ea
  obtain ⟨od,J,_⟩:=O.look
  exact PySem.W.kia_one (PySem.W.kitx_own (cl.get _) cl.hd ha hn htk hm) I.kIn J e (fun z=>nomatch z) h
end
structure Room (k:Nat) (A:Around):Prop where
 hd:A.handled = none
 dp:A.depth + 3 * k + 5 < recursionLimit
 un:A.units + 16 * k + 200 < cLine
 gd:A.guards = some []
theorem Room.mono {j k:Nat} {A:Around} (r:Room k A) (h:j <= k):Room j A:=⟨r.hd,by have:=r.dp; omega,by have:=r.un; omega,r.gd⟩
theorem Room.deeper {k:Nat} {A:Around} (r:Room (k + 1) A) (env:Env):Room k (A.deeper env):=
 ⟨r.hd,by have:=r.dp; show A.depth + 1 + 3 * k + 5 < _; omega,by have:=r.un; show A.units + 3 + 16 * k + 200 < _; omega,r.gd⟩
theorem Room.in1 {k:Nat} {A:Around} (r:Room (k + 1) A):Room k A.in1:=
 ⟨r.hd,by have:=r.dp; show A.depth + 3 * k + 5 < _; omega,by have:=r.un; show A.units + 1 + 16 * k + 200 < _; omega,r.gd⟩
theorem Room.depth {k:Nat} {A:Around} (r:Room k A):A.depth < recursionLimit:=by have:=r.dp; omega
theorem Room.units {k:Nat} {A:Around} (r:Room k A):A.units + 64 < cLine:=by have:=r.un; omega
theorem Room.units0 {k:Nat} {A:Around} (r:Room k A):A.units < cLine:=by have:=r.un; omega
noncomputable def tNil:TA:=fun _ H Q=>Q [] H
noncomputable def tCons (ta:TE) (tr:TA):TA:=fun σ H Q=>ta σ H fun x H1=>tr σ H1 fun xs H2=>Q (x :: xs) H2
section
variable {X:Cx} {e:Expr} {es:List Expr} {te:TE} {t:TA} {pos:Pos}
theorem pa_nil:PA X [] tNil:=fun _ _ _ _ H Q I h=>Calls.spliced_nil ⟨[],H,I,.nil,h⟩
theorem pa_cons (ha:PE X e te) (hr:PA X es t) (hs:starEach (e :: es) X.env = (false,eval e X.env) :: starEach es X.env:=by rfl):PA X (e :: es) (tCons te t):=by
 intro pos pins s σ H Q I h
 rw [hs]
 show wpAny _ _ (spliced ((false,eval e X.env) :: backTo pos (starEach es X.env))) _ _ s
 refine Calls.spliced_cons (thn (ha pins s σ H _ I h) fun u s1 ⟨x,H1,I1,r1,q1⟩=>?_)
 exact thn (hr pos pins s1 σ H1 _ I1 q1) fun us s2 ⟨xs,H2,I2,r2,q2⟩=>⟨x :: xs,H2,I2,.cons r1 r2,q2⟩
noncomputable def tTup (t:TA):TE:=fun σ H Q=>t σ H fun xs H1=>xs.length <= sizeLine /\ ∀ p,H1 p = none -> Q (.ref p) (upd H1 p (.tup xs))
noncomputable def tLst (t:TA):TE:=fun σ H Q=>t σ H fun xs H1=>xs.length <= sizeLine /\ ∀ p,H1 p = none -> Q (.ref p) (upd H1 p (.lst xs))
theorem pe_tup {x1} (h:PA X es t):PE X (.Tuple es x1 pos) (tTup t):=by
 intro pins s σ H Q I hq
 refine wpAny_Tuple_spliced (thn (h pos pins s σ H _ I hq) fun us s1 ⟨xs,H1,I1,r,z,q⟩=>⟨by rw [<- r.length]; exact z,?_⟩)
 have hf:H1 s1.heap.objs.size = none:=I1.hok.fresh (Nat.le_refl _)
 refine ⟨.ref s1.heap.objs.size,upd H1 s1.heap.objs.size (.tup xs),I1.laid (t':=s1.toks) (fun b u e=>Heap.get?_push_of_some _ e) (Nat.le_refl _) ?_,rfl,q _ hf⟩
 exact ⟨z,us,r,⟨_,Heap.get?_push_size _ rfl,rfl,_,rfl⟩⟩
theorem pe_lst (h:PA X es t):PE X (.List es pos) (tLst t):=by
 intro pins s σ H Q I hq
 refine wpAny_List_spliced (thn (h pos pins s σ H _ I hq) fun us s1 ⟨xs,H1,I1,r,z,q⟩=>⟨by rw [<- r.length]; exact z,?_⟩)
 have hf:H1 s1.heap.objs.size = none:=I1.hok.fresh (Nat.le_refl _)
 refine ⟨.ref s1.heap.objs.size,upd H1 s1.heap.objs.size (.lst xs),I1.laid (t':=s1.toks) (fun b u e=>Heap.get?_push_of_some _ e) (Nat.le_refl _) ?_,rfl,q _ hf⟩
 exact ⟨z,us,0,r,Heap.get?_push_size _ rfl⟩
end
noncomputable abbrev Sp:=List V -> Hp -> VK -> XK -> Prop
noncomputable abbrev CXT:=List Env -> Hp -> Shared -> XK -> Value -> Shared -> Prop
structure Env0 (P:Program) (w:World) (K:Frag) (mg:Str -> Option Value) (base:Heap) (A:Around) (outer:List Env) (s:Shared) (H:Hp):Prop where
 frames:A.frames = some outer
 mod:Mod K mg base
 bs:∀ b o,base.get? b = some o -> s.heap.get? b = some o /\ H b = none
 bsz:base.objs.size <= s.heap.objs.size
 funs:s.heap.FunFrames base outer
 frf:∀ b ∈ frs outer,H b = none
 hok:HOk P w H s.heap
 bare:AllBare s.gens
 tk:0 < s.toks
def CE (outer:List Env) (P:Program) (w:World) (H:Hp) (s:Shared) (Q:VK) (u:Value) (s':Shared):Prop:=
 ∃ v H',0 < s'.toks /\ s'.os = s.os /\ AllBare s'.gens /\ Un (frs outer) [] H H' s.heap s'.heap /\ HOk P w H' s'.heap /\ RelV v u /\ Q v H'
def CR (CX:CXT) (outer:List Env) (P:Program) (w:World) (H:Hp) (s:Shared) (Q:VK) (E:XK) (r:Result) (s':Shared):Prop:=
 match r with
 | .ok (.ret u)=>CE outer P w H s Q u s'
 | .ok _=>False
 | .error e=>CX outer H s E e s'
structure FnOk (P:Program) (w:World) (K:Frag) (mg:Str -> Option Value) (base:Heap) (CX:CXT) (k:Nat) (f:Addr) (fd:FuncData) (ps:List Str) (sp:Sp):Prop where
 len:∀ vs H Q E,sp vs H Q E -> vs.length = ps.length
 run:∀ (A:Around) (outer:List Env) (s:Shared) (H:Hp) (args:Args) (us:List Value) (vs:List V) (Q:VK) (E:XK),Room k A -> Env0 P w K mg base A outer s H -> BindsTo s fd args (ps.zip us) -> Vals vs us -> sp vs H Q E ->
  codeAny (model P w) A (.call (.ref f) args) (CR CX outer P w H s Q E) s
theorem FnOk.mono {P:Program} {w:World} {K:Frag} {mg:Str -> Option Value} {base:Heap} {CX:CXT} {j k:Nat} {f:Addr} {fd:FuncData} {ps:List Str} {sp:Sp} (F:FnOk P w K mg base CX j f fd ps sp) (h:j <= k):
  FnOk P w K mg base CX k f fd ps sp:=⟨F.len,fun A outer s H args us vs Q E hr=>F.run A outer s H args us vs Q E (hr.mono h)⟩
theorem FnOk.imp {P:Program} {w:World} {K:Frag} {mg:Str -> Option Value} {base:Heap} {CX:CXT} {k:Nat} {f:Addr} {fd:FuncData} {ps:List Str} {sp sp':Sp} (F:FnOk P w K mg base CX k f fd ps sp)
  (h:∀ vs H Q E,sp' vs H Q E -> sp vs H Q E):FnOk P w K mg base CX k f fd ps sp':=
 ⟨fun vs H Q E q=>F.len vs H Q E (h _ _ _ _ q),fun A outer s H args us vs Q E hr he hb hv hs=>F.run A outer s H args us vs Q E hr he hb hv (h _ _ _ _ hs)⟩
theorem Env0.in1 {P:Program} {w:World} {K:Frag} {mg:Str -> Option Value} {base:Heap} {A:Around} {outer:List Env} {s:Shared} {H:Hp} (e:Env0 P w K mg base A outer s H):
  Env0 P w K mg base A.in1 outer s H:=⟨e.frames,e.mod,e.bs,e.bsz,e.funs,e.frf,e.hok,e.bare,e.tk⟩
section
variable {X:Cx} {pins:List (Addr × Obj)} {σ:St} {H:Hp} {s s':Shared}
theorem Inv.env0 (I:Inv X pins σ H s):Env0 X.prog X.w X.K X.mg X.base X.A X.stack s H:=
 ⟨I.ok.frames,I.ok.mod,I.bs,Nat.le_trans I.ok.bsz I.sz,I.stack,I.stkFree,I.hok,I.bare,I.tk⟩
theorem Inv.after {Q:VK} {u:Value} (I:Inv X pins σ H s) (h:CE X.stack X.prog X.w H s Q u s'):EP X pins σ Q u s':=by
 obtain ⟨v,H',ht,os,bare,un,hok,r,q⟩:=h
 obtain ⟨hh,g,d,t,os'⟩:=s'
 obtain rfl:os' = s.os:=os
 exact ⟨v,H',I.call (h':=hh) (g':=g) (d':=d) (t':=t) (ch:=[]) un hok bare (fun b z=>absurd z (by simp)) ht,r,q⟩
end
noncomputable def tCall (sp:Sp) (dvs:List V) (E:XK) (t:TA):TE:=fun σ H Q=>t σ H fun vs H1=>sp (vs ++ dvs) H1 Q E
def Binds (K:Frag) (fd:FuncData) (ps:List Str) (ds:List Value):Prop:=
 ∀ (s:Shared) (us:List Value),K.In s.heap -> (us ++ ds).length = ps.length -> BindsTo s fd ⟨us,[]⟩ (ps.zip (us ++ ds))
theorem Binds.all {K:Frag} {fd:FuncData} {ps:List Str} (h:∀ us:List Value,us.length = ps.length -> bindArgs fd ⟨us,[]⟩ = pure (ps.zip us)):Binds K fd ps []:=fun s us _ hl=>by
 rw [List.append_nil] at hl ⊢
 exact .of_eq (h us hl)
def Passes (CX:CXT) (X:Cx) (E:XK):Prop:=∀ (pins:List (Addr × Obj)) (σ:St) (H:Hp) (s:Shared) (e:Value) (s':Shared),Inv X pins σ H s -> CX X.stack H s E e s' -> X.xe e s'
section
variable {X:Cx} {CX:CXT} {k:Nat} {f C:Addr} {fd:FuncData} {ps:List Str} {sp:Sp} {dvs:List V} {ds:List Value} {E:XK} {x m:Str} {p pos apos:Pos} {e o:Expr} {es:List Expr} {ta:TE} {t:TA}
theorem run_fn {pins:List (Addr × Obj)} {σ:St} {H:Hp} {s:Shared} {Q:VK} {us:List Value} {vs:List V} (F:FnOk X.prog X.w X.K X.mg X.base CX k f fd ps sp) (hr:Room k X.A) (hb:Binds X.K fd ps ds) (hd:Vals dvs ds) (hx:Passes CX X E)
  (I:Inv X pins σ H s) (r:Vals vs us) (h:sp (vs ++ dvs) H Q E):wpAny (model X.prog X.w) X.A (call (.ref f) us) (EP X pins σ Q) X.xe s:=by
 have r2:Vals (vs ++ dvs) (us ++ ds):=r.append hd
 have hl:(us ++ ds).length = ps.length:=by rw [<- r2.length]; exact F.len _ _ _ _ h
 refine wpAny_call (codeAny_mono (F.run X.A X.stack s H ⟨us,[]⟩ (us ++ ds) (vs ++ dvs) Q E hr I.env0 (hb s us I.kIn hl) r2 h) fun r s' hq=>?_)
 cases r with
 | error e=>exact hx pins σ H s e s' I hq
 | ok fl=>
  cases fl with
  | ret u=>exact I.after hq
  | next=>exact False.elim hq
  | brk=>exact False.elim hq
  | cont=>exact False.elim hq
theorem pe_call (F:FnOk X.prog X.w X.K X.mg X.base CX k f fd ps sp) (hr:Room k X.A) (hg:Gl X x) (hm:X.mg x = some (.ref f)) (hk:keepIn X.K (.ref f) = true) (hb:Binds X.K fd ps ds) (hd:Vals dvs ds) (hx:Passes CX X E)
  (ha:PA X (e :: es) t) (hdb:(x == ("__debug__" : Str)) = false:=by decide) (he:starEach (e :: es) X.env = (false,eval e X.env) :: starEach es X.env:=by rfl) (hpl:(backTo pos (starEach es X.env)).any (·.1) = false:=by rfl):
  PE X (.Call (.Name x p) (e :: es) [] pos) (tCall sp dvs E t):=by
 intro pins s σ H Q I h
 refine wpAny_Call_Name_kw (ld_glob I hg hm ?_ hdb)
 refine PySem.W.callWith_K (h₀:=X.base) I.ok.mod.kin hk (thn (ha pos pins s σ H _ I h) fun us s1 ⟨vs,H1,I1,r,q⟩=>⟨I1.kIn,?_⟩) he hpl
 exact run_fn F hr hb hd hx I1 r q
structure Mk (K:Frag) (C f:Addr):Prop where
 makes:PySem.W.makesIn K C = true
 init:findIn K (.ref C) "__init__" = some (some (.ref f))
 fn:PySem.W.isFn K (.ref f) = true
 kp:keepIn K (.ref C) = true
end
section
variable {X:Cx} {CX:CXT} {k:Nat} {f C:Addr} {fd:FuncData} {ps ks:List Str} {sp:Sp} {E:XK} {x m:Str} {p pos apos kpos:Pos} {e o:Expr} {es:List Expr} {kws:List Keyword} {te ta:TE} {t tk:TA} {nm:Option Str}
structure KBinds (K:Frag) (fd:FuncData) (ps ks:List Str) (g:List Value -> List Value -> List Value) (gV:List V -> List V -> List V):Prop where
 to:∀ (s:Shared) (us ws:List Value),K.In s.heap -> (g us ws).length = ps.length -> BindsTo s fd ⟨us,ks.zip ws⟩ (ps.zip (g us ws))
 rel:∀ {vs:List V} {us:List Value} {zs:List V} {ws:List Value},Vals vs us -> Vals zs ws -> Vals (gV vs zs) (g us ws)
variable {g:List Value -> List Value -> List Value} {gV:List V -> List V -> List V}
end
structure FnScope (N P:List Str) (sc:Scope):Prop where
 kind:sc.kind = .function
 co:sc.isCoroutine = false
 gen:sc.isGenerator = false
 nd:N.Nodup
 pre:N.take P.length = P
 par:∀ x ∈ P,sc.names.lookup x = some .local \/ sc.names.lookup x = some .cell
 nofree:∀ y ∈ sc.names,y.2 ≠ .free
theorem bindL_out {kindOf:Str -> Option NameKind} {x:Str}:∀ {binds:List (Str × Value)} {m:Str -> Option Value},(∀ v,(x,v) ∉ binds) -> bindL kindOf binds m x = m x
 | [],_,_=>rfl
 | (n,v) :: r,m,h=>by
  unfold bindL
  rw [bindL_out fun w hw=>h w (List.mem_cons_of_mem _ hw)]
  split
  ·have:x ≠ n:=by rintro rfl; exact h v List.mem_cons_self
   simp [this]
  ·rfl
theorem bindC_out {kindOf:Str -> Option NameKind} {x:Str}:∀ {binds:List (Str × Value)} {m:Str -> Option Value},(∀ v,(x,v) ∉ binds) -> bindC kindOf binds m x = m x
 | [],_,_=>rfl
 | (n,v) :: r,m,h=>by
  unfold bindC
  rw [bindC_out fun w hw=>h w (List.mem_cons_of_mem _ hw)]
  split
  ·rfl
  ·have:x ≠ n:=by rintro rfl; exact h v List.mem_cons_self
   simp [this]
theorem bindL_get {kindOf:Str -> Option NameKind} {x:Str} {v:Value}:∀ {P:List Str} {vs:List Value} {i:Nat} {m:Str -> Option Value},P.Nodup -> P[i]? = some x -> vs[i]? = some v -> kindOf x = some .local ->
  bindL kindOf (P.zip vs) m x = some v
 | [],_,_,_,_,h,_,_=>by simp at h
 | _ :: _,[],_,_,_,_,h,_=>by simp at h
 | p :: P,w :: vs,0,m,nd,h1,h2,hk=>by
  simp at h1 h2; subst h1; subst h2
  show bindL kindOf ((p,w) :: P.zip vs) m p = _
  unfold bindL
  rw [bindL_out fun v hv=>(List.nodup_cons.mp nd).1 (List.of_mem_zip hv).1,if_pos hk]
  simp
 | p :: P,w :: vs,i + 1,m,nd,h1,h2,hk=>by
  show bindL kindOf ((p,w) :: P.zip vs) m x = _
  unfold bindL
  exact bindL_get (i:=i) (List.nodup_cons.mp nd).2 (by simpa using h1) (by simpa using h2) hk
theorem bindC_get {kindOf:Str -> Option NameKind} {x:Str} {v:Value}:∀ {P:List Str} {vs:List Value} {i:Nat} {m:Str -> Option Value},P.Nodup -> P[i]? = some x -> vs[i]? = some v -> kindOf x ≠ some .local ->
  bindC kindOf (P.zip vs) m x = some v
 | [],_,_,_,_,h,_,_=>by simp at h
 | _ :: _,[],_,_,_,_,h,_=>by simp at h
 | p :: P,w :: vs,0,m,nd,h1,h2,hk=>by
  simp at h1 h2; subst h1; subst h2
  show bindC kindOf ((p,w) :: P.zip vs) m p = _
  unfold bindC
  rw [bindC_out fun v hv=>(List.nodup_cons.mp nd).1 (List.of_mem_zip hv).1,if_neg hk]
  simp
 | p :: P,w :: vs,i + 1,m,nd,h1,h2,hk=>by
  show bindC kindOf ((p,w) :: P.zip vs) m x = _
  unfold bindC
  exact bindC_get (i:=i) (List.nodup_cons.mp nd).2 (by simpa using h1) (by simpa using h2) hk
noncomputable def start (N:List Str) (vs:List V):St:=vs.map some ++ List.replicate (N.length - vs.length) none
noncomputable def cxOf (CX:CXT) (P:Program) (w:World) (K:Frag) (mg:Str -> Option Value) (base:Heap) (N:List Str) (qual:Str) (scope:Scope) (f:Addr) (cd:Value) (A:Around) (outer:List Env) (s:Shared) (H:Hp) (E:XK):Cx where
 prog:=P
 w:=w
 K:=K
 mg:=mg
 base:=base
 A:=A.deeper (envOfC qual scope s.heap.objs.size f cd)
 N:=N
 s₀:=s
 H₀:=H
 env:=envOfC qual scope s.heap.objs.size f cd
 outer:=outer
 stack:=envOfC qual scope s.heap.objs.size f cd :: outer
 ex:=[]
 calm:=true
 fn:=fun _=>true
 pn:=[]
 xe:=fun e s'=>wpAny (model P w) (A.deeper (envOfC qual scope s.heap.objs.size f cd)) (leaving (envOfC qual scope s.heap.objs.size f cd) e) (fun _ s''=>CX outer H s E e s'') (fun e' s''=>CX outer H s E e' s'') s'
theorem cell_has {sc:Scope} {n:Nat} {x:Str} (h:sc.names.lookup x = some .cell):∃ c,(cellsFrom n sc.names []).lookup x = some c:=by
 have q:=PySem.W.cellsFrom_some sc.names n [] (.inl h)
 exact Option.isSome_iff_exists.mp q
theorem inv_start {CX:CXT} {P:Program} {w:World} {K:Frag} {mg:Str -> Option Value} {base:Heap} {N ps:List Str} {qual:Str} {scope:Scope} {f:Addr} {cd:Value} {A:Around} {outer:List Env} {s s1:Shared} {H:Hp} {E:XK} {us:List Value} {vs:List V}
  (S:FnScope N ps scope) (hd:A.handled = none) (e0:Env0 P w K mg base A outer s H) (hl:vs.length = ps.length) (r:Vals vs us)
  (x:InCallC s s.heap.objs.size (bindL (envOfC qual scope s.heap.objs.size f cd).kindOf (ps.zip us) fun _=>none) (cellsFrom (s.heap.objs.size + 1) scope.names []) (bindC (envOfC qual scope s.heap.objs.size f cd).kindOf (ps.zip us) fun _=>none) s1) (htk:0 < s1.toks):
  Inv (cxOf CX P w K mg base N qual scope f cd A outer s H E) [] (start N vs) H s1:=by
 have hpl:ps.length <= N.length:=by have:=congrArg List.length S.pre; rw [List.length_take] at this; omega
 obtain ⟨h1,tk,rfl,hk⟩:=x.done
 have noA:∀ b:Addr,b ∉ (cxOf CX P w K mg base N qual scope f cd A outer s H E).ex:=fun b z=>absurd (show b ∈ ([]:List Addr) from z) (by simp)
 refine ⟨⟨e0.mod,S.kind,rfl,rfl,Nat.le_refl _,fun y z c h1 h2=>?_,fun y hy=>?_,fun y c _ h=>?_,fun _=>hd,Around.frames_deeper e0.frames,.inr ⟨rfl,rfl⟩,fun b z=>absurd z (noA b),e0.bs,e0.bsz,fun b _ _=>noA b,fun b z=>absurd z (noA b),e0.funs,e0.frf⟩,
  rfl,e0.bare,Un.kept hk,⟨_,x.toInCall.ns,fun i y v h1 h2 h3=>?_⟩,fun y c h=>⟨_,x.cell y c h⟩,e0.hok.fresh (Nat.le_refl _),fun y c h=>?_,fun p hp=>absurd (show p ∈ ([]:List (Addr × Obj)) from hp) (by simp),e0.hok.kept hk,?_,htk⟩
 ·exact name_of_addr x.apart (PySem.mem_of_lookup h1) (PySem.mem_of_lookup h2)
 ·have hy:scope.names.lookup y = some .cell \/ scope.names.lookup y = some .free:=hy
  rcases hy with hy | hy
  ·exact cell_has hy
  ·exact absurd rfl (S.nofree _ (PySem.mem_of_lookup hy))
 ·exact Nat.le_of_lt (x.above y c (PySem.mem_of_lookup h))
 ·have hi:i < vs.length:=by
   unfold start at h2
   by_cases hi:i < vs.length
   ·exact hi
   ·rw [List.getElem?_append_right (by simpa using hi)] at h2
    rw [List.getElem?_replicate] at h2
    split at h2 <;> cases h2
  have ha:vs[i]? = some v:=by
   unfold start at h2
   rw [List.getElem?_append_left (by simpa using hi),List.getElem?_map] at h2
   cases e:vs[i]? with
   | none=>rw [e] at h2; cases h2
   | some a=>rw [e] at h2; cases h2; rfl
  obtain ⟨u,hu,rv⟩:=r.get ha
  have hp:ps[i]? = some y:=by
   rw [<- S.pre,List.getElem?_take_of_lt (by omega)]; exact h1
  have ndP:ps.Nodup:=by rw [<- S.pre]; exact S.nd.sublist (List.take_sublist _ _)
  refine ⟨u,rv,?_⟩
  rcases S.par y (List.mem_of_getElem? hp) with k | k
  ·exact .inl ⟨k,bindL_get ndP hp hu k⟩
  ·obtain ⟨c,e⟩:=cell_has (n:=s.heap.objs.size + 1) k
   refine .inr ⟨.inl k,c,e,?_⟩
   have q:=x.cell y c e
   rw [bindC_get ndP hp hu (by show scope.names.lookup y ≠ _; rw [k]; decide)] at q
   exact q
 ·exact e0.hok.fresh (Nat.le_of_lt (x.above y c (PySem.mem_of_lookup h)))
 ·unfold start
  show _ = N.length
  rw [List.length_append,List.length_map,List.length_replicate]
  omega
theorem fn_of {CX:CXT} {P:Program} {w:World} {K:Frag} {mg:Str -> Option Value} {base:Heap} {k:Nat} {f:Addr} {name qual:Str} {params:Arguments} {body:List Stmt} {scope:Scope} {dV kV doc pm cdv ct oc:Value} {an od:Option Addr}
  {osl:Array (Option Value)} {N ps:List Str} {sp:Sp} (lk:K.lookup f = some ⟨oc,od,.func (fnOf name qual params body scope dV kV doc pm an cdv ct),osl⟩) (hcd:codeIn K cdv qual = true) (S:FnScope N ps scope)
  (len:∀ vs H Q E,sp vs H Q E -> vs.length = ps.length)
  (hbody:∀ (A:Around) (outer:List Env) (s:Shared) (H:Hp) (vs:List V) (Q:VK) (E:XK),Room k (A.deeper (envOfC qual scope s.heap.objs.size f cdv)) -> sp vs H Q E ->
   ∃ t,PSs (cxOf CX P w K mg base N qual scope f cdv A outer s H E) body t /\ t { nx:=fun _ H'=>Q .non H',rt:=Q } (start N vs) H):
  FnOk P w K mg base CX (k + 1) f (fnOf name qual params body scope dV kV doc pm an cdv ct) ps sp:=by
 refine ⟨len,fun A outer s H args us vs Q E hr e0 hb r hsp=>?_⟩
 have hl:=len _ _ _ _ hsp
 have KX:K.In s.heap:=e0.mod.kin.keeps fun b o e=>(e0.bs b o e).1
 have lim:s.heap.NoLimit:=e0.mod.nolimit.keeps fun b o e=>(e0.bs b o e).1
 have hkind:∀ y ∈ ps.zip us,scope.names.lookup y.1 = some .local \/ (scope.names.lookup y.1 = some .cell /\ ((cellsFrom (s.heap.objs.size + 1) scope.names []).lookup y.1).isSome = true):=fun ⟨n,v⟩ hy=>by
  rcases S.par n (List.of_mem_zip hy).1 with q | q
  ·exact .inl q
  ·exact .inr ⟨q,PySem.W.cellsFrom_some _ _ _ (.inl q)⟩
 refine codeAny_call_function hr.depth (KX _ _ lk) rfl S.co S.gen rfl (PySem.W.codeRec_of KX hcd) (hb _ _ _ _ ?_)
 refine tokQ e0.tk (wpAny_newFunctionEnv_cells S.kind hkind fun env he s1 x htk=>?_)
 subst he
 refine ⟨lim.keeps x.toInCall.keep,codeAny_func ?_⟩
 obtain ⟨t,ht,hq⟩:=hbody A outer s H vs Q E (hr.deeper _) hsp
 have I:Inv (cxOf CX P w K mg base N qual scope f cdv A outer s H E) [] (start N vs) H s1:=inv_start S hr.hd e0 hl r x htk
 refine wpAny_mono (ht [] s1 (start N vs) H _ I hq) (fun fl s' hs=>?_) fun e s' hs=>hs
 have fin:∀ {σ':St} {H':Hp} {v:V} {u:Value},Inv (cxOf CX P w K mg base N qual scope f cdv A outer s H E) [] σ' H' s' -> RelV v u -> Q v H' -> CE outer P w H s Q u s':=
  fun {σ' H' v u} J rv q=>⟨v,H',J.tk,J.os,J.bare,J.base,J.hok,rv,q⟩
 cases fl with
 | ret u=>
  obtain ⟨v,σ',H',J,rv,q⟩:=hs
  exact fin J rv q
 | next=>
  obtain ⟨σ',H',J,q⟩:=hs
  exact fin (v:=V.non) (u:=Value.none) J rfl q
 | brk=>
  obtain ⟨_,_,_,q⟩:=hs
  exact False.elim q
 | cont=>
  obtain ⟨_,_,_,q⟩:=hs
  exact False.elim q
section
variable {X:Cx} {x:Str} {p pos:Pos} {e:Expr} {es:List Expr} {t:TA} {id T:String} {r:List V -> Hp -> VK -> Prop}
noncomputable def tCB (r:List V -> Hp -> VK -> Prop) (t:TA):TE:=fun σ H Q=>t σ H fun vs H1=>r vs H1 Q
theorem pe_callB (hc:CallR X (.builtin id) r) (hg:Gl X x) (hm:X.mg x = none) (hv:bootBuiltins x = some (.builtin id)) (ha:PA X (e :: es) t) (hn:x ≠ "__name__" := by decide) (hdb:(x == ("__debug__" : Str)) = false:=by decide)
  (he:starEach (e :: es) X.env = (false,eval e X.env) :: starEach es X.env:=by rfl) (hpl:(backTo pos (starEach es X.env)).any (·.1) = false:=by rfl):PE X (.Call (.Name x p) (e :: es) [] pos) (tCB r t):=by
 intro pins s σ H Q I h
 refine wpAny_Call_Name_kw (ld_blt I hg hm hv ?_ hn hdb)
 exact PyProof.Rows.callWith_builtin1 (thn (ha pos pins s σ H _ I h) fun us s1 ⟨vs,H1,I1,r1,q1⟩=>hc pins s1 σ H1 vs us Q I1 r1 q1) he hpl
theorem pe_callTy (hc:CallR X (.type T) r) (hg:Gl X x) (hm:X.mg x = none) (hv:bootBuiltins x = some (.type T)) (ha:PA X (e :: es) t) (hn:x ≠ "__name__" := by decide) (hdb:(x == ("__debug__" : Str)) = false:=by decide)
  (he:starEach (e :: es) X.env = (false,eval e X.env) :: starEach es X.env:=by rfl) (hpl:(backTo pos (starEach es X.env)).any (·.1) = false:=by rfl):PE X (.Call (.Name x p) (e :: es) [] pos) (tCB r t):=by
 intro pins s σ H Q I h
 refine wpAny_Call_Name_kw (ld_blt I hg hm hv ?_ hn hdb)
 exact PyProof.Rows.callWith_type1 (thn (ha pos pins s σ H _ I h) fun us s1 ⟨vs,H1,I1,r1,q1⟩=>hc pins s1 σ H1 vs us Q I1 r1 q1) he hpl
end
end L2
namespace HT
open PySem PyProof.Rows
section
open PySem.SeqAt
open PySem.AutoSeq1 (wpAny_loadPart')
open PySem.MeetsSeq PySem.MeetsSeq2 PySem.MeetsSeq3
end
section
variable {prog:Program} {w:World} {A:Around} {E:Value -> Shared -> Prop} {s:Shared}
noncomputable def sIx (n d:Nat):Option Int -> Nat
 | none=>d
 | some v=>if v < 0 then (v + (n:Int)).toNat else min v.toNat n
theorem sIx_nat (n d k:Nat):sIx n d (some (k:Int)) = min k n:=by
 show (if (k:Int) < 0 then ((k:Int) + (n:Int)).toNat else min (k:Int).toNat n) = min k n
 rw [if_neg (by omega),Int.toNat_natCast]
end
end HT
namespace L2
open PySem PySem.Spec PyProof.Rows
noncomputable abbrev TO:=St -> Hp -> (Option Int -> Hp -> Prop) -> Prop
def PO (X:Cx) (e:Option Expr) (t:TO):Prop:=
 ∀ (pins:List (Addr × Obj)) (s:Shared) (σ:St) (H:Hp) (Q:Option Int -> Hp -> Prop),Inv X pins σ H s -> t σ H Q ->
  wpAny (model X.prog X.w) X.A (evalPart e X.env) (fun u s'=>∃ o H',Inv X pins σ H' s' /\ IsPart u o /\ Q o H') X.xe s
noncomputable def tNoPart:TO:=fun _ H Q=>Q none H
noncomputable def tPart (t:TE):TO:=fun σ H Q=>t σ H fun x H1=>∃ i,x = .int i /\ Q (some i) H1
theorem intsAre_of {ns:List Int}:∀ {us:List Value},Vals (ns.map V.int) us -> IntsAre us ns:=by
 induction ns with
 | nil=>intro us r; rw [List.map_nil] at r; cases r; exact .nil
 | cons n ns ih=>
  intro us r
  rw [List.map_cons] at r
  cases r with
  | cons r1 r2=>
   obtain ⟨t,e⟩:=r1
   subst e
   exact .cons n t (ih r2)
section
variable {X:Cx} {e:Expr} {te:TE} {lo hi:Option Expr} {tl th:TO} {pos p2:Pos}
theorem po_none:PO X none tNoPart:=by
 intro pins s σ H Q I h
 rw [evalPart_none]
 exact wpAny_pure ⟨none,H,I,.none,h⟩
theorem po_some (h:PE X e te):PO X (some e) (tPart te):=by
 intro pins s σ H Q I hw
 rw [evalPart_some]
 refine thn (h pins s σ H _ I hw) fun u s1 ⟨x,H1,I1,r1,q1⟩=>?_
 obtain ⟨i,rfl,q⟩:=q1
 obtain ⟨t,rfl⟩:=r1
 exact ⟨some i,H1,I1,.int i t,q⟩
def SlR (X:Cx) (r:V -> Option Int -> Option Int -> Hp -> VK -> Prop):Prop:=
 ∀ (pins:List (Addr × Obj)) (s:Shared) (σ:St) (H:Hp) (x:V) (v vl vu:Value) (lo hi:Option Int) (sl:Addr) (Q:VK),Inv X pins σ H s -> RelV x v -> s.heap.IsSliceOf sl vl vu .none -> IsPart vl lo -> IsPart vu hi -> r x lo hi H Q ->
  ∃ T id,typeLookup (.type T) "__getitem__" = pure (some (.builtin id)) /\ s.TypeIs v T /\ wpAny (model X.prog X.w) X.A (getItem v (.ref sl)) (EP X pins σ Q) X.xe s
theorem SlR.or {r r':V -> Option Int -> Option Int -> Hp -> VK -> Prop} (h:SlR X r) (h':SlR X r'):SlR X (fun x lo hi H Q=>r x lo hi H Q \/ r' x lo hi H Q):=by
 intro pins s σ H x v vl vu lo hi sl Q I rx hs pl pu q
 rcases q with q | q
 ·exact h pins s σ H x v vl vu lo hi sl Q I rx hs pl pu q
 ·exact h' pins s σ H x v vl vu lo hi sl Q I rx hs pl pu q
noncomputable def tSl (r:V -> Option Int -> Option Int -> Hp -> VK -> Prop) (te:TE) (tl th:TO):TE:=fun σ H Q=>te σ H fun x H1=>tl σ H1 fun l H2=>th σ H2 fun u H3=>r x l u H3 Q
theorem pe_slice {r:V -> Option Int -> Option Int -> Hp -> VK -> Prop} (hr:SlR X r) (he:PE X e te) (hl:PO X lo tl) (hu:PO X hi th):PE X (.Subscript e (.Slice lo hi none p2) pos) (tSl r te tl th):=by
 intro pins s σ H Q I h
 refine Subscript_ (thn (he pins s σ H _ I h) fun v s1 ⟨x,H1,I1,r1,q1⟩=>?_)
 refine wpAny_Slice (thn (hl pins s1 σ H1 _ I1 q1) fun vl s2 ⟨l,H2,I2,pl,q2⟩=>thn (hu pins s2 σ H2 _ I2 q2) fun vu s3 ⟨u,H3,I3,pu,q3⟩=>?_)
 rw [evalPart_none]
 refine wpAny_pure ?_
 have I4:Inv X pins σ H3 { s3 with heap:=s3.heap.push { cls:=.type "slice",data:=.fields #[vl,vu,.none] } }:=I3.kept (t':=s3.toks) fun b ob q=>Heap.get?_push_of_some _ q
 obtain ⟨T,id,hT,ht,hg⟩:=hr pins { s3 with heap:=s3.heap.push { cls:=.type "slice",data:=.fields #[vl,vu,.none] } } σ H3 x v vl vu l u s3.heap.objs.size Q I4 r1 (Heap.IsSliceOf.new ..) pl pu q3
 show wpAny (model X.prog X.w) X.A (subscriptTail e (.Slice lo hi none p2) v (.ref s3.heap.objs.size)) (EP X pins σ Q) X.xe { s3 with heap:=s3.heap.push { cls:=.type "slice",data:=.fields #[vl,vu,.none] } }
 exact tail_any (ops:=[.ref s3.heap.objs.size,v]) ht hT hg (by with_unfolding_all rfl)
noncomputable def cutV (xs:List V) (lo hi:Option Int):List V:=(xs.drop (HT.sIx xs.length 0 lo)).take (HT.sIx xs.length xs.length hi - HT.sIx xs.length 0 lo)
theorem cutV_length (xs:List V) (lo hi:Option Int):(cutV xs lo hi).length <= xs.length:=by
 unfold cutV
 rw [List.length_take,List.length_drop]
 omega
end
noncomputable def ixN (n:Nat) (i:Int):Option Nat:=if 0 <= i then (if i < n then some i.toNat else none) else if -(n:Int) <= i then some (i + n).toNat else none
noncomputable def atI {α:Type} (xs:List α) (i:Int):Option α:=(ixN xs.length i).bind fun j=>xs[j]?
theorem ixN_seq {n:Nat} {i:Int} {j:Nat} (h:ixN n i = some j):seqIndex? i n = some j /\ j < n /\ -(n:Int) <= i /\ i < n:=by
 unfold ixN at h
 by_cases h0:0 <= i
 ·rw [if_pos h0] at h
  by_cases h1:i < n
  ·rw [if_pos h1] at h
   have e:i.toNat = j:=Option.some.inj h
   exact ⟨by rw [seqIndex_of h0 h1,e],by omega,by omega,h1⟩
  ·rw [if_neg h1] at h; cases h
 ·rw [if_neg h0] at h
  by_cases h1:-(n:Int) <= i
  ·rw [if_pos h1] at h
   have e:(i + n).toNat = j:=Option.some.inj h
   exact ⟨by rw [seqIndex_neg (by omega) h1,e],by omega,h1,by omega⟩
  ·rw [if_neg h1] at h; cases h
theorem atI_get {α:Type} {xs:List α} {i:Int} {v:α} (h:atI xs i = some v):∃ j,seqIndex? i xs.length = some j /\ xs[j]? = some v /\ j < xs.length /\ -(xs.length:Int) <= i /\ i < xs.length:=by
 unfold atI at h
 cases e:ixN xs.length i with
 | none=>rw [e] at h; cases h
 | some j=>
  rw [e] at h
  obtain ⟨h1,h2,h3,h4⟩:=ixN_seq e
  exact ⟨j,h1,h,h2,h3,h4⟩
theorem atI_nat {α:Type} {xs:List α} {j:Nat} {v:α} (h:xs[j]? = some v):atI xs (j:Int) = some v:=by
 have hj:j < xs.length:=(List.getElem?_eq_some_iff.mp h).1
 have e:ixN xs.length (j:Int) = some j:=by
  unfold ixN
  rw [if_pos (by omega),if_pos (by omega)]; simp
 unfold atI; rw [e]; exact h
def PlainIx (b:Expr):Prop:=∀ o i,subscripted b false o i = operate [o,i] (getItem o i)
def IxR (X:Cx) (r:R2):Prop:=
 ∀ (value slice:Expr) (pins:List (Addr × Obj)) (s:Shared) (σ:St) (H:Hp) (x y:V) (v u:Value) (Q:VK),Inv X pins σ H s -> RelV x v -> RelV y u -> r x y H Q ->
  subscripted slice false v u = operate [v,u] (getItem v u) -> wpAny (model X.prog X.w) X.A (subscriptTail value slice v u) (EP X pins σ Q) X.xe s
def MtR (X:Cx) (id:String) (r:V -> List V -> Hp -> VK -> Prop):Prop:=
 ∀ (pins:List (Addr × Obj)) (s:Shared) (σ:St) (H:Hp) (x:V) (xs:List V) (v:Value) (us:List Value) (Q:VK),Inv X pins σ H s -> RelV x v -> Vals xs us -> r x xs H Q ->
  wpAny (model X.prog X.w) X.A (call (.builtin id) (v :: us)) (EP X pins σ Q) X.xe s
section
variable {X:Cx} {a b:Expr} {ta tb:TE} {pos:Pos}
theorem IxR.or {r r':R2} (h:IxR X r) (h':IxR X r'):IxR X (fun x y H Q=>r x y H Q \/ r' x y H Q):=by
 intro value slice pins s σ H x y v u Q I rx ry q hs
 rcases q with q | q
 ·exact h value slice pins s σ H x y v u Q I rx ry q hs
 ·exact h' value slice pins s σ H x y v u Q I rx ry q hs
theorem MtR.or {id:String} {r r':V -> List V -> Hp -> VK -> Prop} (h:MtR X id r) (h':MtR X id r'):MtR X id (fun x xs H Q=>r x xs H Q \/ r' x xs H Q):=by
 intro pins s σ H x xs v us Q I rx rs q
 rcases q with q | q
 ·exact h pins s σ H x xs v us Q I rx rs q
 ·exact h' pins s σ H x xs v us Q I rx rs q
theorem pe_ix {r:R2} (hr:IxR X r) (ha:PE X a ta) (hb:PE X b tb) (hs:PlainIx b):PE X (.Subscript a b pos) (tOp r ta tb):=by
 intro pins s σ H Q I h
 exact Subscript_ (binT ha hb I h fun v u s2 x y H2 I2 rx ry q=>hr a b pins s2 σ H2 x y v u Q I2 rx ry q (hs _ _))
noncomputable def rIxL (K:Frag):R2:=fun x y H Q=>∃ p xs i v,x = .ref p /\ y = .int i /\ SqL K H p xs /\ atI xs i = some v /\ Q v H
noncomputable def rIxT (K:Frag):R2:=fun x y H Q=>∃ p xs i v,x = .ref p /\ y = .int i /\ SqT K H p xs /\ atI xs i = some v /\ Q v H
noncomputable def rIxS:R2:=fun x y H Q=>∃ z i c,x = .str z /\ y = .int i /\ z.length <= sizeLine /\ atI z.cps.toList i = some c /\ Q (.str ⟨#[c]⟩) H
theorem ix_list:IxR X (rIxL X.K):=by
 intro value slice pins s σ H x y v u Q I rx ry h hs
 obtain ⟨p,xs,i,z,rfl,rfl,hq,he,q⟩:=h
 cases rx
 obtain ⟨t,rfl⟩:=ry
 obtain ⟨its,r,pl,hz⟩:=I.list hq
 obtain ⟨j,h1,h2,h3,h4,h5⟩:=atI_get he
 obtain ⟨w,ew,rw'⟩:=r.get h2
 have hl:=r.length
 have hn:=line63
 have fin:EP X pins σ Q w s:=⟨z,H,I,rw',q⟩
 by_cases h0:0 <= i
 ·have hj:i.toNat = j:=by
   rw [seqIndex_of h0 h5] at h1
   exact Option.some.inj h1
  exact item_listR pl.isList h0 (by omega) (by rw [hj]; simpa using ew) fin hs
 ·have hj:(i + (its.toArray.size:Int)).toNat = j:=by
   rw [seqIndex_neg (by omega) h4] at h1
   rw [List.size_toArray,<- hl]
   exact Option.some.inj h1
  exact subscriptTail_builtinR (x:=w) pl.isList.typeIs slot_list_getitem.lookup
   (wpAny_getItem_list_neg (Q:=fun r s'=>r = w /\ EP X pins σ Q r s') pl.isList (by omega) (by rw [List.size_toArray] <;> omega) (by omega) (by rw [hj]; simpa using ew) ⟨rfl,fin⟩) hs
theorem ix_tup:IxR X (rIxT X.K):=by
 intro value slice pins s σ H x y v u Q I rx ry h hs
 obtain ⟨p,xs,i,z,rfl,rfl,hq,he,q⟩:=h
 cases rx
 obtain ⟨t,rfl⟩:=ry
 obtain ⟨its,r,pl,hz⟩:=I.tuple hq
 obtain ⟨j,h1,h2,h3,h4,h5⟩:=atI_get he
 obtain ⟨w,ew,rw'⟩:=r.get h2
 have hl:=r.length
 have hn:=line63
 have fin:EP X pins σ Q w s:=⟨z,H,I,rw',q⟩
 exact subscriptTail_builtinR (x:=w) pl.typeIs slot_tuple_getitem.lookup
  (getItem_tuple (j:=j) (Q:=fun r s'=>r = w /\ EP X pins σ Q r s') pl (by omega) (by omega) (by rw [List.size_toArray,<- hl]; exact h1) (by simpa using ew) ⟨rfl,fin⟩) hs
theorem ix_str:IxR X rIxS:=by
 intro value slice pins s σ H x y v u Q I rx ry h hs
 obtain ⟨z,i,c,rfl,rfl,hz,he,q⟩:=h
 obtain ⟨t,rfl⟩:=rx
 obtain ⟨t',rfl⟩:=ry
 obtain ⟨j,h1,h2,h3,h4,h5⟩:=atI_get he
 have hl:z.cps.toList.length = z.length:=by simp [Str.length]
 rw [hl] at h1 h4 h5
 have hn:=line63
 exact tail_any (typeIs_str s z t) slot_str_getitem.lookup (getItem_str (c:=c) (by
  have e1:decide (i < -(2 ^ 63:Int)) = false:=decide_eq_false (by omega)
  have e2:decide (i >= 2 ^ 63) = false:=decide_eq_false (by omega)
  rw [e1,e2,Bool.or_false]) (by rw [h1]; simpa using h2) ⟨.str ⟨#[c]⟩,H,I.tok _,⟨_,rfl⟩,q⟩) hs
noncomputable def rIx (K:Frag):R2:=fun x y H Q=>rIxL K x y H Q \/ rIxT K x y H Q \/ rIxS x y H Q
theorem ix_seq:IxR X (rIx X.K):=ix_list.or (ix_tup.or ix_str)
theorem mapSeq_set (its:List Value) (n j:Nat) (u:Value):Obj.mapSeq (·.setIfInBounds j u) { cls:=.type "list",data:=.seq its.toArray n } = { cls:=.type "list",data:=.seq (its.set j u).toArray n }:=by
 simp [Obj.mapSeq]
theorem Inv.lst {pins:List (Addr × Obj)} {σ:St} {H:Hp} {s:Shared} {p:Addr} {xs:List V} (I:Inv X pins σ H s) (h:H p = some (.lst xs)):
  ∃ (its:List Value) (n:Nat),Vals xs its /\ s.heap.get? p = some { cls:=.type "list",data:=.seq its.toArray n } /\ xs.length <= sizeLine:=by
 obtain ⟨z,its,n,r,e⟩:=I.hok p _ h
 exact ⟨its,n,r,e,z⟩
theorem Inv.lstUpd {pins:List (Addr × Obj)} {σ:St} {H:Hp} {s:Shared} {p:Addr} {xs ys:List V} {its its':List Value} {n n':Nat} {f:Obj -> Obj} (I:Inv X pins σ H s) (h:H p = some (.lst xs))
  (ho:s.heap.get? p = some { cls:=.type "list",data:=.seq its.toArray n }) (hf:f { cls:=.type "list",data:=.seq its.toArray n } = { cls:=.type "list",data:=.seq its'.toArray n' }) (r:Vals ys its') (hz:ys.length <= sizeLine) (t:Nat) (ht:0 < t:=by first | assumption | exact Nat.succ_pos _ | (apply Inv.tk; assumption) | omega):
  Inv X pins σ (upd H p (.lst ys)) { s with heap:=s.heap.update p f,toks:=t }:=by
 have e:(s.heap.update p f).get? p = some { cls:=.type "list",data:=.seq its'.toArray n' }:=by
  rw [Heap.get?_update_self f ho (by rw [hf] <;> rfl),hf]
 refine I.write (x:=p) (e:=p) (by rw [h]; trivial) (.inl rfl) (fun b u hb q=>(Heap.get?_update_other _ _ (Ne.symm hb)).trans q) ⟨_,e⟩ ?_
 exact ⟨hz,its',n',r,e⟩
noncomputable def rSetL:V -> V -> V -> Hp -> (Hp -> Prop) -> Prop:=fun o i v H Q=>∃ p xs k j,o = .ref p /\ i = .int k /\ H p = some (.lst xs) /\ ixN xs.length k = some j /\ Q (upd H p (.lst (xs.set j v)))
theorem set_list:PSet X rSetL:=by
 intro pins s σ H o i v ov iv u Q I ro ri rv h
 obtain ⟨p,xs,k,j,rfl,rfl,hp,hj,q⟩:=h
 cases ro
 obtain ⟨t,rfl⟩:=ri
 obtain ⟨its,n,r,ho,hz⟩:=I.lst hp
 obtain ⟨h1,h2,h3,h4⟩:=ixN_seq hj
 have hl:=r.length
 have hn:=line63
 have I':Inv X pins σ (upd H p (.lst (xs.set j v))) { s with heap:=s.heap.update p (Obj.mapSeq (·.setIfInBounds j u)) }:=
  I.lstUpd hp ho (mapSeq_set its n j u) (r.set rv j) (by rw [List.length_set]; exact hz) s.toks
 by_cases h0:0 <= k
 ·have hk:k.toNat = j:=by
   rw [seqIndex_of h0 h4] at h1
   exact Option.some.inj h1
  exact PySem.W.ki_setAt ho h0 (by omega) (by rw [List.size_toArray,<- hl]; exact h4) (by rw [hk]; exact ⟨_,I',q⟩)
 ·have hk:(k + (its.toArray.size:Int)).toNat = j:=by
   rw [seqIndex_neg (by omega) h3] at h1
   rw [List.size_toArray,<- hl]
   exact Option.some.inj h1
  exact PySem.W.ki_setBack ho (by omega) (by rw [List.size_toArray,<- hl]; exact h3) (by omega) (by rw [hk]; exact ⟨_,I',q⟩)
theorem slice_bounds (lo hi:Option Int) (n:Nat):(sliceBounds lo hi none n).1 = ((HT.sIx n 0 lo:Nat):Int) /\ (sliceBounds lo hi none n).2.1 = ((HT.sIx n n hi:Nat):Int) /\ (sliceBounds lo hi none n).2.2 = 1:=by
 refine ⟨?_,?_,rfl⟩
 ·cases lo with
  | none=>simp [sliceBounds,HT.sIx]
  | some i=>
   simp only [sliceBounds,HT.sIx,Option.getD_none,show (1:Int) > 0 by decide,if_true]
   by_cases h:i < 0
   ·simp only [h,if_true] <;> omega
   ·simp only [h,if_false] <;> omega
 ·cases hi with
  | none=>simp [sliceBounds,HT.sIx]
  | some i=>
   simp only [sliceBounds,HT.sIx,Option.getD_none,show (1:Int) > 0 by decide,if_true]
   by_cases h:i < 0
   ·simp only [h,if_true] <;> omega
   ·simp only [h,if_false] <;> omega
theorem slicePick_cut (its:List Value) (lo hi:Option Int):slicePick its.toArray lo hi none = ((its.drop (HT.sIx its.length 0 lo)).take (HT.sIx its.length its.length hi - HT.sIx its.length 0 lo)).toArray:=by
 obtain ⟨h1,h2,h3⟩:=slice_bounds lo hi its.toArray.size
 unfold slicePick
 rw [h1,h2,h3]
 simp only [sliceRange_one,pick_run,List.size_toArray] <;> rfl
noncomputable def rSlL (K:Frag):V -> Option Int -> Option Int -> Hp -> VK -> Prop:=fun x lo hi H Q=>∃ a xs,x = .ref a /\ SqL K H a xs /\ ∀ p,H p = none -> Q (.ref p) (upd H p (.lst (cutV xs lo hi)))
theorem sl_list:SlR X (rSlL X.K):=by
 intro pins s σ H x v vl vu lo hi sl Q I rx hs pl pu h
 obtain ⟨a,xs,rfl,hx,q⟩:=h
 cases rx
 obtain ⟨its,r,ht,hz⟩:=I.list hx
 have hlen:=r.length
 refine ⟨"list",_,slot_list_getitem.lookup,ht.isList.typeIs,?_⟩
 refine wpAny_getItem_list_slice ht.isList hs pl pu .none (by simp) ?_ (by rw [List.size_toArray] <;> omega)
 rw [slicePick_cut,<- hlen]
 refine ⟨.ref s.heap.objs.size,_,I.laid (t':=s.toks) (o:=.lst (cutV xs lo hi)) (fun b ob q=>Heap.get?_push_of_some _ q) (Nat.le_refl _) ?_,rfl,q _ (I.hok.fresh (Nat.le_refl _))⟩
 exact ⟨Nat.le_trans (cutV_length xs lo hi) hz,_,0,(r.drop (HT.sIx xs.length 0 lo)).take (HT.sIx xs.length xs.length hi - HT.sIx xs.length 0 lo),Heap.get?_push_size _ rfl⟩
noncomputable def flatV:V -> Bool
 | .non=>true
 | .bl _=>true
 | .int _=>true
 | .str _=>true
 | _=>false
noncomputable def eqV:V -> V -> Bool
 | .non,.non=>true
 | .bl a,.bl b=>a == b
 | .bl a,.int b=>(if a then 1 else 0) == b
 | .int a,.bl b=>a == (if b then 1 else 0)
 | .int a,.int b=>a == b
 | .str a,.str b=>a == b
 | _,_=>false
theorem eqAt_V {A:Around} {s:Shared} {y x:V} {u v:Value} (ry:RelV y u) (rx:RelV x v) (fy:flatV y = true) (fx:flatV x = true):SeqAt.EqAt A s u v (eqV y x):=by
 cases y with
 | non=>
  cases ry
  cases x with
  | non=>cases rx; exact SeqAt.EqAt.same _
  | bl b=>cases rx; exact SeqAt.EqAt.none_bool b
  | int b=>obtain ⟨t,rfl⟩:=rx; exact SeqAt.EqAt.none_int b t
  | str b=>obtain ⟨t,rfl⟩:=rx; exact SeqAt.EqAt.none_str b t
  | _=>exact absurd (show false = true from fx) Bool.false_ne_true
 | bl a=>
  cases ry
  cases x with
  | non=>cases rx; exact SeqAt.EqAt.bool_none a
  | bl b=>cases rx; exact SeqAt.EqAt.bool_bool a b
  | int b=>obtain ⟨t,rfl⟩:=rx; exact SeqAt.EqAt.bool_int a b t
  | str b=>obtain ⟨t,rfl⟩:=rx; exact SeqAt.EqAt.bool_str a b t
  | _=>exact absurd (show false = true from fx) Bool.false_ne_true
 | int a=>
  obtain ⟨t',rfl⟩:=ry
  cases x with
  | non=>cases rx; exact SeqAt.EqAt.int_none a t'
  | bl b=>cases rx; exact SeqAt.EqAt.int_bool a t' b
  | int b=>obtain ⟨t,rfl⟩:=rx; exact SeqAt.EqAt.int_int a t' b t
  | str b=>obtain ⟨t,rfl⟩:=rx; exact SeqAt.EqAt.int_str a t' b t
  | _=>exact absurd (show false = true from fx) Bool.false_ne_true
 | str a=>
  obtain ⟨t',rfl⟩:=ry
  cases x with
  | non=>cases rx; exact SeqAt.EqAt.str_none a t'
  | bl b=>cases rx; exact SeqAt.EqAt.str_bool a t' b
  | int b=>obtain ⟨t,rfl⟩:=rx; exact SeqAt.EqAt.str_int a t' b t
  | str b=>obtain ⟨t,rfl⟩:=rx; exact SeqAt.EqAt.str_str a t' b t
  | _=>exact absurd (show false = true from fx) Bool.false_ne_true
 | _=>exact absurd (show false = true from fy) Bool.false_ne_true
noncomputable def eqU (x:V) (u:Value):Bool:=match u with
 | .none=>eqV .non x
 | .bool b=>eqV (.bl b) x
 | .int i _=>eqV (.int i) x
 | .str z _=>eqV (.str z) x
 | _=>false
theorem eqU_of {x y:V} {u:Value} (r:RelV y u) (f:flatV y = true):eqU x u = eqV y x:=by
 cases y with
 | non=>cases r; rfl
 | bl b=>cases r; rfl
 | int i=>obtain ⟨t,rfl⟩:=r; rfl
 | str z=>obtain ⟨t,rfl⟩:=r; rfl
 | _=>exact absurd (show false = true from f) Bool.false_ne_true
theorem any_eqU {x:V}:∀ {xs:List V} {us:List Value},Vals xs us -> xs.all flatV = true -> us.any (eqU x) = xs.any fun y=>eqV y x
 | _,_,.nil,_=>rfl
 | y :: xs,u :: us,.cons r t,f=>by
  rw [List.all_cons,Bool.and_eq_true] at f
  rw [List.any_cons,List.any_cons,eqU_of r f.1,any_eqU t f.2]
theorem mem_eqAt {A:Around} {s:Shared} {x:V} {v:Value} (rx:RelV x v) (fx:flatV x = true):∀ {xs:List V} {us:List Value},Vals xs us -> xs.all flatV = true -> ∀ u ∈ us,SeqAt.EqAt A s u v (eqU x u)
 | _,_,.nil,_=>fun u hu=>by cases hu
 | y :: xs,u :: us,.cons r t,f=>fun u' hu=>by
  rw [List.all_cons,Bool.and_eq_true] at f
  rcases List.mem_cons.mp hu with rfl | hu
  ·rw [eqU_of r f.1]; exact eqAt_V r rx f.1 fx
  ·exact mem_eqAt rx fx t f.2 u' hu
noncomputable def inV (x:V) (xs:List V):Bool:=xs.any fun y=>eqV y x
noncomputable def rIn (K:Frag) (neg:Bool):R2:=fun x y H Q=>∃ p xs,y = .ref p /\ (SqL K H p xs \/ SqT K H p xs) /\ flatV x = true /\ xs.all flatV = true /\ Q (.bl (if neg then !inV x xs else inV x xs)) H
theorem op_in_seq:OpR X (compareOp .In) (rIn X.K false):=by
 intro pins s σ H x y v u Q I rx ry h
 obtain ⟨p,xs,rfl,hq,fx,fs,q⟩:=h
 cases ry
 rcases hq with hq | hq
 ·obtain ⟨its,r,pl,hz⟩:=I.list hq
  refine SeqAt.in_listAt (eqU x) pl.isList (fun w hw=>mem_eqAt rx fx r fs w (by simpa using hw)) ⟨.bl _,H,I,rfl,?_⟩
  rw [show its.toArray.any (eqU x) = its.any (eqU x) by simp,any_eqU r fs]
  exact q
 ·obtain ⟨its,r,pl,hz⟩:=I.tuple hq
  refine SeqAt.in_tupleAt (eqU x) pl (fun w hw=>mem_eqAt rx fx r fs w (by simpa using hw)) ⟨.bl _,H,I,rfl,?_⟩
  rw [show its.toArray.any (eqU x) = its.any (eqU x) by simp,any_eqU r fs]
  exact q
theorem op_notIn_seq:OpR X (compareOp .NotIn) (rIn X.K true):=by
 intro pins s σ H x y v u Q I rx ry h
 obtain ⟨p,xs,rfl,hq,fx,fs,q⟩:=h
 cases ry
 rcases hq with hq | hq
 ·obtain ⟨its,r,pl,hz⟩:=I.list hq
  refine SeqAt.notIn_listAt (eqU x) pl.isList (fun w hw=>mem_eqAt rx fx r fs w (by simpa using hw)) ⟨.bl _,H,I,rfl,?_⟩
  rw [show its.toArray.any (eqU x) = its.any (eqU x) by simp,any_eqU r fs]
  exact q
 ·obtain ⟨its,r,pl,hz⟩:=I.tuple hq
  refine SeqAt.notIn_tupleAt (eqU x) pl (fun w hw=>mem_eqAt rx fx r fs w (by simpa using hw)) ⟨.bl _,H,I,rfl,?_⟩
  rw [show its.toArray.any (eqU x) = its.any (eqU x) by simp,any_eqU r fs]
  exact q
theorem call_len_seq:CallR X (.builtin "len") (fun xs H Q=>∃ p ys,xs = [.ref p] /\ (SqL X.K H p ys \/ SqT X.K H p ys) /\ Q (.int ys.length) H):=by
 intro pins s σ H xs us Q I r h
 obtain ⟨p,ys,rfl,hq,q⟩:=h
 obtain ⟨u,rfl,rx⟩:=vals1 r
 cases rx
 have hn:=line63
 rcases hq with hq | hq
 ·obtain ⟨its,r',pl,hz⟩:=I.list hq
  have hlen:=r'.length
  exact Calls.call_len_list pl.isList (by simp only [List.size_toArray] <;> omega) ⟨.int ys.length,H,I.tok _,⟨s.toks + 1,by rw [List.size_toArray,hlen]⟩,q⟩
 ·obtain ⟨its,r',pl,hz⟩:=I.tuple hq
  have hlen:=r'.length
  exact len_tuple pl (by simp only [List.size_toArray] <;> omega) ⟨.int ys.length,H,I.tok _,⟨s.toks + 1,by rw [List.size_toArray,hlen]⟩,q⟩
theorem call_len_str:CallR X (.builtin "len") (fun xs H Q=>∃ z,xs = [.str z] /\ z.length <= sizeLine /\ Q (.int z.length) H):=by
 intro pins s σ H xs us Q I r h
 obtain ⟨z,rfl,hz,q⟩:=h
 obtain ⟨u,rfl,t,rfl⟩:=vals1 r
 have hn:=line63
 exact len_str (by omega) ⟨.int z.length,H,I.tok _,⟨_,rfl⟩,q⟩
theorem CallR.or {f:Value} {r r':List V -> Hp -> VK -> Prop} (h:CallR X f r) (h':CallR X f r'):CallR X f (fun xs H Q=>r xs H Q \/ r' xs H Q):=by
 intro pins s σ H xs us Q I rs q
 rcases q with q | q
 ·exact h pins s σ H xs us Q I rs q
 ·exact h' pins s σ H xs us Q I rs q
theorem call_list_of:CallR X (.type "list") (fun xs H Q=>∃ p ys,xs = [.ref p] /\ (SqL X.K H p ys \/ SqT X.K H p ys) /\ ∀ l,H l = none -> Q (.ref l) (upd H l (.lst ys))):=by
 intro pins s σ H xs us Q I r h
 obtain ⟨p,ys,rfl,hq,q⟩:=h
 obtain ⟨u,rfl,rx⟩:=vals1 r
 cases rx
 have fin:∀ (its:List Value),Vals ys its -> ys.length <= sizeLine -> ∀ (h':Heap) (c':Nat),(∀ b o',s.heap.get? b = some o' -> h'.get? b = some o') ->
   h'.get? s.heap.objs.size = some { cls:=.type "list",dict:=none,data:=.seq its.toArray c',slots:=#[] } -> EP X pins σ Q (.ref s.heap.objs.size) { s with heap:=h' }:=fun its r' hz h' c' kp e=>
  ⟨.ref s.heap.objs.size,_,I.laid (t':=s.toks) kp (Nat.le_refl _) (show ObjOk X.prog X.w _ h' _ (.lst ys) from ⟨hz,its,c',r',e⟩),rfl,q _ (I.hok.fresh (Nat.le_refl _))⟩
 rcases hq with hq | hq
 ·obtain ⟨its,r',pl,hz⟩:=I.list hq
  have hlen:=r'.length
  obtain ⟨o,ho,hc,n,hd⟩:=pl.isList
  exact call_list_seq p (.inl rfl) ho hc hd (fun h' c' kp e=>fin its r' hz h' c' kp e) (by simp only [List.size_toArray] <;> omega)
 ·obtain ⟨its,r',pl,hz⟩:=I.tuple hq
  have hlen:=r'.length
  obtain ⟨o,ho,hc,n,hd⟩:=pl
  exact call_list_seq p (.inr rfl) ho hc hd (fun h' c' kp e=>fin its r' hz h' c' kp e) (by simp only [List.size_toArray] <;> omega)
def tyV (K:Frag) (T:String) (x:V) (H:Hp):Prop:=match x with
 | .str _=>T = "str"
 | .int _=>T = "int"
 | .ref p=>(T = "list" /\ ∃ xs,SqL K H p xs) \/ (T = "tuple" /\ ∃ o,K.lookup p = some o /\ o.cls = .type "tuple" /\ o.dict = none) \/
   (T = "dict" /\ ((∃ kvs,H p = some (.dK kvs)) \/ ∃ kvs,H p = some (.dT kvs))) \/ (T = "set" /\ ∃ S n,H p = some (.set S n))
 | _=>False
theorem tyV_is {pins:List (Addr × Obj)} {σ:St} {H:Hp} {s:Shared} {T:String} {x:V} {v:Value} (I:Inv X pins σ H s) (r:RelV x v) (ty:tyV X.K T x H):
  s.TypeIs v T /\ ∀ a,v = .ref a -> ∃ ob,s.heap.get? a = some ob /\ ob.dict = none:=by
 cases x with
 | str z=>
  obtain ⟨t,rfl⟩:=r
  cases (show T = "str" from ty)
  exact ⟨typeIs_str s z t,fun _ e=>nomatch e⟩
 | int i=>
  obtain ⟨t,rfl⟩:=r
  cases (show T = "int" from ty)
  exact ⟨typeIs_int s i t,fun _ e=>nomatch e⟩
 | ref p=>
  cases r
  rcases ty with ⟨rfl,xs,hq⟩ | ⟨rfl,o,hk,hc,hd⟩ | ⟨rfl,hk⟩ | ⟨rfl,S,n,hk⟩
  ·obtain ⟨its,_,pl,_⟩:=I.list hq
   refine ⟨pl.isList.typeIs,fun a e=>?_⟩
   cases e
   obtain ⟨o,n,e,c,hd,_⟩:=pl
   exact ⟨o,e,hd⟩
  ·refine ⟨⟨o,I.kIn p o hk,hc⟩,fun a e=>?_⟩
   cases e
   exact ⟨o,I.kIn _ o hk,hd⟩
  ·have z:∃ o,s.heap.get? p = some o /\ o.ExactDict:=by
    rcases hk with ⟨kvs,hk⟩ | ⟨kvs,hk⟩
    ·obtain ⟨_,_,_,_,o,_,_,e,ex,_⟩:=I.hok p _ hk
     exact ⟨o,e,ex⟩
    ·obtain ⟨_,_,_,_,o,_,_,e,ex,_⟩:=I.hok p _ hk
     exact ⟨o,e,ex⟩
   obtain ⟨o,e,ex⟩:=z
   refine ⟨⟨o,e,ex.1⟩,fun a e2=>?_⟩
   cases e2
   exact ⟨o,e,ex.2.1⟩
  ·obtain ⟨o,_,_,_,e,ex,_⟩:=I.hok p _ hk
   refine ⟨⟨o,e,ex.1⟩,fun a e2=>?_⟩
   cases e2
   exact ⟨o,e,ex.2.1⟩
 | _=>exact False.elim ty
noncomputable def tBM (K:Frag) (T:String) (r:V -> List V -> Hp -> VK -> Prop) (to:TE) (t:TA):TE:=fun σ H Q=>to σ H fun x H1=>tyV K T x H1 /\ t σ H1 fun xs H2=>r x xs H2 Q
variable {o e:Expr} {es:List Expr} {to:TE} {t:TA} {name:Str} {apos cpos:Pos} {T id:String} {r:V -> List V -> Hp -> VK -> Prop}
theorem pe_bm (pa:PlainAttrs T) (slot:Slot T name id) (hty:typeOf (.builtin id) = pure (.type "method_descriptor")) (hm:MtR X id r) (ho:PE X o to) (ha:PA X (e :: es) t)
  (hbase:attributeBase o name X.env (eval o X.env) = eval o X.env:=by rfl)
  (hfew:((backTo cpos (starEach (e :: es) X.env)).all (fun x=>!x.1) && (backToKw cpos (keywordEach [] X.env)).all (fun x=>x.1.isSome)
   && decide ((e :: es).length + ([]:List Keyword).length + (if ([]:List Keyword).isEmpty then 0 else 1) < 30)) = true:=by rfl)
  (hline:(apos.endLine == cpos.line) = true:=by rfl) (hs:starEach (e :: es) X.env = (false,eval e X.env) :: starEach es X.env:=by rfl) (hplain:(backTo cpos (starEach es X.env)).any (·.1) = false:=by rfl):
  PE X (.Call (.Attribute o name apos) (e :: es) [] cpos) (tBM X.K T r to t):=by
 intro pins s σ H Q I h
 refine wpAny_Call_method_late hbase hfew hline rfl (thn (ho pins s σ H _ I h) fun v s1 ⟨x,H1,I1,r1,ty,q1⟩=>?_)
 obtain ⟨h1,h2⟩:=tyV_is I1 r1 ty
 refine ⟨T,id,pa,slot,hty,h1,h2,?_⟩
 have hA:=ha cpos pins s1 σ H1 _ I1 q1
 rw [hs] at hA ⊢
 refine Calls.callWith_builtin (by show (false || (backTo cpos (starEach es X.env)).any (·.1)) = false; rw [hplain] <;> rfl) (Calls.evalArgs_plain ?_)
 exact thn hA fun us s2 ⟨vs,H2,I2,r2,q2⟩=>hm pins s2 σ H2 x vs v us Q I2 r1 r2 q2
end
def MtM (X:Cx) (id:String) (r:V -> List V -> Hp -> VK -> Prop):Prop:=
 ∀ (pins:List (Addr × Obj)) (s:Shared) (σ:St) (H:Hp) (x:V) (xs:List V) (v:Value) (us:List Value) (Q:VK),Inv X pins σ H s -> RelV x v -> Vals xs us -> r x xs H Q ->
  wpAny (model X.prog X.w) X.A (call (.builtin id) (v :: us)) (EP X pins σ Q) X.xe s
theorem Vals.one:∀ {x:V} {us:List Value},Vals [x] us -> ∃ u,us = [u] /\ RelV x u
 | _,_,.cons r .nil=>⟨_,rfl,r⟩
theorem Vals.two:∀ {x y:V} {us:List Value},Vals [x,y] us -> ∃ u v,us = [u,v] /\ RelV x u /\ RelV y v
 | _,_,_,.cons r (.cons q .nil)=>⟨_,_,rfl,r,q⟩
theorem Vals.zero:∀ {us:List Value},Vals [] us -> us = []
 | _,.nil=>rfl
theorem Vals.dropLast {xs:List V} {us:List Value} (h:Vals xs us):Vals xs.dropLast us.dropLast:=by
 induction h with
 | nil=>exact .nil
 | cons r t ih=>
  cases t with
  | nil=>exact .nil
  | cons q t'=>exact .cons r ih
theorem Vals.rep {xs:List V} {us:List Value} (h:Vals xs us):∀ k:Nat,Vals (List.replicate k xs).flatten (List.replicate k us).flatten
 | 0=>.nil
 | k + 1=>by
  rw [List.replicate_succ,List.replicate_succ,List.flatten_cons,List.flatten_cons]
  exact Vals.append h (Vals.rep h k)
theorem foldl_rep (its:List Value):∀ (k:Nat) (acc:List Value),
  List.foldl (fun x1 x2=>x1 ++ x2) acc.toArray (List.replicate k its.toArray) = (acc ++ (List.replicate k its).flatten).toArray
 | 0,acc=>by simp
 | k + 1,acc=>by
  have e:acc.toArray ++ its.toArray = (acc ++ its).toArray:=by simp
  have e2:(acc ++ its) ++ (List.replicate k its).flatten = acc ++ (List.replicate (k + 1) its).flatten:=by
   rw [List.replicate_succ,List.flatten_cons,List.append_assoc]
  rw [<- e2,<- foldl_rep its k (acc ++ its),<- e,List.replicate_succ,List.foldl_cons]
section
variable {X:Cx} {pins:List (Addr × Obj)} {σ:St} {H:Hp} {s:Shared} {l b:Addr} {xs ys zs:List V}
theorem Inv.lset {its its':List Value} {n:Nat} {f:Array Value -> Array Value} {t':Nat} (I:Inv X pins σ H s) (hH:H l = some (.lst xs))
  (e:s.heap.get? l = some { cls:=.type "list",data:=.seq its.toArray n }) (hf:f its.toArray = its'.toArray) (hv:Vals ys its') (hz:ys.length <= sizeLine) (ht:0 < t':=by first | assumption | exact Nat.succ_pos _ | (apply Inv.tk; assumption) | omega):
  Inv X pins σ (upd H l (.lst ys)) { s with heap:=s.heap.update l (Obj.mapSeq f),toks:=t' }:=by
 have q:=PySem.IsL.update e f
 rw [hf] at q
 refine I.write (x:=l) (e:=l) (by rw [hH]; exact trivial) (.inl rfl) (fun b' u hb hu=>(Heap.get?_update_other s.heap (Obj.mapSeq f) (Ne.symm hb)).trans hu) ⟨_,q⟩ ?_
 exact ⟨hz,its',_,hv,q⟩
theorem Inv.lnew {its:List Value} {t':Nat} (I:Inv X pins σ H s) (hv:Vals ys its) (hz:ys.length <= sizeLine) (ht:0 < t':=by first | assumption | exact Nat.succ_pos _ | (apply Inv.tk; assumption) | omega):
  Inv X pins σ (upd H s.heap.objs.size (.lst ys)) { s with heap:=s.heap.push { cls:=.type "list",data:=.seq its.toArray },toks:=t' }:=
 I.laid (fun _ _ q=>Heap.get?_push_of_some _ q) (Nat.le_refl _) ⟨hz,its,0,hv,Heap.get?_push_size _ rfl⟩
theorem Inv.fresh (I:Inv X pins σ H s):H s.heap.objs.size = none:=I.hok.fresh (Nat.le_refl _)
theorem Inv.lstM (I:Inv X pins σ H s) (hH:H l = some (.lst xs)):xs.length <= sizeLine /\ ∃ (its:List Value) (n:Nat),Vals xs its /\ xs.length = its.length /\ s.heap.get? l = some { cls:=.type "list",data:=.seq its.toArray n }:=by
 obtain ⟨z,its,n,r,e⟩:=I.hok l _ hH
 exact ⟨z,its,n,r,r.length,e⟩
theorem notLongL {n:Nat} (h:n <= sizeLine):Builtin.List.listTooLong n = false:=by
 unfold Builtin.List.listTooLong
 exact decide_eq_false (by omega)
end
section
variable {X:Cx}
noncomputable def rAppend:V -> List V -> Hp -> VK -> Prop:=fun x vs H Q=>∃ l xs y,x = .ref l /\ vs = [y] /\ H l = some (.lst xs) /\ xs.length < sizeLine /\ Q .non (upd H l (.lst (xs ++ [y])))
theorem mt_append:MtM X "list.append" rAppend:=by
 intro pins s σ H x vs v us Q I rx rv h
 obtain ⟨l,xs,y,rfl,rfl,hH,hz,q⟩:=h
 cases rx
 obtain ⟨u,rfl,ru⟩:=rv.one
 obtain ⟨z,its,n,r,hl,e⟩:=I.lstM hH
 refine call_meets F.slot_list_append ⟨_,e,rfl⟩ F.entry_list_append (F.args_list_append_2 _ _) (PySem.list_append l its.toArray n u (by rw [List.size_toArray]; omega)) ⟨e,?_⟩
 refine ⟨.non,_,I.lset (its':=its ++ [u]) hH e (by simp) (r.append (.cons ru .nil)) ?_,rfl,q⟩
 rw [List.length_append,List.length_singleton]
 omega
noncomputable def rCat:R2:=fun x y H Q=>∃ l b xs zs,x = .ref l /\ y = .ref b /\ H l = some (.lst xs) /\ H b = some (.lst zs) /\ xs.length + zs.length <= sizeLine /\ ∀ p,H p = none -> Q (.ref p) (upd H p (.lst (xs ++ zs)))
theorem op_cat:OpR X (binaryOp .Add) rCat:=by
 intro pins s σ H x y v u Q I rx ry h
 obtain ⟨l,b,xs,zs,rfl,rfl,hH,hB,hz,q⟩:=h
 cases rx
 cases ry
 obtain ⟨z,its,n,r,hl,e⟩:=I.lstM hH
 obtain ⟨z2,its2,n2,r2,hl2,e2⟩:=I.lstM hB
 refine PySem.P.add_list e e2 ?_ (by rw [List.size_toArray,List.size_toArray]; omega)
 have ea:its.toArray ++ its2.toArray = (its ++ its2).toArray:=by simp
 rw [ea]
 exact ⟨.ref _,_,I.lnew (t':=s.toks) (r.append r2) (by rw [List.length_append]; omega),rfl,q _ I.fresh⟩
noncomputable def rRep:R2:=fun x y H Q=>∃ l k xs,x = .ref l /\ y = .int k /\ H l = some (.lst xs) /\ -(2 ^ 63) <= k /\ k < 2 ^ 63 /\ xs.length * k.toNat <= sizeLine /\
 ∀ p,H p = none -> Q (.ref p) (upd H p (.lst (List.replicate k.toNat xs).flatten))
theorem len_rep {α:Type} (xs:List α) (k:Nat):(List.replicate k xs).flatten.length = k * xs.length:=by
 induction k with
 | zero=>simp
 | succ k ih=>rw [List.replicate_succ,List.flatten_cons,List.length_append,ih,Nat.succ_mul,Nat.add_comm]
theorem op_rep:OpR X (binaryOp .Mult) rRep:=by
 intro pins s σ H x y v u Q I rx ry h
 obtain ⟨l,k,xs,rfl,rfl,hH,h1,h2,hz,q⟩:=h
 cases rx
 obtain ⟨t,rfl⟩:=ry
 obtain ⟨z,its,n,r,hl,e⟩:=I.lstM hH
 have hlen:its.toArray.size * k.toNat <= sizeLine:=by rw [List.size_toArray,<- hl]; exact hz
 have hcap:¬ its.toArray.size * k.toNat > (2 ^ 63 - 1) / 8:=by
  have:(sizeLine:Nat) <= (2 ^ 63 - 1) / 8:=by decide
  omega
 have hfit:¬ (!Builtin.List.listFitsIndex k) = true:=by
  rw [fitsIndex_both h1 h2]
  exact Bool.false_ne_true
 have hlong:¬ Builtin.List.listTooLong (its.toArray.size * k.toNat) = true:=by
  rw [notLongL hlen]
  exact Bool.false_ne_true
 have hnew:List.foldl (fun x1 x2=>x1 ++ x2) #[] (List.replicate (if its.toArray.isEmpty = true then 0 else k.toNat) its.toArray) = (List.replicate k.toNat its).flatten.toArray:=by
  have f0:∀ m:Nat,List.foldl (fun x1 x2=>x1 ++ x2) #[] (List.replicate m its.toArray) = (List.replicate m its).flatten.toArray:=fun m=>by
   have:=foldl_rep its m []
   rw [List.nil_append] at this
   exact this
  rw [f0]
  cases its with
  | nil=>simp
  | cons a r'=>rw [if_neg (by simp)]
 refine wpAny_binaryOp_repeat_ref (T := "list") (U := "int") (by decide) ⟨_,e,rfl⟩ (fun s'=>typeIs_int s' k t) noFill_list_mul F.fills_int_mul F.slot_int_rmul repeat_list F.slot_int_index.lookup
  (call_meets F.slot_int_rmul (typeIs_int s k t) F.entry_int_rmul (F.args_int_rmul_2 _ _) (int___rmul___int_list k t l its.toArray n)
   ⟨e,rfl,⟨_,e,rfl⟩,call_meets F.slot_list_mul ⟨_,e,rfl⟩ F.entry_list_mul (F.args_list_mul_2 _ _) (AutoListH.list___mul___list_int_3 l its.toArray n k t hfit hcap hlong) ⟨e,?_⟩⟩)
 rw [hnew]
 exact ⟨.ref _,_,I.lnew (t':=s.toks) (r.rep k.toNat) (by rw [len_rep,Nat.mul_comm]; exact hz),rfl,q _ I.fresh⟩
end
section
variable {prog:Program} {w:World} {A:Around} {E:Value -> Shared -> Prop} {s:Shared}
end
section
variable {X:Cx}
end
end L2
namespace Att
open PySem PySem.W PySem.Calls PyProof.Rows
theorem ints_of_wellAll {P:Params} {h:Heap}:∀ (ns:List Int) (vs:List Value),WellAll P h vs (ns.map WData.int) -> IntsAre vs ns:=by
 intro ns
 induction ns with
 | nil=>
  intro vs w
  rw [List.map_nil] at w
  cases w
  exact .nil
 | cons n ns ih=>
  intro vs w
  rw [List.map_cons] at w
  cases w with
  | cons a b=>
   cases a
   exact .cons _ _ (ih _ b)
theorem script_of {l:OpenLaw} {n:Nat} (hn:l.most = some n) {P:Params} {h:Heap} {args:List WData} {vals:List Value}
  (hpre:l.row.toRowW.claim.pre args = true) (hwl:WellAll P h vals args):
  ∃ a vs ns,vals = [Value.ref a] /\ args = [WData.list (ns.map WData.int)] /\ h.get? a = some { cls:=.type "list",data:=.seq vs.toArray } /\ IntsAre vs ns /\ ns.length <= n:=by
 have hsh:WShape.hasAll [] args [.list .int] = true:=(pre_splitW hpre).1
 have hc:l.pre.holds [] { args:=args } = true:=(pre_splitW hpre).2
 obtain ⟨d,r,rfl,h1,h2⟩:=hasAllW_cons hsh
 obtain rfl:=hasAllW_nil h2
 obtain ⟨xs,rfl,h3⟩:=hasW_list h1
 obtain ⟨ns,rfl⟩:=items_int h3
 have hlen:ns.length <= n:=by
  unfold OpenLaw.pre at hc
  have h4:(WTm.not (.lt (.lit (.int (n:Int))) (.len (.arg 0)))).holds [] { args:=[.list (ns.map .int)] } = true:=by
   have h4:=(holds_andW hc).1
   rw [hn] at h4
   exact h4
  have h5:=condW_of h4 (w_not (w_lt w_lit (w_len_list (w_arg rfl))))
  rw [List.length_map] at h5
  refine Nat.le_of_not_lt fun q=>?_
  have q':(n:Int) < ((ns.length:Nat):Int):=by omega
  first
   | (rw [decide_eq_true q'] at h5; exact absurd h5 (by decide))
   | (simp at h5; omega)
 cases hwl with
 | cons w1 w2=>
  cases w2
  cases w1 with
  | list ho hall=>exact ⟨_,_,ns,rfl,rfl,ho,ints_of_wellAll ns _ hall,hlen⟩
theorem post_true (l:OpenLaw) (args:List WData):l.row.toRowW.claim.post args (.bool true) args = true:=
 postW_of (r:=l.row.toRowW) (X:=(true == true))
  (show WShape.has [] (.bool true) .bool = true by first | rfl | decide | simp [WShape.has,WShape.arms,WShape.armsAll])
  (show (WTm.eq .res (.lit (.bool true))).value [] { args:=args,res:=some (.bool true),after:=args } = some (.bool (true == true)) from w_eq_bool (w_res rfl) w_lit) rfl
section
variable {prog:Program} {w:World} {A:Around} {E:Value -> Shared -> Prop} {s:Shared} {K:Frag}
noncomputable def ledger (h:Heap) (L d:Addr):List (Addr × Obj):=(List.range h.objs.size).filterMap fun a=>if a = L \/ a = d then none else (h.get? a).map fun o=>(a,o)
end
end Att
namespace L2
open PySem PySem.Spec PyProof.Rows
theorem vals_ints:∀ {vs:List Value} {ns:List Int},IntsAre vs ns -> Vals (ns.map V.int) vs
 | _,_,.nil=>.nil
 | _,_,.cons n t h=>.cons ⟨t,rfl⟩ (vals_ints h)
def Only (H:Hp):Prop:=∀ b,H b = none \/ ∃ o xs,H b = some (.frz o (.lst xs))
theorem law_call {P:Program} {w:World} {K:Frag} {mg mb:Str -> Option Value} {CX:CXT} {k:Nat} {fa a:Addr} {fd:FuncData} {x:Str} {sp:Sp} {s₁:Shared} {vs:List Value} {ns:List Int}
  (KX:K.In s₁.heap) (hns:s₁.heap.Ns mainGlobals mg) (hb:s₁.heap.Ns builtinsNs mb) (hbb:∀ x:Str,x ≠ "__name__" -> mb x = bootBuiltins x) (hlim:s₁.heap.NoLimit) (hg:s₁.gens = #[]) (htk:0 < s₁.toks)
  (ha:s₁.heap.get? a = some { cls:=.type "list",data:=.seq vs.toArray }) (hi:IntsAre vs ns) (hl:ns.length <= sizeLine) (hr:Room k callerA)
  (F:∀ base:Heap,K.In base -> base.Ns mainGlobals mg -> FnOk P w K mg base CX k fa fd [x] sp) (hbind:∀ (s:Shared) (u:Value),BindsTo s fd ⟨[u],[]⟩ [(x,u)])
  (hsp:∀ H:Hp,Only H -> SqL K H a (ns.map V.int) -> sp [.ref a] H (fun v _=>v = .bl true) fun _ _ _=>False)
  (hCX:∀ H e s',CX [] H s₁ (fun _ _ _=>False) e s' -> False):
  codeAny (model P w) callerA (.call (.ref fa) ⟨[.ref a],[]⟩) (fun r s'=>r = .ok (.ret (.bool true)) /\ OldK s₁.heap s'.heap /\ s'.os = s₁.os /\ AllBare s'.gens) s₁:=by
 have rv:=vals_ints hi
 have lenV:=hi.length
 have core:∀ H:Hp,Only H -> SqL K H a (ns.map V.int) -> HOk P w H s₁.heap -> (∀ b,H b ≠ none -> b = a) -> (H a ≠ none -> K.lookup a = none) ->
   codeAny (model P w) callerA (.call (.ref fa) ⟨[.ref a],[]⟩) (fun r s'=>r = .ok (.ret (.bool true)) /\ OldK s₁.heap s'.heap /\ s'.os = s₁.os /\ AllBare s'.gens) s₁:=by
  intro H hO hS hok hA hK
  have base_of:∀ {b:Addr} {o:Obj},s₁.heap.get? b = some o -> H b = none -> (hidT s₁.heap H).get? b = some o:=fun e n=>hidT_get e n
  have noA:∀ {b:Addr} {o:Obj} {es:Array DictEntry} {ep:Nat},s₁.heap.get? b = some o -> o.data = .dict es ep -> H b = none:=fun {b o es ep} e d=>by
   cases q:H b with
   | none=>rfl
   | some u=>
    have e':b = a:=hA b (by rw [q]; simp)
    subst e'
    rw [ha] at e; cases e
    have d':Data.seq vs.toArray _ = Data.dict es ep:=d
    cases d'
  have nsK:∀ {b:Addr} {m:Str -> Option Value},s₁.heap.Ns b m -> (hidT s₁.heap H).Ns b m:=fun {b m} ⟨o,es,ep,e,d,r⟩=>⟨o,es,ep,base_of e (noA e d),d,r⟩
  have hKb:K.In (hidT s₁.heap H):=fun b o e=>base_of (KX b o e) (by
   cases q:H b with
   | none=>rfl
   | some u=>
    have e':b = a:=hA b (by rw [q]; simp)
    subst e'
    rw [hK (by rw [q]; simp)] at e; cases e)
  have hM:Mod K mg (hidT s₁.heap H):=⟨hKb,nsK hns,⟨mb,nsK hb,hbb⟩,let ⟨mc,h1,h2⟩:=hlim; ⟨mc,nsK h1,h2⟩⟩
  have e0:Env0 P w K mg (hidT s₁.heap H) callerA [] s₁ H:=⟨rfl,hM,fun b o e=>of_hidT e,Nat.le_of_eq (hidT_size _ _),trivial,fun b hb=>absurd (show b ∈ ([]:List Addr) from hb) (by simp),hok,.of_eq hg,htk⟩
  refine codeAny_mono ((F _ hKb (nsK hns)).run callerA [] s₁ H ⟨[.ref a],[]⟩ [.ref a] [.ref a] _ _ hr e0 (hbind s₁ (.ref a)) (.cons rfl .nil) (hsp H hO hS)) fun r s' h=>?_
  cases r with
  | error e=>exact (hCX H e s' h).elim
  | ok fl=>
   cases fl with
   | next=>exact False.elim h
   | brk=>exact False.elim h
   | cont=>exact False.elim h
   | ret u=>
    obtain ⟨v,H',_,os,bare,un,hok',r',q⟩:=h
    have q':v = .bl true:=q
    subst q'
    obtain rfl:u = Value.bool true:=r'
    refine ⟨rfl,OldK.of_keep fun b o e=>?_,os,bare⟩
    cases q:H b with
    | none=>exact un.keep b o e q (by intro z; exact absurd (show b ∈ ([]:List Addr) from z) (by simp)) (by simp)
    | some u=>
     rcases hO b with z | ⟨ob,xs,z⟩
     ·rw [q] at z; cases z
     ·have z2:=un.frzs b ob _ z
      obtain ⟨e1,_⟩:=hok b _ z
      obtain ⟨e2,_⟩:=hok' b _ z2
      rw [e] at e1; cases e1
      exact e2
 cases hk:K.lookup a with
 | some o=>
  have e:=KX a o hk
  rw [ha] at e
  cases e
  refine core (fun _=>none) (fun _=>.inl rfl) (.inr ⟨_,vs.toArray,_,hk,rfl,rfl,rfl,by rw [List.size_toArray,lenV]; exact hl,by simpa using rv⟩) (fun b u z=>by have z':(none:Option HO) = some u:=z; cases z') (fun b z=>absurd rfl z) fun z=>absurd rfl z
 | none=>
  refine core (fun b=>if b = a then some (.frz { cls:=.type "list",data:=.seq vs.toArray } (.lst (ns.map V.int))) else none) (fun b=>?_) (.inl (.inr ⟨{ cls:=.type "list",data:=.seq vs.toArray },if_pos rfl⟩)) (fun b u z=>?_) (fun b z=>?_) fun _=>hk
  ·by_cases hb:b = a
   ·exact .inr ⟨_,_,if_pos hb⟩
   ·exact .inl (if_neg hb)
  ·by_cases hb:b = a
   ·have z':=(if_pos hb).symm.trans z
    cases z'
    subst hb
    exact ⟨ha,by rw [List.length_map]; exact hl,vs,_,rv,ha⟩
   ·have z':=(if_neg hb).symm.trans z
    cases z'
  ·by_cases hb:b = a
   ·exact hb
   ·exact absurd (if_neg hb) z
noncomputable abbrev KOf {K:Frag} {h:Heap} (_:K.In h):Frag:=K
theorem attach_callX {l:PySem.W.OpenLaw} {n:Nat} {q:Program} {loose:List Str} {XP:(Str -> Option Value) -> Heap -> Prop} {α:Type} {Yf:Shared -> α} {Ya:World -> α} {d:DefRec}
  (hn:l.most = some n) (hdf:d.params.defaults = [])
  (call:∀ (w:World) (s₀ s₁:Shared) (mg mb:Str -> Option Value) (fa a:Addr) (vs:List Value) (ns:List Int),
   PySem.W.Ground q loose [] XP w s₀ mg mb s₁.heap -> Yf s₀ = Ya w -> (∀ b o,s₀.heap.get? b = some o -> s₁.heap.get? b = some o) -> s₀.toks <= s₁.toks -> mg d.name = some (.ref fa) ->
   s₁.heap.get? a = some { cls:=.type "list",data:=.seq vs.toArray } -> IntsAre vs ns -> ns.length <= n -> s₁.gens = #[] ->
   codeAny (model l.prog w) callerA (.call (.ref fa) ⟨[.ref a],[]⟩) (fun r s'=>r = .ok (.ret (.bool true)) /\ OldK s₁.heap s'.heap /\ s'.os = s₁.os /\ AllBare s'.gens) s₁):
  PySem.W.WalkX q loose XP Yf Ya l.row.toRowW d [] (fun f vs=>PySem.call f vs):=by
 intro w s₀ s₁ mg mb G Y fa o pm cd doc dV kV ho hd hcd hD hmg hg args vals as L hpre hlay hrd hwl hlo
 obtain ⟨a,vs,ns,rfl,rfl,hobj,hints,hlen⟩:=Att.script_of hn hpre hwl
 have ht:s₀.toks <= s₁.toks:=by
  obtain ⟨ord,_,e⟩:=L.laid
  exact (PySem.W.layAllW_grows _ _ _ e).toks
 refine PySem.W.enter_call (codeAny_mono (call w s₀ s₁ mg mb fa a vs ns G Y L.keeps ht hmg hobj hints hlen hg) fun r s' hq=>?_)
 obtain ⟨rfl,h2,h3,h4⟩:=hq
 exact ⟨.inl ⟨.bool true,.bool true,[],rfl,fun _=>rfl,.bool true,Att.post_true l _,fun _=>⟨List.Pairwise.nil,fun _ hm=>(nomatch hm)⟩⟩,h2,h3,h4⟩
theorem walk_ofX {l:PySem.W.OpenLaw} {n k:Nat} {q:Program} {loose:List Str} {XP:(Str -> Option Value) -> Heap -> Prop} {α:Type} {Yf:Shared -> α} {Ya:World -> α} {d:DefRec} {K:Params -> Frag} {CX:World -> CXT} {sp:World -> Sp} {x:Str}
  (hn:l.most = some n) (hn2:n <= sizeLine) (hdf:d.params.defaults = []) (hr:Room k callerA)
  (hY:∀ (w:World) (s:Shared),Yf s = Ya w -> (K w.params).In s.heap /\ 0 < s.toks)
  (F:∀ (w:World) (mg:Str -> Option Value) (fa:Addr) (h:Heap),(K w.params).In h -> h.Ns mainGlobals mg -> mg d.name = some (.ref fa) ->
   ∃ fd:FuncData,(∀ (s:Shared) (u:Value),BindsTo s fd ⟨[u],[]⟩ [(x,u)]) /\
    ∀ base:Heap,(K w.params).In base -> base.Ns mainGlobals mg -> FnOk l.prog w (K w.params) mg base (CX w) k fa fd [x] (sp w))
  (hsp:∀ (w:World) (H:Hp) (a:Addr) (ns:List Int),ns.length <= n -> Only H -> SqL (K w.params) H a (ns.map V.int) -> sp w [.ref a] H (fun v _=>v = .bl true) fun _ _ _=>False)
  (hCX:∀ (w:World) (H:Hp) (s:Shared) (e:Value) (s':Shared),CX w [] H s (fun _ _ _=>False) e s' -> False):
  PySem.W.WalkX q loose XP Yf Ya l.row.toRowW d [] (fun f vs=>PySem.call f vs):=by
 refine attach_callX hn hdf fun w s₀ s₁ mg mb fa a vs ns G Y kp ht hmg hobj hints hlen hg=>?_
 obtain ⟨K0,t0⟩:=hY w s₀ Y
 have KX:(K w.params).In s₁.heap:=fun b o e=>kp b o (K0 b o e)
 obtain ⟨fd,hb,hF⟩:=F w mg fa _ KX G.T.g hmg
 exact law_call KX G.T.g G.T.b G.T.builtins G.T.nolimit hg (Nat.lt_of_lt_of_le t0 ht) hobj hints (Nat.le_trans hlen hn2) hr hF hb (fun H hO hS=>hsp w H a ns hlen hO hS) fun H e s'=>hCX w H s₁ e s'
noncomputable def defArgs (s:Stmt):Arguments:=match s with
 | .FunctionDef _ a _ _ _ _ _ _ _ _=>a
 | _=>{ posonlyargs:=[],args:=[],vararg:=none,kwonlyargs:=[],kw_defaults:=[],kwarg:=none,defaults:=[] }
noncomputable def defBody (s:Stmt):List Stmt:=match s with
 | .FunctionDef _ _ b _ _ _ _ _ _ _=>b
 | _=>[]
noncomputable def defScope (s:Stmt):Scope:=match s with
 | .FunctionDef _ _ _ _ _ _ sc _ _ _=>sc
 | _=>{ kind:=.function,names:=[],isGenerator:=false,isCoroutine:=false }
noncomputable abbrev CX0:CXT:=fun _ _ _ _ _ _=>False
noncomputable abbrev E0:XK:=fun _ _ _=>False
theorem pass0 {X:Cx}:Passes CX0 X E0:=fun _ _ _ _ _ _ _ h=>h.elim
structure Fun (K:Frag) (x qual:Str) (st:Stmt) (f:Addr) (fd:FuncData):Prop where
 ex:∃ (oc:Value) (od:Option Addr) (kV doc pm:Value) (an:Option Addr) (cdv ct:Value) (osl:Array (Option Value)),
  fd = fnOf x qual (defArgs st) (defBody st) (defScope st) .none kV doc pm an cdv ct /\ K.lookup f = some ⟨oc,od,.func fd,osl⟩ /\ codeIn K cdv qual = true
 kp:keepIn K (.ref f) = true
section
variable {P:Program} {w:World} {K:Frag} {mg:Str -> Option Value} {base:Heap}
theorem Fun.ok {x qual:Str} {st:Stmt} {f:Addr} {fd:FuncData} {N ps:List Str} {k:Nat} {sp:Sp} (F:Fun K x qual st f fd) (S:FnScope N ps (defScope st)) (len:∀ vs H Q E,sp vs H Q E -> vs.length = ps.length)
  (hbody:∀ (cdv:Value) (A:Around) (outer:List Env) (s:Shared) (H:Hp) (vs:List V) (Q:VK) (E:XK),Room k (A.deeper (envOfC qual (defScope st) s.heap.objs.size f cdv)) -> sp vs H Q E ->
   ∃ t,PSs (cxOf CX0 P w K mg base N qual (defScope st) f cdv A outer s H E).nox (defBody st) t /\ t { nx:=fun _ H'=>Q .non H',rt:=Q } (start N vs) H):FnOk P w K mg base CX0 (k + 1) f fd ps sp:=by
 obtain ⟨oc,od,kV,doc,pm,an,cdv,ct,osl,rfl,lk,hcd⟩:=F.ex
 refine fn_of lk hcd S len fun A outer s H vs Q E hr hsp=>?_
 obtain ⟨t,h,q⟩:=hbody cdv A outer s H vs Q E hr hsp
 exact ⟨t,h.nox,q⟩
theorem Fun.binds {x qual:Str} {st:Stmt} {f:Addr} {fd:FuncData} {ps:List Str} (F:Fun K x qual st f fd)
  (h:∀ (kV doc pm:Value) (an:Option Addr) (cdv ct:Value) (us:List Value),us.length = ps.length -> bindArgs (fnOf x qual (defArgs st) (defBody st) (defScope st) .none kV doc pm an cdv ct) ⟨us,[]⟩ = pure (ps.zip us)):Binds K fd ps []:=by
 obtain ⟨oc,od,kV,doc,pm,an,cdv,ct,osl,rfl,lk,hcd⟩:=F.ex
 exact .all (h kV doc pm an cdv ct)
theorem fun_mk {x qual:Str} {st:Stmt} {f:Addr} {oc:Value} {od an:Option Addr} {osl:Array (Option Value)} {kV doc pm cdv ct:Value} (l:K.lookup f = some ⟨oc,od,.func (fnOf x qual (defArgs st) (defBody st) (defScope st) .none kV doc pm an cdv ct),osl⟩)
  (c:codeIn K cdv qual = true) (k:keepIn K (.ref f) = true):Fun K x qual st f (fnOf x qual (defArgs st) (defBody st) (defScope st) .none kV doc pm an cdv ct):=⟨⟨oc,od,kV,doc,pm,an,cdv,ct,osl,rfl,l,c⟩,k⟩
end
theorem hu_of {A:Around} {k:Nat} (hr:Room k A):A.units + 1 < cLine:=Nat.lt_of_le_of_lt (Nat.add_le_add_left (by decide:1 <= 64) _) hr.units
theorem small1000 {n:Nat} (h:n <= 1000):n < sizeLine:=Nat.lt_of_le_of_lt h (by decide)
section
variable {X:Cx}
end
theorem ite2 {c A B:Prop} [Decidable c] (h1:c -> A) (h2:¬ c -> B):if c then A else B:=by
 by_cases h:c
 ·rw [if_pos h]
  exact h1 h
 ·rw [if_neg h]
  exact h2 h
def Same (H H':Hp):Prop:=∀ b o,H b = some o -> H' b = some o
theorem Same.refl (H:Hp):Same H H:=fun _ _ h=>h
theorem Same.trans {H H1 H2:Hp} (a:Same H H1) (b:Same H1 H2):Same H H2:=fun c o h=>b c o (a c o h)
theorem Same.free {H H':Hp} (e:Same H H') {l:Addr} (h:H' l = Option.none):H l = Option.none:=by
 cases q:H l with
 | none=>rfl
 | some o=>
  rw [e l o q] at h
  cases h
theorem Same.seq {K:Frag} {H H':Hp} {a:Addr} {xs:List V} (e:Same H H') (h:SqL K H a xs):SqL K H' a xs:=by
 rcases h with (h | ⟨o,h⟩) | h
 ·exact .inl (.inl (e _ _ h))
 ·exact .inl (.inr ⟨o,e _ _ h⟩)
 ·exact .inr h
section
variable {X:Cx} {pins:List (Addr × Obj)} {σ:St} {H H':Hp} {s:Shared} {h':Heap}
theorem Inv.turnedL {t':Nat} {its:List Addr} (I:Inv X pins σ H s) (k:∀ b o,b ∉ its -> s.heap.get? b = some o -> h'.get? b = some o) (hf:∀ b ∈ its,FpOk X pins H b) (ht:0 < t':=by first | assumption | exact Nat.succ_pos _ | (apply Inv.tk; assumption) | omega):Inv X pins σ H { s with heap:=h',toks:=t' }:=by
 have nit:∀ b u,H b = some u -> b ∉ its:=fun b u e z=>by
  have q:=(hf b z).1
  rw [q] at e
  cases e
 refine I.step (g':=s.gens) (d':=s.drawn) (ch:=its) (fun b hb=>?_) (fun b o _ _ hc e _=>k b o hc e) (fun b o _ _ hc e _=>⟨o.slots,k b o hc e⟩) (fun _ _ _ _ n=>n)
  (fun b o hc e=>⟨o,k b o hc e⟩) (fun _ _ e=>e) (fun _ _ _ e=>e) (fun b ps e=>⟨#[],by rw [e]; simp⟩) (fun m hm=>?_) (fun b u e=>?_) I.bare
 ·obtain ⟨f0,f1,f2,f3,f4,f5⟩:=hf b hb
  exact ⟨f3,f1,f4,f5⟩
 ·obtain ⟨o,es,ep,ho,r⟩:=hm
  exact ⟨o,es,ep,k _ o (fun z=>(hf _ z).2.1 rfl) ho,r⟩
 ·refine (I.hok b u e).stay (fun c v hc q=>k c v ?_ q) (fun _ q=>q) fun _ _ q=>q
  rcases hc with z | z
  ·rw [z]; exact nit b u e
  ·exact nit c _ z
end
theorem strIter_no (x:Str):["enumerate", "zip", "dict_itemiterator", "dict_reverseitemiterator", "odict_iterator", "itertools.zip_longest", "itertools.pairwise"].contains (strIterType x) = false:=by
 unfold strIterType
 split <;> decide
section
variable {prog:Program} {w:World} {A:Around} {E:Value -> Shared -> Prop} {s:Shared}
theorem strIterType_cases (x:Str):strIterType x = "str_ascii_iterator" \/ strIterType x = "str_iterator" := by
 unfold strIterType
 split
 ·exact .inl rfl
 ·exact .inr rfl
theorem next_str_item {it:Addr} {x:Str} {t:Tok} {i c:Nat} {Q:Option Value -> Shared -> Prop} (hit:s.heap.IsStrIter it (strIterType x) x t i) (hx:x.cps[i]? = some c)
  (hQ:∀ h',h'.IsStrIter it (strIterType x) x t (i + 1) -> Heap.SameBut it s.heap h' -> Q (some (.str ⟨#[c]⟩ s.toks)) { s with heap:=h',toks:=s.toks + 1 }):
  wpAny (model prog w) A (pyNext (.ref it)) Q E s:=by
 rcases strIterType_cases x with e | e
 ·rw [e] at hit
  simp only [e] at hQ
  exact wpAny_pyNext_ascii_item hit hx hQ
 ·rw [e] at hit
  simp only [e] at hQ
  exact wpAny_pyNext_wide_item hit hx hQ
theorem next_str_end {it:Addr} {x:Str} {t:Tok} {i:Nat} {Q:Option Value -> Shared -> Prop} (hh:A.handled = none) (hit:s.heap.IsStrIter it (strIterType x) x t i) (hx:x.cps[i]? = none)
  (hQ:∀ h',Heap.ExtBut it s.heap h' -> Q none { s with heap:=h' }):wpAny (model prog w) A (pyNext (.ref it)) Q E s:=by
 rcases strIterType_cases x with e | e
 ·rw [e] at hit
  exact wpAny_pyNext_ascii_end hh hit hx hQ
 ·rw [e] at hit
  exact wpAny_pyNext_wide_end hh hit hx hQ
theorem iter_str_self {it:Addr} {x:Str} {t:Tok} {i:Nat} {Q:Value -> Shared -> Prop} (hit:s.heap.IsStrIter it (strIterType x) x t i) (h:Q (.ref it) s):wpAny (model prog w) A (pyIter (.ref it)) Q E s:=by
 rcases strIterType_cases x with e | e
 ·rw [e] at hit
  exact wpAny_pyIter_striter_ascii hit h
 ·rw [e] at hit
  exact wpAny_pyIter_striter_wide hit h
theorem nextOf_str_item {it:Addr} {x:Str} {t:Tok} {i c:Nat} {Q:Value -> Shared -> Prop} (hit:s.heap.IsStrIter it (strIterType x) x t i) (hx:x.cps[i]? = some c)
  (hQ:∀ h',h'.IsStrIter it (strIterType x) x t (i + 1) -> Heap.SameBut it s.heap h' -> Q (.str ⟨#[c]⟩ s.toks) { s with heap:=h',toks:=s.toks + 1 }):
  wpAny (model prog w) A (Builtin.SmallTypes.nextOf (.ref it)) Q E s:=by
 rcases strIterType_cases x with e | e
 ·rw [e] at hit
  simp only [e] at hQ
  exact wpAny_nextOf_ascii_item hit hx hQ
 ·rw [e] at hit
  simp only [e] at hQ
  exact wpAny_nextOf_wide_item hit hx hQ
theorem nextOf_str_end {it:Addr} {x:Str} {t:Tok} {i:Nat} {Q:Value -> Shared -> Prop} (hh:A.handled = none) (hit:s.heap.IsStrIter it (strIterType x) x t i) (hx:x.cps[i]? = none)
  (hE:∀ h' e,Heap.ExtBut it s.heap h' -> (∃ o,h'.get? e = some o /\ o.cls = .type "StopIteration") -> E (.ref e) { s with heap:=h' }):wpAny (model prog w) A (Builtin.SmallTypes.nextOf (.ref it)) Q E s:=by
 rcases strIterType_cases x with e | e
 ·rw [e] at hit
  exact wpAny_nextOf_ascii_end hh hit hx hE
 ·rw [e] at hit
  exact wpAny_nextOf_wide_end hh hit hx hE
end
noncomputable def Its (x:Str):It:=⟨fun i _=>i < x.cps.size,fun i H v H'=>H' = H /\ ∃ c,x.cps[i]? = some c /\ v = .str ⟨#[c]⟩,fun i _=>x.cps.size <= i⟩
theorem strIter_obj {h:Heap} {it:Addr} {ty:String} {x:Str} {t:Tok} {i:Nat} (st:h.IsStrIter it ty x t i):∃ o,h.get? it = some o /\ ∀ v,o.data ≠ .cell v:=by
 obtain ⟨o,e,c,d⟩:=st
 exact ⟨o,e,fun v z=>by rw [d] at z; cases z⟩
theorem turn_str {P:Program} {w:World} {K:Frag} {tg:Expr} (x:Str) (t:Tok) (it:Addr):Turn P w K tg (Its x) [it] it (fun i h=>h.IsStrIter it (strIterType x) x t i) where
 mem:=by simp
 obj:=fun i h st b hb=>by
  have e:b = it:=by simpa using hb
  subst e
  exact strIter_obj st
 keep:=fun i h h' st k=>by
  obtain ⟨o,e,r⟩:=st
  exact ⟨o,k it (by simp) o e,r⟩
 item:=by
  intro X hP hw hK hc i pins s σ H E I hf st hg
  subst hP hw hK
  have hi:i < x.cps.size:=hg
  refine next_str_item st (c:=x.cps[i]) (by simp [hi]) fun h' st' sb=>?_
  have I1:Inv X pins σ H { s with heap:=h',toks:=s.toks + 1 }:=I.turnedL (its:=[it]) (fun b o hb e=>(sb.2 b (by simpa using hb)).trans e) hf
  obtain ⟨o,e,c,d⟩:=id st'
  exact ⟨_,rfl,go_of (s:={ s with heap:=h',toks:=s.toks + 1 }) e c d (strIter_no x) ⟨.str ⟨#[x.cps[i]]⟩,H,I1,⟨_,rfl⟩,⟨rfl,_,by simp [hi],rfl⟩,st',fun b hb=>(hf b hb).1⟩⟩
 done:=by
  intro X hP hw hK hc i pins s σ H E I hf st hg
  subst hP hw hK
  have hi:x.cps.size <= i:=hg
  exact next_str_end (I.ok.hd hc) st (by simp [hi]) fun h' eb=>⟨rfl,I.turnedL (t':=s.toks) (its:=[it]) (fun b o hb e=>eb b o (by simpa using hb) e) hf⟩
 self:=fun _ _ _ _ _ st h=>iter_str_self st h
section
variable {X:Cx} {tg e:Expr} {te:TE}
end
theorem for_it {J:It} {n:Nat} {g:TG} {tb:TS} {D:Ends} {σ:St} {H:Hp} (Pv:Nat -> St -> Hp -> Prop) (h0:Pv 0 σ H) (hgo:∀ i σ H,i < n -> Pv i σ H -> J.go i H) (hst:∀ σ H,Pv n σ H -> J.stop n H)
  (hs:∀ i σ H x H',i < n -> Pv i σ H -> J.yld i H x H' -> g x σ H' fun σ2 H2=>tb { D with nx:=Pv (i + 1),ct:=Pv (i + 1),bk:=D.nx } σ2 H2) (hd:∀ σ H,Pv n σ H -> D.nx σ H):
  ∃ W:Nat -> Nat -> St -> Hp -> Prop,(∃ m,W 0 m σ H) /\ ∀ i m σ H,W i m σ H ->
   (J.stop i H /\ D.nx σ H) \/ (J.go i H /\ ∃ N:St -> Hp -> Prop,(∀ σ' H',N σ' H' -> ∃ m',m' < m /\ W (i + 1) m' σ' H') /\ ∀ x H',J.yld i H x H' -> g x σ H' fun σ2 H2=>tb { D with nx:=N,ct:=N,bk:=D.nx } σ2 H2):=by
 refine ⟨fun i m σ H=>m = n - i /\ i <= n /\ Pv i σ H,⟨n,by simp,Nat.zero_le _,h0⟩,?_⟩
 rintro i m σ H ⟨rfl,hi,p⟩
 by_cases hlt:i < n
 ·exact .inr ⟨hgo i σ H hlt p,Pv (i + 1),fun σ' H' p'=>⟨n - (i + 1),by omega,rfl,hlt,p'⟩,fun x H' y=>hs i σ H x H' hlt p y⟩
 ·have e:i = n:=by omega
  subst e
  exact .inl ⟨hst σ H p,hd σ H p⟩
structure Nx (prog:Program) (w:World) (A:Around) (it:Addr) (f:List Addr) (Sa Sb:Heap -> Prop) (P:Value -> Prop):Prop where
 fra:∀ h h',Sa h -> (∀ b ∈ f,∀ o,h.get? b = some o -> h'.get? b = some o) -> Sa h'
 frb:∀ h h',Sb h -> (∀ b ∈ f,∀ o,h.get? b = some o -> h'.get? b = some o) -> Sb h'
 step:∀ (s:Shared) (Q:Value -> Shared -> Prop) (E:Value -> Shared -> Prop),Sa s.heap -> (∀ x h' tk,P x -> Sb h' -> Heap.SameBut it s.heap h' -> Q x { s with heap:=h',toks:=tk }) -> wpAny (model prog w) A (Builtin.SmallTypes.nextOf (.ref it)) Q E s
structure Nd (prog:Program) (w:World) (A:Around) (it:Addr) (f:List Addr) (Sa:Heap -> Prop):Prop where
 fra:∀ h h',Sa h -> (∀ b ∈ f,∀ o,h.get? b = some o -> h'.get? b = some o) -> Sa h'
 step:∀ (s:Shared) (Q:Value -> Shared -> Prop) (E:Value -> Shared -> Prop),Sa s.heap -> (∀ h' e,Heap.ExtBut it s.heap h' -> (∃ o,h'.get? e = some o /\ o.cls = .type "StopIteration") -> E (.ref e) { s with heap:=h' }) -> wpAny (model prog w) A (Builtin.SmallTypes.nextOf (.ref it)) Q E s
structure ZAp (z TI TO i1 i2:Addr):Prop where
 TIz:TI ≠ z
 TOz:TO ≠ z
 i1z:i1 ≠ z
 i2z:i2 ≠ z
 TITO:TI ≠ TO
 TIi1:TI ≠ i1
 TIi2:TI ≠ i2
 TOi1:TO ≠ i1
 TOi2:TO ≠ i2
 i12:i1 ≠ i2
section
variable {prog:Program} {w:World} {A:Around} {E:Value -> Shared -> Prop} {s:Shared}
theorem zip_next_itemN {z TI TO i1 i2:Addr} {f1 f2:List Addr} {Sa Sb Sc Sd:Heap -> Prop} {P1 P2:Value -> Prop} {a b:Value} {Q:Value -> Shared -> Prop} (D:ZAp z TI TO i1 i2)
  (n1:Nx prog w A i1 f1 Sa Sb P1) (n2:Nx prog w A i2 f2 Sc Sd P2) (hf1:∀ c ∈ f1,c ≠ z /\ c ≠ TO /\ c ≠ i2) (hf2:∀ c ∈ f2,c ≠ z /\ c ≠ TO /\ c ≠ i1)
  (hz:IsZip s.heap z TI TO .none) (hTI:IsPair s.heap TI (.ref i1) (.ref i2)) (hTO:IsPair s.heap TO a b) (h1:Sa s.heap) (h2:Sc s.heap)
  (hQ:∀ x y h' tk,P1 x -> P2 y -> IsZip h' z TI TO (rawInt s.heap.objs.size) -> IsPair h' TO x y -> Sb h' -> Sd h' -> IsPair h' s.heap.objs.size x y -> h'.objs.size = s.heap.objs.size + 1 ->
   (∀ c o,c ≠ z -> c ≠ TO -> c ≠ i1 -> c ≠ i2 -> s.heap.get? c = some o -> h'.get? c = some o) -> Q (.ref s.heap.objs.size) { s with heap:=h',toks:=tk }):
  wpAny (model prog w) A (Builtin.«zip.__next__» ⟨[.ref z],[]⟩) (fun fin s'=>∃ v,fin = .done (.ret v) /\ Q v s') E s:=by
 obtain ⟨hp,gs,dr,k0,os⟩:=s
 refine wpAny_bind (m:=slotArgs "__next__" 0 _) (wpAny_of_eq (a:=(Value.ref _,[])) rfl ?_)
 refine wpAny_bind (m:=field _ 2) (wpAny_field hz rfl (x:=Value.bool false) rfl (wpAny_bind (m:=field _ 3) (wpAny_field hz rfl (x:=Value.ref TI) rfl (wpAny_bind (m:=seqItems? _) (wpAny_seqItems hTI rfl ?_)))))
 refine wpAny_bind (m:=Builtin.SmallTypes.ownedTupleIsFree _) (wpAny_bind (wpAny_field hz rfl (x:=Value.none) rfl (wpAny_pure ?_)))
 refine wpAny_bind (wpAny_rule (wpAny_bind (wpAny_field hz rfl (x:=Value.ref TO) rfl (wpAny_bind (wpAny_setField_rec hz (by simp) fun g1 zg sg=>wpAny_bind ?_)))))
 simp only [List.zipIdx_cons,List.zipIdx_nil,List.forIn_cons,List.forIn_nil]
 have zg:IsZip g1 z TI TO .ellipsis:=zg
 have sg:Heap.SameBut z hp g1:=sg
 refine wpAny_bind (wpAny_bind (wpAny_onRaise (wpAny_bind (m:=Builtin.SmallTypes.nextOf (.ref i1)) (n1.step _ _ _ (n1.fra hp g1 h1 fun c hc o=>sg.extBut _ _ (hf1 c hc).1) fun x g2 k1 p1 b2 t2=>wpAny_pure ?_))))
 have t2:Heap.SameBut i1 g1 g2:=t2
 have o2:IsPair g2 TO a b:=t2.extBut _ _ D.TOi1 (sg.extBut _ _ D.TOz hTO)
 refine wpAny_bind (wpAny_seqItems o2 rfl (wpAny_bind (wpAny_updateSeq_pair o2 fun g3 o3 t3=>wpAny_bind (wpAny_letGo (wpAny_pure ?_)))))
 have o3:IsPair g3 TO x b:=o3
 have t3:Heap.SameBut TO g2 g3:=t3
 have to3:∀ c o,c ≠ z -> c ≠ TO -> c ≠ i1 -> hp.get? c = some o -> g3.get? c = some o:=fun c o e1 e2 e3 q=>t3.extBut _ _ e2 (t2.extBut _ _ e3 (sg.extBut _ _ e1 q))
 refine wpAny_bind (wpAny_bind (wpAny_onRaise (wpAny_bind (m:=Builtin.SmallTypes.nextOf (.ref i2)) (n2.step _ _ _ (n2.fra hp g3 h2 fun c hc o=>to3 c o (hf2 c hc).1 (hf2 c hc).2.1 (hf2 c hc).2.2) fun y g4 k2 p2 b4 t4=>wpAny_pure ?_))))
 have t4:Heap.SameBut i2 g3 g4:=t4
 have o4:IsPair g4 TO x b:=t4.extBut _ _ D.TOi2 o3
 refine wpAny_bind (wpAny_seqItems o4 rfl (wpAny_bind (wpAny_updateSeq_pair o4 fun g5 o5 t5=>wpAny_bind (wpAny_letGo (wpAny_pure (wpAny_pure ?_))))))
 have o5:IsPair g5 TO x y:=o5
 have t5:Heap.SameBut TO g4 g5:=t5
 have size5:g5.objs.size = hp.objs.size:=t5.1.trans (t4.1.trans (t3.1.trans (t2.1.trans sg.1)))
 have z5:IsZip g5 z TI TO .ellipsis:=t5.extBut _ _ D.TOz.symm (t4.extBut _ _ D.i2z.symm (t3.extBut _ _ D.TOz.symm (t2.extBut _ _ D.i1z.symm zg)))
 have zlt:z < g5.objs.size:=Heap.lt_size z5
 refine wpAny_bind (wpAny_seqItems o5 rfl (wpAny_bind (wpAny_newTuple (wpAny_bind (m:=Builtin.SmallTypes.ownedTupleHandOut _ _) ?_))))
 refine wpAny_bind (wpAny_setField_rec (Heap.get?_push_of_some _ z5) (by simp) fun g6 z6 t6=>wpAny_setField_rec z6 (by simp) fun g7 z7 t7=>wpAny_pure ⟨_,rfl,?_⟩)
 have t6:Heap.SameBut z (g5.push { cls:=.type "tuple",data:=.seq #[x,y] }) g6:=t6
 have t7:Heap.SameBut z g6 g7:=t7
 have z7:IsZip g7 z TI TO (rawInt g5.objs.size):=z7
 have over:∀ c o,c ≠ z -> g5.get? c = some o -> g7.get? c = some o:=fun c o e q=>t7.extBut _ _ e (t6.extBut _ _ e (Heap.get?_push_of_some _ q))
 have pair7:IsPair g7 g5.objs.size x y:=t7.extBut _ _ (Nat.ne_of_gt zlt) (t6.extBut _ _ (Nat.ne_of_gt zlt) (Heap.get?_push_size _ rfl))
 have size7:g7.objs.size = g5.objs.size + 1:=t7.1.trans (t6.1.trans (Heap.size_push ..))
 show Q (.ref g5.objs.size) _
 rw [size5] at z7 pair7 size7 ⊢
 refine hQ x y g7 k2 p1 p2 z7 (over _ _ D.TOz o5) (n1.frb g2 g7 b2 fun c hc o q=>?_) (n2.frb g4 g7 b4 fun c hc o q=>?_) pair7 size7 fun c o e1 e2 e3 e4 q=>over c o e1 (t5.extBut _ _ e2 (t4.extBut _ _ e4 (to3 c o e1 e2 e3 q)))
 ·obtain ⟨e1,e2,e3⟩:=hf1 c hc
  exact over c o e1 (t5.extBut _ _ e2 (t4.extBut _ _ e3 (t3.extBut _ _ e2 q)))
 ·obtain ⟨e1,e2,_⟩:=hf2 c hc
  exact over c o e1 (t5.extBut _ _ e2 q)
theorem zip_next_end1 {z TI TO i1 i2:Addr} {f1:List Addr} {Sa:Heap -> Prop} {Q:Fin -> Shared -> Prop} (D:ZAp z TI TO i1 i2)
  (n1:Nd prog w A i1 f1 Sa) (hf1:∀ c ∈ f1,c ≠ z /\ c ≠ TO /\ c ≠ i2)
  (hz:IsZip s.heap z TI TO .none) (hTI:IsPair s.heap TI (.ref i1) (.ref i2)) (h1:Sa s.heap)
  (hE:∀ h' e tk,(∀ c o,c ≠ z -> c ≠ TO -> c ≠ i1 -> c ≠ i2 -> s.heap.get? c = some o -> h'.get? c = some o) -> (∃ o,h'.get? e = some o /\ o.cls = .type "StopIteration") -> E (.ref e) { s with heap:=h',toks:=tk }):
  wpAny (model prog w) A (Builtin.«zip.__next__» ⟨[.ref z],[]⟩) Q E s:=by
 obtain ⟨hp,gs,dr,k0,os⟩:=s
 refine wpAny_bind (m:=slotArgs "__next__" 0 _) (wpAny_of_eq (a:=(Value.ref _,[])) rfl ?_)
 refine wpAny_bind (m:=field _ 2) (wpAny_field hz rfl (x:=Value.bool false) rfl (wpAny_bind (m:=field _ 3) (wpAny_field hz rfl (x:=Value.ref TI) rfl (wpAny_bind (m:=seqItems? _) (wpAny_seqItems hTI rfl ?_)))))
 refine wpAny_bind (m:=Builtin.SmallTypes.ownedTupleIsFree _) (wpAny_bind (wpAny_field hz rfl (x:=Value.none) rfl (wpAny_pure ?_)))
 refine wpAny_bind (wpAny_rule (wpAny_bind (wpAny_field hz rfl (x:=Value.ref TO) rfl (wpAny_bind (wpAny_setField_rec hz (by simp) fun g1 zg sg=>wpAny_bind ?_)))))
 simp only [List.zipIdx_cons,List.zipIdx_nil,List.forIn_cons,List.forIn_nil]
 have zg:IsZip g1 z TI TO .ellipsis:=zg
 have sg:Heap.SameBut z hp g1:=sg
 refine wpAny_bind (wpAny_bind (wpAny_onRaise (wpAny_bind (m:=Builtin.SmallTypes.nextOf (.ref i1)) (n1.step _ _ _ (n1.fra hp g1 h1 fun c hc o=>sg.extBut _ _ (hf1 c hc).1) fun g2 e t2 ⟨oe,qe,ce⟩=>?_))))
 have t2:Heap.ExtBut i1 g1 g2:=t2
 have z2:IsZip g2 z TI TO .ellipsis:=t2 _ _ D.i1z.symm zg
 have ne:e ≠ z:=fun q=>by subst q; rw [z2] at qe; cases qe; simp at ce
 refine wpAny_setField_rec z2 (by simp) fun g3 _ t3=>?_
 have t3:Heap.SameBut z g2 g3:=t3
 exact hE g3 e k0 (fun c o e1 _ e3 _ q=>t3.extBut _ _ e1 (t2 _ _ e3 (sg.extBut _ _ e1 q))) ⟨oe,t3.extBut _ _ ne qe,ce⟩
theorem zip_next_end2 {z TI TO i1 i2:Addr} {f1 f2:List Addr} {Sa Sb Sc:Heap -> Prop} {P1:Value -> Prop} {a b:Value} {Q:Fin -> Shared -> Prop} (D:ZAp z TI TO i1 i2)
  (n1:Nx prog w A i1 f1 Sa Sb P1) (n2:Nd prog w A i2 f2 Sc) (hf1:∀ c ∈ f1,c ≠ z /\ c ≠ TO /\ c ≠ i2) (hf2:∀ c ∈ f2,c ≠ z /\ c ≠ TO /\ c ≠ i1)
  (hz:IsZip s.heap z TI TO .none) (hTI:IsPair s.heap TI (.ref i1) (.ref i2)) (hTO:IsPair s.heap TO a b) (h1:Sa s.heap) (h2:Sc s.heap)
  (hE:∀ h' e tk,(∀ c o,c ≠ z -> c ≠ TO -> c ≠ i1 -> c ≠ i2 -> s.heap.get? c = some o -> h'.get? c = some o) -> (∃ o,h'.get? e = some o /\ o.cls = .type "StopIteration") -> E (.ref e) { s with heap:=h',toks:=tk }):
  wpAny (model prog w) A (Builtin.«zip.__next__» ⟨[.ref z],[]⟩) Q E s:=by
 obtain ⟨hp,gs,dr,k0,os⟩:=s
 refine wpAny_bind (m:=slotArgs "__next__" 0 _) (wpAny_of_eq (a:=(Value.ref _,[])) rfl ?_)
 refine wpAny_bind (m:=field _ 2) (wpAny_field hz rfl (x:=Value.bool false) rfl (wpAny_bind (m:=field _ 3) (wpAny_field hz rfl (x:=Value.ref TI) rfl (wpAny_bind (m:=seqItems? _) (wpAny_seqItems hTI rfl ?_)))))
 refine wpAny_bind (m:=Builtin.SmallTypes.ownedTupleIsFree _) (wpAny_bind (wpAny_field hz rfl (x:=Value.none) rfl (wpAny_pure ?_)))
 refine wpAny_bind (wpAny_rule (wpAny_bind (wpAny_field hz rfl (x:=Value.ref TO) rfl (wpAny_bind (wpAny_setField_rec hz (by simp) fun g1 zg sg=>wpAny_bind ?_)))))
 simp only [List.zipIdx_cons,List.zipIdx_nil,List.forIn_cons,List.forIn_nil]
 have zg:IsZip g1 z TI TO .ellipsis:=zg
 have sg:Heap.SameBut z hp g1:=sg
 refine wpAny_bind (wpAny_bind (wpAny_onRaise (wpAny_bind (m:=Builtin.SmallTypes.nextOf (.ref i1)) (n1.step _ _ _ (n1.fra hp g1 h1 fun c hc o=>sg.extBut _ _ (hf1 c hc).1) fun x g2 k1 p1 b2 t2=>wpAny_pure ?_))))
 have t2:Heap.SameBut i1 g1 g2:=t2
 have o2:IsPair g2 TO a b:=t2.extBut _ _ D.TOi1 (sg.extBut _ _ D.TOz hTO)
 refine wpAny_bind (wpAny_seqItems o2 rfl (wpAny_bind (wpAny_updateSeq_pair o2 fun g3 _ t3=>wpAny_bind (wpAny_letGo (wpAny_pure ?_)))))
 have t3:Heap.SameBut TO g2 g3:=t3
 have to3:∀ c o,c ≠ z -> c ≠ TO -> c ≠ i1 -> hp.get? c = some o -> g3.get? c = some o:=fun c o e1 e2 e3 q=>t3.extBut _ _ e2 (t2.extBut _ _ e3 (sg.extBut _ _ e1 q))
 refine wpAny_bind (wpAny_bind (wpAny_onRaise (wpAny_bind (m:=Builtin.SmallTypes.nextOf (.ref i2)) (n2.step _ _ _ (n2.fra hp g3 h2 fun c hc o=>to3 c o (hf2 c hc).1 (hf2 c hc).2.1 (hf2 c hc).2.2) fun g4 e t4 ⟨oe,qe,ce⟩=>?_))))
 have t4:Heap.ExtBut i2 g3 g4:=t4
 have z4:IsZip g4 z TI TO .ellipsis:=t4 _ _ D.i2z.symm (t3.extBut _ _ D.TOz.symm (t2.extBut _ _ D.i1z.symm zg))
 have ne:e ≠ z:=fun q=>by subst q; rw [z4] at qe; cases qe; simp at ce
 refine wpAny_setField_rec z4 (by simp) fun g5 _ t5=>?_
 have t5:Heap.SameBut z g4 g5:=t5
 exact hE g5 e k1 (fun c o e1 e2 e3 e4 q=>t5.extBut _ _ e1 (t4 _ _ e4 (to3 c o e1 e2 e3 q))) ⟨oe,t5.extBut _ _ ne qe,ce⟩
theorem pyNext_zip_item {z:Addr} {o:Obj} {Q:Option Value -> Shared -> Prop} (hz:s.heap.get? z = some o) (hc:o.cls = .type "zip")
  (h:wpAny (model prog w) A.in1 (Builtin.«zip.__next__» ⟨[.ref z],[]⟩) (fun fin s'=>∃ v,fin = .done (.ret v) /\ Q (some v) s') (fun _ _=>False) s):wpAny (model prog w) A (pyNext (.ref z)) Q E s:=by
 have hT:s.TypeIs (.ref z) "zip" := ⟨_,hz,hc⟩
 unfold pyNext
 exact wpAny_bind (wpAny_attempt (wpAny_callSpecial?_slot (name:=Str.ofString "__next__") hT F.slot_zip_next
  (wpAny_call_entry F.slot_zip_next hT F.entry_zip_next (wpAny_mono h (fun fin s' ⟨v,e,q⟩=>⟨v,e,wpAny_pure q⟩) fun _ _ f=>f.elim) (F.args_zip_next_1 _))))
theorem pyNext_zip_end {z:Addr} {o:Obj} {Q:Option Value -> Shared -> Prop} (hz:s.heap.get? z = some o) (hc:o.cls = .type "zip")
  (h:wpAny (model prog w) A.in1 (Builtin.«zip.__next__» ⟨[.ref z],[]⟩) (fun _ _=>False) (fun e s'=>∃ a,e = .ref a /\ (∃ o,s'.heap.get? a = some o /\ o.cls = .type "StopIteration") /\ Q none s') s):wpAny (model prog w) A (pyNext (.ref z)) Q E s:=by
 have hT:s.TypeIs (.ref z) "zip" := ⟨_,hz,hc⟩
 unfold pyNext
 refine wpAny_bind (wpAny_attempt (wpAny_callSpecial?_slot (name:=Str.ofString "__next__") hT F.slot_zip_next
  (wpAny_call_entry F.slot_zip_next hT F.entry_zip_next (wpAny_mono h (fun _ _ f=>f.elim) fun e s' he=>?_) (F.args_zip_next_1 _))))
 obtain ⟨a,rfl,⟨o,ho,hc⟩,q⟩:=he
 refine wpAny_bind (wpAny_isInstance (T := "StopIteration") (b:=true) ⟨o,ho,hc⟩ isSubtype_stop ?_)
 exact wpAny_pure q
end
inductive Src where
 | str (x:Str) | lst (a:Addr)
noncomputable def SrcGo (K:Frag) (H:Hp):Src -> Nat -> Prop
 | .str x,i=>i < x.cps.size
 | .lst a,i=>∃ xs v,SqL K H a xs /\ xs[i]? = some v
noncomputable def SrcAt (K:Frag) (H:Hp):Src -> Nat -> V -> Prop
 | .str x,i,v=>∃ c,x.cps[i]? = some c /\ v = .str ⟨#[c]⟩
 | .lst a,i,v=>∀ xs,SqL K H a xs -> xs[i]? = some v
noncomputable def SrcEnd (K:Frag) (H:Hp):Src -> Nat -> Prop
 | .str x,i=>x.cps.size <= i
 | .lst a,i=>∃ xs,SqL K H a xs /\ xs.length <= i
noncomputable def SrcIt (h:Heap):Src -> Addr -> Nat -> Prop
 | .str x,it,i=>∃ t,h.IsStrIter it (strIterType x) x t i
 | .lst a,it,i=>h.IsListIter it a i
noncomputable def SrcOf (K:Frag) (H:Hp):Src -> V -> Prop
 | .str x,v=>v = .str x
 | .lst a,v=>v = .ref a /\ ∃ xs,SqL K H a xs
theorem SrcIt.obj {h:Heap} {S:Src} {it:Addr} {i:Nat} (st:SrcIt h S it i):∃ o,h.get? it = some o /\ (∀ v,o.data ≠ .cell v) /\ o.cls ≠ .type "list" /\ o.cls ≠ .type "zip" /\ o.cls ≠ .type "tuple" := by
 cases S with
 | str x=>
  obtain ⟨t,o,e,c,d⟩:=st
  refine ⟨o,e,(fun v z=>by rw [d] at z; cases z),?_⟩
  rw [c]
  rcases strIterType_cases x with q | q <;> rw [q] <;> decide
 | lst a=>
  obtain ⟨o,e,c,d⟩:=(show h.IsListIter it a i from st)
  refine ⟨o,e,(fun v z=>by rw [d] at z; cases z),?_⟩
  rw [c]
  decide
theorem SrcIt.keep {h h':Heap} {S:Src} {it:Addr} {i:Nat} (st:SrcIt h S it i) (k:∀ o,h.get? it = some o -> h'.get? it = some o):SrcIt h' S it i:=by
 cases S with
 | str x=>
  obtain ⟨t,o,e,r⟩:=st
  exact ⟨t,o,k o e,r⟩
 | lst a=>exact Heap.IsListIter.at (show h.IsListIter it a i from st) k
section
variable {X:Cx} {pins:List (Addr × Obj)} {σ:St} {H:Hp} {s:Shared} {A:Around}
theorem src_nx (I:Inv X pins σ H s) (S:Src) {it:Addr} {i:Nat} (st:SrcIt s.heap S it i) (go:SrcGo X.K H S i):
  ∃ (f:List Addr) (Sa Sb:Heap -> Prop) (P:Value -> Prop),Nx X.prog X.w A it f Sa Sb P /\ Sa s.heap /\ (∀ c ∈ f,c = it \/ ∃ o,s.heap.get? c = some o /\ o.cls = .type "list") /\ (∀ h,Sb h -> SrcIt h S it (i + 1)) /\ ∀ v,P v -> ∃ x,RelV x v /\ SrcAt X.K H S i x:=by
 cases S with
 | str x=>
  obtain ⟨t,st⟩:=st
  have hi:i < x.cps.size:=go
  refine ⟨[it],fun h=>h.IsStrIter it (strIterType x) x t i,fun h=>h.IsStrIter it (strIterType x) x t (i + 1),fun v=>∃ u,v = .str ⟨#[x.cps[i]]⟩ u,⟨?_,?_,?_⟩,st,fun c hc=>.inl (by simpa using hc),fun h q=>⟨t,q⟩,?_⟩
  ·rintro h h' ⟨o,e,r⟩ k
   exact ⟨o,k it (by simp) o e,r⟩
  ·rintro h h' ⟨o,e,r⟩ k
   exact ⟨o,k it (by simp) o e,r⟩
  ·intro s Q E st hQ
   exact nextOf_str_item st (c:=x.cps[i]) (by simp [hi]) fun h' st' sb=>hQ _ h' _ ⟨_,rfl⟩ st' sb
  ·rintro v ⟨u,rfl⟩
   exact ⟨.str ⟨#[x.cps[i]]⟩,⟨u,rfl⟩,_,by simp [hi],rfl⟩
 | lst a=>
  obtain ⟨xs,v,hq,hv⟩:=go
  obtain ⟨its,rv,pl,hz⟩:=I.list hq
  obtain ⟨u,hu,ru⟩:=rv.get hv
  have st':s.heap.IsListIter it a i:=st
  obtain ⟨o,e,c,n,hd⟩:=id pl.isList
  have hne:a ≠ it:=by
   rintro rfl
   obtain ⟨o',e',c',_⟩:=st'
   rw [e] at e'
   cases e'
   rw [c] at c'
   exact absurd c' (by decide)
  refine ⟨[it,a],fun h=>h.IsListIter it a i /\ h.IsList a its.toArray,fun h=>h.IsListIter it a (i + 1) /\ h.IsList a its.toArray,fun z=>z = u,⟨?_,?_,?_⟩,⟨st',pl.isList⟩,?_,fun h q=>q.1,?_⟩
  ·rintro h h' ⟨s1,s2⟩ k
   exact ⟨s1.at fun o e=>k it (by simp) o e,s2.at fun o e=>k a (by simp) o e⟩
  ·rintro h h' ⟨s1,s2⟩ k
   exact ⟨s1.at fun o e=>k it (by simp) o e,s2.at fun o e=>k a (by simp) o e⟩
  ·intro s Q E st hQ
   exact wpAny_nextOf_list_item st.1 st.2 (x:=u) (by simpa using hu) fun h' st' sb=>hQ _ h' s.toks rfl ⟨st',st.2.extBut sb.extBut hne⟩ sb
  ·intro c' hc
   rcases (by simpa using hc:c' = it \/ c' = a) with z | z
   ·exact .inl z
   ·subst z
    exact .inr ⟨o,e,c⟩
  ·rintro z rfl
   exact ⟨v,ru,fun ys hy=>by rw [I.list_inj hy hq]; exact hv⟩
theorem src_nd (I:Inv X pins σ H s) (hh:A.handled = none) (S:Src) {it:Addr} {i:Nat} (st:SrcIt s.heap S it i) (en:SrcEnd X.K H S i):
  ∃ (f:List Addr) (Sa:Heap -> Prop),Nd X.prog X.w A it f Sa /\ Sa s.heap /\ (∀ c ∈ f,c = it \/ ∃ o,s.heap.get? c = some o /\ o.cls = .type "list"):=by
 cases S with
 | str x=>
  obtain ⟨t,st⟩:=st
  have hi:x.cps.size <= i:=en
  refine ⟨[it],fun h=>h.IsStrIter it (strIterType x) x t i,⟨?_,?_⟩,st,fun c hc=>.inl (by simpa using hc)⟩
  ·rintro h h' ⟨o,e,r⟩ k
   exact ⟨o,k it (by simp) o e,r⟩
  ·intro s Q E st hE
   exact nextOf_str_end hh st (by simp [hi]) hE
 | lst a=>
  obtain ⟨xs,hq,hv⟩:=en
  obtain ⟨its,rv,pl,hz⟩:=I.list hq
  have st':s.heap.IsListIter it a i:=st
  obtain ⟨o,e,c,n,hd⟩:=id pl.isList
  have hl:=rv.length
  refine ⟨[it,a],fun h=>h.IsListIter it a i /\ h.IsList a its.toArray,⟨?_,?_⟩,⟨st',pl.isList⟩,?_⟩
  ·rintro h h' ⟨s1,s2⟩ k
   exact ⟨s1.at fun o e=>k it (by simp) o e,s2.at fun o e=>k a (by simp) o e⟩
  ·intro s Q E st hE
   exact wpAny_nextOf_list_end hh st.1 st.2 (by simp; omega) hE
  ·intro c' hc
   rcases (by simpa using hc:c' = it \/ c' = a) with z | z
   ·exact .inl z
   ·subst z
    exact .inr ⟨o,e,c⟩
theorem Inv.turnedLaid {t':Nat} {its:List Addr} {h':Heap} {a:Addr} {o:HO} (I:Inv X pins σ H s) (k:∀ b ob,b ∉ its -> s.heap.get? b = some ob -> h'.get? b = some ob) (hf:∀ b ∈ its,FpOk X pins H b) (hp:s.heap.objs.size <= a)
  (new:ObjOk X.prog X.w (upd H a o) h' a o) (ht:0 < t':=by first | assumption | exact Nat.succ_pos _ | (apply Inv.tk; assumption) | omega):Inv X pins σ (upd H a o) { s with heap:=h',toks:=t' }:=by
 have hn:H a = none:=I.hok.fresh hp
 have nit:∀ b u,H b = some u -> b ∉ its:=fun b u e z=>by
  have q:=(hf b z).1
  rw [q] at e
  cases e
 have nea:∀ b ob,s.heap.get? b = some ob -> b ≠ a:=fun b ob e=>Nat.ne_of_lt (Nat.lt_of_lt_of_le (Heap.lt_size e) hp)
 refine I.step (g':=s.gens) (d':=s.drawn) (ch:=its) (fun b hb=>?_) (fun b o _ _ hc e _=>k b o hc e) (fun b o _ _ hc e _=>⟨o.slots,k b o hc e⟩) (fun b ob _ e n=>by rw [upd_ne (nea b ob e)]; exact n)
  (fun b o hc e=>⟨o,k b o hc e⟩) (fun _ _ e=>by rw [upd_ne (ne_of_none e hn)]; exact e) (fun _ _ _ e=>by rw [upd_ne (ne_of_none e hn)]; exact e) (fun b ps e=>⟨#[],by rw [upd_ne (ne_of_none e hn),e]; simp⟩) (fun m hm=>?_) (fun b u e=>?_) I.bare
 ·obtain ⟨f0,f1,f2,f3,f4,f5⟩:=hf b hb
  exact ⟨f3,f1,f4,f5⟩
 ·obtain ⟨o,es,ep,ho,r⟩:=hm
  exact ⟨o,es,ep,k _ o (fun z=>(hf _ z).2.1 rfl) ho,r⟩
 ·by_cases hb:b = a
  ·subst hb
   rw [upd_same] at e
   cases e
   exact new
  ·rw [upd_ne hb] at e
   refine (I.hok b u e).stay (fun c v hc q=>k c v ?_ q) (fun c q=>by rw [upd_ne (ne_of_none q hn)]; exact q) fun c xs q=>by rw [upd_ne (ne_of_none q hn)]; exact q
   rcases hc with z | z
   ·rw [z]; exact nit b u e
   ·exact nit c _ z
end
noncomputable def Itz (K:Frag) (S1 S2:Src):It:=⟨fun i H=>SrcGo K H S1 i /\ SrcGo K H S2 i,fun i H v H'=>∃ T x y,v = .ref T /\ H T = none /\ H' = upd H T (.tup [x,y]) /\ SrcAt K H S1 i x /\ SrcAt K H S2 i y,
 fun i H=>SrcEnd K H S1 i \/ (SrcGo K H S1 i /\ SrcEnd K H S2 i)⟩
def ZipSt (z TI TO i1 i2:Addr) (S1 S2:Src) (i:Nat) (h:Heap):Prop:=∃ a b,IsZip h z TI TO .none /\ IsPair h TI (.ref i1) (.ref i2) /\ IsPair h TO a b /\ SrcIt h S1 i1 i /\ SrcIt h S2 i2 i
theorem off_of {h:Heap} {f:List Addr} {z TI TO i1 i2:Addr} {a b:Value} {S2:Src} {k:Nat} (hz:IsZip h z TI TO .none) (hTO:IsPair h TO a b) (h2:SrcIt h S2 i2 k) (n1:i1 ≠ z) (n2:i1 ≠ TO) (n3:i1 ≠ i2)
  (m:∀ c ∈ f,c = i1 \/ ∃ o,h.get? c = some o /\ o.cls = .type "list"):∀ c ∈ f,c ≠ z /\ c ≠ TO /\ c ≠ i2:=fun c hc=>by
 rcases m c hc with e | ⟨o,e,c1⟩
 ·subst e
  exact ⟨n1,n2,n3⟩
 ·refine ⟨?_,?_,?_⟩
  ·rintro rfl
   rw [hz] at e
   cases e
   exact absurd (show Value.type "zip" = Value.type "list" from c1) (by decide)
  ·rintro rfl
   rw [hTO] at e
   cases e
   exact absurd (show Value.type "tuple" = Value.type "list" from c1) (by decide)
  ·rintro rfl
   obtain ⟨o',e',_,q,_⟩:=h2.obj
   rw [e] at e'
   cases e'
   exact q c1
theorem turn_zip {P:Program} {w:World} {K:Frag} {elts:List Expr} {kk:Nat} {pos:Pos} {z TI TO i1 i2:Addr} (D:ZAp z TI TO i1 i2) (S1 S2:Src):
  Turn P w K (.Tuple elts kk pos) (Itz K S1 S2) [z,TI,TO,i1,i2] z (ZipSt z TI TO i1 i2 S1 S2) where
 mem:=by simp
 obj:=fun i h st b hb=>by
  obtain ⟨a,c,hz,hTI,hTO,h1,h2⟩:=st
  simp only [List.mem_cons,List.not_mem_nil,or_false] at hb
  rcases hb with rfl | rfl | rfl | rfl | rfl
  ·exact ⟨_,hz,fun v q=>by have q':Data.fields _ = Data.cell v:=q; cases q'⟩
  ·exact ⟨_,hTI,fun v q=>by have q':Data.seq _ _ = Data.cell v:=q; cases q'⟩
  ·exact ⟨_,hTO,fun v q=>by have q':Data.seq _ _ = Data.cell v:=q; cases q'⟩
  ·obtain ⟨o,e,q,_⟩:=h1.obj
   exact ⟨o,e,q⟩
  ·obtain ⟨o,e,q,_⟩:=h2.obj
   exact ⟨o,e,q⟩
 keep:=fun i h h' st k=>by
  obtain ⟨a,c,hz,hTI,hTO,h1,h2⟩:=st
  exact ⟨a,c,k z (by simp) _ hz,k TI (by simp) _ hTI,k TO (by simp) _ hTO,h1.keep fun o e=>k i1 (by simp) o e,h2.keep fun o e=>k i2 (by simp) o e⟩
 item:=by
  intro X hP hw hK hc i pins s σ H E I hf st hg
  subst hP hw hK
  obtain ⟨a,b,hz,hTI,hTO,h1,h2⟩:=st
  obtain ⟨g1,g2⟩:=hg
  obtain ⟨f1,Sa,Sb,P1,n1,a1,m1,b1,r1⟩:=src_nx (A:=X.A.in1) I S1 h1 g1
  obtain ⟨f2,Sc,Sd,P2,n2,a2,m2,b2,r2⟩:=src_nx (A:=X.A.in1) I S2 h2 g2
  refine tokQ I.tk (pyNext_zip_item hz rfl (zip_next_itemN D n1 n2 (off_of hz hTO h2 D.i1z D.TOi1.symm D.i12 m1) (off_of hz hTO h1 D.i2z D.TOi2.symm D.i12.symm m2) hz hTI hTO a1 a2 fun x y h' tk p1 p2 z1 z2 q1 q2 z3 z4 kp (htk:0 < tk)=>?_))
  obtain ⟨vx,rx,ax⟩:=r1 x p1
  obtain ⟨vy,ry,ay⟩:=r2 y p2
  have fresh:H s.heap.objs.size = none:=I.hok.fresh (Nat.le_refl _)
  have off:∀ {c o},s.heap.get? c = some o -> c ≠ s.heap.objs.size:=fun e=>Nat.ne_of_lt (Heap.lt_size e)
  refine ⟨_,rfl,wpAny_letOwnedTupleGo_zip z1 fun h'' z1' sb=>?_⟩
  replace sb:Heap.SameBut z h' h'':=sb
  have hT:IsPair h'' s.heap.objs.size x y:=sb.extBut _ _ (Ne.symm (off hz)) z3
  have I1:Inv X pins σ (upd H s.heap.objs.size (.tup [vx,vy])) { s with heap:=h'',toks:=tk }:=by
   refine I.turnedLaid (its:=[z,TO,i1,i2]) (fun c o hc' e=>?_) (fun c hc'=>hf c ?_) (Nat.le_refl _) ?_
   ·simp only [List.mem_cons,List.not_mem_nil,or_false,not_or] at hc'
    exact sb.extBut _ _ hc'.1 (kp c o hc'.1 hc'.2.1 hc'.2.2.1 hc'.2.2.2 e)
   ·simp only [List.mem_cons,List.not_mem_nil,or_false] at hc' ⊢
    rcases hc' with q | q | q | q
    ·exact .inl q
    ·exact .inr (.inr (.inl q))
    ·exact .inr (.inr (.inr (.inl q)))
    ·exact .inr (.inr (.inr (.inr q)))
   ·exact ⟨by show 2 <= sizeLine; decide,[x,y],.cons rx (.cons ry .nil),_,hT,rfl,_,rfl⟩
  refine ⟨.ref s.heap.objs.size,_,I1,rfl,⟨_,vx,vy,rfl,fresh,rfl,ax,ay⟩,⟨x,y,z1',?_,?_,?_,?_⟩,fun c hc'=>?_⟩
  ·exact sb.extBut _ _ D.TIz (kp _ _ D.TIz D.TITO D.TIi1 D.TIi2 hTI)
  ·exact sb.extBut _ _ D.TOz z2
  ·exact (b1 h' q1).keep fun o e=>sb.extBut _ _ D.i1z e
  ·exact (b2 h' q2).keep fun o e=>sb.extBut _ _ D.i2z e
  ·have ne:c ≠ s.heap.objs.size:=by
    simp only [List.mem_cons,List.not_mem_nil,or_false] at hc'
    rcases hc' with rfl | rfl | rfl | rfl | rfl
    ·exact off hz
    ·exact off hTI
    ·exact off hTO
    ·obtain ⟨o,e,_⟩:=h1.obj
     exact off e
    ·obtain ⟨o,e,_⟩:=h2.obj
     exact off e
   rw [upd_ne ne]
   exact (hf c hc').1
 done:=by
  intro X hP hw hK hc i pins s σ H E I hf st hg
  subst hP hw hK
  obtain ⟨a,b,hz,hTI,hTO,h1,h2⟩:=st
  have hh:X.A.in1.handled = none:=I.ok.hd hc
  have fin:∀ (h':Heap) (tk:Nat),0 < tk -> (∀ c o,c ≠ z -> c ≠ TO -> c ≠ i1 -> c ≠ i2 -> s.heap.get? c = some o -> h'.get? c = some o) -> Inv X pins σ H { s with heap:=h',toks:=tk }:=fun h' tk htk kp=>
   I.turnedL (its:=[z,TO,i1,i2]) (fun c o hc' e=>by
    simp only [List.mem_cons,List.not_mem_nil,or_false,not_or] at hc'
    exact kp c o hc'.1 hc'.2.1 hc'.2.2.1 hc'.2.2.2 e) (fun c hc'=>hf c (by
    simp only [List.mem_cons,List.not_mem_nil,or_false] at hc' ⊢
    rcases hc' with q | q | q | q
    ·exact .inl q
    ·exact .inr (.inr (.inl q))
    ·exact .inr (.inr (.inr (.inl q)))
    ·exact .inr (.inr (.inr (.inr q)))))
  rcases hg with e1 | ⟨g1,e2⟩
  ·obtain ⟨f1,Sa,n1,a1,m1⟩:=src_nd I hh S1 h1 e1
   exact tokQ I.tk (pyNext_zip_end hz rfl (zip_next_end1 D n1 (off_of hz hTO h2 D.i1z D.TOi1.symm D.i12 m1) hz hTI a1 fun h' e tk kp he=>⟨e,rfl,he,fun htk=>⟨rfl,fin h' tk htk kp⟩⟩))
  ·obtain ⟨f1,Sa,Sb,P1,n1,a1,m1,b1,r1⟩:=src_nx (A:=X.A.in1) I S1 h1 g1
   obtain ⟨f2,Sc,n2,a2,m2⟩:=src_nd I hh S2 h2 e2
   exact tokQ I.tk (pyNext_zip_end hz rfl (zip_next_end2 D n1 n2 (off_of hz hTO h2 D.i1z D.TOi1.symm D.i12 m1) (off_of hz hTO h1 D.i2z D.TOi2.symm D.i12.symm m2) hz hTI hTO a1 a2 fun h' e tk kp he=>⟨e,rfl,he,fun htk=>⟨rfl,fin h' tk htk kp⟩⟩))
 self:=fun _ _ _ _ _ st h=>by
  obtain ⟨a,b,hz,_⟩:=st
  exact wpAny_pyIter_zip hz h
noncomputable def srcVal:Src -> Tok -> Value
 | .str x,t=>.str x t
 | .lst a,_=>.ref a
noncomputable def srcObj:Src -> Tok -> Obj
 | .str x,t=>{ cls:=.type (strIterType x),data:=.fields #[.str x t,.int 0 0] }
 | .lst a,_=>{ cls:=.type "list_iterator",data:=.fields #[.ref a,.int 0 0] }
noncomputable def srcOk (h:Heap):Src -> Prop
 | .str _=>True
 | .lst a=>∃ its,h.IsList a its
theorem srcOk.push {h:Heap} {S:Src} (ok:srcOk h S) (o:Obj):srcOk (h.push o) S:=by
 cases S with
 | str x=>trivial
 | lst a=>
  obtain ⟨its,q⟩:=ok
  exact ⟨its,Heap.IsList.push q _⟩
theorem srcObj_freed (S:Src) (t:Tok):(srcObj S t).isFreed = false:=by cases S <;> rfl
theorem srcObj_it {h:Heap} {S:Src} {t:Tok} {it:Addr} (e:h.get? it = some (srcObj S t)):SrcIt h S it 0:=by
 cases S with
 | str x=>exact ⟨t,_,e,rfl,rfl⟩
 | lst a=>exact ⟨_,e,rfl,rfl⟩
section
variable {prog:Program} {w:World} {A:Around} {E:Value -> Shared -> Prop} {s:Shared}
theorem pyIter_src {S:Src} {t:Tok} {Q:Value -> Shared -> Prop} (ok:srcOk s.heap S) (hQ:Q (.ref s.heap.objs.size) { s with heap:=s.heap.push (srcObj S t) }):wpAny (model prog w) A (pyIter (srcVal S t)) Q E s:=by
 cases S with
 | str x=>exact wpAny_pyIter_strU hQ
 | lst a=>
  obtain ⟨its,q⟩:=ok
  exact wpAny_pyIter_list q hQ
end
noncomputable abbrev zH1 (h:Heap) (S1:Src) (t1:Tok):Heap:=h.push (srcObj S1 t1)
noncomputable abbrev zH2 (h:Heap) (S1 S2:Src) (t1 t2:Tok):Heap:=(zH1 h S1 t1).push (srcObj S2 t2)
noncomputable abbrev zH3 (h:Heap) (S1 S2:Src) (t1 t2:Tok):Heap:=(zH2 h S1 S2 t1 t2).push { cls:=.type "tuple",data:=.seq #[.ref h.objs.size,.ref (zH1 h S1 t1).objs.size] }
noncomputable abbrev zH4 (h:Heap) (S1 S2:Src) (t1 t2:Tok):Heap:=(zH3 h S1 S2 t1 t2).push { cls:=.type "tuple",data:=.seq #[.none,.none] }
noncomputable abbrev zH5 (h:Heap) (S1 S2:Src) (t1 t2:Tok):Heap:=(zH4 h S1 S2 t1 t2).push { cls:=.type "zip",data:=.fields #[.none,.bool false,.bool false,.ref (zH2 h S1 S2 t1 t2).objs.size,.ref (zH3 h S1 S2 t1 t2).objs.size] }
theorem meets_zip_newS (S1 S2:Src) (t1 t2:Tok):
  Meets (Builtin.«zip.__new__» ⟨[.type "zip",srcVal S1 t1,srcVal S2 t2],[]⟩) (fun _ R s=>srcOk s.heap S1 /\ srcOk s.heap S2 /\
   R (.ok (.ret (.ref (zH4 s.heap S1 S2 t1 t2).objs.size))) { s with heap:=zH5 s.heap S1 S2 t1 t2 }):=
 .of_wp fun prog w A R s h=>by
  obtain ⟨hp,g,d,tk,os⟩:=s; obtain ⟨hl1,hl2,h⟩:=h
  have hsub:=sub_zip
  have hL1:srcOk (Shared.heap ⟨hp,g,d,tk,os⟩) S1:=hl1
  have hL2:srcOk (Shared.heap ⟨hp.push (srcObj S1 t1),g,d,tk,os⟩) S2:=hl2.push _
  wp_walk using pyIter_src hL1,pyIter_src hL2
  exact ⟨_,rfl,h⟩
section
variable {prog:Program} {w:World} {A:Around} {E:Value -> Shared -> Prop} {s:Shared}
theorem call_zipS {S1 S2:Src} {t1 t2:Tok} {Q:Value -> Shared -> Prop} (hl1:srcOk s.heap S1) (hl2:srcOk s.heap S2)
  (h:∀ h',ZipSt (s.heap.objs.size + 4) (s.heap.objs.size + 2) (s.heap.objs.size + 3) s.heap.objs.size (s.heap.objs.size + 1) S1 S2 0 h' -> (∀ c o,s.heap.get? c = some o -> h'.get? c = some o) -> Q (.ref (s.heap.objs.size + 4)) { s with heap:=h' }):
  wpAny (model prog w) A (call (.type "zip") [srcVal S1 t1,srcVal S2 t2]) Q E s:=by
 refine callType_new F.called_zip (by decide) (F.typeCall_zip_2 _ _) (F.newCall_zip_2 _ _) (fun obj=>F.args_object_init_3 obj _ _) F.entry_zip_new
  (meets_zip_newS S1 S2 t1 t2) ⟨hl1,hl2,?_⟩
 have z1:(zH1 s.heap S1 t1).objs.size = s.heap.objs.size + 1:=Heap.size_push ..
 have z2:(zH2 s.heap S1 S2 t1 t2).objs.size = s.heap.objs.size + 2:=by rw [Heap.size_push,z1]
 have z3:(zH3 s.heap S1 S2 t1 t2).objs.size = s.heap.objs.size + 3:=by rw [Heap.size_push,z2]
 have z4:(zH4 s.heap S1 S2 t1 t2).objs.size = s.heap.objs.size + 4:=by rw [Heap.size_push,z3]
 have g5:(zH5 s.heap S1 S2 t1 t2).get? (zH4 s.heap S1 S2 t1 t2).objs.size = some _:=Heap.get?_push_size _ rfl
 have g4:(zH5 s.heap S1 S2 t1 t2).get? (zH3 s.heap S1 S2 t1 t2).objs.size = some _:=Heap.get?_push_of_some _ (Heap.get?_push_size _ rfl)
 have g3:(zH5 s.heap S1 S2 t1 t2).get? (zH2 s.heap S1 S2 t1 t2).objs.size = some _:=Heap.get?_push_of_some _ (Heap.get?_push_of_some _ (Heap.get?_push_size _ rfl))
 have g2:(zH5 s.heap S1 S2 t1 t2).get? (zH1 s.heap S1 t1).objs.size = some (srcObj S2 t2):=Heap.get?_push_of_some _ (Heap.get?_push_of_some _ (Heap.get?_push_of_some _ (Heap.get?_push_size _ (srcObj_freed _ _))))
 have g1:(zH5 s.heap S1 S2 t1 t2).get? s.heap.objs.size = some (srcObj S1 t1):=Heap.get?_push_of_some _ (Heap.get?_push_of_some _ (Heap.get?_push_of_some _ (Heap.get?_push_of_some _ (Heap.get?_push_size _ (srcObj_freed _ _)))))
 show _ /\ _
 rw [z2,z3,z4] at g5
 rw [z1,z2] at g3
 rw [z3] at g4
 rw [z1] at g2
 rw [z4]
 exact ⟨⟨_,g5,rfl⟩,h _ ⟨_,_,g5,g3,g4,srcObj_it g1,srcObj_it g2⟩ fun c o x=>
  Heap.get?_push_of_some _ (Heap.get?_push_of_some _ (Heap.get?_push_of_some _ (Heap.get?_push_of_some _ (Heap.get?_push_of_some _ x))))⟩
theorem zap_new (n:Nat):ZAp (n + 4) (n + 2) (n + 3) n (n + 1):=by
 constructor <;> exact fun h=>absurd (show (_:Nat) = _ from h) (by omega)
end
noncomputable def iZip (K:Frag) (ta:TA):TI:=fun σ H R=>ta σ H fun vs H1=>∃ S1 S2 v1 v2,vs = [v1,v2] /\ SrcOf K H1 S1 v1 /\ SrcOf K H1 S2 v2 /\ R (Itz K S1 S2) H1
section
variable {X:Cx}
theorem srcOf_val {pins:List (Addr × Obj)} {σ:St} {H:Hp} {s:Shared} {S:Src} {v:V} {u:Value} (I:Inv X pins σ H s) (h:SrcOf X.K H S v) (r:RelV v u):∃ t,u = srcVal S t /\ srcOk s.heap S:=by
 cases S with
 | str x=>
  have e:v = .str x:=h
  subst e
  obtain ⟨t,rfl⟩:=r
  exact ⟨t,rfl,trivial⟩
 | lst a=>
  obtain ⟨e,xs,hq⟩:=h
  subst e
  cases r
  obtain ⟨its,rv,pl,hz⟩:=I.list hq
  exact ⟨0,rfl,_,pl.isList⟩
theorem boot_zip:bootBuiltins "zip" = some (.type "zip"):=by decide +kernel
theorem pi_zip {a b:Expr} {ta:TA} {elts:List Expr} {kk:Nat} {tpos p pos:Pos} (hg:Gl X "zip") (hm:X.mg "zip" = none) (ha:PA X [a,b] ta) (hs:starEach [a,b] X.env = [(false,eval a X.env),(false,eval b X.env)]:=by rfl) (hs2:starEach [b] X.env = [(false,eval b X.env)]:=by rfl):
  PI X (.Tuple elts kk tpos) (.Call (.Name "zip" p) [a,b] [] pos) (iZip X.K ta):=by
 intro pins s σ H R I h
 refine Call_ (ld_blt I hg hm boot_zip (PyProof.Rows.callWith_type1 (thn (ha pos pins s σ H _ I h) fun us s1 ⟨vs,H1,I1,r1,q1⟩=>?_) (by rw [hs,hs2]) (by rw [hs2]; rfl)))
 obtain ⟨S1,S2,v1,v2,e,o1,o2,q⟩:=q1
 subst e
 cases r1 with
 | cons r rr=>
  cases rr with
  | cons r' rr=>
   cases rr
   obtain ⟨t1,rfl,k1⟩:=srcOf_val I1 o1 r
   obtain ⟨t2,rfl,k2⟩:=srcOf_val I1 o2 r'
   refine call_zipS k1 k2 fun h' st kp=>?_
   have I2:Inv X pins σ H1 { s1 with heap:=h' }:=I1.kept (t':=s1.toks) kp
   have st':=st
   obtain ⟨_,_,hz,_⟩:=st'
   refine wpAny_pyIter_zip hz ?_
   refine ⟨_,_,_,Itz X.K S1 S2,H1,rfl,I2,turn_zip (zap_new _) S1 S2,st,fun c hc=>?_,q⟩
   have hc':s1.heap.objs.size <= c:=by
    simp only [List.mem_cons,List.not_mem_nil,or_false] at hc
    rcases hc with rfl | rfl | rfl | rfl | rfl <;> omega
   exact I1.fpOk hc' (I1.hok.fresh hc')
end
noncomputable def clOf (cells:List (Str × Addr)):List (Str × NameKind) -> List (Str × Addr) -> List (Str × Addr)
 | [],cs=>cs
 | (n,k) :: r,cs=>clOf cells r (if (k == NameKind.free) = true then (n,(cells.lookup n).getD 0) :: cs else cs)
theorem closureFor_some {scope:Scope} {env:Env} (h:∀ y ∈ scope.names,y.2 = .free -> ∃ c,env.cells.lookup y.1 = some c):closureFor scope env = pure (clOf env.cells scope.names []):=by
 unfold closureFor
 have key:∀ (names:List (Str × NameKind)) (cs:List (Str × Addr)),(∀ y ∈ names,y.2 = .free -> ∃ c,env.cells.lookup y.1 = some c) ->
   (forIn names cs (fun x r=>match x with
    | (name,kind)=>if (kind == NameKind.free) = true then (do let __do_lift <- cellOf env name; pure (ForInStep.yield ((name,__do_lift) :: r))) else pure (ForInStep.yield r)):Sem (List (Str × Addr))) = pure (clOf env.cells names cs):=by
  intro names
  induction names with
  | nil=>intro cs _; rfl
  | cons y r ih=>
   intro cs hy
   obtain ⟨n,k⟩:=y
   rw [List.forIn_cons]
   have hr:∀ y ∈ r,y.2 = .free -> ∃ c,env.cells.lookup y.1 = some c:=fun y hm=>hy y (List.mem_cons_of_mem _ hm)
   cases hk:(k == NameKind.free) with
   | true=>
    have hk':k = .free:=by simpa using hk
    obtain ⟨c,hc⟩:=hy (n,k) List.mem_cons_self hk'
    have ec:cellOf env n = pure c:=by unfold cellOf; rw [hc]
    have e1:(clOf env.cells ((n,k) :: r) cs) = clOf env.cells r ((n,c) :: cs):=by
     show clOf env.cells r (if (k == NameKind.free) = true then (n,(env.cells.lookup n).getD 0) :: cs else cs) = _
     rw [hk,if_pos rfl,show env.cells.lookup n = some c from hc]
     rfl
    rw [e1,<- ih _ hr]
    simp only [ec,hk,if_true,pure_bind]
   | false=>
    have e1:(clOf env.cells ((n,k) :: r) cs) = clOf env.cells r cs:=by
     show clOf env.cells r (if (k == NameKind.free) = true then (n,(env.cells.lookup n).getD 0) :: cs else cs) = _
     rw [hk,if_neg Bool.false_ne_true]
    rw [e1,<- ih _ hr]
    simp only [hk,Bool.false_eq_true,if_false,pure_bind]
 have q:=key scope.names [] h
 first
  | exact q
  | (simp only [bind_pure]; exact q)
  | (rw [q]; rfl)
theorem clOf_sound {cells:List (Str × Addr)} {x:Str} {c:Addr}:∀ (names:List (Str × NameKind)) (cs:List (Str × Addr)),(∀ y ∈ names,y.2 = .free -> ∃ c,cells.lookup y.1 = some c) -> (∀ x c,cs.lookup x = some c -> cells.lookup x = some c) ->
  (clOf cells names cs).lookup x = some c -> cells.lookup x = some c
 | [],cs,_,h,e=>h x c e
 | (n,k) :: r,cs,hn,h,e=>by
  unfold clOf at e
  refine clOf_sound r _ (fun y hm=>hn y (List.mem_cons_of_mem _ hm)) (fun x c q=>?_) e
  split at q
  ·rename_i hk
   have hk':k = .free:=by simpa using hk
   obtain ⟨c',hc⟩:=hn (n,k) List.mem_cons_self hk'
   rw [List.lookup_cons] at q
   cases hx:(x == n) with
   | true=>
    rw [hx] at q
    have hx':x = n:=by simpa using hx
    subst hx'
    rw [hc] at q
    simp at q
    rw [hc,q]
   | false=>
    rw [hx] at q
    exact h x c q
  ·exact h x c q
theorem clOf_keeps {cells:List (Str × Addr)} {x:Str}:∀ (names:List (Str × NameKind)) (cs:List (Str × Addr)),(cs.lookup x).isSome = true -> ((clOf cells names cs).lookup x).isSome = true
 | [],cs,h=>h
 | (n,k) :: r,cs,h=>by
  unfold clOf
  refine clOf_keeps r _ ?_
  split
  ·rw [List.lookup_cons]
   split
   ·rfl
   ·exact h
  ·exact h
theorem clOf_has {cells:List (Str × Addr)} {x:Str}:∀ (names:List (Str × NameKind)) (cs:List (Str × Addr)),(x,NameKind.free) ∈ names -> ((clOf cells names cs).lookup x).isSome = true
 | [],_,h=>by cases h
 | (n,k) :: r,cs,h=>by
  unfold clOf
  rcases List.mem_cons.mp h with e | e
  ·cases e
   refine clOf_keeps r _ ?_
   simp
  ·exact clOf_has r _ e
theorem lookup_relabel (env:Env) (x:Str):∀ names:List (Str × NameKind),
  (names.map fun (n,k)=>if (k == NameKind.free && env.scope.kind == .function && env.kindOf n == some .cell) then (n,NameKind.cell) else (n,k)).lookup x =
   (names.lookup x).map fun k=>if (k == NameKind.free && env.scope.kind == .function && env.kindOf x == some .cell) = true then .cell else k
 | []=>rfl
 | (n,k) :: r=>by
  have ih:=lookup_relabel env x r
  simp only [List.map_cons]
  cases hx:(x == n) with
  | true=>
   have hx':x = n:=by simpa using hx
   subst hx'
   by_cases hc:(k == NameKind.free && env.scope.kind == .function && env.kindOf x == some .cell) = true
   ·rw [if_pos hc,List.lookup_cons,List.lookup_cons,hx]
    show some NameKind.cell = some (if (k == NameKind.free && env.scope.kind == .function && env.kindOf x == some .cell) = true then NameKind.cell else k)
    rw [if_pos hc]
   ·rw [if_neg hc,List.lookup_cons,List.lookup_cons,hx]
    show some k = some (if (k == NameKind.free && env.scope.kind == .function && env.kindOf x == some .cell) = true then NameKind.cell else k)
    rw [if_neg hc]
  | false=>
   by_cases hc:(k == NameKind.free && env.scope.kind == .function && env.kindOf n == some .cell) = true
   ·rw [if_pos hc]
    simp only [List.lookup_cons,hx]
    exact ih
   ·rw [if_neg hc]
    simp only [List.lookup_cons,hx]
    exact ih
structure CScope (scope:Scope):Prop where
 kind:scope.kind = .function
 nocell:∀ y ∈ scope.names,y.2 ≠ .cell
 loc:∀ y ∈ scope.names,y.2 = .local -> scope.names.lookup y.1 = some .local
noncomputable def cxC (X:Cx) (scope:Scope) (cl:List (Str × Addr)) (N':List Str) (C:Addr) (s:Shared) (H:Hp) (ex:List Addr):Cx:=
 { X with N:=N',s₀:=s,H₀:=H,env:=compEnvC scope cl C X.env,outer:=X.stack,ex:=ex,fn:=fun _=>false,pn:=[],xe:=fun _ _=>False }
noncomputable def compσ (nt:Nat) (fi:List Nat) (σ:St):St:=List.replicate nt none ++ fi.map fun j=>(σ[j]?).getD none
structure CNames (X:Cx) (scope:Scope) (nt:Nat) (fi:List Nat) (N':List Str):Prop where
 len:N'.length = nt + fi.length
 cap:∀ k j:Nat,fi[k]? = some j -> ∃ x,N'[nt + k]? = some x /\ X.N[j]? = some x /\ scope.names.lookup x = some .free
 fre:∀ y ∈ scope.names,y.2 = .free -> X.env.scope.names.lookup y.1 = some .cell \/ X.env.scope.names.lookup y.1 = some .free
def GK (nt:Nat) (g:TG):Prop:=∀ x σ H Q,g x σ H Q -> g x σ H fun σ' H'=>Q σ' H' /\ σ'.length = σ.length /\ σ'.drop nt = σ.drop nt
def PIf (X:Cx) (ifs:List Expr) (t:TT):Prop:=
 ∀ (pins:List (Addr × Obj)) (s:Shared) (σ:St) (H:Hp) (Q:Bool -> Hp -> Prop),Inv X pins σ H s -> t σ H Q ->
  wpAny (model X.prog X.w) X.A (forIn ifs true fun c r=>if r = true then do let ok <- isTrue c X.env (eval c X.env); pure (ForInStep.yield ok) else pure (ForInStep.yield r)) (TP X pins σ Q) X.xe s
noncomputable def tYes:TT:=fun _ H Q=>Q true H
theorem pif_nil {X:Cx}:PIf X [] tYes:=fun pins s σ H Q I h=>wpAny_tests_nil ⟨H,I,h⟩
theorem pif_one {X:Cx} {c:Expr} {t:TT} (h:PT X c t):PIf X [c] t:=fun pins s σ H Q I q=>wpAny_tests_one (h pins s σ H Q I q)
theorem gk_name {nt i:Nat} (hi:i < nt):GK nt (gName i):=fun x σ H Q h=>by
 refine ⟨h,?_,?_⟩
 ·rw [List.length_set]
 ·rw [List.drop_set_of_lt hi]
theorem gk_tup2 {K:Frag} {nt i j n:Nat} (hi:i < nt) (hj:j < nt):GK nt (gTup K n (gCons (gName i) (gCons (gName j) gNil))):=fun x σ H Q h=>by
 obtain ⟨a,xs,e,hq,hl,v,r,e1,v',r',e2,e3,q⟩:=h
 refine ⟨a,xs,e,hq,hl,v,r,e1,v',r',e2,e3,q,?_,?_⟩
 ·rw [List.length_set,List.length_set]
 ·rw [List.drop_set_of_lt hj,List.drop_set_of_lt hi]
section
variable {prog:Program} {w:World} {A:Around} {R:Result -> Shared -> Prop} {s:Shared}
theorem thnF {α:Type} {t:Sem α} {Q Q':α -> Shared -> Prop} {M:Model} {E:Value -> Shared -> Prop} (h:wpAny M A t Q (fun _ _=>False) s) (hQ:∀ a s,Q a s -> Q' a s):wpAny M A t Q' E s:=wpAny_mono h hQ fun _ _ f=>f.elim
theorem compLoop_any {elt target iter:Expr} {ifs:List Expr} {scope:Scope} {pos:Pos} {it acc:Value} {env:Env} (I:Nat -> Shared -> Prop)
  (turn:∀ n s,I n s -> wpAny (model prog w) A (pyNext it) (fun r s₁=>match r with
   | none=>R (.ok .next) s₁
   | some v=>wpAny (model prog w) A (letOwnedTupleGo target it v) (fun _ s₂=>wpAny (model prog w) A (assign target env v) (fun _ s₃=>
     wpAny (model prog w) A (forIn ifs true fun c r=>if r = true then do let ok <- isTrue c env (eval c env); pure (ForInStep.yield ok) else pure (ForInStep.yield r)) (fun ok s₄=>
      if ok = true then wpAny (model prog w) A (eval elt env) (fun x s₅=>wpAny (model prog w) A (call (.builtin "list.append") [acc,x]) (fun _ s₆=>∃ m,m < n /\ I m s₆) (fun _ _=>False) s₅) (fun _ _=>False) s₄
      else ∃ m,m < n /\ I m s₄) (fun _ _=>False) s₃) (fun _ _=>False) s₂) (fun _ _=>False) s₁) (fun _ _=>False) s)
  (n:Nat) (h:I n s):codeAny (model prog w) A (.compLoop (.ListComp elt [⟨target,iter,ifs,0⟩] scope pos) 0 it acc env) R s:=by
 refine codeAny_loop rfl I (fun n s hI=>?_) n h
 show wpAny _ A ((compTurn (.ListComp elt [⟨target,iter,ifs,0⟩] scope pos) 0 it acc env).onRaise (fun x=>do noteFrame x env; theTreesLotGoes x)) _ _ s
 refine wpAny_noted ?_
 rw [compTurn_list]
 refine wpAny_bind (wpAny_standAt (wpAny_bind (thnF (turn n s hI) fun r s₁ h₁=>?_)))
 cases r with
 | none=>exact wpAny_pure h₁
 | some v=>
  refine wpAny_bind (thnF h₁ fun _ s₂ h₂=>wpAny_bind (thnF h₂ fun _ s₃ h₃=>wpAny_bind (thnF h₃ fun ok s₄ h₄=>?_)))
  cases ok with
  | false=>exact wpAny_pure ⟨rfl,h₄⟩
  | true=>exact wpAny_bind (wpAny_bind (thnF h₄ fun x s₅ h₅=>wpAny_bind (thnF h₅ fun _ s₆ h₆=>wpAny_pure (wpAny_pure ⟨rfl,h₆⟩))))
end
noncomputable def tComp (nt:Nat) (fi:List Nat) (wi:TI) (g:TG) (tc:TT) (te:TE):TE:=fun σ H Q=>wi σ H fun J H1=>∀ D,H1 D = none ->
 ∃ W:Nat -> Nat -> List V -> Hp -> Prop,(∃ m,W 0 m [] (upd H1 D (.lst []))) /\ ∀ i m acc H2,W i m acc H2 ->
  (J.stop i H2 /\ Q (.ref D) H2) \/ (J.go i H2 /\ ∀ x H3,J.yld i H2 x H3 -> g x (compσ nt fi σ) H3 fun σ4 H4=>tc σ4 H4 fun b H5=>if b = true then
   te σ4 H5 fun v H6=>H6 D = some (.lst acc) /\ acc.length < sizeLine /\ ∃ m',m' < m /\ W (i + 1) m' (acc ++ [v]) (upd H6 D (.lst (acc ++ [v]))) else ∃ m',m' < m /\ W (i + 1) m' acc H5)
theorem compσ_weak {nt:Nat} {fi:List Nat} {σ σ':St} (hl:σ'.length = (compσ nt fi σ).length) (hd:σ'.drop nt = (compσ nt fi σ).drop nt):∀ (i:Nat) v,(compσ nt fi σ)[i]? = some (some v) -> σ'[i]? = some (some v):=fun i v e=>by
 by_cases hi:i < nt
 ·unfold compσ at e
  rw [List.getElem?_append_left (by simpa using hi),List.getElem?_replicate] at e
  split at e <;> cases e
 ·have ei:i = nt + (i - nt):=by omega
  have q:=congrArg (fun l=>l[i - nt]?) hd
  simp only [List.getElem?_drop] at q
  rw [<- ei] at q
  rw [q]
  exact e
section
variable {X:Cx}
theorem inv_comp {pins:List (Addr × Obj)} {σ:St} {H:Hp} {s:Shared} {scope:Scope} {nt:Nat} {fi:List Nat} {N':List Str} {fp:List Addr} {h₁:Heap} {m:Str -> Option Value} {tk:Nat}
  (I:Inv X pins σ H s) (S:CScope scope) (cn:CNames X scope nt fi N') (hf:∀ b ∈ fp,FpOk X pins H b) (ho:∀ b ∈ fp,∃ o,s.heap.get? b = some o)
  (hns:h₁.Ns s.heap.objs.size m) (kp:∀ b o,s.heap.get? b = some o -> h₁.get? b = some o) (htk:0 < tk):
  Inv (cxC X scope (clOf X.env.cells scope.names []) N' s.heap.objs.size s H fp) (X.pn ++ pins) (compσ nt fi σ) H { s with heap:=h₁,toks:=tk }:=by
 have hfr:∀ y ∈ scope.names,y.2 = .free -> ∃ c,X.env.cells.lookup y.1 = some c:=fun y hy e=>I.ok.has y.1 (cn.fre y hy e)
 have snd:∀ x c,(clOf X.env.cells scope.names []).lookup x = some c -> X.env.cells.lookup x = some c:=fun x c e=>clOf_sound scope.names [] hfr (fun _ _ q=>by simp at q) e
 have offstk:∀ b,b ≠ X.env.locals -> b ∉ X.fs -> b ∉ frs X.stack:=fun b h1 h2 h3=>by
  rcases List.mem_cons.mp (I.stkSub b h3) with e | e
  ·exact h1 e
  ·exact h2 e
 have lt:∀ {b o},s.heap.get? b = some o -> b ≠ s.heap.objs.size:=fun e=>Nat.ne_of_lt (Heap.lt_size e)
 have kinds:∀ x k,(relabel scope X.env).names.lookup x = some k -> (k = .cell \/ k = .free) -> (x,NameKind.free) ∈ scope.names:=fun x k e hk=>by
  have e':(scope.names.map fun (n,k)=>if (k == NameKind.free && X.env.scope.kind == .function && X.env.kindOf n == some .cell) then (n,NameKind.cell) else (n,k)).lookup x = some k:=e
  rw [lookup_relabel] at e'
  cases q:scope.names.lookup x with
  | none=>rw [q] at e'; cases e'
  | some k'=>
   have mem:(x,k') ∈ scope.names:=PySem.mem_of_lookup q
   rw [q] at e'
   simp only [Option.map_some,Option.some.injEq] at e'
   split at e'
   ·rename_i hc
    simp only [Bool.and_eq_true,beq_iff_eq] at hc
    rw [hc.1.1] at mem
    exact mem
   ·subst e'
    rcases hk with z | z
    ·subst z
     exact absurd rfl (S.nocell _ mem)
    ·subst z
     exact mem
 refine ⟨⟨I.ok.mod,S.kind,I.ok.glob,I.ok.blt,Nat.le_refl _,fun x y c e1 e2=>I.ok.inj x y c (snd x c e1) (snd y c e2),fun x hx=>?_,fun x c e=>(nomatch e),I.ok.hd,I.ok.frames,.inl rfl,fun b hb=>⟨?_,fun x c e=>(hf b hb).2.2.2.2.1 x c (snd x c e)⟩,I.bs,?_,fun b o e hb=>?_,fun b hb=>offstk b (hf b hb).2.1 (hf b hb).2.2.1,I.stack,I.stkFree⟩,
  rfl,I.bare,Un.kept kp,⟨m,hns,fun i x v e1 e2 e3=>?_⟩,fun x c e=>?_,I.hok.fresh (Nat.le_refl _),fun x c e=>I.freeC x c (snd x c e),fun p hp=>?_,I.hok.kept kp,?_,htk⟩
 ·have hx':(relabel scope X.env).names.lookup x = some .cell \/ (relabel scope X.env).names.lookup x = some .free:=hx
  have mem:(x,NameKind.free) ∈ scope.names:=by
   rcases hx' with q | q
   ·exact kinds x _ q (.inl rfl)
   ·exact kinds x _ q (.inr rfl)
  exact Option.isSome_iff_exists.mp (clOf_has scope.names [] mem)
 ·obtain ⟨o,e⟩:=ho b hb
  exact lt e
 ·exact Nat.le_trans I.ok.bsz I.sz
 ·rcases (hf b hb).2.2.2.1 with q | q
  ·exact I.ok.noex b o e q
  ·exact absurd (Nat.lt_of_lt_of_le (Heap.lt_size e) (Nat.le_trans I.ok.bsz q)) (Nat.lt_irrefl _)
 ·have hi:¬ i < nt:=fun hi=>by
   unfold compσ at e2
   rw [List.getElem?_append_left (by simpa using hi),List.getElem?_replicate] at e2
   split at e2 <;> cases e2
  have ei:i = nt + (i - nt):=by omega
  have e2':(fi.map fun j=>(σ[j]?).getD none)[i - nt]? = some (some v):=by
   unfold compσ at e2
   rw [List.getElem?_append_right (by simpa using Nat.le_of_not_lt hi)] at e2
   simpa using e2
  rw [List.getElem?_map] at e2'
  cases ej:fi[i - nt]? with
  | none=>rw [ej] at e2'; cases e2'
  | some j=>
   rw [ej] at e2'
   obtain ⟨x',n1,n2,n3⟩:=cn.cap (i - nt) j ej
   rw [<- ei] at n1
   have e1':N'[i]? = some x:=e1
   rw [n1] at e1'
   cases e1'
   have ev:σ[j]? = some (some v):=by
    have e2':some ((σ[j]?).getD none) = some (some v):=e2'
    cases q:σ[j]? with
    | none=>rw [q] at e2'; simp at e2'
    | some w=>rw [q] at e2'; simp at e2'; rw [e2']
   have mem:(x,NameKind.free) ∈ scope.names:=PySem.mem_of_lookup n3
   have vis:=cn.fre _ mem rfl
   obtain ⟨m0,hn0,hl0⟩:=I.loc
   obtain ⟨u,ru,lk⟩:=hl0 j x v n2 ev (.inr vis)
   refine ⟨u,ru,?_⟩
   rcases lk with ⟨q,_⟩ | ⟨q,c,ec,o,hoc,hod⟩
   ·have q':X.env.scope.names.lookup x = some .local:=q
    rcases vis with z | z
    ·have z':X.env.scope.names.lookup x = some .cell:=z
     rw [q'] at z'; cases z'
    ·have z':X.env.scope.names.lookup x = some .free:=z
     rw [q'] at z'; cases z'
   ·obtain ⟨c',ec'⟩:=Option.isSome_iff_exists.mp (clOf_has (cells:=X.env.cells) scope.names [] mem)
    have ecc:=snd x c' ec'
    rw [ec] at ecc
    cases ecc
    refine .inr ⟨?_,c,ec',o,kp c o hoc,hod⟩
    show (relabel scope X.env).names.lookup x = some .cell \/ (relabel scope X.env).names.lookup x = some .free
    have e4:(relabel scope X.env).names.lookup x = (scope.names.lookup x).map fun k=>if (k == NameKind.free && X.env.scope.kind == .function && X.env.kindOf x == some .cell) = true then .cell else k:=lookup_relabel X.env x scope.names
    rw [e4,n3]
    simp only [Option.map_some]
    split
    ·exact .inl rfl
    ·exact .inr rfl
 ·obtain ⟨v,o,hoc,hod⟩:=I.cell x c (snd x c e)
  exact ⟨v,o,kp c o hoc,hod⟩
 ·have hp':p ∈ X.pn ++ pins:=by
   have hp'':p ∈ ([]:List (Addr × Obj)) ++ (X.pn ++ pins):=hp
   simpa using hp''
  obtain ⟨e,n,ne,nf,d⟩:=I.pin p hp'
  exact ⟨kp _ _ e,n,lt e,offstk _ ne nf,d⟩
 ·show (compσ nt fi σ).length = N'.length
  unfold compσ
  rw [cn.len,List.length_append,List.length_replicate,List.length_map]
theorem inv_back {pins:List (Addr × Obj)} {σ σ':St} {H H':Hp} {s s':Shared} {scope:Scope} {cl:List (Str × Addr)} {N':List Str} {fp:List Addr} {C:Addr} {P:List (Addr × Obj)} {h'':Heap}
  (I:Inv X pins σ H s) (hf:∀ b ∈ fp,FpOk X pins H b) (hC:s.heap.objs.size <= C) (J:Inv (cxC X scope cl N' C s H fp) P σ' H' s') (sb:Heap.SameBut C s'.heap h''):Inv X pins σ H' { s' with heap:=h'' }:=by
 have ne:∀ {b o},s.heap.get? b = some o -> b ≠ C:=fun e=>Nat.ne_of_lt (Nat.lt_of_lt_of_le (Heap.lt_size e) hC)
 have u:Un (frs X.stack) fp H H' s.heap s'.heap:=J.base
 refine I.call' (s':={ s' with heap:=h'' }) (ch:=fp) J.os ⟨fun b o e n hb hx=>?_,fun b o e n hb hx=>?_,u.free,fun b o e hx=>?_,u.tups,u.frzs,u.tbls⟩ (fun b o e=>?_) J.bare (fun b hb=>?_) J.tk
 ·exact (sb.2 b (ne e)).trans (u.keep b o e n hb hx)
 ·obtain ⟨sl,q⟩:=u.slot b o e n hb hx
  exact ⟨sl,(sb.2 b (ne e)).trans q⟩
 ·obtain ⟨o',q⟩:=u.there b o e hx
  exact ⟨o',(sb.2 b (ne e)).trans q⟩
 ·have fr:H' C = none:=J.free
  refine (J.hok b o e).stay (fun c v hc q=>(sb.2 c ?_).trans q) (fun _ q=>q) fun _ _ q=>q
  rintro rfl
  rcases hc with z | z
  ·subst z
   rw [fr] at e
   cases e
  ·rw [fr] at z
   cases z
 ·obtain ⟨f0,f1,f2,f3,f4,f5⟩:=hf b hb
  exact ⟨f3,f1,f4,f5⟩
theorem pe_comp {elt tg iter:Expr} {ifs:List Expr} {scope:Scope} {pos:Pos} {wi:TI} {g:TG} {tc:TT} {te:TE} {nt:Nat} {fi:List Nat} {N':List Str} (hcalm:X.calm = true)
  (S:CScope scope) (cn:CNames X scope nt fi N') (gk:GK nt g) (hi:PI X tg iter wi)
  (hg:∀ cl C s H ex,PG (cxC X scope cl N' C s H ex) tg g) (hc:∀ cl C s H ex,PIf (cxC X scope cl N' C s H ex) ifs tc) (he:∀ cl C s H ex,PE (cxC X scope cl N' C s H ex) elt te)
  (hs:∀ x,foldedSetIterable iter X.env x = pure x:=by intro _; rfl):PE X (.ListComp elt [⟨tg,iter,ifs,0⟩] scope pos) (tComp nt fi wi g tc te):=by
 intro pins s σ H Q I h
 have hfr:∀ y ∈ scope.names,y.2 = .free -> ∃ c,X.env.cells.lookup y.1 = some c:=fun y hy e=>I.ok.has y.1 (cn.fre y hy e)
 rw [eval_ListComp]
 refine wpAny_comprehension_free (use:=none) rfl hs (closureFor_some hfr) S.kind S.loc (thn (hi pins s σ H _ I h) fun v s1 h1=>thn h1 fun itv s2 h2=>?_)
 obtain ⟨it,fp,tn,J,H2,e,I2,T,st2,f2,hW⟩:=h2
 subst e
 have fD:H2 s2.heap.objs.size = none:=I2.hok.fresh (Nat.le_refl _)
 obtain ⟨W,⟨m0,w0⟩,turn⟩:=hW s2.heap.objs.size fD
 refine wpAny_newObj_type (wpAny_newFunctionEnv S.nocell (by intro y hy; simp at hy) (fun h₁ hns₁ hsb₁=>?_) S.kind)
 have I3:Inv X pins σ (upd H2 s2.heap.objs.size (.lst [])) { s2 with heap:=s2.heap.push { cls:=.type "list",dict:=none,data:=.seq ([]:List Value).toArray } }:=I2.lnew (its:=[]) (t':=s2.toks) .nil (Nat.zero_le _)
 generalize hs3:({ s2 with heap:=s2.heap.push { cls:=.type "list",dict:=none,data:=.seq ([]:List Value).toArray } }:Shared) = s3 at I3 hns₁ hsb₁ ⊢
 have hsz:s3.heap.objs.size = s2.heap.objs.size + 1:=by rw [<- hs3]; exact Heap.size_push ..
 have ob2:∀ b ∈ fp,∃ o,s3.heap.get? b = some o:=fun b hb=>by
  obtain ⟨o,e,_⟩:=T.obj _ _ st2 b hb
  rw [<- hs3]
  exact ⟨o,Heap.get?_push_of_some _ e⟩
 have f3:∀ b ∈ fp,FpOk X pins (upd H2 s2.heap.objs.size (.lst [])) b:=fun b hb=>by
  obtain ⟨o,e,_⟩:=T.obj _ _ st2 b hb
  refine ⟨?_,(f2 b hb).2⟩
  rw [upd_ne (Nat.ne_of_lt (Heap.lt_size e))]
  exact (f2 b hb).1
 have kp:∀ b o,s3.heap.get? b = some o -> h₁.get? b = some o:=fun b o e=>hsb₁.extBut b o (Nat.ne_of_lt (Heap.lt_size e)) (Heap.get?_push_of_some _ e)
 have st3:tn 0 h₁:=T.keep _ _ _ st2 fun b _ o e=>kp b o (by rw [<- hs3]; exact Heap.get?_push_of_some _ e)
 have J4:Inv (cxC X scope (clOf X.env.cells scope.names []) N' s3.heap.objs.size s3 (upd H2 s2.heap.objs.size (.lst [])) fp) (X.pn ++ pins) (compσ nt fi σ) (upd H2 s2.heap.objs.size (.lst [])) { s3 with heap:=h₁,toks:=s3.toks + ([]:List (Str × Value)).length }:=
  inv_comp I3 S cn f3 ob2 hns₁ kp I3.tk
 generalize hcl:clOf X.env.cells scope.names [] = cl at J4 ⊢
 generalize hH3:upd H2 s2.heap.objs.size (.lst []) = H3 at J4 I3 f3 w0
 have stat:∀ {H':Hp},(∀ b ∈ fp,H' b = none) -> ∀ b ∈ fp,FpOk (cxC X scope cl N' s3.heap.objs.size s3 H3 fp) (X.pn ++ pins) H' b:=fun {H'} hn b hb=>by
  obtain ⟨g0,g1,g2,g3,g4,g5⟩:=f3 b hb
  have ok:=J4.ok
  refine ⟨hn b hb,(ok.exf b hb).1,ok.exfs b hb,.inl hb,(ok.exf b hb).2,fun p hp=>g5 p ?_⟩
  have hp':p ∈ ([]:List (Addr × Obj)) ++ (X.pn ++ pins):=hp
  simpa using hp'
 have loop:∀ s₃:Shared,s₃ = { s3 with heap:=h₁,toks:=s3.toks + ([]:List (Str × Value)).length } ->
   codeAny (model X.prog X.w) X.A (.compLoop (.ListComp elt [⟨tg,iter,ifs,0⟩] scope pos) 0 (.ref it) (.ref s2.heap.objs.size) (compEnvC scope cl s3.heap.objs.size X.env))
    (compPost (model X.prog X.w) X.A X.xe none (EP X pins σ Q) (.ref s2.heap.objs.size) s3.heap.objs.size) s₃:=by
  rintro s₃ rfl
  refine compLoop_any (fun n s'=>∃ i acc H',Inv (cxC X scope cl N' s3.heap.objs.size s3 H3 fp) (X.pn ++ pins) (compσ nt fi σ) H' s' /\ tn i s'.heap /\ (∀ b ∈ fp,H' b = none) /\ W i n acc H') ?_ m0
   ⟨0,[],H3,J4,st3,fun b hb=>(f3 b hb).1,w0⟩
  rintro n s5 ⟨i,acc,H5,I5,st5,fr5,w5⟩
  rcases turn i n acc H5 w5 with ⟨stop,qn⟩ | ⟨go,step⟩
  ·refine thn (T.done (cxC X scope cl N' s3.heap.objs.size s3 H3 fp) rfl rfl rfl hcalm i (X.pn ++ pins) s5 (compσ nt fi σ) H5 (fun _ _=>False) I5 (stat fr5) st5 stop) fun r s6 ⟨hr,I6⟩=>?_
   subst hr
   obtain ⟨m6,hn6,_⟩:=I6.loc
   exact ⟨m6,hn6,fun h' sb=>⟨.ref s2.heap.objs.size,H5,inv_back I3 f3 (Nat.le_refl _) I6 sb,rfl,qn⟩⟩
  ·refine thn (T.item (cxC X scope cl N' s3.heap.objs.size s3 H3 fp) rfl rfl rfl hcalm i (X.pn ++ pins) s5 (compσ nt fi σ) H5 (fun _ _=>False) I5 (stat fr5) st5 go) fun r s6 ⟨u,hr,h6⟩=>?_
   subst hr
   refine thn h6 fun _ s7 ⟨x,H7,I7,r7,y7,st7,fr7⟩=>?_
   have I7':=I7.pinned (stat fr7) (T.obj _ _ st7)
   refine thn (hg _ _ _ _ _ _ s7 (compσ nt fi σ) H7 x u _ I7' r7 (gk _ _ _ _ (step x H7 y7))) fun _ s8 ⟨σ8,H8,I8,q8,l8,d8⟩=>?_
   refine thn (hc _ _ _ _ _ _ s8 σ8 H8 _ I8 q8) fun b s9 ⟨H9,I9,q9⟩=>?_
   have again:∀ {s':Shared} {H':Hp} {m':Nat} {acc':List V},Inv (cxC X scope cl N' s3.heap.objs.size s3 H3 fp) ((X.pn ++ pins) ++ pinsAt fp s7.heap) σ8 H' s' -> m' < n -> W (i + 1) m' acc' H' ->
     ∃ m,m < n /\ ∃ i acc H',Inv (cxC X scope cl N' s3.heap.objs.size s3 H3 fp) (X.pn ++ pins) (compσ nt fi σ) H' s' /\ tn i s'.heap /\ (∀ b ∈ fp,H' b = none) /\ W i m acc H':=fun {s' H' m' acc'} I' hm w'=>by
    refine ⟨m',hm,i + 1,acc',H',I'.unpinned.weak l8.symm (compσ_weak l8 d8),T.keep _ _ _ st7 fun b hb o e=>(I'.pin (b,o) (List.mem_append_right _ (List.mem_append_right _ (mem_pinsAt hb e)))).1,fun b hb=>?_,w'⟩
    obtain ⟨o,e,d⟩:=T.obj _ _ st7 b hb
    exact (I'.pin (b,o) (List.mem_append_right _ (List.mem_append_right _ (mem_pinsAt hb e)))).2.1
   cases b with
   | false=>
    rw [if_neg Bool.false_ne_true] at q9 ⊢
    obtain ⟨m',hm,w'⟩:=q9
    exact again I9 hm w'
   | true=>
    rw [if_pos rfl] at q9 ⊢
    refine thn (he _ _ _ _ _ _ s9 σ8 H9 _ I9 q9) fun uv s10 ⟨v10,H10,I10,r10,hD,hlt,m',hm,w'⟩=>?_
    refine thn (mt_append (X:=cxC X scope cl N' s3.heap.objs.size s3 H3 fp) _ s10 σ8 H10 (.ref s2.heap.objs.size) [v10] (.ref s2.heap.objs.size) [uv] (fun _ H'=>H' = upd H10 s2.heap.objs.size (.lst (acc ++ [v10]))) I10 rfl (.cons r10 .nil) ⟨_,acc,v10,rfl,rfl,hD,hlt,rfl⟩) fun _ s11 ⟨_,H11,I11,_,e11⟩=>?_
    subst e11
    exact again I11 hm w'
 exact codeAny_compStart_list (loop _ rfl) (T.self _ 0 _ _ _ st3 (loop _ rfl))
end
noncomputable abbrev st (l:List Nat):Str:=⟨l.toArray⟩
theorem st_len (l:List Nat):(st l).length = l.length:=by simp [Str.length]
theorem st_cps (l:List Nat):(st l).cps.toList = l:=rfl
theorem st_app (l m:List Nat):st l ++ st m = st (l ++ m):=by
 show Str.append (st l) (st m) = _
 simp [Str.append]
theorem st_inj {l m:List Nat}:st l = st m ↔ l = m:=by simp
theorem strsAre_of {ys:List Str}:∀ {us:List Value},Vals (ys.map V.str) us -> StrsAre us ys:=by
 induction ys with
 | nil=>intro us r; cases r; exact .nil
 | cons y r ih=>
  intro us h
  cases h with
  | cons r1 r2=>
   obtain ⟨t,rfl⟩:=r1
   exact .cons y t (ih r2)
theorem txt_join_ones (l:List Nat):Txt.join ⟨#[]⟩ (l.map fun k=>(⟨#[k]⟩:Str)) = st l:=by
 have h:=join_plain_closes ⟨#[]⟩ (l.map fun k=>(⟨#[k]⟩:Str))
 rw [eq_of_beq h]
 exact join_ones l
section
variable {X:Cx}
noncomputable def rJoin (K:Frag):V -> List V -> Hp -> VK -> Prop:=fun x vs H Q=>∃ sep l ys,x = .str sep /\ vs = [.ref l] /\ SqL K H l (ys.map V.str) /\ (ys.map (·.length)).sum + ys.length * sep.length <= 16777216 /\ Q (.str (Txt.join sep ys)) H
theorem mt_join:MtR X "str.join" (rJoin X.K):=by
 intro pins s σ H x vs v us Q I rx rv h
 obtain ⟨sep,l,ys,rfl,rfl,hq,hz,q⟩:=h
 obtain ⟨t,rfl⟩:=rx
 obtain ⟨u,rfl,ru⟩:=rv.one
 cases ru
 obtain ⟨its,r,pl,_⟩:=I.list hq
 exact tokQ I.tk (join_list pl.isList (strsAre_of r) hz fun t' k (htk:0 < k)=>⟨.str _,H,I.tok _,⟨_,rfl⟩,q⟩)
theorem sum_ones (l:List Nat):((l.map fun k=>(⟨#[k]⟩:Str)).map (·.length)).sum = l.length:=by
 induction l with
 | nil=>rfl
 | cons a r ih=>
  rw [List.map_cons,List.map_cons,List.sum_cons,ih,List.length_cons]
  show 1 + r.length = r.length + 1
  omega
noncomputable def rJoin1 (K:Frag):V -> List V -> Hp -> VK -> Prop:=fun x vs H Q=>∃ l cs,x = .str (Str.ofString "") /\ vs = [.ref l] /\ SqL K H l (cs.map fun k=>V.str ⟨#[k]⟩) /\ cs.length <= 10000 /\ Q (.str (st cs)) H
theorem ofString_nil:Str.ofString "" = ⟨#[]⟩:=by decide +kernel
theorem mt_join1:MtR X "str.join" (rJoin1 X.K):=by
 intro pins s σ H x vs v us Q I rx rv h
 obtain ⟨l,cs,rfl,rfl,hq,hz,q⟩:=h
 refine mt_join pins s σ H _ _ v us Q I rx rv ⟨_,l,cs.map fun k=>⟨#[k]⟩,rfl,rfl,?_,?_,?_⟩
 ·rw [List.map_map]
  exact hq
 ·rw [sum_ones,List.length_map,ofString_nil]
  show cs.length + cs.length * 0 <= 16777216
  omega
 ·rw [ofString_nil,txt_join_ones]
  exact q
noncomputable def rSlS:V -> Option Int -> Option Int -> Hp -> VK -> Prop:=fun x lo hi H Q=>∃ z,x = .str z /\ z.length <= sizeLine /\ Q (.str (Txt.slice z lo hi)) H
theorem sl_str:SlR X rSlS:=by
 intro pins s σ H x v vl vu lo hi sl Q I rx hs pl pu h
 obtain ⟨z,rfl,hz,q⟩:=h
 obtain ⟨t,rfl⟩:=rx
 have fin:∀ t' k,0 < k -> EP X pins σ Q (.str (Txt.slice z lo hi) t') { s with toks:=k }:=fun t' k htk=>⟨.str _,H,I.tok _,⟨_,rfl⟩,q⟩
 refine ⟨"str",_,F.slot_str_getitem.lookup,typeIs_str _ _ _,tokQ I.tk ?_⟩
 obtain ⟨o,e1,e2,e3⟩:=id hs
 cases pl with
 | none=>
  cases pu with
  | none=>exact wpAny_getItem_str_slice (l:=none) (u:=none) (st:=none) ⟨o,e1,e2,e3⟩ rfl (post_val_or_str ⟨Nat.le_trans (Txt.slice_le z _ _) hz,fin⟩)
  | int j tj=>exact wpAny_getItem_str_slice (l:=none) (u:=some (j,tj)) (st:=none) ⟨o,e1,e2,e3⟩ rfl (post_val_or_str ⟨Nat.le_trans (Txt.slice_le z _ _) hz,fin⟩)
 | int i ti=>
  cases pu with
  | none=>exact wpAny_getItem_str_slice (l:=some (i,ti)) (u:=none) (st:=none) ⟨o,e1,e2,e3⟩ rfl (post_val_or_str ⟨Nat.le_trans (Txt.slice_le z _ _) hz,fin⟩)
  | int j tj=>exact wpAny_getItem_str_slice (l:=some (i,ti)) (u:=some (j,tj)) (st:=none) ⟨o,e1,e2,e3⟩ rfl (post_val_or_str ⟨Nat.le_trans (Txt.slice_le z _ _) hz,fin⟩)
theorem slice_to (l:List Nat) (k:Nat) (h:k <= l.length):Txt.slice (st l) none (some (k:Int)) = st (l.take k):=by
 have q:=slice_closes_to (x:=st l) (j:=(k:Int)) ⟨by omega,by simpa using h⟩
 rw [eq_of_beq q]
 simp
theorem slice_from (l:List Nat) (k:Nat) (h:k <= l.length):Txt.slice (st l) (some (k:Int)) none = st (l.drop k):=by
 have q:=slice_from_eq (x:=st l) (i:=(k:Int)) (b:=(l.length:Int)) (by omega) (by simpa [Str.length] using h) (by simp [Str.length])
 rw [q]
 simp only [st_cps,Int.toNat_natCast]
 rw [List.take_of_length_le (by rw [List.length_drop]; omega)]
theorem op_mul_str:OpR X (binaryOp .Mult) (fun x y H Q=>∃ z n,x = .str z /\ y = .int n /\ MulOk z n /\ Q (.str (Txt.mul z n)) H):=by
 intro pins s σ H x y v u Q I rx ry h
 obtain ⟨z,n,rfl,rfl,hok,q⟩:=h
 obtain ⟨t,rfl⟩:=rx
 obtain ⟨t',rfl⟩:=ry
 exact tokQ I.tk (SB.mul hok fun t' k (htk:0 < k)=>⟨.str _,H,I.tok _,⟨_,rfl⟩,q⟩)
theorem mul1 (k n:Nat):Txt.mul ⟨#[k]⟩ (n:Int) = st (List.replicate n k):=by
 have q:=mul_one_list k (n:Int)
 rw [Int.toNat_natCast] at q
 have e:∀ x:Str,x = ⟨x.cps.toList.toArray⟩:=fun x=>by simp
 rw [e (Txt.mul ⟨#[k]⟩ (n:Int)),q]
theorem call_isinst:CallR X (.builtin "isinstance") (fun xs H Q=>∃ x n t b,xs = [x,.ty n] /\ TyOf X.K H x t /\ PySem.W.kitOne X.K t (.type n) = some b /\ Q (.bl b) H):=by
 intro pins s σ H xs us Q I r h
 obtain ⟨x,n,t,b,rfl,ty,e,q⟩:=h
 obtain ⟨u,w',rfl,r1,r2⟩:=vals2 r
 cases r2
 exact tokQ I.tk (isinst_ok I r1 ty e fun tk (htk:0 < tk)=>⟨.bl b,H,I.tok _,rfl,q⟩)
theorem op_eq_nil (hu:X.A.units < cLine):OpR X (compareOp .Eq) (fun x y H Q=>∃ a b xs,x = .ref a /\ y = .ref b /\ SqL X.K H a xs /\ SqL X.K H b [] /\ Q (.bl (decide (xs = []))) H):=by
 intro pins s σ H x y v u Q I rx ry h
 obtain ⟨a,b,xs,rfl,rfl,ha,hb,q⟩:=h
 cases rx
 cases ry
 obtain ⟨its,r1,p1,_⟩:=I.list ha
 obtain ⟨its2,r2,p2,_⟩:=I.list hb
 cases r2
 cases r1 with
 | nil=>exact SeqAt.eq_listAt (e:=fun _=>true) p1.isList p2.isList rfl hu (fun j h1 _=>absurd h1 (by simp)) ⟨.bl true,H,I,rfl,q⟩
 | cons rx rr=>exact SeqAt.eq_list_lengthsAt p1.isList p2.isList (by simp) hu ⟨.bl false,H,I,rfl,by simpa using q⟩
theorem call_int_txt:CallR X (.type "int") (fun xs H Q=>∃ z n,xs = [.str z] /\ PySem.intText? z = some n /\ z.length <= 640 /\ Q (.int n) H):=by
 intro pins s σ H xs us Q I r h
 obtain ⟨z,n,rfl,e,hz,q⟩:=h
 obtain ⟨u,rfl,t,rfl⟩:=vals1 r
 exact PySem.W.KIN.call_text e hz ⟨.int n,H,I.tok _,⟨_,rfl⟩,q⟩
end
def Fn (K:Frag) (mg:Str -> Option Value) (x:Str) (st:Stmt):Prop:=∃ f fd,Fun K x x st f fd /\ mg x = some (.ref f)
def Callee (P:Program) (w:World) (K:Frag) (mg:Str -> Option Value) (base:Heap) (k:Nat) (x:Str) (ps:List Str) (sp:Sp):Prop:=
 ∃ f fd,FnOk P w K mg base CX0 k f fd ps sp /\ Binds K fd ps [] /\ keepIn K (.ref f) = true /\ mg x = some (.ref f)
theorem Callee.mono {P:Program} {w:World} {K:Frag} {mg:Str -> Option Value} {base:Heap} {j k:Nat} {x:Str} {ps:List Str} {sp:Sp} (C:Callee P w K mg base j x ps sp) (h:j <= k):Callee P w K mg base k x ps sp:=by
 obtain ⟨f,fd,F,r⟩:=C
 exact ⟨f,fd,F.mono h,r⟩
theorem Fn.cal {P:Program} {w:World} {K:Frag} {mg:Str -> Option Value} {base:Heap} {x:Str} {st:Stmt} {N ps:List Str} {k:Nat} {sp:Sp} (F:Fn K mg x st) (S:FnScope N ps (defScope st)) (len:∀ vs H Q E,sp vs H Q E -> vs.length = ps.length)
  (hb:∀ (kV doc pm:Value) (an:Option Addr) (cdv ct:Value) (us:List Value),us.length = ps.length -> bindArgs (fnOf x x (defArgs st) (defBody st) (defScope st) .none kV doc pm an cdv ct) ⟨us,[]⟩ = pure (ps.zip us))
  (hbody:∀ (f:Addr) (cdv:Value) (A:Around) (outer:List Env) (s:Shared) (H:Hp) (vs:List V) (Q:VK) (E:XK),Room k (A.deeper (envOfC x (defScope st) s.heap.objs.size f cdv)) -> sp vs H Q E ->
   ∃ t,PSs (cxOf CX0 P w K mg base N x (defScope st) f cdv A outer s H E).nox (defBody st) t /\ t { nx:=fun _ H'=>Q .non H',rt:=Q } (start N vs) H):Callee P w K mg base (k + 1) x ps sp:=by
 obtain ⟨f,fd,F,m⟩:=F
 exact ⟨f,fd,F.ok S len (hbody f),F.binds hb,F.kp,m⟩
section
variable {X:Cx} {k:Nat} {x:Str} {ps:List Str} {sp:Sp} {p pos:Pos} {e:Expr} {es:List Expr} {t:TA}
theorem pe_fn (C:Callee X.prog X.w X.K X.mg X.base k x ps sp) (hr:Room k X.A) (hg:Gl X x) (ha:PA X (e :: es) t)
  (he:starEach (e :: es) X.env = (false,eval e X.env) :: starEach es X.env:=by rfl) (hpl:(backTo pos (starEach es X.env)).any (·.1) = false:=by rfl) (hd:(x == ("__debug__" : Str)) = false:=by decide):PE X (.Call (.Name x p) (e :: es) [] pos) (tCall sp [] E0 t):=by
 obtain ⟨f,fd,F,b,kp,m⟩:=C
 exact pe_call F hr hg m kp b .nil pass0 ha (hdb:=hd) (he:=he) (hpl:=hpl)
end
noncomputable def tJoin (t u:TS):TS:=fun D σ H=>∃ J:St -> Hp -> Prop,t { D with nx:=J } σ H /\ ∀ σ' H',J σ' H' -> u D σ' H'
theorem pss_join {X:Cx} {st:Stmt} {rest:List Stmt} {t u:TS} (h1:PS X st t) (h2:PSs X rest u):PSs X (st :: rest) (tJoin t u):=by
 intro pins s σ H D I h
 obtain ⟨J,hj,hr⟩:=h
 refine wpAny_execs_cons (thn (h1 pins s σ H { D with nx:=J } I hj) fun f s1 q=>?_)
 cases f with
 | next=>
  obtain ⟨σ',H',I',q⟩:=q
  exact h2 pins s1 σ' H' D I' (hr σ' H' q)
 | ret v=>exact q
 | brk=>exact q
 | cont=>exact q
theorem same_new {H:Hp} {p:Addr} (h:H p = none) (o:HO):Same H (upd H p o):=fun b u q=>by rw [upd_ne (ne_of_none q h)]; exact q
theorem same_upd {H H':Hp} {p:Addr} {o:HO} (s:Same H H') (h:H p = none):Same H (upd H' p o):=fun b u q=>by rw [upd_ne (ne_of_none q h)]; exact s b u q
theorem sizeBig {n:Nat} (h:n <= 100000):n < sizeLine:=Nat.lt_of_le_of_lt h (by decide)
def RowL (l:List Nat):Prop:=∀ c ∈ l,c = 48 \/ c = 49 \/ c = 45
theorem RowL.nil:RowL []:=fun _ h=>nomatch h
theorem RowL.snoc {l:List Nat} {c:Nat} (h:RowL l) (hc:c = 48 \/ c = 49 \/ c = 45):RowL (l ++ [c]):=fun d hd=>by
 rcases List.mem_append.mp hd with q | q
 ·exact h d q
 ·rw [List.mem_singleton.mp q]
  exact hc
section
variable {X:Cx}
theorem PE.imp {e:Expr} {t t':TE} (h:PE X e t) (k:∀ σ H Q,t' σ H Q -> t σ H Q):PE X e t':=fun pins s σ H Q I q=>h pins s σ H Q I (k σ H Q q)
theorem PT.imp {e:Expr} {t t':TT} (h:PT X e t) (k:∀ σ H Q,t' σ H Q -> t σ H Q):PT X e t':=fun pins s σ H Q I q=>h pins s σ H Q I (k σ H Q q)
theorem PI.imp {tg e:Expr} {t t':TI} (h:PI X tg e t) (k:∀ σ H Q,t' σ H Q -> t σ H Q):PI X tg e t':=fun pins s σ H Q I q=>h pins s σ H Q I (k σ H Q q)
theorem PG.imp {e:Expr} {t t':TG} (h:PG X e t) (k:∀ v σ H Q,t' v σ H Q -> t v σ H Q):PG X e t':=fun pins s σ H v u Q I r q=>h pins s σ H v u Q I r (k v σ H Q q)
theorem OpR.imp {f:Value -> Value -> Sem Value} {r r':R2} (h:OpR X f r) (k:∀ x y H Q,r' x y H Q -> r x y H Q):OpR X f r':=fun pins s σ H x y v u Q I rx ry q=>h pins s σ H x y v u Q I rx ry (k x y H Q q)
theorem CallR.imp {f:Value} {r r':List V -> Hp -> VK -> Prop} (h:CallR X f r) (k:∀ xs H Q,r' xs H Q -> r xs H Q):CallR X f r':=fun pins s σ H xs us Q I r q=>h pins s σ H xs us Q I r (k xs H Q q)
theorem IxR.imp {r r':R2} (h:IxR X r) (k:∀ x y H Q,r' x y H Q -> r x y H Q):IxR X r':=fun a b pins s σ H x y v u Q I rx ry q=>h a b pins s σ H x y v u Q I rx ry (k x y H Q q)
theorem MtR.imp {id:String} {r r':V -> List V -> Hp -> VK -> Prop} (h:MtR X id r) (k:∀ x xs H Q,r' x xs H Q -> r x xs H Q):MtR X id r':=fun pins s σ H x xs v us Q I rx r q=>h pins s σ H x xs v us Q I rx r (k x xs H Q q)
theorem SlR.imp {r r':V -> Option Int -> Option Int -> Hp -> VK -> Prop} (h:SlR X r) (k:∀ x a b H Q,r' x a b H Q -> r x a b H Q):SlR X r':=fun pins s σ H x v vl vu lo hi sl Q I rx hs pl pu q=>h pins s σ H x v vl vu lo hi sl Q I rx hs pl pu (k x lo hi H Q q)
noncomputable def cVar (i:Nat):TE:=fun σ H Q=>match σ[i]? with | some (some v)=>Q v H | _=>False
theorem qv (i:Nat) {x:Str} {pos:Pos} (hN:X.N[i]? = some x:=by rfl) (hv:Vis X.env.scope x:=by first | exact Or.inl rfl | exact Or.inr (Or.inl rfl) | exact Or.inr (Or.inr rfl)) (hd:(x == ("__debug__" : Str)) = false:=by decide)
  (hcd:(x == ("__classdict__" : Str)) = false:=by decide):PE X (.Name x pos) (cVar i):=(pe_var hN hv hd hcd).imp fun σ H Q q=>by
 unfold cVar at q
 split at q
 ·exact ⟨_,by assumption,q⟩
 ·exact q.elim
theorem qs (l:List Nat) {x:Str} {j pos} (h:x = st l:=by decide +kernel):PE X (.Constant (.str x) j pos) (tC (.str (st l))):=by
 rw [<- h]
 exact pe_str
theorem st_eta (a:Str):st a.cps.toList = a:=by simp
noncomputable def kAdd:R2:=fun x y H Q=>match x,y with
 | .int i,.int j=>Q (.int (i + j)) H
 | .str a,.str b=>a.cps.toList.length + b.cps.toList.length <= 100000 /\ Q (.str (st (a.cps.toList ++ b.cps.toList))) H
 | .ref l,.ref b=>∃ xs zs,H l = some (.lst xs) /\ H b = some (.lst zs) /\ xs.length + zs.length <= sizeLine /\ ∀ p,H p = none -> Q (.ref p) (upd H p (.lst (xs ++ zs)))
 | _,_=>False
theorem op_addK:OpR X (binaryOp .Add) kAdd:=by
 intro pins s σ H x y v u Q I rx ry q
 unfold kAdd at q
 split at q
 ·exact op_add pins s σ H _ _ v u Q I rx ry ⟨_,_,rfl,rfl,q⟩
 ·obtain ⟨h,q⟩:=q
  refine op_add_str pins s σ H _ _ v u Q I rx ry ⟨_,_,rfl,rfl,?_,?_⟩
  ·have:(100000:Nat) <= sizeLine:=by decide
   simp only [Array.length_toList] at h
   simp only [Str.length]
   omega
  ·rename_i a b
   have e:a ++ b = st (a.cps.toList ++ b.cps.toList):=by
    rw [<- st_app,st_eta,st_eta]
   rw [e]
   exact q
 ·obtain ⟨xs,zs,h1,h2,h3,q⟩:=q
  exact op_cat pins s σ H _ _ v u Q I rx ry ⟨_,_,_,_,rfl,rfl,h1,h2,h3,q⟩
 ·exact q.elim
noncomputable def kI (C:Int -> Int -> Prop) (g:Int -> Int -> V):R2:=fun x y H Q=>match x,y with
 | .int i,.int j=>C i j /\ Q (g i j) H
 | _,_=>False
noncomputable def kI0 (g:Int -> Int -> V):R2:=fun x y H Q=>match x,y with
 | .int i,.int j=>Q (g i j) H
 | _,_=>False
theorem kI_imp {C:Int -> Int -> Prop} {g:Int -> Int -> V}:∀ x y H Q,kI C g x y H Q -> rI C g x y H Q:=fun x y H Q q=>by
 unfold kI at q
 split at q
 ·exact ⟨_,_,rfl,rfl,q.1,q.2⟩
 ·exact q.elim
theorem kI0_imp {g:Int -> Int -> V}:∀ x y H Q,kI0 g x y H Q -> rI0 g x y H Q:=fun x y H Q q=>by
 unfold kI0 at q
 split at q
 ·exact ⟨_,_,rfl,rfl,q⟩
 ·exact q.elim
noncomputable abbrev kSub:R2:=kI0 fun i j=>.int (i - j)
noncomputable abbrev kMod:R2:=kI (fun _ j=>0 < j) fun i j=>.int (i % j)
noncomputable abbrev kFdiv:R2:=kI CDiv fun i j=>.int (i / j)
theorem op_subK:OpR X (binaryOp .Sub) kSub:=op_sub.imp kI0_imp
theorem op_modK:OpR X (binaryOp .Mod) kMod:=op_mod.imp kI_imp
theorem op_fdivK:OpR X (binaryOp .FloorDiv) kFdiv:=op_fdiv.imp kI_imp
noncomputable def kMul:R2:=fun x y H Q=>match x,y with
 | .int i,.int j=>CMul i j /\ Q (.int (i * j)) H
 | .str a,.int n=>∃ c,a.cps.toList = [c] /\ 0 <= n /\ n <= 10000 /\ Q (.str (st (List.replicate n.toNat c))) H
 | .ref l,.int k=>∃ xs,H l = some (.lst xs) /\ 0 <= k /\ k <= 10000 /\ xs.length = 1 /\ ∀ p,H p = none -> Q (.ref p) (upd H p (.lst (List.replicate k.toNat xs).flatten))
 | _,_=>False
theorem mulOk_one (k n:Nat) (hn:n <= 10000):MulOk ⟨#[k]⟩ (n:Int):=by
 have hl:(⟨#[k]⟩:Str).length = 1:=rfl
 refine ⟨?_,fun _ _=>?_,fun _ _=>?_⟩
 ·rw [decide_eq_false (by omega),decide_eq_false (by omega)]
  rfl
 ·rw [hl]
  intro z
  have:(2 ^ 63 - 1) / (n:Int) < 1:=by omega
  have h2:(n:Int) <= 10000:=by omega
  have h1:¬ (n:Int) < 1:=by assumption
  have h3:1 <= (2 ^ 63 - 1) / (n:Int):=by
   rw [Int.le_ediv_iff_mul_le (by omega)]
   omega
  omega
 ·rw [hl]
  unfold PySem.Builtin.Str.tooLong sizeLine
  exact decide_eq_false (by rw [Int.toNat_natCast]; have:(2:Nat) ^ 24 = 16777216:=(by decide); omega)
theorem op_mulK:OpR X (binaryOp .Mult) kMul:=by
 intro pins s σ H x y v u Q I rx ry q
 unfold kMul at q
 split at q
 ·exact op_mul pins s σ H _ _ v u Q I rx ry ⟨_,_,rfl,rfl,q.1,q.2⟩
 ·obtain ⟨c,e,h0,h1,q⟩:=q
  rename_i a n
  obtain ⟨k,rfl⟩:∃ k:Nat,n = k:=⟨n.toNat,by omega⟩
  have ea:a = ⟨#[c]⟩:=by rw [<- st_eta a,e]
  subst ea
  refine op_mul_str pins s σ H _ _ v u Q I rx ry ⟨_,_,rfl,rfl,mulOk_one c k (by omega),?_⟩
  rw [mul1]
  exact q
 ·obtain ⟨xs,h1,h2,h3,h4,q⟩:=q
  refine op_rep pins s σ H _ _ v u Q I rx ry ⟨_,_,_,rfl,rfl,h1,by omega,by omega,?_,q⟩
  have:(10000:Nat) <= sizeLine:=by decide
  rw [h4]
  omega
 ·exact q.elim
noncomputable def kEq (neg:Bool):R2:=fun x y H Q=>match x,y with
 | .int i,.int j=>Q (.bl (neg ^^ decide (i = j))) H
 | .str a,.str b=>Q (.bl (neg ^^ decide (a.cps.toList = b.cps.toList))) H
 | .bl a,.bl b=>Q (.bl (neg ^^ decide (a = b))) H
 | .non,.non=>Q (.bl (neg ^^ true)) H
 | .non,.int _=>Q (.bl (neg ^^ false)) H
 | .int _,.non=>Q (.bl (neg ^^ false)) H
 | .non,.str _=>Q (.bl (neg ^^ false)) H
 | .str _,.non=>Q (.bl (neg ^^ false)) H
 | _,_=>False
theorem V_str_eq (a b:Str):decide (V.str a = V.str b) = decide (a.cps.toList = b.cps.toList):=by
 by_cases h:a.cps.toList = b.cps.toList
 ·have:a = b:=by rw [<- st_eta a,h,st_eta]
  subst this
  simp
 ·rw [decide_eq_false h,decide_eq_false (fun z=>h (by cases z; rfl))]
theorem kEq_eq:∀ x y H Q,kEq false x y H Q -> rEq x y H Q:=fun x y H Q q=>by
 unfold kEq at q
 split at q <;> first
  | exact q.elim
  | (refine ⟨rfl,?_⟩; first | (rw [V_str_eq]; simpa using q) | simpa using q)
theorem kEq_ne:∀ x y H Q,kEq true x y H Q -> rNe x y H Q:=fun x y H Q q=>by
 unfold kEq at q
 split at q <;> first
  | exact q.elim
  | (refine ⟨rfl,?_⟩; first | (rw [V_str_eq]; simpa using q) | simpa using q)
theorem op_eqK:OpR X (compareOp .Eq) (kEq false):=op_eq.imp kEq_eq
theorem op_neK:OpR X (compareOp .NotEq) (kEq true):=op_ne.imp kEq_ne
noncomputable abbrev kLt:R2:=kI0 fun i j=>.bl (decide (i < j))
noncomputable abbrev kLe:R2:=kI0 fun i j=>.bl (decide (i <= j))
noncomputable abbrev kGe:R2:=kI0 fun i j=>.bl (decide (j <= i))
theorem op_ltK:OpR X (compareOp .Lt) kLt:=op_lt.imp kI0_imp
theorem op_leK:OpR X (compareOp .LtE) kLe:=op_le.imp kI0_imp
theorem op_geK:OpR X (compareOp .GtE) kGe:=op_ge.imp kI0_imp
noncomputable def kIs (neg:Bool):R2:=fun x y H Q=>match y with
 | .non=>Q (.bl (neg ^^ decide (x = .non))) H
 | _=>False
theorem op_isK:OpR X (compareOp .Is) (kIs false):=op_isN.imp fun x y H Q q=>by
 unfold kIs at q
 split at q
 ·exact ⟨rfl,by simpa using q⟩
 ·exact q.elim
theorem op_isnotK:OpR X (compareOp .IsNot) (kIs true):=op_notN.imp fun x y H Q q=>by
 unfold kIs at q
 split at q
 ·exact ⟨rfl,by simpa using q⟩
 ·exact q.elim
noncomputable def kIn (K:Frag) (neg:Bool):R2:=fun x y H Q=>match x,y with
 | .str a,.str b=>∃ c,a.cps.toList = [c] /\ Q (.bl (neg ^^ decide (c ∈ b.cps.toList))) H
 | x,.ref p=>∃ xs,(SqL K H p xs \/ SqT K H p xs) /\ flatV x = true /\ xs.all flatV = true /\ Q (.bl (neg ^^ inV x xs)) H
 | _,_=>False
theorem op_inK:OpR X (compareOp .In) (kIn X.K false):=by
 intro pins s σ H x y v u Q I rx ry q
 unfold kIn at q
 split at q
 ·obtain ⟨c,e,q⟩:=q
  rename_i a b
  have ea:a = ⟨#[c]⟩:=by rw [<- st_eta a,e]
  subst ea
  refine op_in_str pins s σ H _ _ v u Q I rx ry ⟨_,_,rfl,rfl,?_⟩
  rw [StrLaws.found_one]
  simpa using q
 ·obtain ⟨xs,h1,h2,h3,q⟩:=q
  exact op_in_seq pins s σ H _ _ v u Q I rx ry ⟨_,_,rfl,h1,h2,h3,by simpa using q⟩
 ·exact q.elim
theorem op_notinK:OpR X (compareOp .NotIn) (kIn X.K true):=by
 intro pins s σ H x y v u Q I rx ry q
 unfold kIn at q
 split at q
 ·obtain ⟨c,e,q⟩:=q
  rename_i a b
  have ea:a = ⟨#[c]⟩:=by rw [<- st_eta a,e]
  subst ea
  refine op_notin_str pins s σ H _ _ v u Q I rx ry ⟨_,_,rfl,rfl,?_⟩
  rw [StrLaws.found_one]
  simpa using q
 ·obtain ⟨xs,h1,h2,h3,q⟩:=q
  exact op_notIn_seq pins s σ H _ _ v u Q I rx ry ⟨_,_,rfl,h1,h2,h3,by simpa using q⟩
 ·exact q.elim
noncomputable def kIx (K:Frag):R2:=fun x y H Q=>match x,y with
 | .str z,.int i=>z.cps.toList.length <= 100000 /\ ∃ c,atI z.cps.toList i = some c /\ Q (.str (st [c])) H
 | .ref p,.int i=>∃ xs v,(SqL K H p xs \/ SqT K H p xs) /\ atI xs i = some v /\ Q v H
 | _,_=>False
theorem big5:(100000:Nat) <= sizeLine:=by decide
theorem strlen (z:Str):z.length = z.cps.toList.length:=by simp [Str.length]
theorem ix_K:IxR X (kIx X.K):=ix_seq.imp fun x y H Q q=>by
 unfold kIx at q
 split at q
 ·obtain ⟨h,c,e,q⟩:=q
  exact .inr (.inr ⟨_,_,c,rfl,rfl,by rw [strlen]; exact Nat.le_trans h big5,e,q⟩)
 ·obtain ⟨xs,v,h | h,e,q⟩:=q
  ·exact .inl ⟨_,_,_,_,rfl,rfl,h,e,q⟩
  ·exact .inr (.inl ⟨_,_,_,_,rfl,rfl,h,e,q⟩)
 ·exact q.elim
noncomputable def kLen (K:Frag):List V -> Hp -> VK -> Prop:=fun xs H Q=>match xs with
 | [.str z]=>z.cps.toList.length <= 100000 /\ Q (.int z.cps.toList.length) H
 | [.ref p]=>∃ ys,(SqL K H p ys \/ SqT K H p ys) /\ Q (.int ys.length) H
 | _=>False
theorem call_lenK:CallR X (.builtin "len") (kLen X.K):=by
 intro pins s σ H xs us Q I r q
 unfold kLen at q
 split at q
 ·obtain ⟨h,q⟩:=q
  refine call_len_str pins s σ H _ us Q I r ⟨_,rfl,by rw [strlen]; exact Nat.le_trans h big5,?_⟩
  rw [strlen]
  exact q
 ·obtain ⟨ys,h,q⟩:=q
  exact call_len_seq pins s σ H _ us Q I r ⟨_,_,rfl,h,q⟩
 ·exact q.elim
noncomputable def up (t:TE):TE:=fun σ H Q=>∃ Q0:VK,t σ H Q0 /\ ∀ v H',Q0 v H' -> Q v H'
noncomputable def up2 (r:R2):R2:=fun x y H Q=>∃ Q0:VK,r x y H Q0 /\ ∀ v H',Q0 v H' -> Q v H'
theorem EP.imp {pins:List (Addr × Obj)} {σ:St} {Q Q':VK} {u:Value} {s:Shared} (h:EP X pins σ Q u s) (k:∀ v H',Q v H' -> Q' v H'):EP X pins σ Q' u s:=by
 obtain ⟨v,H',I,r,q⟩:=h
 exact ⟨v,H',I,r,k v H' q⟩
theorem PE.mono {e:Expr} {t:TE} (h:PE X e t):PE X e (up t):=fun pins s σ H Q I ⟨Q0,q,k⟩=>thn (h pins s σ H Q0 I q) fun u s' z=>z.imp k
theorem OpR.mono {f:Value -> Value -> Sem Value} {r:R2} (h:OpR X f r):OpR X f (up2 r):=fun pins s σ H x y v u Q I rx ry ⟨Q0,q,k⟩=>thn (h pins s σ H x y v u Q0 I rx ry q) fun u s' z=>z.imp k
noncomputable def blK (Q:Bool -> Hp -> Prop):VK:=fun x H'=>match x with | .bl k=>Q k H' | _=>False
theorem blK_ex {Q:Bool -> Hp -> Prop} {x:V} {H':Hp} (h:blK Q x H'):∃ k,x = .bl k /\ Q k H':=by
 unfold blK at h
 split at h
 ·exact ⟨_,rfl,h⟩
 ·exact h.elim
noncomputable def cTest (t:TE):TT:=fun σ H Q=>t σ H (blK Q)
theorem qt_val {e:Expr} {t:TE} (h:PE X e t) (he:∀ whole,isTrue e X.env whole = (do let v <- whole; standAt e.pos; holding [v] (truthy v)):=by intro _; rfl):PT X e (cTest t):=
 (pt_val h.mono he).imp fun σ H Q q=>⟨_,q,fun v H' z=>blK_ex z⟩
variable {a b c:Expr} {ta tb tc:TE} {pos:Pos} {rest:List Expr}
theorem qt_cmp {op:CmpOp} {r:R2} (ho:OpR X (compareOp op) r) (ha:PE X a ta) (hb:PE X b tb) (hm:behindInMarks op b = false:=by first | exact nomark _ | rfl):PT X (.Compare a [op] [b] pos) (cTest (tOp r ta tb)):=
 (pt_cmpR ho.mono ha.mono hb.mono hm).imp fun σ H Q q=>⟨_,q,fun x H1 z=>⟨_,z,fun y H2 z2=>⟨_,z2,fun v H' z3=>blK_ex z3⟩⟩⟩
theorem qe_cmp {op:CmpOp} {r:R2} (ho:OpR X (compareOp op) r) (ha:PE X a ta) (hb:PE X b tb) (hm:behindInMarks op b = false:=by first | exact nomark _ | rfl):PE X (.Compare a [op] [b] pos) (tOp r ta tb):=pe_cmpR ho ha hb hm
noncomputable def cAndV (ta tb:TE):TE:=fun σ H Q=>ta σ H (blK fun c H1=>if c = true then tb σ H1 Q else Q (.bl false) H1)
noncomputable def cOrV (ta tb:TE):TE:=fun σ H Q=>ta σ H (blK fun c H1=>if c = true then Q (.bl true) H1 else tb σ H1 Q)
theorem qe_and (ha:PE X a ta) (hb:PE X (.BoolOp .And (b :: rest) pos) tb):PE X (.BoolOp .And (a :: b :: rest) pos) (cAndV ta tb):=(pe_and ha.mono hb).imp fun σ H Q q=>⟨_,q,fun v H' z=>blK_ex z⟩
theorem qe_or (ha:PE X a ta) (hb:PE X (.BoolOp .Or (b :: rest) pos) tb):PE X (.BoolOp .Or (a :: b :: rest) pos) (cOrV ta tb):=(pe_or ha.mono hb).imp fun σ H Q q=>⟨_,q,fun v H' z=>blK_ex z⟩
variable {o e:Expr} {to te:TE} {apos cpos:Pos}
noncomputable def cApp (to te:TE):TE:=fun σ H Q=>to σ H fun x H1=>match x with
 | .ref l=>(∃ xs,H1 l = some (.lst xs)) /\ te σ H1 fun y H2=>∃ xs,H2 l = some (.lst xs) /\ xs.length < sizeLine /\ Q .non (upd H2 l (.lst (xs ++ [y])))
 | _=>False
theorem qe_append (ho:PE X o to) (he:PE X e te) (hbase:attributeBase o "append" X.env (eval o X.env) = eval o X.env:=by rfl)
  (hfew:((backTo cpos (starEach [e] X.env)).all (fun x=>!x.1) && (backToKw cpos (keywordEach [] X.env)).all (fun x=>x.1.isSome)
   && decide ([e].length + ([]:List Keyword).length + (if ([]:List Keyword).isEmpty then 0 else 1) < 30)) = true:=by rfl)
  (hline:(apos.endLine == cpos.line) = true:=by rfl) (hs:starEach [e] X.env = (false,eval e X.env) :: starEach [] X.env:=by rfl) (hplain:(backTo cpos (starEach [] X.env)).any (·.1) = false:=by rfl):
  PE X (.Call (.Attribute o "append" apos) [e] [] cpos) (cApp to te):=
 (pe_bm PySem.F.plainAttrs_list PySem.F.slot_list_append PySem.F.type_list_append mt_append ho.mono (pa_cons he.mono pa_nil hs) hbase hfew hline hs hplain).imp fun σ H Q q=>⟨_,q,fun x H1 z=>by
  split at z
  ·rename_i l
   obtain ⟨⟨xs,h⟩,z⟩:=z
   refine ⟨.inl ⟨rfl,_,SqL.of h⟩,_,z,fun y H2 z2=>?_⟩
   obtain ⟨xs2,h2,h3,z3⟩:=z2
   exact ⟨l,xs2,y,rfl,rfl,h2,h3,z3⟩
  ·exact z.elim⟩
noncomputable def cJoin1 (K:Frag) (te:TE):TE:=fun σ H Q=>te σ H fun x H1=>match x with
 | .ref l=>∃ cs:List Nat,SqL K H1 l (cs.map fun k=>V.str (st [k])) /\ cs.length <= 10000 /\ Q (.str (st cs)) H1
 | _=>False
theorem qe_join1 {j:Nat} {p1:Pos} (he:PE X e te) (hfew:((backTo cpos (starEach [e] X.env)).all (fun x=>!x.1) && (backToKw cpos (keywordEach [] X.env)).all (fun x=>x.1.isSome)
   && decide ([e].length + ([]:List Keyword).length + (if ([]:List Keyword).isEmpty then 0 else 1) < 30)) = true:=by rfl)
  (hline:(apos.endLine == cpos.line) = true:=by rfl) (hs:starEach [e] X.env = (false,eval e X.env) :: starEach [] X.env:=by rfl) (hplain:(backTo cpos (starEach [] X.env)).any (·.1) = false:=by rfl)
  (hbase:attributeBase (.Constant (.str (Str.ofString "")) j p1) "join" X.env (eval (.Constant (.str (Str.ofString "")) j p1) X.env) = eval (.Constant (.str (Str.ofString "")) j p1) X.env:=by rfl):
  PE X (.Call (.Attribute (.Constant (.str (Str.ofString "")) j p1) "join" apos) [e] [] cpos) (cJoin1 X.K te):=
 (pe_bm PySem.F.plainAttrs_str PySem.F.slot_str_join PySem.F.type_str_join mt_join1 pe_str (pa_cons he.mono pa_nil hs) hbase hfew hline hs hplain).imp fun σ H Q q=>⟨rfl,_,q,fun x H1 z=>by
  split at z
  ·obtain ⟨cs,h,h2,z⟩:=z
   exact ⟨_,cs,rfl,rfl,h,h2,z⟩
  ·exact z.elim⟩
end
section
variable {X:Cx} {tg a b e:Expr} {te ta tb:TE} {pos p:Pos}
noncomputable def cIter (K:Frag) (te:TE):TI:=fun σ H R=>te σ H fun x H1=>match x with
 | .str z=>R (Its z) H1
 | .ref a=>((∃ xs,SqL K H1 a xs) /\ R (Itl K a) H1) \/ ((∃ xs,SqT K H1 a xs) /\ R (Itt K a) H1)
 | _=>False
theorem qi_iter (he:PE X e te):PI X tg e (cIter X.K te):=by
 intro pins s σ H R I h
 refine thn (he pins s σ H _ I h) fun v s1 ⟨y,H1,I1,r1,q1⟩=>?_
 dsimp only at q1
 split at q1
 ·rename_i x
  obtain ⟨t,rfl⟩:=r1
  refine wpAny_pyIter_strU ?_
  refine ⟨s1.heap.objs.size,[s1.heap.objs.size],_,Its x,H1,rfl,I1.kept (t':=s1.toks) fun b o e=>Heap.get?_push_of_some _ e,turn_str x t _,⟨_,Heap.get?_push_size _ rfl,rfl,rfl⟩,fun b hb=>?_,q1⟩
  have e:b = s1.heap.objs.size:=by simpa using hb
  subst e
  exact I1.fpOk (Nat.le_refl _) (I1.hok.fresh (Nat.le_refl _))
 ·rename_i l
  cases r1
  rcases q1 with ⟨⟨xs,hq⟩,q⟩ | ⟨⟨xs,hq⟩,q⟩
  ·obtain ⟨its,rv,p,hz⟩:=I1.list hq
   refine wpAny_pyIter_list p.isList ?_
   refine ⟨s1.heap.objs.size,[s1.heap.objs.size],_,_,H1,rfl,I1.kept (t':=s1.toks) fun b o e=>Heap.get?_push_of_some _ e,turn_list l _,⟨_,Heap.get?_push_size _ rfl,rfl,rfl⟩,fun b hb=>?_,q⟩
   have e:b = s1.heap.objs.size:=by simpa using hb
   subst e
   exact I1.fpOk (Nat.le_refl _) (I1.hok.fresh (Nat.le_refl _))
  ·obtain ⟨its,rv,p,hz⟩:=I1.tuple hq
   refine wpAny_pyIter_tuple (show s1.heap.IsTuple l its.toArray from p) ?_
   refine ⟨s1.heap.objs.size,[s1.heap.objs.size],_,_,H1,rfl,I1.kept (t':=s1.toks) fun b o e=>Heap.get?_push_of_some _ e,turn_tuple l _,⟨_,Heap.get?_push_size _ rfl,rfl,rfl⟩,fun b hb=>?_,q⟩
   have e:b = s1.heap.objs.size:=by simpa using hb
   subst e
   exact I1.fpOk (Nat.le_refl _) (I1.hok.fresh (Nat.le_refl _))
 ·exact q1.elim
noncomputable def cRng1 (te:TE):TI:=fun σ H R=>te σ H fun x H1=>match x with
 | .int j=>-1000000 <= j /\ j <= 1000000 /\ R (Itr 0 j.toNat) H1
 | _=>False
theorem qi_range1 (hg:Gl X "range") (hm:X.mg "range" = none) (ha:PE X a ta) (hs:starEach [a] X.env = [(false,eval a X.env)]:=by rfl):PI X tg (.Call (.Name "range" p) [a] [] pos) (cRng1 ta):=
 (pi_range1 hg hm (pa_cons ha.mono pa_nil hs) hs).imp fun σ H R q=>⟨_,q,fun x H1 z=>by
  split at z
  ·exact ⟨_,rfl,by omega,by omega,z.2.2⟩
  ·exact z.elim⟩
def srcK (K:Frag) (H:Hp) (v:V) (R:Src -> Prop):Prop:=match v with
 | .str x=>R (.str x)
 | .ref a=>(∃ xs,SqL K H a xs) /\ R (.lst a)
 | _=>False
theorem srcK_ex {K:Frag} {H:Hp} {v:V} {R:Src -> Prop} (h:srcK K H v R):∃ S,SrcOf K H S v /\ R S:=by
 unfold srcK at h
 split at h
 ·exact ⟨.str _,rfl,h⟩
 ·exact ⟨.lst _,⟨rfl,h.1⟩,h.2⟩
 ·exact h.elim
noncomputable def cZip (K:Frag) (ta tb:TE):TI:=fun σ H R=>ta σ H fun x H1=>tb σ H1 fun y H2=>srcK K H2 x fun S1=>srcK K H2 y fun S2=>R (Itz K S1 S2) H2
theorem qi_zip {elts:List Expr} {kk:Nat} {tpos:Pos} (hg:Gl X "zip") (hm:X.mg "zip" = none) (ha:PE X a ta) (hb:PE X b tb) (hs:starEach [a,b] X.env = [(false,eval a X.env),(false,eval b X.env)]:=by rfl) (hs2:starEach [b] X.env = [(false,eval b X.env)]:=by rfl):
  PI X (.Tuple elts kk tpos) (.Call (.Name "zip" p) [a,b] [] pos) (cZip X.K ta tb):=
 (pi_zip hg hm (pa_cons ha.mono (pa_cons hb.mono pa_nil hs2) (by rw [hs,hs2])) hs hs2).imp fun σ H R q=>⟨_,q,fun x H1 z=>⟨_,z,fun y H2 z=>by
  obtain ⟨S1,o1,z⟩:=srcK_ex z
  obtain ⟨S2,o2,z⟩:=srcK_ex z
  exact ⟨S1,S2,x,y,rfl,o1,o2,z⟩⟩⟩
end
def loopW (J:It) (g:TG) (tb:TS) (D:Ends) (σ:St) (H:Hp):Prop:=∃ W:Nat -> Nat -> St -> Hp -> Prop,(∃ m,W 0 m σ H) /\ ∀ i m σ H,W i m σ H ->
 (J.stop i H /\ D.nx σ H) \/ (J.go i H /\ ∃ N:St -> Hp -> Prop,(∀ σ' H',N σ' H' -> ∃ m',m' < m /\ W (i + 1) m' σ' H') /\ ∀ x H',J.yld i H x H' -> g x σ H' fun σ2 H2=>tb { D with nx:=N,ct:=N,bk:=D.nx } σ2 H2)
noncomputable def cFor (wi:TI) (g:TG) (tb:TS):TS:=fun D σ H=>wi σ H fun J H1=>loopW J g tb D σ H1
theorem qs_for {X:Cx} {tg iter:Expr} {body:List Stmt} {wi:TI} {g:TG} {tb:TS} {pos:Pos} (hp:PassesOwn (model X.prog X.w) X.A X.env X.xe) (hc:X.calm = true) (hi:PI X tg iter wi) (hg:PG X tg g) (hb:PSs X body tb)
  (hs:∀ x,foldedSetIterable iter X.env x = pure x:=by intro _; rfl):PS X (.For tg iter body [] pos) (cFor wi g tb):=ps_for hp hc hi hg hb hs
section
variable {K:Frag} {g:TG} {tb:TS} {D:Ends} {σ:St} {H:Hp}
noncomputable abbrev Ends.turn (D:Ends) (N:St -> Hp -> Prop):Ends:={ D with nx:=N,ct:=N,bk:=D.nx }
theorem loop_list {p:Addr} {xs:List V} (Pv:Nat -> St -> Hp -> Prop) (h0:Pv 0 σ H) (hl:∀ i σ H,i <= xs.length -> Pv i σ H -> SqL K H p xs)
  (hs:∀ i x σ H,xs[i]? = some x -> Pv i σ H -> g x σ H fun σ2 H2=>tb (D.turn (Pv (i + 1))) σ2 H2) (hd:∀ σ H,Pv xs.length σ H -> D.nx σ H):loopW (Itl K p) g tb D σ H:=for_list Pv h0 hl hs hd
theorem loop_items {α:Type} (item:α -> V) (xs:List α) {p:Addr} (Pv:Nat -> St -> Hp -> Prop) (h0:Pv 0 σ H) (hl:∀ i σ H,i <= xs.length -> Pv i σ H -> SqL K H p (xs.map item))
  (hs:∀ i x σ H,xs[i]? = some x -> Pv i σ H -> g (item x) σ H fun σ2 H2=>tb (D.turn (Pv (i + 1))) σ2 H2) (hd:∀ σ H,Pv xs.length σ H -> D.nx σ H):loopW (Itl K p) g tb D σ H:=
 loop_list (xs:=xs.map item) Pv h0 (fun i σ H hi=>hl i σ H (by simpa using hi)) (fun i x σ H hx p=>by
  rw [List.getElem?_map] at hx
  obtain ⟨y,hy,rfl⟩:=Option.map_eq_some_iff.mp hx
  exact hs i y σ H hy p) (fun σ H p=>hd σ H (by simpa using p))
theorem loop_tup {p:Addr} {xs:List V} (Pv:Nat -> St -> Hp -> Prop) (h0:Pv 0 σ H) (hl:∀ i σ H,i <= xs.length -> Pv i σ H -> SqT K H p xs)
  (hs:∀ i x σ H,xs[i]? = some x -> Pv i σ H -> g x σ H fun σ2 H2=>tb (D.turn (Pv (i + 1))) σ2 H2) (hd:∀ σ H,Pv xs.length σ H -> D.nx σ H):loopW (Itt K p) g tb D σ H:=for_tup Pv h0 hl hs hd
theorem loop_range {lo:Int} {n:Nat} (Pv:Nat -> St -> Hp -> Prop) (h0:Pv 0 σ H) (hs:∀ i σ H,i < n -> Pv i σ H -> g (.int (lo + i)) σ H fun σ2 H2=>tb (D.turn (Pv (i + 1))) σ2 H2) (hd:∀ σ H,Pv n σ H -> D.nx σ H):
  loopW (Itr lo n) g tb D σ H:=for_range Pv h0 hs hd
noncomputable def SrcVals (K:Frag) (H:Hp):Src -> List V -> Prop
 | .str x,xs=>xs = x.cps.toList.map fun c=>V.str (st [c])
 | .lst a,xs=>SqL K H a xs
theorem SrcVals.go {S:Src} {xs:List V} {i:Nat} (h:SrcVals K H S xs) (hi:i < xs.length):SrcGo K H S i:=by
 cases S with
 | str x=>
  have e:xs = x.cps.toList.map fun c=>V.str (st [c]):=h
  subst e
  show i < x.cps.size
  simpa using hi
 | lst a=>exact ⟨xs,xs[i],h,by simp [hi]⟩
theorem SrcVals.stop {S:Src} {xs:List V} {i:Nat} (h:SrcVals K H S xs) (hi:xs.length <= i):SrcEnd K H S i:=by
 cases S with
 | str x=>
  have e:xs = x.cps.toList.map fun c=>V.str (st [c]):=h
  subst e
  show x.cps.size <= i
  simpa using hi
 | lst a=>exact ⟨xs,h,hi⟩
theorem SrcVals.at {S:Src} {xs:List V} {i:Nat} {v:V} (h:SrcVals K H S xs) (q:SrcAt K H S i v):xs[i]? = some v:=by
 cases S with
 | str x=>
  have e:xs = x.cps.toList.map fun c=>V.str (st [c]):=h
  subst e
  obtain ⟨c,hc,rfl⟩:=q
  simp [hc]
 | lst a=>exact q xs h
theorem SqT.upd_same {p:Addr} {xs:List V}:SqT K (upd H p (.tup xs)) p xs:=SqT.of L2.upd_same
theorem loop_zip {S1 S2:Src} {xs ys:List V} {j k:Nat} (Pv:Nat -> St -> Hp -> Prop) (h0:Pv 0 σ H) (hl:∀ i σ H,Pv i σ H -> SrcVals K H S1 xs /\ SrcVals K H S2 ys)
  (hs:∀ i x y σ H T,xs[i]? = some x -> ys[i]? = some y -> Pv i σ H -> H T = none -> tb (D.turn (Pv (i + 1))) ((σ.set j (some x)).set k (some y)) (upd H T (.tup [x,y]))) (hd:∀ σ H,Pv (min xs.length ys.length) σ H -> D.nx σ H):
  loopW (Itz K S1 S2) (gTup K 2 (gCons (gName j) (gCons (gName k) gNil))) tb D σ H:=
 for_it (n:=min xs.length ys.length) Pv h0 (fun i σ H hi p=>by
   obtain ⟨q1,q2⟩:=hl i σ H p
   exact ⟨q1.go (by omega),q2.go (by omega)⟩)
  (fun σ H p=>by
   obtain ⟨q1,q2⟩:=hl _ σ H p
   by_cases h:xs.length <= ys.length
   ·exact .inl (q1.stop (by omega))
   ·exact .inr ⟨q1.go (by omega),q2.stop (by omega)⟩)
  (fun i σ H v H' hi p y=>by
   obtain ⟨T,x,y,rfl,hT,rfl,s1,s2⟩:=y
   obtain ⟨q1,q2⟩:=hl i σ H p
   exact ⟨T,[x,y],rfl,SqT.upd_same,rfl,x,[y],rfl,y,[],rfl,rfl,hs i x y σ H T (q1.at s1) (q2.at s2) p hT⟩) hd
end
def compW (J:It) (g:TG) (tc:TT) (te:TE) (σc:St) (D:Addr) (Q:VK) (H:Hp):Prop:=
 ∃ W:Nat -> Nat -> List V -> Hp -> Prop,(∃ m,W 0 m [] (upd H D (.lst []))) /\ ∀ i m acc H2,W i m acc H2 ->
  (J.stop i H2 /\ Q (.ref D) H2) \/ (J.go i H2 /\ ∀ x H3,J.yld i H2 x H3 -> g x σc H3 fun σ4 H4=>tc σ4 H4 fun b H5=>if b = true then
   te σ4 H5 fun v H6=>H6 D = some (.lst acc) /\ acc.length < sizeLine /\ ∃ m',m' < m /\ W (i + 1) m' (acc ++ [v]) (upd H6 D (.lst (acc ++ [v]))) else ∃ m',m' < m /\ W (i + 1) m' acc H5)
noncomputable def cComp (nt:Nat) (fi:List Nat) (wi:TI) (g:TG) (tc:TT) (te:TE):TE:=fun σ H Q=>wi σ H fun J H1=>∀ D,H1 D = none -> compW J g tc te (compσ nt fi σ) D Q H1
theorem qe_comp {X:Cx} {elt tg iter:Expr} {ifs:List Expr} {scope:Scope} {pos:Pos} {wi:TI} {g:TG} {tc:TT} {te:TE} {nt:Nat} {fi:List Nat} {N':List Str} (hcalm:X.calm = true)
  (S:CScope scope) (cn:CNames X scope nt fi N') (gk:GK nt g) (hi:PI X tg iter wi)
  (hg:∀ cl C s H ex,PG (cxC X scope cl N' C s H ex) tg g) (hc:∀ cl C s H ex,PIf (cxC X scope cl N' C s H ex) ifs tc) (he:∀ cl C s H ex,PE (cxC X scope cl N' C s H ex) elt te)
  (hs:∀ x,foldedSetIterable iter X.env x = pure x:=by intro _; rfl):PE X (.ListComp elt [⟨tg,iter,ifs,0⟩] scope pos) (cComp nt fi wi g tc te):=pe_comp hcalm S cn gk hi hg hc he hs
section
variable {K:Frag} {J:It} {g:TG} {tc:TT} {te:TE} {σc:St} {D:Addr} {Q:VK} {H:Hp}
theorem range_flat_succ {α:Type} (f:Nat -> List α) (n:Nat):(List.range (n + 1)).flatMap f = (List.range n).flatMap f ++ f n:=by
 rw [List.range_succ,List.flatMap_append]
 simp
theorem range_flat_len {α:Type} (f:Nat -> List α) (hf:∀ i,(f i).length <= 1) (n:Nat):((List.range n).flatMap f).length <= n:=by
 induction n with
 | zero=>simp
 | succ n ih=>
  rw [range_flat_succ,List.length_append]
  have:=hf n
  omega
theorem comp_it {n:Nat} (f:Nat -> List V) (hfree:H D = none) (hn:n <= 100000) (hf:∀ i,(f i).length <= 1) (hy:∀ i H x H',J.yld i H x H' -> Same H H')
  (hgo:∀ i H',i < n -> Same H H' -> J.go i H') (hst:∀ H',Same H H' -> J.stop n H')
  (hs:∀ i H1 x H2 (out:VK) (non:Hp -> Prop),i < n -> Same H H1 -> J.yld i H1 x H2 -> (∀ v H6,f i = [v] -> Same H2 H6 -> out v H6) -> (∀ H5,f i = [] -> Same H2 H5 -> non H5) ->
   g x σc H2 fun σ4 H4=>tc σ4 H4 fun b H5=>if b = true then te σ4 H5 out else non H5)
  (hq:∀ H',Same H H' -> H' D = some (.lst ((List.range n).flatMap f)) -> Q (.ref D) H'):compW J g tc te σc D Q H:=by
 refine ⟨fun i m acc H2=>m = n - i /\ i <= n /\ acc = (List.range i).flatMap f /\ Same H H2 /\ H2 D = some (.lst acc),⟨n,by simp,Nat.zero_le _,by simp,same_new hfree _,upd_same⟩,?_⟩
 rintro i m acc H2 ⟨rfl,hi,rfl,sm,hD⟩
 by_cases hlt:i < n
 ·refine .inr ⟨hgo i H2 hlt sm,fun x H3 y=>?_⟩
  have s23:=hy i H2 x H3 y
  refine hs i H2 x H3 _ _ hlt sm y (fun v H6 e s6=>?_) fun H5 e s5=>?_
  ·refine ⟨s6 _ _ (s23 _ _ hD),Nat.lt_of_le_of_lt (range_flat_len f hf i) (sizeBig (by omega)),n - (i + 1),by omega,rfl,hlt,?_,?_,upd_same⟩
   ·rw [range_flat_succ,e]
   ·exact same_upd (sm.trans (s23.trans s6)) hfree
  ·refine ⟨n - (i + 1),by omega,rfl,hlt,?_,sm.trans (s23.trans s5),s5 _ _ (s23 _ _ hD)⟩
   rw [range_flat_succ,e,List.append_nil]
 ·have e:i = n:=by omega
  subst e
  exact .inl ⟨hst H2 sm,hq H2 sm hD⟩
noncomputable def atH {α β:Type} (xs:List α) (h:α -> List β) (i:Nat):List β:=((xs[i]?).map h).getD []
theorem atH_some {α β:Type} {xs:List α} {h:α -> List β} {i:Nat} {x:α} (e:xs[i]? = some x):atH xs h i = h x:=by simp [atH,e]
theorem atH_len {α β:Type} {xs:List α} {h:α -> List β} (hf:∀ x,(h x).length <= 1) (i:Nat):(atH xs h i).length <= 1:=by
 unfold atH
 cases xs[i]? with
 | none=>simp
 | some x=>simpa using hf x
theorem flat_at {α β:Type} (xs:List α) (h:α -> List β):(List.range xs.length).flatMap (atH xs h) = xs.flatMap h:=by
 induction xs with
 | nil=>rfl
 | cons a xs ih=>
  rw [List.length_cons,List.range_succ_eq_map,List.flatMap_cons,List.flatMap_map,List.flatMap_cons,<- ih]
  rfl
section
variable {α:Type} (item:α -> V) (xs:List α) (h:α -> List V)
theorem comp_list {p:Addr} (hfree:H D = none) (hl:SqL K H p (xs.map item)) (hn:xs.length <= 100000) (hf:∀ x,(h x).length <= 1)
  (hs:∀ x H1 (out:VK) (non:Hp -> Prop),x ∈ xs -> Same H H1 -> (∀ v H6,h x = [v] -> Same H1 H6 -> out v H6) -> (∀ H5,h x = [] -> Same H1 H5 -> non H5) ->
   g (item x) σc H1 fun σ4 H4=>tc σ4 H4 fun b H5=>if b = true then te σ4 H5 out else non H5)
  (hq:∀ H',Same H H' -> H' D = some (.lst (xs.flatMap h)) -> Q (.ref D) H'):compW (Itl K p) g tc te σc D Q H:=by
 refine comp_it (n:=xs.length) (atH xs h) hfree hn (atH_len hf) (fun i H x H' y=>?_) (fun i H' hi s=>?_) (fun H' s=>?_) (fun i H1 x H2 out non hi s y ho hnn=>?_) fun H' s q=>?_
 ·rw [y.1]
  exact Same.refl _
 ·exact ⟨_,item xs[i],s.seq hl,by simp [hi]⟩
 ·exact ⟨_,s.seq hl,by simp⟩
 ·obtain ⟨rfl,y⟩:=y
  have e:=y _ (s.seq hl)
  rw [List.getElem?_map,List.getElem?_eq_getElem hi] at e
  have e2:item xs[i] = x:=Option.some.inj e
  subst e2
  simp only [atH_some (List.getElem?_eq_getElem hi)] at ho hnn
  exact hs xs[i] _ out non (List.getElem_mem hi) s ho hnn
 ·rw [flat_at] at q
  exact hq H' s q
theorem comp_str {l:List Nat} {h:Nat -> List V} (hfree:H D = none) (hn:l.length <= 100000) (hf:∀ x,(h x).length <= 1)
  (hs:∀ c H1 (out:VK) (non:Hp -> Prop),c ∈ l -> Same H H1 -> (∀ v H6,h c = [v] -> Same H1 H6 -> out v H6) -> (∀ H5,h c = [] -> Same H1 H5 -> non H5) ->
   g (.str (st [c])) σc H1 fun σ4 H4=>tc σ4 H4 fun b H5=>if b = true then te σ4 H5 out else non H5)
  (hq:∀ H',Same H H' -> H' D = some (.lst (l.flatMap h)) -> Q (.ref D) H'):compW (Its (st l)) g tc te σc D Q H:=by
 refine comp_it (n:=l.length) (atH l h) hfree hn (atH_len hf) (fun i H x H' y=>?_) (fun i H' hi s=>?_) (fun H' s=>?_) (fun i H1 x H2 out non hi s y ho hnn=>?_) fun H' s q=>?_
 ·rw [y.1]
  exact Same.refl _
 ·show i < (st l).cps.size
  simpa using hi
 ·show (st l).cps.size <= l.length
  simp
 ·obtain ⟨rfl,c,hc,rfl⟩:=y
  have e:l[i]? = some c:=by simpa using hc
  simp only [atH_some e] at ho hnn
  exact hs c _ out non (List.mem_of_getElem? e) s ho hnn
 ·rw [flat_at] at q
  exact hq H' s q
theorem comp_zip {S1 S2:Src} {us ws:List V} {j k:Nat} {h:V -> V -> List V} (hfree:H D = none) (h1:∀ H',Same H H' -> SrcVals K H' S1 us) (h2:∀ H',Same H H' -> SrcVals K H' S2 ws) (hn:us.length <= 100000) (hf:∀ x y,(h x y).length <= 1)
  (hs:∀ x y H1 (out:VK) (non:Hp -> Prop),(x,y) ∈ us.zip ws -> Same H H1 -> (∀ v H6,h x y = [v] -> Same H1 H6 -> out v H6) -> (∀ H5,h x y = [] -> Same H1 H5 -> non H5) ->
   tc ((σc.set j (some x)).set k (some y)) H1 fun b H5=>if b = true then te ((σc.set j (some x)).set k (some y)) H5 out else non H5)
  (hq:∀ H',Same H H' -> H' D = some (.lst ((us.zip ws).flatMap fun p=>h p.1 p.2)) -> Q (.ref D) H'):compW (Itz K S1 S2) (gTup K 2 (gCons (gName j) (gCons (gName k) gNil))) tc te σc D Q H:=by
 refine comp_it (n:=(us.zip ws).length) (atH (us.zip ws) fun p=>h p.1 p.2) hfree (by rw [List.length_zip]; omega) (atH_len fun p=>hf p.1 p.2) (fun i H x H' y=>?_) (fun i H' hi s=>?_) (fun H' s=>?_) (fun i H1 x H2 out non hi s y ho hnn=>?_) fun H' s q=>?_
 ·obtain ⟨T,x,y,_,hT,rfl,_⟩:=y
  exact same_new hT _
 ·rw [List.length_zip] at hi
  exact ⟨(h1 H' s).go (by omega),(h2 H' s).go (by omega)⟩
 ·rw [List.length_zip]
  by_cases h:us.length <= ws.length
  ·exact .inl ((h1 H' s).stop (by omega))
  ·exact .inr ⟨(h1 H' s).go (by omega),(h2 H' s).stop (by omega)⟩
 ·obtain ⟨T,x,y,rfl,hT,rfl,s1,s2⟩:=y
  have q1:=(h1 _ s).at s1
  have q2:=(h2 _ s).at s2
  have e:(us.zip ws)[i]? = some (x,y):=by
   rw [List.getElem?_zip_eq_some]
   exact ⟨q1,q2⟩
  simp only [atH_some e] at ho hnn
  exact ⟨T,[x,y],rfl,SqT.upd_same,rfl,x,[y],rfl,y,[],rfl,rfl,hs x y _ out non (List.mem_of_getElem? e) (s.trans (same_new hT _)) ho hnn⟩
 ·rw [flat_at (us.zip ws) fun p=>h p.1 p.2] at q
  exact hq H' s q
end
end
noncomputable def cnOk (N:List Str) (sc scope:Scope) (nt:Nat) (fi:List Nat) (N':List Str):Bool:=
 N'.length == nt + fi.length && ((List.range fi.length).all fun k=>match fi[k]? with
  | some j=>match N'[nt + k]?,N[j]? with
   | some x,some y=>x == y && scope.names.lookup x == some NameKind.free
   | _,_=>false
  | none=>false) && scope.names.all fun y=>y.2 != NameKind.free || (sc.names.lookup y.1 == some NameKind.cell || sc.names.lookup y.1 == some NameKind.free)
theorem cnames {X:Cx} {N:List Str} {sc scope:Scope} {nt:Nat} {fi:List Nat} {N':List Str} (hN:X.N = N) (hsc:X.env.scope = sc) (h:cnOk N sc scope nt fi N' = true):CNames X scope nt fi N':=by
 unfold cnOk at h
 simp only [Bool.and_eq_true,List.all_eq_true,List.mem_range,beq_iff_eq] at h
 obtain ⟨⟨h1,h2⟩,h3⟩:=h
 refine ⟨h1,fun k j e=>?_,fun y hy e=>?_⟩
 ·have hk:k < fi.length:=(List.getElem?_eq_some_iff.mp e).1
  have q:=h2 k hk
  rw [e] at q
  dsimp only at q
  split at q
  ·rename_i x y e1 e2
   simp only [Bool.and_eq_true,beq_iff_eq] at q
   obtain ⟨rfl,q⟩:=q
   exact ⟨_,e1,by rw [hN]; exact e2,q⟩
  ·cases q
 ·have q:=h3 y hy
  rw [e] at q
  rw [hsc]
  simpa using q
theorem cscope {scope:Scope} (hk:scope.kind = .function) (h:(scope.names.all fun y=>y.2 != NameKind.cell && (y.2 != NameKind.local || scope.names.lookup y.1 == some NameKind.local)) = true):CScope scope:=by
 simp only [List.all_eq_true,Bool.and_eq_true] at h
 refine ⟨hk,fun y hy e=>?_,fun y hy e=>?_⟩
 ·have:=(h y hy).1
  rw [e] at this
  exact absurd this (by decide)
 ·have:=(h y hy).2
  rw [e] at this
  simpa using this
theorem bb_len:bootBuiltins "len" = some (.builtin "len"):=by decide +kernel
theorem bb_any:bootBuiltins "any" = some (.builtin "any"):=by decide +kernel
theorem bb_sorted:bootBuiltins "sorted" = some (.builtin "sorted"):=by decide +kernel
theorem bb_isinstance:bootBuiltins "isinstance" = some (.builtin "isinstance"):=by decide +kernel
theorem bb_str:bootBuiltins "str" = some (.type "str"):=by decide +kernel
theorem bb_int:bootBuiltins "int" = some (.type "int"):=by decide +kernel
theorem bb_list:bootBuiltins "list" = some (.type "list"):=by decide +kernel
inductive Ty where
 | bool | int | str | list | tuple
noncomputable def Ty.nm:Ty -> String
 | .bool => "bool" | .int => "int" | .str => "str" | .list => "list" | .tuple => "tuple"
noncomputable def Ty.isBl:Ty -> Bool
 | .bool=>true | .int=>true | _=>false
noncomputable def Ty.isInt:Ty -> Bool
 | .int=>true | _=>false
noncomputable def Ty.isStr:Ty -> Bool
 | .str=>true | _=>false
noncomputable def Ty.isLst:Ty -> Bool
 | .list=>true | _=>false
noncomputable def Ty.isTup:Ty -> Bool
 | .tuple=>true | _=>false
section
variable {K:Frag}
theorem kit_non (n:Ty):PySem.W.kitOne K (.type "NoneType") (.type n.nm) = some false:=by cases n <;> with_unfolding_all rfl
theorem kit_bl (n:Ty):PySem.W.kitOne K (.type "bool") (.type n.nm) = some n.isBl:=by cases n <;> with_unfolding_all rfl
theorem kit_int (n:Ty):PySem.W.kitOne K (.type "int") (.type n.nm) = some n.isInt:=by cases n <;> with_unfolding_all rfl
theorem kit_str (n:Ty):PySem.W.kitOne K (.type "str") (.type n.nm) = some n.isStr:=by cases n <;> with_unfolding_all rfl
theorem kit_lst (n:Ty):PySem.W.kitOne K (.type "list") (.type n.nm) = some n.isLst:=by cases n <;> with_unfolding_all rfl
theorem kit_tup (n:Ty):PySem.W.kitOne K (.type "tuple") (.type n.nm) = some n.isTup:=by cases n <;> with_unfolding_all rfl
end
section
variable {X:Cx} {a b e:Expr} {ta tb te:TE} {pos p p2:Pos}
theorem qe_ty {x:Str} {n:String} (hg:Gl X x) (hm:X.mg x = none) (hv:bootBuiltins x = some (.type n)) (hn:x ≠ "__name__" := by decide) (hd:(x == ("__debug__" : Str)) = false:=by decide):PE X (.Name x pos) (tC (.ty n)):=pe_bltn (v:=.ty n) hg hm hv rfl hn hd
noncomputable def cIsI (n:Ty) (ta:TE):TE:=fun σ H Q=>ta σ H fun x H1=>match x with
 | .non=>Q (.bl false) H1
 | .bl _=>Q (.bl n.isBl) H1
 | .int _=>Q (.bl n.isInt) H1
 | .str _=>Q (.bl n.isStr) H1
 | .ref p=>((∃ xs,H1 p = some (.lst xs)) /\ Q (.bl n.isLst) H1) \/ ((∃ xs,H1 p = some (.tup xs)) /\ Q (.bl n.isTup) H1)
 | _=>False
theorem qe_isinst {x:Str} (n:Ty) (hg:Gl X "isinstance") (hm:X.mg "isinstance" = none) (ha:PE X a ta) (hg2:Gl X x) (hm2:X.mg x = none) (hv2:bootBuiltins x = some (.type n.nm)) (hn2:x ≠ "__name__" := by decide) (hd2:(x == ("__debug__" : Str)) = false:=by decide)
  (hs:starEach [a,.Name x p2] X.env = (false,eval a X.env) :: starEach [.Name x p2] X.env:=by rfl) (hpl:(backTo pos (starEach [.Name x p2] X.env)).any (·.1) = false:=by rfl):PE X (.Call (.Name "isinstance" p) [a,.Name x p2] [] pos) (cIsI n ta):=
 (pe_callB call_isinst hg hm bb_isinstance (pa_cons ha.mono (pa_cons (qe_ty hg2 hm2 hv2 hn2 hd2) pa_nil) hs) (he:=hs) (hpl:=hpl)).imp fun σ H Q q=>⟨_,q,fun v H1 z=>by
  show ∃ x n t b,[v,V.ty _] = [x,.ty n] /\ TyOf X.K H1 x t /\ PySem.W.kitOne X.K t (.type n) = some b /\ Q (.bl b) H1
  split at z
  ·exact ⟨_,_,_,_,rfl,.non,kit_non n,z⟩
  ·exact ⟨_,_,_,_,rfl,.bl _,kit_bl n,z⟩
  ·exact ⟨_,_,_,_,rfl,.int _,kit_int n,z⟩
  ·exact ⟨_,_,_,_,rfl,.str _,kit_str n,z⟩
  ·rcases z with ⟨⟨xs,h⟩,z⟩ | ⟨⟨xs,h⟩,z⟩
   ·exact ⟨_,_,_,_,rfl,.lst h,kit_lst n,z⟩
   ·exact ⟨_,_,_,_,rfl,.tup h,kit_tup n,z⟩
  ·exact z.elim⟩
noncomputable def kInt:List V -> Hp -> VK -> Prop:=fun xs H Q=>match xs with
 | [.int i]=>Q (.int i) H
 | [.bl k]=>Q (.int (if k then 1 else 0)) H
 | [.str z]=>∃ c:Nat,z.cps.toList = [c] /\ 48 <= c /\ c <= 57 /\ Q (.int ((c - 48:Nat):Int)) H
 | _=>False
theorem intText_one (c:Nat) (h0:48 <= c) (h1:c <= 57):PySem.intText? ⟨#[c]⟩ = some ((c - 48:Nat):Int):=by
 obtain ⟨d,rfl⟩:∃ d,c = 48 + d:=⟨c - 48,by omega⟩
 have h:d < 10:=by omega
 have hd:d = 0 \/ d = 1 \/ d = 2 \/ d = 3 \/ d = 4 \/ d = 5 \/ d = 6 \/ d = 7 \/ d = 8 \/ d = 9:=by omega
 rcases hd with rfl | rfl | rfl | rfl | rfl | rfl | rfl | rfl | rfl | rfl <;> decide +kernel
theorem call_intK:CallR X (.type "int") kInt:=by
 intro pins s σ H xs us Q I r q
 unfold kInt at q
 split at q
 ·exact call_int1 pins s σ H _ us Q I r (.inl ⟨_,rfl,q⟩)
 ·exact call_int1 pins s σ H _ us Q I r (.inr ⟨_,rfl,q⟩)
 ·obtain ⟨c,e,h0,h1,q⟩:=q
  rename_i z
  have ea:z = ⟨#[c]⟩:=by rw [<- st_eta z,e]
  subst ea
  exact call_int_txt pins s σ H _ us Q I r ⟨_,_,rfl,intText_one c h0 h1,(by decide:1 <= 640),q⟩
 ·exact q.elim
noncomputable def kSl (K:Frag):V -> Option Int -> Option Int -> Hp -> VK -> Prop:=fun x lo hi H Q=>match x with
 | .str z=>match lo,hi with
  | none,some j=>z.cps.toList.length <= 100000 /\ 0 <= j /\ j <= z.cps.toList.length /\ Q (.str (st (z.cps.toList.take j.toNat))) H
  | some i,none=>z.cps.toList.length <= 100000 /\ 0 <= i /\ i <= z.cps.toList.length /\ Q (.str (st (z.cps.toList.drop i.toNat))) H
  | _,_=>False
 | .ref a=>∃ xs,SqL K H a xs /\ ∀ p,H p = none -> Q (.ref p) (upd H p (.lst (cutV xs lo hi)))
 | _=>False
theorem sl_K:SlR X (kSl X.K):=by
 refine (SlR.or sl_str sl_list).imp fun x lo hi H Q q=>?_
 unfold kSl at q
 split at q
 ·rename_i z
  split at q
  ·obtain ⟨h,h0,h1,q⟩:=q
   rename_i j
   obtain ⟨k,rfl⟩:∃ k:Nat,j = k:=⟨j.toNat,by omega⟩
   refine .inl ⟨z,rfl,by rw [strlen]; exact Nat.le_trans h big5,?_⟩
   have e:=slice_to z.cps.toList k (by omega)
   rw [st_eta] at e
   rw [e]
   simpa using q
  ·obtain ⟨h,h0,h1,q⟩:=q
   rename_i j
   obtain ⟨k,rfl⟩:∃ k:Nat,j = k:=⟨j.toNat,by omega⟩
   refine .inl ⟨z,rfl,by rw [strlen]; exact Nat.le_trans h big5,?_⟩
   have e:=slice_from z.cps.toList k (by omega)
   rw [st_eta] at e
   rw [e]
   simpa using q
  ·exact q.elim
 ·obtain ⟨xs,h,q⟩:=q
  exact .inr ⟨_,_,rfl,h,q⟩
 ·exact q.elim
noncomputable def kEqNil (K:Frag):R2:=fun x y H Q=>match x,y with
 | .ref a,.ref b=>∃ xs,SqL K H a xs /\ SqL K H b [] /\ Q (.bl (decide (xs = []))) H
 | _,_=>False
theorem op_eqL (hu:X.A.units < cLine):OpR X (compareOp .Eq) (kEqNil X.K):=(op_eq_nil hu).imp fun x y H Q q=>by
 unfold kEqNil at q
 split at q
 ·obtain ⟨xs,h1,h2,q⟩:=q
  exact ⟨_,_,_,rfl,rfl,h1,h2,q⟩
 ·exact q.elim
theorem hu1 {k:Nat} {A:Around} (hr:Room k A):A.units < cLine:=hr.units0
noncomputable def cNeg (ta:TE):TE:=fun σ H Q=>ta σ H fun x H1=>match x with
 | .int i=>Q (.int (-i)) H1
 | _=>False
theorem qe_neg (ha:PE X a ta):PE X (.UnaryOp .USub a pos) (cNeg ta):=(pe_un un_neg ha.mono).imp fun σ H Q q=>⟨_,q,fun v H1 z=>by
 split at z
 ·exact ⟨_,rfl,z⟩
 ·exact z.elim⟩
end
section
variable {X:Cx} {a b e:Expr} {ta tb te:TE} {pos p apos cpos:Pos}
theorem ixE (K:Frag) (h:X.K = K):IxR X (kIx K):=by subst h; exact ix_K
theorem slE (K:Frag) (h:X.K = K):SlR X (kSl K):=by subst h; exact sl_K
theorem lenE (K:Frag) (h:X.K = K):CallR X (.builtin "len") (kLen K):=by subst h; exact call_lenK
theorem inE (K:Frag) (h:X.K = K):OpR X (compareOp .In) (kIn K false):=by subst h; exact op_inK
theorem notinE (K:Frag) (h:X.K = K):OpR X (compareOp .NotIn) (kIn K true):=by subst h; exact op_notinK
theorem eqNilE (K:Frag) (h:X.K = K) (hu:X.A.units < cLine):OpR X (compareOp .Eq) (kEqNil K):=by subst h; exact op_eqL hu
theorem joinE (K:Frag) (h:X.K = K) {j:Nat} {p1:Pos} (he:PE X e te) (hfew:((backTo cpos (starEach [e] X.env)).all (fun x=>!x.1) && (backToKw cpos (keywordEach [] X.env)).all (fun x=>x.1.isSome)
   && decide ([e].length + ([]:List Keyword).length + (if ([]:List Keyword).isEmpty then 0 else 1) < 30)) = true:=by rfl)
  (hline:(apos.endLine == cpos.line) = true:=by rfl) (hs:starEach [e] X.env = (false,eval e X.env) :: starEach [] X.env:=by rfl) (hplain:(backTo cpos (starEach [] X.env)).any (·.1) = false:=by rfl)
  (hbase:attributeBase (.Constant (.str (Str.ofString "")) j p1) "join" X.env (eval (.Constant (.str (Str.ofString "")) j p1) X.env) = eval (.Constant (.str (Str.ofString "")) j p1) X.env:=by rfl):
  PE X (.Call (.Attribute (.Constant (.str (Str.ofString "")) j p1) "join" apos) [e] [] cpos) (cJoin1 K te):=by subst h; exact qe_join1 he hfew hline hs hplain hbase
theorem iterE (K:Frag) (h:X.K = K) {tg:Expr} (he:PE X e te):PI X tg e (cIter K te):=by subst h; exact qi_iter he
theorem zipE (K:Frag) (h:X.K = K) {elts:List Expr} {kk:Nat} {tpos:Pos} (hg:Gl X "zip") (hm:X.mg "zip" = none) (ha:PE X a ta) (hb:PE X b tb) (hs:starEach [a,b] X.env = [(false,eval a X.env),(false,eval b X.env)]:=by rfl) (hs2:starEach [b] X.env = [(false,eval b X.env)]:=by rfl):
  PI X (.Tuple elts kk tpos) (.Call (.Name "zip" p) [a,b] [] pos) (cZip K ta tb):=by subst h; exact qi_zip hg hm ha hb hs hs2
theorem tupE (K:Frag) (h:X.K = K) {es:List Expr} {k:Nat} {t:TGs} {n:Nat} (hc:X.calm = true) (hp:PGs X es t) (hn:(assignEach es X.env).length = n:=by rfl) (hst:(assignEach es X.env).findIdx? (·.1) = none:=by rfl):PG X (.Tuple es k pos) (gTup K n t):=by subst h; exact pg_tup hc hp hn hst
end
section
variable {t u:TS} {te ta tb:TE} {tc:TT} {D:Ends} {σ:St} {H:Hp} {Q:VK} {R:Bool -> Hp -> Prop} {i:Nat} {v:V}
theorem a_cVar:cVar i σ H Q = (match σ[i]? with | some (some v)=>Q v H | _=>False):=rfl
theorem a_tC:tC v σ H Q = Q v H:=rfl
theorem a_tOp {r:R2}:tOp r ta tb σ H Q = ta σ H fun x H1=>tb σ H1 fun y H2=>r x y H2 Q:=rfl
theorem a_kAddI {a b:Int}:kAdd (.int a) (.int b) H Q = Q (.int (a + b)) H:=rfl
theorem a_kAddS {a b:List Nat}:kAdd (.str (st a)) (.str (st b)) H Q = (a.length + b.length <= 100000 /\ Q (.str (st (a ++ b))) H):=rfl
theorem a_kAddL {a b:Addr}:kAdd (.ref a) (.ref b) H Q = ∃ xs zs,H a = some (.lst xs) /\ H b = some (.lst zs) /\ xs.length + zs.length <= sizeLine /\ ∀ p,H p = none -> Q (.ref p) (upd H p (.lst (xs ++ zs))):=rfl
theorem a_kI {C:Int -> Int -> Prop} {g:Int -> Int -> V} {a b:Int}:kI C g (.int a) (.int b) H Q = (C a b /\ Q (g a b) H):=rfl
theorem a_kI0 {g:Int -> Int -> V} {a b:Int}:kI0 g (.int a) (.int b) H Q = Q (g a b) H:=rfl
theorem a_kMulI {a b:Int}:kMul (.int a) (.int b) H Q = (CMul a b /\ Q (.int (a * b)) H):=rfl
theorem a_kMulS {c:Nat} {n:Int}:kMul (.str (st [c])) (.int n) H Q = (0 <= n /\ n <= 10000 /\ Q (.str (st (List.replicate n.toNat c))) H):=by
 show (∃ d,[c] = [d] /\ 0 <= n /\ n <= 10000 /\ Q (.str (st (List.replicate n.toNat d))) H) = _
 refine propext ⟨?_,fun h=>⟨c,rfl,h⟩⟩
 rintro ⟨d,e,h⟩
 cases e
 exact h
theorem a_kEqI {n:Bool} {a b:Int}:kEq n (.int a) (.int b) H Q = Q (.bl (n ^^ decide (a = b))) H:=rfl
theorem a_kEqS {n:Bool} {a b:List Nat}:kEq n (.str (st a)) (.str (st b)) H Q = Q (.bl (n ^^ decide (a = b))) H:=rfl
theorem a_kEqB {n:Bool} {a b:Bool}:kEq n (.bl a) (.bl b) H Q = Q (.bl (n ^^ decide (a = b))) H:=rfl
theorem a_kEqNS {n:Bool} {b:Str}:kEq n .non (.str b) H Q = Q (.bl (n ^^ false)) H:=rfl
theorem a_kEqSN {n:Bool} {b:Str}:kEq n (.str b) .non H Q = Q (.bl (n ^^ false)) H:=rfl
theorem a_kEqNN {n:Bool}:kEq n .non .non H Q = Q (.bl (n ^^ true)) H:=rfl
theorem a_kIs {n:Bool} {x:V}:kIs n x .non H Q = Q (.bl (n ^^ decide (x = .non))) H:=rfl
theorem a_kInS {K:Frag} {n:Bool} {c:Nat} {b:List Nat}:kIn K n (.str (st [c])) (.str (st b)) H Q = Q (.bl (n ^^ decide (c ∈ b))) H:=by
 show (∃ d,[c] = [d] /\ Q (.bl (n ^^ decide (d ∈ b))) H) = _
 refine propext ⟨?_,fun h=>⟨c,rfl,h⟩⟩
 rintro ⟨d,e,h⟩
 cases e
 exact h
theorem a_kInL {K:Frag} {n:Bool} {x:V} {p:Addr}:kIn K n x (.ref p) H Q = ∃ xs,(SqL K H p xs \/ SqT K H p xs) /\ flatV x = true /\ xs.all flatV = true /\ Q (.bl (n ^^ inV x xs)) H:=by
 cases x <;> rfl
theorem a_kIxS {K:Frag} {l:List Nat} {j:Int}:kIx K (.str (st l)) (.int j) H Q = (l.length <= 100000 /\ ∃ c,atI l j = some c /\ Q (.str (st [c])) H):=rfl
theorem a_kIxL {K:Frag} {p:Addr} {j:Int}:kIx K (.ref p) (.int j) H Q = ∃ xs v,(SqL K H p xs \/ SqT K H p xs) /\ atI xs j = some v /\ Q v H:=rfl
theorem a_kLenS {K:Frag} {l:List Nat}:kLen K [.str (st l)] H Q = (l.length <= 100000 /\ Q (.int l.length) H):=rfl
theorem a_kLenL {K:Frag} {p:Addr}:kLen K [.ref p] H Q = ∃ ys,(SqL K H p ys \/ SqT K H p ys) /\ Q (.int ys.length) H:=rfl
theorem a_kIntI {a:Int}:kInt [.int a] H Q = Q (.int a) H:=rfl
theorem a_kIntB {a:Bool}:kInt [.bl a] H Q = Q (.int (if a then 1 else 0)) H:=rfl
theorem a_kIntS {c:Nat}:kInt [.str (st [c])] H Q = (48 <= c /\ c <= 57 /\ Q (.int ((c - 48:Nat):Int)) H):=by
 show (∃ d:Nat,[c] = [d] /\ 48 <= d /\ d <= 57 /\ Q (.int ((d - 48:Nat):Int)) H) = _
 refine propext ⟨?_,fun h=>⟨c,rfl,h⟩⟩
 rintro ⟨d,e,h⟩
 cases e
 exact h
theorem a_kSlTo {K:Frag} {l:List Nat} {j:Int}:kSl K (.str (st l)) none (some j) H Q = (l.length <= 100000 /\ 0 <= j /\ j <= l.length /\ Q (.str (st (l.take j.toNat))) H):=rfl
theorem a_kSlFrom {K:Frag} {l:List Nat} {j:Int}:kSl K (.str (st l)) (some j) none H Q = (l.length <= 100000 /\ 0 <= j /\ j <= l.length /\ Q (.str (st (l.drop j.toNat))) H):=rfl
theorem a_kSlL {K:Frag} {p:Addr} {lo hi:Option Int}:kSl K (.ref p) lo hi H Q = ∃ xs,SqL K H p xs /\ ∀ q,H q = none -> Q (.ref q) (upd H q (.lst (cutV xs lo hi))):=rfl
theorem a_tSl {r:V -> Option Int -> Option Int -> Hp -> VK -> Prop} {tl th:TO}:tSl r te tl th σ H Q = te σ H fun x H1=>tl σ H1 fun l H2=>th σ H2 fun u H3=>r x l u H3 Q:=rfl
theorem a_tNoPart {Q:Option Int -> Hp -> Prop}:tNoPart σ H Q = Q none H:=rfl
noncomputable def cPart (t:TE):TO:=fun σ H Q=>t σ H fun x H1=>match x with | .int i=>Q (some i) H1 | _=>False
theorem a_cPart {Q:Option Int -> Hp -> Prop}:cPart te σ H Q = te σ H fun x H1=>match x with | .int i=>Q (some i) H1 | _=>False:=rfl
theorem a_cNeg:cNeg ta σ H Q = ta σ H fun x H1=>match x with | .int i=>Q (.int (-i)) H1 | _=>False:=rfl
theorem a_kEqNil {K:Frag} {a b:Addr}:kEqNil K (.ref a) (.ref b) H Q = ∃ xs,SqL K H a xs /\ SqL K H b [] /\ Q (.bl (decide (xs = []))) H:=rfl
theorem a_cIsI {n:Ty}:cIsI n ta σ H Q = ta σ H fun x H1=>match x with
 | .non=>Q (.bl false) H1
 | .bl _=>Q (.bl n.isBl) H1
 | .int _=>Q (.bl n.isInt) H1
 | .str _=>Q (.bl n.isStr) H1
 | .ref p=>((∃ xs,H1 p = some (.lst xs)) /\ Q (.bl n.isLst) H1) \/ ((∃ xs,H1 p = some (.tup xs)) /\ Q (.bl n.isTup) H1)
 | _=>False:=rfl
theorem a_cTest:cTest te σ H R = te σ H (blK R):=rfl
theorem a_blK {b:Bool}:blK R (.bl b) H = R b H:=rfl
theorem a_cAndV:cAndV ta tb σ H Q = ta σ H (blK fun c H1=>if c = true then tb σ H1 Q else Q (.bl false) H1):=rfl
theorem a_cOrV:cOrV ta tb σ H Q = ta σ H (blK fun c H1=>if c = true then Q (.bl true) H1 else tb σ H1 Q):=rfl
theorem a_tAnd {t u:TT}:tAnd t u σ H R = t σ H fun c H1=>if c = true then u σ H1 R else R false H1:=rfl
theorem a_tOr {t u:TT}:tOr t u σ H R = t σ H fun c H1=>if c = true then R true H1 else u σ H1 R:=rfl
theorem a_tNot {t:TT}:tNot t σ H R = t σ H fun c H1=>R (!c) H1:=rfl
theorem a_tYes:tYes σ H R = R true H:=rfl
theorem a_tIf:tIf tc ta tb σ H Q = tc σ H fun c H1=>if c = true then ta σ H1 Q else tb σ H1 Q:=rfl
theorem a_cApp:cApp ta te σ H Q = ta σ H fun x H1=>match x with
 | .ref l=>(∃ xs,H1 l = some (.lst xs)) /\ te σ H1 fun y H2=>∃ xs,H2 l = some (.lst xs) /\ xs.length < sizeLine /\ Q .non (upd H2 l (.lst (xs ++ [y])))
 | _=>False:=rfl
theorem a_cJoin1 {K:Frag}:cJoin1 K te σ H Q = te σ H fun x H1=>match x with
 | .ref l=>∃ cs:List Nat,SqL K H1 l (cs.map fun k=>V.str (st [k])) /\ cs.length <= 10000 /\ Q (.str (st cs)) H1
 | _=>False:=rfl
theorem a_tNil {R:List V -> Hp -> Prop}:tNil σ H R = R [] H:=rfl
theorem a_tCons {t:TA} {R:List V -> Hp -> Prop}:tCons ta t σ H R = ta σ H fun x H1=>t σ H1 fun xs H2=>R (x :: xs) H2:=rfl
theorem a_tCall {sp:Sp} {E:XK} {t:TA}:tCall sp [] E t σ H Q = t σ H fun vs H1=>sp vs H1 Q E:=by
 unfold tCall
 simp only [List.append_nil]
theorem a_tCB {r:List V -> Hp -> VK -> Prop} {t:TA}:tCB r t σ H Q = t σ H fun vs H1=>r vs H1 Q:=rfl
theorem a_tLst {t:TA}:tLst t σ H Q = t σ H fun xs H1=>xs.length <= sizeLine /\ ∀ p,H1 p = none -> Q (.ref p) (upd H1 p (.lst xs)):=rfl
theorem a_tTup {t:TA}:tTup t σ H Q = t σ H fun xs H1=>xs.length <= sizeLine /\ ∀ p,H1 p = none -> Q (.ref p) (upd H1 p (.tup xs)):=rfl
theorem a_tNext:tNext D σ H = D.nx σ H:=rfl
theorem a_tSeq:tSeq t u D σ H = t { D with nx:=u D } σ H:=rfl
theorem a_tDrop:tDrop te D σ H = te σ H fun _ H1=>D.nx σ H1:=rfl
theorem a_tRet:tRet te D σ H = te σ H D.rt:=rfl
theorem a_tIfS:tIfS tc t u D σ H = tc σ H fun b H1=>if b = true then t D σ H1 else u D σ H1:=rfl
theorem a_tAsg {g:TG}:tAsg te g D σ H = te σ H fun x H1=>g x σ H1 D.nx:=rfl
theorem a_gName {R:St -> Hp -> Prop}:gName i v σ H R = R (σ.set i (some v)) H:=rfl
theorem a_tJoin:tJoin t u D σ H = ∃ J:St -> Hp -> Prop,t { D with nx:=J } σ H /\ ∀ σ' H',J σ' H' -> u D σ' H':=rfl
theorem a_cFor {wi:TI} {g:TG}:cFor wi g t D σ H = wi σ H fun J H1=>loopW J g t D σ H1:=rfl
theorem a_cIter {K:Frag} {R:It -> Hp -> Prop}:cIter K te σ H R = te σ H fun x H1=>match x with
 | .str z=>R (Its z) H1
 | .ref a=>((∃ xs,SqL K H1 a xs) /\ R (Itl K a) H1) \/ ((∃ xs,SqT K H1 a xs) /\ R (Itt K a) H1)
 | _=>False:=rfl
theorem a_cRng1 {R:It -> Hp -> Prop}:cRng1 te σ H R = te σ H fun x H1=>match x with
 | .int j=>-1000000 <= j /\ j <= 1000000 /\ R (Itr 0 j.toNat) H1
 | _=>False:=rfl
theorem a_cZip {K:Frag} {R:It -> Hp -> Prop}:cZip K ta tb σ H R = ta σ H fun x H1=>tb σ H1 fun y H2=>srcK K H2 x fun S1=>srcK K H2 y fun S2=>R (Itz K S1 S2) H2:=rfl
theorem a_srcKS {K:Frag} {z:Str} {R:Src -> Prop}:srcK K H (.str z) R = R (.str z):=rfl
theorem a_srcKL {K:Frag} {p:Addr} {R:Src -> Prop}:srcK K H (.ref p) R = ((∃ xs,SqL K H p xs) /\ R (.lst p)):=rfl
theorem a_cComp {nt:Nat} {fi:List Nat} {wi:TI} {g:TG}:cComp nt fi wi g tc te σ H Q = wi σ H fun J H1=>∀ D,H1 D = none -> compW J g tc te (compσ nt fi σ) D Q H1:=rfl
end
theorem a_cxK {CX:CXT} {P:Program} {w:World} {K:Frag} {mg:Str -> Option Value} {base:Heap} {N:List Str} {qual:Str} {scope:Scope} {f:Addr} {cd:Value} {A:Around} {outer:List Env} {s:Shared} {H:Hp} {E:XK}:(cxOf CX P w K mg base N qual scope f cd A outer s H E).K = K:=rfl
theorem a_cxCK {X:Cx} {scope:Scope} {cl:List (Str × Addr)} {N':List Str} {C:Addr} {s:Shared} {H:Hp} {ex:List Addr}:(cxC X scope cl N' C s H ex).K = X.K:=rfl
theorem a_one {a b:Nat}:(([a]:List Nat) = [b]) = (a = b):=by simp
theorem qo_some {X:Cx} {e:Expr} {te:TE} (h:PE X e te):PO X (some e) (cPart te):=fun pins s σ H Q I q=>po_some h.mono pins s σ H Q I ⟨_,q,fun v H1 z=>by
 split at z
 ·exact ⟨_,rfl,z⟩
 ·exact z.elim⟩
end L2
namespace Mir
open PySem L2
noncomputable def cell (ns:List Int) (k:Nat):Int:=(ns[k]?).getD 0
theorem cell_lt {ns:List Int} {k:Int} (h0:0 <= k) (h:k < ns.length):atI (ns.map V.int) k = some (V.int (cell ns k.toNat)):=by
 obtain ⟨j,rfl⟩:∃ j:Nat,k = j:=⟨k.toNat,by omega⟩
 have hj:j < ns.length:=by omega
 refine atI_nat ?_
 simp [cell,hj]
theorem cell_ge {ns:List Int} {k:Int} (h:¬ k < ns.length):cell ns k.toNat = 0:=by
 have hj:ns.length <= k.toNat:=by omega
 simp [cell,hj]
noncomputable def num (c:Int):Nat -> Int
 | 0=>c % 2147483647 + 1
 | i + 1=>(num c i * 48271 + 7 * (i:Int) * (i:Int) + 3) % 2147483647
theorem num_lo (c:Int) (i:Nat):0 <= num c i:=by
 cases i with
 | zero=>simp only [num]; omega
 | succ i=>simp only [num]; omega
theorem num_hi (c:Int) (i:Nat):num c i <= 2147483647:=by
 cases i with
 | zero=>simp only [num]; omega
 | succ i=>simp only [num]; omega
noncomputable def stream (c:Int) (n:Nat):List Int:=(List.range n).map fun i=>num c (i + 1) / 16
theorem stream_len (c:Int) (n:Nat):(stream c n).length = n:=by simp [stream]
theorem stream_snoc (c:Int) (n:Nat):stream c (n + 1) = stream c n ++ [num c (n + 1) / 16]:=by
 simp [stream,List.range_succ]
noncomputable def bit (m:Int):Nat:=if m % 2 = 0 then 48 else 49
noncomputable def rowSign (l e:Int):Nat:=if e % l > 0 then 45 else bit (e / 64)
noncomputable def row (c:Int) (w:Nat) (l:Int):List Nat:=(stream c w).map (rowSign l)
def IsRow (r:List Nat):Prop:=∀ c ∈ r,c = 48 \/ c = 49 \/ c = 45
def IsLet (r:List Nat):Prop:=∀ c ∈ r,c = 48 \/ c = 49
noncomputable def within (one other:List Nat):Bool:=(one.zip other).all fun p=>p.2 == 45 || p.2 == p.1
end Mir
namespace L2
open PySem PySem.Spec PyProof.Rows
theorem z_pos {K:Params -> Frag} {as:List Addr} {n t:Nat} {w:World} {s:Shared} (y:PySem.W.X.obsZ as s = PySem.W.X.valZ K n t w) (e:∀ P,as = (K P).map (·.1)) (ht:0 < t):(K w.params).In s.heap /\ 0 < s.toks:=by
 obtain ⟨_,h,_,q⟩:=PySem.W.X.z_facts e y
 exact ⟨h,by rw [q]; exact ht⟩
section
variable {prog:Program} {w:World} {A:Around} {E:Value -> Shared -> Prop} {s:Shared}
theorem IsList.extBut' {h h':Heap} {a l:Addr} {items:Array Value} (hl:h.IsList l items) (he:Heap.ExtBut a h h') (hne:l ≠ a):h'.IsList l items:=by
 obtain ⟨o,ho,r⟩:=hl
 exact ⟨o,he l o hne ho,r⟩
theorem draw_mid {it t:Addr} {items:Array Value} (apart:t ≠ it):∀ (mid front back:List Value) (s:Shared) (Q:List Value -> Shared -> Prop),items.toList = front ++ (mid ++ back) -> s.heap.IsListIter it t front.length -> s.heap.IsList t items ->
  (∀ g:Heap,g.IsListIter it t (front.length + mid.length) -> Heap.SameBut it s.heap g -> Q mid { s with heap:=g }) -> wpAny (model prog w) A (draw (.ref it) mid.length) Q E s
 | [],front,_,s,Q,_,at0,_,k=>wpAny_pure (k s.heap at0 (Heap.SameBut.refl ..))
 | x :: mid,front,back,s,Q,e,at0,il,k=>by
  have here:items[front.length]? = some x:=by
   rw [<- Array.getElem?_toList,e,List.getElem?_append_right (Nat.le_refl _),Nat.sub_self]
   rfl
  refine wpAny_bind (m:=pyNext (.ref it)) (wpAny_pyNext_list_item at0 il here fun g1 at1 t1=>?_)
  refine wpAny_bind (wpAny_holding (draw_mid apart mid (front ++ [x]) back _ _ (by rw [e]; simp) (by rw [List.length_append]; exact at1) (IsList.extBut' il t1.extBut apart) fun g2 at2 t2=>wpAny_pure (k g2 ?_ (t1.trans t2))))
  have sum:(front ++ [x]).length + mid.length = front.length + (x :: mid).length:=by
   simp only [List.length_append,List.length_cons,List.length_nil]
   omega
  rw [sum] at at2
  exact at2
theorem unpackItems_list {t:Addr} {items:Array Value} {Q:List Value -> Shared -> Prop} (hh:A.handled = none) (ht:s.heap.IsList t items)
  (k:∀ g,Heap.ExtBut s.heap.objs.size s.heap g -> Q items.toList { s with heap:=g }):wpAny (model prog w) A (unpackItems (.ref t) items.size none) Q E s:=by
 have below:t ≠ s.heap.objs.size:=Nat.ne_of_lt (let ⟨_,q,_⟩:=ht; Heap.lt_size q)
 have still:(s.heap.push { cls:=.type "list_iterator",data:=.fields #[.ref t,.int 0 0] }).IsList t items:=let ⟨o,q,r⟩:=ht; ⟨o,Heap.get?_push_of_some _ q,r⟩
 unfold unpackItems notIterableAtAll
 refine wpAny_bind (wpAny_bind (wpAny_specialOf ht.typeIs slot_list_iter.lookup (wpAny_pure ?_)))
 rw [if_neg (by decide)]
 refine wpAny_bind (wpAny_holding (wpAny_pyIter_list ht ?_))
 have whole:=draw_mid (prog:=prog) (w:=w) (A:=A) (E:=E) (items:=items) below items.toList [] [] { s with heap:=s.heap.push { cls:=.type "list_iterator",data:=.fields #[.ref t,.int 0 0] } }
 rw [Array.length_toList] at whole
 refine wpAny_bind (wpAny_holding (whole _ (by simp) ⟨_,Heap.get?_push_size _ rfl,rfl,rfl⟩ still fun g1 at1 t1=>?_))
 rw [if_neg (by simp)]
 refine wpAny_bind (wpAny_holding (wpAny_pyNext_list_end hh at1 (IsList.extBut' still t1.extBut below) (by simp) fun g2 t2=>?_))
 rw [if_neg (by simp)]
 exact wpAny_pure (k g2 fun b o nb q=>t2 b o nb (t1.extBut b o nb (Heap.get?_push_of_some _ q)))
theorem assign_Tuple_list {env:Env} {elts:List Expr} {x1} {pos:Pos} {t:Addr} {items:Array Value} {Q:Unit -> Shared -> Prop} (hh:A.handled = none) (ht:s.heap.IsList t items)
  (hn:(assignEach elts env).length = items.size) (hstar:(assignEach elts env).findIdx? (·.1) = none)
  (h:∀ h',Heap.ExtBut s.heap.objs.size s.heap h' -> wpAny (model prog w) A (assignInOrder ((assignEach elts env).map (·.2)) items.toList) Q E { s with heap:=h' }):
  wpAny (model prog w) A (assign (.Tuple elts x1 pos) env (.ref t)) Q E s:=by
 rw [assign_Tuple]
 refine wpAny_bind (wpAny_standAt ?_)
 unfold unpack
 rw [hn,hstar]
 exact wpAny_bind (wpAny_holding (unpackItems_list hh ht h))
end
section
variable {X:Cx} {pos:Pos}
noncomputable def gSeq (K:Frag) (n:Nat) (t:TGs):TG:=fun v σ H Q=>match v with
 | .ref a=>∃ xs,(SqL K H a xs \/ SqT K H a xs) /\ xs.length = n /\ t xs σ H Q
 | _=>False
theorem seqE (K:Frag) (hK:X.K = K) {es:List Expr} {k:Nat} {t:TGs} {n:Nat} (hc:X.calm = true) (h:PGs X es t)
  (hn:(assignEach es X.env).length = n:=by rfl) (hst:(assignEach es X.env).findIdx? (·.1) = none:=by rfl):PG X (.Tuple es k pos) (gSeq K n t):=by
 subst hK
 intro pins s σ H v u Q I r hw
 unfold gSeq at hw
 split at hw
 ·rename_i a
  obtain ⟨xs,hq,hl,hw⟩:=hw
  rcases hq with hq | hq
  ·cases r
   obtain ⟨its,rv,ht,hz⟩:=I.list hq
   refine assign_Tuple_list (I.ok.hd hc) ht.isList (by simp [hn,<- hl,rv.length]) hst fun h' hx=>?_
   have I1:Inv X pins σ H { s with heap:=h' }:=I.kept (t':=s.toks) fun b o e=>hx b o (Nat.ne_of_lt (Heap.lt_size e)) e
   exact h pins _ σ H xs _ Q I1 (by simpa using rv) hw
  ·exact pg_tup hc h hn hst pins s σ H _ u Q I r ⟨_,xs,rfl,hq,hl,hw⟩
 ·exact hw.elim
end
section
variable {t:TG} {u:TGs} {σ:St} {H:Hp} {Q:St -> Hp -> Prop} {v:V} {r:List V} {K:Frag} {n:Nat} {p:Addr}
theorem a_gCons:gCons t u (v :: r) σ H Q = t v σ H fun σ' H'=>u r σ' H' Q:=by
 refine propext ⟨?_,fun h=>⟨v,r,rfl,h⟩⟩
 rintro ⟨v',r',e,h⟩
 cases e
 exact h
theorem a_gNil:gNil [] σ H Q = Q σ H:=propext ⟨fun h=>h.2,fun h=>⟨rfl,h⟩⟩
theorem a_gSeq:gSeq K n u (.ref p) σ H Q = ∃ xs,(SqL K H p xs \/ SqT K H p xs) /\ xs.length = n /\ u xs σ H Q:=rfl
end
noncomputable def rep (c d:Nat) (l:List Nat):List Nat:=l.map fun k=>if k = c then d else k
theorem rep_append (c d:Nat) (a b:List Nat):rep c d (a ++ b) = rep c d a ++ rep c d b:=by simp [rep]
theorem rep_free (c d:Nat):∀ l:List Nat,c ∉ l -> rep c d l = l
 | [],_=>rfl
 | k :: r,h=>by
  have h1:¬ k = c:=fun e=>h (e ▸ List.mem_cons_self ..)
  have h2:c ∉ r:=fun m=>h (List.mem_cons_of_mem _ m)
  have ih:=rep_free c d r h2
  show (if k = c then d else k) :: rep c d r = k :: r
  rw [if_neg h1,ih]
theorem rep_join (c d:Nat):∀ parts:List Str,(∀ p ∈ parts,c ∉ p.cps.toList) -> rep c d (Str.join ⟨#[c]⟩ parts).cps.toList = (Str.join ⟨#[d]⟩ parts).cps.toList
 | [],_=>rfl
 | [p],h=>rep_free c d _ (h p (List.mem_singleton.mpr rfl))
 | p :: q :: r,h=>by
  have ih:=rep_join c d (q :: r) fun a ha=>h a (List.mem_cons_of_mem _ ha)
  show rep c d (p ++ ⟨#[c]⟩ ++ Str.join ⟨#[c]⟩ (q :: r)).cps.toList = (p ++ ⟨#[d]⟩ ++ Str.join ⟨#[d]⟩ (q :: r)).cps.toList
  simp only [Str.cps_append,Array.toList_append]
  rw [rep_append,rep_append,ih,rep_free c d _ (h p (List.mem_cons_self ..))]
  show p.cps.toList ++ rep c d [c] ++ _ = _
  simp [rep]
theorem replace_sign (x:Str) (c d:Nat):Txt.replace x ⟨#[c]⟩ ⟨#[d]⟩ = st (rep c d x.cps.toList):=by
 have e:(Txt.replace x ⟨#[c]⟩ ⟨#[d]⟩).cps.toList = rep c d x.cps.toList:=by
  rw [StrLaws.replace_one,<- rep_join c d _ (StrLaws.split_free x c),StrLaws.join_split]
 rw [<- st_eta (Txt.replace x ⟨#[c]⟩ ⟨#[d]⟩),e]
section
variable {X:Cx} {o e:Expr} {to te:TE} {apos cpos p1 p2:Pos} {j1 j2:Nat}
noncomputable def cRepl (c d:Nat) (to:TE):TE:=fun σ H Q=>to σ H fun x H1=>match x with
 | .str a=>a.cps.toList.length <= 10000 /\ Q (.str (st (rep c d a.cps.toList))) H1
 | _=>False
theorem qe_replace (c d:Nat) {y z:Str} (ho:PE X o to) (hy:y = ⟨#[c]⟩:=by decide +kernel) (hz:z = ⟨#[d]⟩:=by decide +kernel) (hcd:c ≠ d:=by decide)
  (hbase:attributeBase o "replace" X.env (eval o X.env) = eval o X.env:=by rfl)
  (hfew:((backTo cpos (starEach [.Constant (.str y) j1 p1,.Constant (.str z) j2 p2] X.env)).all (fun x=>!x.1) && (backToKw cpos (keywordEach [] X.env)).all (fun x=>x.1.isSome)
   && decide ([Expr.Constant (.str y) j1 p1,.Constant (.str z) j2 p2].length + ([]:List Keyword).length + (if ([]:List Keyword).isEmpty then 0 else 1) < 30)) = true:=by rfl)
  (hline:(apos.endLine == cpos.line) = true:=by rfl)
  (hs:starEach [.Constant (.str y) j1 p1,.Constant (.str z) j2 p2] X.env = [(false,eval (.Constant (.str y) j1 p1) X.env),(false,eval (.Constant (.str z) j2 p2) X.env)]:=by rfl):
  PE X (.Call (.Attribute o "replace" apos) [.Constant (.str y) j1 p1,.Constant (.str z) j2 p2] [] cpos) (cRepl c d to):=by
 intro pins s σ H Q I h
 refine wpAny_Call_method_late hbase hfew hline rfl (thn (ho.mono pins s σ H _ I ⟨_,h,fun v H' z=>z⟩) fun v s1 ⟨x,H1,I1,r1,q1⟩=>?_)
 dsimp only at q1
 split at q1
 ·rename_i a
  obtain ⟨hl,q⟩:=q1
  obtain ⟨h1,h2⟩:=tyV_is (T := "str") I1 r1 rfl
  obtain ⟨t,rfl⟩:=r1
  refine ⟨"str",_,PySem.F.plainAttrs_str,PySem.F.slot_str_replace,PySem.F.type_str_replace,h1,h2,?_⟩
  rw [hs]
  refine Calls.callWith_builtin (by rfl) (Calls.evalArgs_plain ?_)
  show wpAny _ _ (spliced ((false,eval (.Constant (.str y) j1 p1) X.env) :: backTo cpos [(false,eval (.Constant (.str z) j2 p2) X.env)])) _ _ s1
  refine Calls.spliced_cons (wpAny_Constant_str ?_)
  show wpAny _ _ (spliced ((false,eval (.Constant (.str z) j2 p2) X.env) :: backTo cpos [])) _ _ _
  refine thn (Q:=fun us s2=>us = [.str z (s1.toks + 1)] /\ s2 = { s1 with toks:=s1.toks + 2 }) ?_ ?_
  ·exact Calls.spliced_cons (Calls.Constant_str (Calls.spliced_nil ⟨rfl,rfl⟩))
  ·rintro us s2 ⟨rfl,rfl⟩
   subst hy hz
   have tk:=I1.tk
   refine tokQ (show 0 < s1.toks + 2 by omega) (SC.replace (by show s1.toks ≠ 0; omega) (by show s1.toks + 1 ≠ 0; omega) (by show s1.toks ≠ s1.toks + 1; omega) ?_ ?_ fun t' k (htk:0 < k)=>?_)
   ·rw [beq_eq_false_iff_ne]
    intro e
    cases e
    exact hcd rfl
   ·rw [strlen]
    show a.cps.toList.length + (a.cps.toList.length + 1) * 1 <= 16777216
    omega
   ·rw [replace_sign]
    exact ⟨.str _,H1,I1.tok _,⟨_,rfl⟩,q⟩
 ·exact q1.elim
noncomputable def kList (K:Frag):List V -> Hp -> VK -> Prop:=fun xs H Q=>match xs with
 | [.str z]=>z.cps.toList.length <= 100000 /\ ∀ p,H p = none -> Q (.ref p) (upd H p (.lst (z.cps.toList.map fun c=>V.str (st [c]))))
 | [.ref a]=>∃ ys,(SqL K H a ys \/ SqT K H a ys) /\ ∀ p,H p = none -> Q (.ref p) (upd H p (.lst ys))
 | _=>False
theorem vals_signs {x:Str} {acc:Array Value} (h:ItemsOf (SignAt x) acc x.cps.size):Vals (x.cps.toList.map fun c=>V.str (st [c])) acc.toList:=by
 obtain ⟨hs,hi⟩:=h
 have key:∀ (l:List Nat) (us:List Value),l.length = us.length -> (∀ (j:Nat) (v:Value),us[j]? = some v -> ∃ (c:Nat) (u:Tok),l[j]? = some c /\ v = Value.str ⟨#[c]⟩ u) -> Vals (l.map fun c=>V.str (st [c])) us:=by
  intro l
  induction l with
  | nil=>
   intro us hl _
   cases us with
   | nil=>exact .nil
   | cons=>cases hl
  | cons a l ih=>
   intro us hl hq
   cases us with
   | nil=>cases hl
   | cons v us=>
    obtain ⟨c,u,e,rfl⟩:=hq 0 v rfl
    cases e
    exact .cons ⟨u,rfl⟩ (ih us (by simpa using hl) fun j w hj=>hq (j + 1) w hj)
 refine key _ _ (by simp [hs]) fun j v hj=>?_
 obtain ⟨c,u,e,rfl⟩:=hi j v (by simpa using hj)
 exact ⟨c,u,by simpa using e,rfl⟩
theorem call_listK (K:Frag) (hK:X.K = K) (hc:X.calm = true):CallR X (.type "list") (kList K):=by
 subst hK
 intro pins s σ H xs us Q I r q
 unfold kList at q
 split at q
 ·obtain ⟨hl,q⟩:=q
  rename_i z
  obtain ⟨u,rfl,t,rfl⟩:=vals1 r
  have hz:z.cps.size <= sizeLine:=by
   have:=big5
   simp only [Array.length_toList] at hl
   omega
  refine tokQ I.tk (call_list_str (I.ok.hd hc) z t (fun h' tk acc c' kp ho hi (htk:0 < tk)=>?_) hz)
  refine ⟨.ref s.heap.objs.size,_,I.laid (a:=s.heap.objs.size) (o:=.lst (z.cps.toList.map fun c=>V.str (st [c]))) kp (Nat.le_refl _) ⟨?_,acc.toList,c',vals_signs hi,by simpa using ho⟩,rfl,q _ I.fresh⟩
  rw [List.length_map]
  simpa using hz
 ·obtain ⟨ys,h,q⟩:=q
  exact call_list_of pins s σ H _ us Q I r ⟨_,ys,rfl,h,q⟩
 ·exact q.elim
theorem a_kListS {K:Frag} {l:List Nat} {H:Hp} {Q:VK}:kList K [.str (st l)] H Q = (l.length <= 100000 /\ ∀ p,H p = none -> Q (.ref p) (upd H p (.lst (l.map fun c=>V.str (st [c]))))):=rfl
theorem a_kListL {K:Frag} {a:Addr} {H:Hp} {Q:VK}:kList K [.ref a] H Q = ∃ ys,(SqL K H a ys \/ SqT K H a ys) /\ ∀ p,H p = none -> Q (.ref p) (upd H p (.lst ys)):=rfl
theorem a_cRepl {c d:Nat} {σ:St} {H:Hp} {Q:VK}:cRepl c d to σ H Q = to σ H fun x H1=>match x with
 | .str a=>a.cps.toList.length <= 10000 /\ Q (.str (st (rep c d a.cps.toList))) H1
 | _=>False:=rfl
end
section
variable {X:Cx} {a:Expr} {ta:TE} {p pos:Pos}
theorem bb_enumerate:bootBuiltins "enumerate" = some (.type "enumerate"):=by decide +kernel
end
section
variable {X:Cx}
end
theorem tab_laid {mask finger moves:Nat} {led plain:Bool} {hs:Array Int} {r:SetTable × Array Nat} (h:SetTable.laid mask finger moves led plain hs = some r):r.1.led = led /\ r.1.plain = plain:=by
 unfold SetTable.laid at h
 cases q:SetTable.layClean mask hs with
 | none=>rw [q] at h; cases h
 | some ow=>
  rw [q] at h
  cases h
  exact ⟨rfl,rfl⟩
theorem tab_relay (t:SetTable) (es:Array (Int × Value)) (n:Nat):(relayAll t es n).2.1.led = t.led /\ (t.plain = false -> (relayAll t es n).2.1.plain = false):=by
 unfold relayAll
 split
 ·rename_i t' order e
  have q:=tab_laid e
  dsimp only
  split
  ·exact ⟨q.1,fun z=>q.2.trans z⟩
  ·exact ⟨rfl,fun _=>rfl⟩
 ·exact ⟨rfl,fun _=>rfl⟩
noncomputable def txtOf:Value -> Str
 | .str x _=>x
 | _=>⟨#[]⟩
def IsTexts (w:World) (h:Heap) (a:Addr) (led:Bool) (ss:List Str):Prop:=
 ∃ es ep t,h.get? a = some { cls:=.type "set",dict:=none,data:=.set es ep t,slots:=#[] } /\ (∀ e ∈ es.toList,∃ x u,e = (hashStr w x,Value.str x u)) /\
  (es.toList.map fun e=>txtOf e.2).Perm ss /\ t.fits es.size = true /\ t.led = led /\ (es.size ≠ 0 -> t.plain = false)
section
variable {prog:Program} {w:World} {A:Around} {E:Value -> Shared -> Prop} {s:Shared}
noncomputable def addT (ss:List Str) (x:Str):List Str:=if x ∈ ss then ss else ss ++ [x]
theorem set_put {a:Addr} {es es':Array (Int × Value)} {ep:Nat} {t t':SetTable} (ho:s.heap.get? a = some { cls:=.type "set",dict:=none,data:=.set es ep t,slots:=#[] }):
  (s.heap.update a (Obj.putSet es' t')).get? a = some { cls:=.type "set",dict:=none,data:=.set es' (ep + 1) t',slots:=#[] }:=
 Heap.get?_update_self (Obj.putSet es' t') ho rfl
end
noncomputable def dd (l:List Str):List Str:=l.foldl addT []
theorem IsTexts.at {w:World} {h h':Heap} {a:Addr} {led:Bool} {ss:List Str} (x:IsTexts w h a led ss) (k:∀ o,h.get? a = some o -> h'.get? a = some o):IsTexts w h' a led ss:=by
 obtain ⟨es,ep,t,ho,r⟩:=x
 exact ⟨es,ep,t,k _ ho,r⟩
section
variable {prog:Program} {w:World} {A:Around} {R:Result -> Shared -> Prop} {I:Addr} {fp wr:List Addr} {G:Array GenState -> Array GenState -> Prop} {n:Nat} {P:Nat -> Value -> Prop} {St:Nat -> Shared -> Prop}
end
section
variable {prog:Program} {w:World} {A:Around} {E:Value -> Shared -> Prop} {s:Shared}
end
section
variable {M:Model} {A:Around} {E:Value -> Shared -> Prop}
end
section
variable {prog:Program} {w:World} {A:Around} {E:Value -> Shared -> Prop} {s:Shared}
end
section
variable {prog:Program} {w:World} {A:Around} {E:Value -> Shared -> Prop} {s:Shared} {it a:Addr} {es:Array (Int × Value)} {n ep i:Nat} {t:SetTable}
end
section
variable {prog:Program} {w:World} {A:Around} {E:Value -> Shared -> Prop} {s:Shared} {it a:Addr} {es:Array (Int × Value)} {n ep i:Nat} {t:SetTable}
end
section
variable {prog:Program} {w:World} {A:Around} {E:Value -> Shared -> Prop} {s:Shared} {it a:Addr} {es:Array (Int × Value)} {n ep i:Nat} {t:SetTable}
end
section
variable {prog:Program} {w:World} {A:Around} {E:Value -> Shared -> Prop} {s:Shared}
structure Walked (prog:Program) (w:World) (A:Around) (h:Heap) (a:Addr) (ss:List Str) (it:Addr) (h':Heap):Prop where
 old:∀ b o,h.get? b = some o -> h'.get? b = some o
 new:h.objs.size <= it
 walk:∃ fp St,∃ xs:List Value,Walks prog w A it fp [it] xs.length (fun i v=>xs[i]? = some v) St /\ St 0 h' /\ (∀ b ∈ fp,b = a \/ h.objs.size <= b) /\ (∀ v ∈ xs,∃ x u,v = Value.str x u) /\ (xs.map txtOf).Perm ss
end
section
variable {prog:Program} {w:World} {A:Around} {E:Value -> Shared -> Prop} {s:Shared}
end
noncomputable def ins (x:List Nat):List (List Nat) -> List (List Nat)
 | []=>[x]
 | y :: r=>if x = y then y :: r else if x < y then x :: y :: r else y :: ins x r
section
variable {prog:Program} {w:World} {A:Around} {E:Value -> Shared -> Prop} {s:Shared}
end
section
variable {X:Cx}
end
inductive D where
 | f (v:V) | l (xs:List D) | t (xs:List D)
mutual
noncomputable def eqD:D -> D -> Bool
 | .f x,.f y=>eqV x y
 | .l xs,.l ys=>eqDs xs ys
 | .t xs,.t ys=>eqDs xs ys
 | .f _,.l _=>false
 | .f _,.t _=>false
 | .l _,.f _=>false
 | .l _,.t _=>false
 | .t _,.f _=>false
 | .t _,.l _=>false
noncomputable def eqDs:List D -> List D -> Bool
 | [],[]=>true
 | x :: xs,y :: ys=>eqD x y && eqDs xs ys
 | [],_ :: _=>false
 | _ :: _,[]=>false
end
noncomputable def Deep (K:Frag) (H:Hp):Nat -> V -> D -> Prop
 | 0,v,d=>d = .f v /\ flatV v = true
 | n + 1,v,d=>(d = .f v /\ flatV v = true) \/ (∃ a vs ds,v = .ref a /\ d = .l ds /\ SqL K H a vs /\ Paired (Deep K H n) vs ds) \/ (∃ a vs ds,v = .ref a /\ d = .t ds /\ SqT K H a vs /\ Paired (Deep K H n) vs ds)
theorem eqDs_len:∀ {xs ys:List D},xs.length ≠ ys.length -> eqDs xs ys = false
 | [],[],h=>absurd rfl h
 | [],_ :: _,_=>by rw [eqDs]
 | _ :: _,[],_=>by rw [eqDs]
 | x :: xs,y :: ys,h=>by
  rw [eqDs,eqDs_len (xs:=xs) (ys:=ys) (fun e=>h (by simp [e])),Bool.and_false]
theorem eqV_refl {v:V} (h:flatV v = true):eqV v v = true:=by
 cases v <;> simp_all [flatV,eqV]
section
variable {X:Cx} {pins:List (Addr × Obj)} {σ:St} {H:Hp} {s:Shared}
theorem list_flat {A:Around} {l:Addr} {items:Array Value} {y:V} {v:Value} (hl:s.heap.IsList l items) (hu:A.units < cLine) (r:RelV y v) (f:flatV y = true):SeqAt.EqAt A s (.ref l) v false:=by
 cases y with
 | non=>cases r; exact .list_none hl hu
 | bl b=>cases r; exact .list_bool b hl hu
 | int i=>obtain ⟨t,rfl⟩:=r; exact .list_int i t hl hu
 | str x=>obtain ⟨t,rfl⟩:=r; exact .list_str x t hl hu
 | _=>exact absurd (show false = true from f) Bool.false_ne_true
theorem flat_list {A:Around} {l:Addr} {items:Array Value} {y:V} {v:Value} (hl:s.heap.IsList l items) (hu:A.units < cLine) (r:RelV y v) (f:flatV y = true):SeqAt.EqAt A s v (.ref l) false:=by
 cases y with
 | non=>cases r; exact .none_list hl hu
 | bl b=>cases r; exact .bool_list b hl hu
 | int i=>obtain ⟨t,rfl⟩:=r; exact .int_list i t hl hu
 | str x=>obtain ⟨t,rfl⟩:=r; exact .str_list x t hl hu
 | _=>exact absurd (show false = true from f) Bool.false_ne_true
theorem tuple_flat {A:Around} {l:Addr} {items:Array Value} {y:V} {v:Value} (hl:s.heap.IsTuple l items) (hu:A.units < cLine) (r:RelV y v) (f:flatV y = true):SeqAt.EqAt A s (.ref l) v false:=by
 cases y with
 | non=>cases r; exact .tuple_none hl hu
 | bl b=>cases r; exact .tuple_bool b hl hu
 | int i=>obtain ⟨t,rfl⟩:=r; exact .tuple_int i t hl hu
 | str x=>obtain ⟨t,rfl⟩:=r; exact .tuple_str x t hl hu
 | _=>exact absurd (show false = true from f) Bool.false_ne_true
theorem flat_tuple {A:Around} {l:Addr} {items:Array Value} {y:V} {v:Value} (hl:s.heap.IsTuple l items) (hu:A.units < cLine) (r:RelV y v) (f:flatV y = true):SeqAt.EqAt A s v (.ref l) false:=by
 cases y with
 | non=>cases r; exact .none_tuple hl hu
 | bl b=>cases r; exact .bool_tuple b hl hu
 | int i=>obtain ⟨t,rfl⟩:=r; exact .int_tuple i t hl hu
 | str x=>obtain ⟨t,rfl⟩:=r; exact .str_tuple x t hl hu
 | _=>exact absurd (show false = true from f) Bool.false_ne_true
theorem apart_lt (I:Inv X pins σ H s) {a:Addr} {vs ws:List V} (h:SqL X.K H a vs) (k:SqT X.K H a ws):False:=by
 obtain ⟨_,_,p1,_⟩:=I.list h
 obtain ⟨_,_,p2,_⟩:=I.tuple k
 exact SeqAt.ne_of_list_tuple p1.isList p2 rfl
theorem deep_same (I:Inv X pins σ H s):∀ (n:Nat) (v:V) (d d':D),Deep X.K H n v d -> Deep X.K H n v d' -> eqD d d' = true
 | 0,v,d,d',⟨e,f⟩,⟨e',_⟩=>by subst e; subst e'; rw [eqD]; exact eqV_refl f
 | n + 1,v,d,d',h,h'=>by
  have pr:∀ (vs:List V) (ds ds':List D),Paired (Deep X.K H n) vs ds -> Paired (Deep X.K H n) vs ds' -> eqDs ds ds' = true:=by
   intro vs
   induction vs with
   | nil=>intro ds ds' p q; cases p; cases q; rw [eqDs]
   | cons v vs ih=>
    intro ds ds' p q
    cases p with
    | cons p1 p2=>cases q with
     | cons q1 q2=>rw [eqDs,deep_same I n v _ _ p1 q1,ih _ _ p2 q2]; rfl
  rcases h with ⟨e,f⟩ | ⟨a,vs,ds,rfl,rfl,ha,p⟩ | ⟨a,vs,ds,rfl,rfl,ha,p⟩
  ·rcases h' with ⟨e',_⟩ | ⟨a',vs',ds',rfl,_⟩ | ⟨a',vs',ds',rfl,_⟩
   ·subst e; subst e'; rw [eqD]; exact eqV_refl f
   ·exact absurd (show false = true from f) Bool.false_ne_true
   ·exact absurd (show false = true from f) Bool.false_ne_true
  ·rcases h' with ⟨_,f⟩ | ⟨a',vs',ds',e,rfl,ha',p'⟩ | ⟨a',vs',ds',e,rfl,ha',p'⟩
   ·exact absurd (show false = true from f) Bool.false_ne_true
   ·cases e
    obtain rfl:=I.list_inj ha ha'
    rw [eqD]; exact pr vs ds ds' p p'
   ·cases e
    exact (apart_lt I ha ha').elim
  ·rcases h' with ⟨_,f⟩ | ⟨a',vs',ds',e,rfl,ha',p'⟩ | ⟨a',vs',ds',e,rfl,ha',p'⟩
   ·exact absurd (show false = true from f) Bool.false_ne_true
   ·cases e
    exact (apart_lt I ha' ha).elim
   ·cases e
    obtain rfl:=I.tuple_inj ha ha'
    rw [eqD]; exact pr vs ds ds' p p'
noncomputable def eqNth (ds ds':List D) (j:Nat):Bool:=match ds[j]?,ds'[j]? with
 | some d,some d'=>eqD d d'
 | _,_=>true
theorem all_eqNth:∀ {ds ds':List D},ds.length = ds'.length -> (List.range ds.length).all (eqNth ds ds') = eqDs ds ds'
 | [],[],_=>by rw [eqDs]; rfl
 | d :: ds,d' :: ds',h=>by
  have ih:=all_eqNth (ds:=ds) (ds':=ds') (by simpa using h)
  rw [List.length_cons,List.range_succ_eq_map,List.all_cons,List.all_map,eqDs]
  have e:eqNth (d :: ds) (d' :: ds') 0 = eqD d d':=rfl
  have e2:(eqNth (d :: ds) (d' :: ds') ∘ Nat.succ) = eqNth ds ds':=funext fun j=>by simp [eqNth]
  rw [e,e2,ih]
theorem paired_at {α β:Type} {F:α -> β -> Prop}:∀ {l:List α} {m:List β},Paired F l m -> ∀ {j:Nat} {x:α},l[j]? = some x -> ∃ y,m[j]? = some y /\ F x y
 | _,_,.nil,j,x,h=>by simp at h
 | _,_,.cons p r,0,x,h=>by simp at h; subst h; exact ⟨_,rfl,p⟩
 | _,_,.cons p r,j + 1,x,h=>by simpa using paired_at r (j:=j) (by simpa using h)
theorem deep_eqAt (I:Inv X pins σ H s):∀ (n:Nat) (A:Around) (x y:V) (dx dy:D) (u v:Value),A.units + n < cLine -> Deep X.K H n x dx -> Deep X.K H n y dy -> RelV x u -> RelV y v -> SeqAt.EqAt A s u v (eqD dx dy)
 | 0,A,x,y,dx,dy,u,v,_,⟨e,f⟩,⟨e',f'⟩,ru,rv=>by subst e; subst e'; rw [eqD]; exact eqAt_V ru rv f f'
 | n + 1,A,x,y,dx,dy,u,v,hu,hx,hy,ru,rv=>by
  have hu0:A.units < cLine:=by omega
  have items:∀ (vs ws:List V) (ds ds':List D) (us us':List Value),Paired (Deep X.K H n) vs ds -> Paired (Deep X.K H n) ws ds' -> Vals vs us -> Vals ws us' ->
    ∀ j (h1:j < us.toArray.size) (h2:j < us'.toArray.size),SeqAt.EqAt A.in1 s us.toArray[j] us'.toArray[j] (eqNth ds ds' j):=by
   intro vs ws ds ds' us us' p q r r' j h1 h2
   have l1:=r.length
   have l2:=r'.length
   simp only [List.size_toArray] at h1 h2
   have g1:vs[j]? = some (vs[j]'(by omega)):=List.getElem?_eq_getElem _
   have g2:ws[j]? = some (ws[j]'(by omega)):=List.getElem?_eq_getElem _
   obtain ⟨d,hd,fd⟩:=paired_at p g1
   obtain ⟨d',hd',fd'⟩:=paired_at q g2
   obtain ⟨c,hc,rc⟩:=r.get g1
   obtain ⟨c',hc',rc'⟩:=r'.get g2
   have e1:us.toArray[j] = c:=by rw [List.getElem?_eq_getElem h1] at hc; simpa using hc
   have e2:us'.toArray[j] = c':=by rw [List.getElem?_eq_getElem h2] at hc'; simpa using hc'
   rw [e1,e2]
   unfold eqNth
   rw [hd,hd']
   exact deep_eqAt I n A.in1 _ _ d d' c c' (by rw [Around.in1_units]; omega) fd fd' rc rc'
  rcases hx with ⟨e,f⟩ | ⟨a,vs,ds,rfl,rfl,ha,p⟩ | ⟨a,vs,ds,rfl,rfl,ha,p⟩
  ·subst e
   rcases hy with ⟨e',f'⟩ | ⟨b,ws,ds',rfl,rfl,hb,q⟩ | ⟨b,ws,ds',rfl,rfl,hb,q⟩
   ·subst e'; rw [eqD]; exact eqAt_V ru rv f f'
   ·cases rv
    obtain ⟨_,_,pl,_⟩:=I.list hb
    rw [eqD]; exact flat_list pl.isList hu0 ru f
   ·cases rv
    obtain ⟨_,_,pl,_⟩:=I.tuple hb
    rw [eqD]; exact flat_tuple pl hu0 ru f
  ·cases ru
   obtain ⟨us,r1,pl,_⟩:=I.list ha
   rcases hy with ⟨e',f'⟩ | ⟨b,ws,ds',rfl,rfl,hb,q⟩ | ⟨b,ws,ds',rfl,rfl,hb,q⟩
   ·subst e'; rw [eqD]; exact list_flat pl.isList hu0 rv f'
   ·cases rv
    by_cases eab:a = b
    ·subst eab
     have:=deep_same I (n + 1) (.ref a) (.l ds) (.l ds') (.inr (.inl ⟨a,vs,ds,rfl,rfl,ha,p⟩)) (.inr (.inl ⟨a,ws,ds',rfl,rfl,hb,q⟩))
     rw [this]
     exact SeqAt.EqAt.same _
    ·obtain ⟨us',r2,pl2,_⟩:=I.list hb
     have l1:=r1.length
     have l2:=r2.length
     have l3:=p.length
     have l4:=q.length
     rw [eqD]
     by_cases el:ds.length = ds'.length
     ·rw [<- all_eqNth el,show ds.length = us.toArray.size by simp only [List.size_toArray]; omega]
      exact .of_refs eab (.lists pl.isList pl2.isList (by simp only [List.size_toArray]; omega) hu0 (items vs ws ds ds' us us' p q r1 r2))
     ·rw [eqDs_len el]
      exact .of_refs eab (.lists_lengths pl.isList pl2.isList (by simp only [List.size_toArray,bne_iff_ne,ne_eq]; omega) hu0)
   ·cases rv
    obtain ⟨_,_,pl2,_⟩:=I.tuple hb
    rw [eqD]; exact .list_tuple pl.isList pl2 hu0
  ·cases ru
   obtain ⟨us,r1,pl,_⟩:=I.tuple ha
   rcases hy with ⟨e',f'⟩ | ⟨b,ws,ds',rfl,rfl,hb,q⟩ | ⟨b,ws,ds',rfl,rfl,hb,q⟩
   ·subst e'; rw [eqD]; exact tuple_flat pl hu0 rv f'
   ·cases rv
    obtain ⟨_,_,pl2,_⟩:=I.list hb
    rw [eqD]; exact .tuple_list pl pl2.isList hu0
   ·cases rv
    by_cases eab:a = b
    ·subst eab
     have:=deep_same I (n + 1) (.ref a) (.t ds) (.t ds') (.inr (.inr ⟨a,vs,ds,rfl,rfl,ha,p⟩)) (.inr (.inr ⟨a,ws,ds',rfl,rfl,hb,q⟩))
     rw [this]
     exact SeqAt.EqAt.same _
    ·obtain ⟨us',r2,pl2,_⟩:=I.tuple hb
     have l1:=r1.length
     have l2:=r2.length
     have l3:=p.length
     have l4:=q.length
     rw [eqD]
     have key:eqDs ds ds' = ((List.range (min us.toArray.size us'.toArray.size)).all (eqNth ds ds') && us.toArray.size == us'.toArray.size):=by
      by_cases el:ds.length = ds'.length
      ·rw [<- all_eqNth el,show min us.toArray.size us'.toArray.size = ds.length by simp only [List.size_toArray]; omega,show (us.toArray.size == us'.toArray.size) = true by simp only [List.size_toArray,beq_iff_eq]; omega,Bool.and_true]
      ·rw [eqDs_len el,show (us.toArray.size == us'.toArray.size) = false by simp only [List.size_toArray,beq_eq_false_iff_ne,ne_eq]; omega,Bool.and_false]
     rw [key]
     exact .of_refs eab (.tuples pl pl2 hu0 (items vs ws ds ds' us us' p q r1 r2))
end
section
variable {X:Cx} {pins:List (Addr × Obj)} {σ:St} {H:Hp} {s:Shared}
theorem deep_items (I:Inv X pins σ H s) {n:Nat} {A:Around} (hu:A.units + n + 1 < cLine) {vs ws:List V} {ds ds':List D} {us us':List Value} (p:Paired (Deep X.K H n) vs ds) (q:Paired (Deep X.K H n) ws ds') (r:Vals vs us) (r':Vals ws us'):
  ∀ j (h1:j < us.toArray.size) (h2:j < us'.toArray.size),SeqAt.EqAt A.in1 s us.toArray[j] us'.toArray[j] (eqNth ds ds' j):=by
 intro j h1 h2
 have l1:=r.length
 have l2:=r'.length
 simp only [List.size_toArray] at h1 h2
 have g1:vs[j]? = some (vs[j]'(by omega)):=List.getElem?_eq_getElem _
 have g2:ws[j]? = some (ws[j]'(by omega)):=List.getElem?_eq_getElem _
 obtain ⟨d,hd,fd⟩:=paired_at p g1
 obtain ⟨d',hd',fd'⟩:=paired_at q g2
 obtain ⟨c,hc,rc⟩:=r.get g1
 obtain ⟨c',hc',rc'⟩:=r'.get g2
 have e1:us.toArray[j] = c:=by rw [List.getElem?_eq_getElem h1] at hc; simpa using hc
 have e2:us'.toArray[j] = c':=by rw [List.getElem?_eq_getElem h2] at hc'; simpa using hc'
 rw [e1,e2]
 unfold eqNth
 rw [hd,hd']
 exact deep_eqAt I n A.in1 _ _ d d' c c' (by rw [Around.in1_units]; omega) fd fd' rc rc'
noncomputable def kEqD (K:Frag) (neg:Bool):R2:=fun x y H Q=>match x,y with
 | .ref a,.ref b=>∃ n dx dy,n <= 100 /\ Deep K H n (.ref a) dx /\ Deep K H n (.ref b) dy /\ Q (.bl (neg ^^ eqD dx dy)) H
 | _,_=>False
theorem tuple_key {us us':List Value} {ds ds':List D} (l1:ds.length = us.length) (l2:ds'.length = us'.length):((List.range (min us.toArray.size us'.toArray.size)).all (eqNth ds ds') && us.toArray.size == us'.toArray.size) = eqDs ds ds':=by
 by_cases el:ds.length = ds'.length
 ·rw [<- all_eqNth el,show min us.toArray.size us'.toArray.size = ds.length by simp only [List.size_toArray]; omega,show (us.toArray.size == us'.toArray.size) = true by simp only [List.size_toArray,beq_iff_eq]; omega,Bool.and_true]
 ·rw [eqDs_len el,show (us.toArray.size == us'.toArray.size) = false by simp only [List.size_toArray,beq_eq_false_iff_ne,ne_eq]; omega,Bool.and_false]
theorem eqDE (K:Frag) (hK:X.K = K) {k:Nat} (hr:Room k X.A):OpR X (compareOp .Eq) (kEqD K false):=by
 subst hK
 intro pins s σ H x y v u Q I rx ry h
 unfold kEqD at h
 split at h
 ·rename_i a b
  obtain ⟨n,dx,dy,hn,hx,hy,q⟩:=h
  cases rx
  cases ry
  simp only [Bool.false_bne] at q
  have hu:=hr.un
  cases n with
  | zero=>exact absurd (show false = true from hx.2) Bool.false_ne_true
  | succ n=>
   rcases hx with ⟨_,f⟩ | ⟨a',vs,ds,e,rfl,ha,p⟩ | ⟨a',vs,ds,e,rfl,ha,p⟩
   ·exact absurd (show false = true from f) Bool.false_ne_true
   ·cases e
    obtain ⟨us,r1,pl,_⟩:=I.list ha
    have l1:=r1.length
    have l3:=p.length
    rcases hy with ⟨_,f⟩ | ⟨b',ws,ds',e,rfl,hb,p'⟩ | ⟨b',ws,ds',e,rfl,hb,p'⟩
    ·exact absurd (show false = true from f) Bool.false_ne_true
    ·cases e
     obtain ⟨us',r2,pl2,_⟩:=I.list hb
     have l2:=r2.length
     have l4:=p'.length
     rw [eqD] at q
     by_cases el:ds.length = ds'.length
     ·refine SeqAt.eq_listAt (e:=eqNth ds ds') pl.isList pl2.isList (by simp only [List.size_toArray]; omega) (by omega) (deep_items I (by omega) p p' r1 r2) ?_
      rw [show us.toArray.size = ds.length by simp only [List.size_toArray]; omega,all_eqNth el]
      exact ⟨.bl _,H,I,rfl,q⟩
     ·refine SeqAt.eq_list_lengthsAt pl.isList pl2.isList (by simp only [List.size_toArray,bne_iff_ne,ne_eq]; omega) (by omega) ?_
      rw [eqDs_len el] at q
      exact ⟨.bl _,H,I,rfl,q⟩
    ·cases e
     obtain ⟨us',r2,pl2,_⟩:=I.tuple hb
     rw [eqD] at q
     exact SeqAt.RcAt.list_tuple pl.isList pl2 (by omega) _ _ _ _ ⟨.bl _,H,I,rfl,q⟩
   ·cases e
    obtain ⟨us,r1,pl,_⟩:=I.tuple ha
    have l1:=r1.length
    have l3:=p.length
    rcases hy with ⟨_,f⟩ | ⟨b',ws,ds',e,rfl,hb,p'⟩ | ⟨b',ws,ds',e,rfl,hb,p'⟩
    ·exact absurd (show false = true from f) Bool.false_ne_true
    ·cases e
     obtain ⟨us',r2,pl2,_⟩:=I.list hb
     rw [eqD] at q
     exact SeqAt.RcAt.tuple_list pl pl2.isList (by omega) _ _ _ _ ⟨.bl _,H,I,rfl,q⟩
    ·cases e
     obtain ⟨us',r2,pl2,_⟩:=I.tuple hb
     have l2:=r2.length
     have l4:=p'.length
     rw [eqD] at q
     refine SeqAt.eq_tupleAt (e:=eqNth ds ds') pl pl2 (by omega) (deep_items I (by omega) p p' r1 r2) ?_
     rw [tuple_key (by omega) (by omega)]
     exact ⟨.bl _,H,I,rfl,q⟩
 ·exact h.elim
theorem neDE (K:Frag) (hK:X.K = K) {k:Nat} (hr:Room k X.A):OpR X (compareOp .NotEq) (kEqD K true):=by
 subst hK
 intro pins s σ H x y v u Q I rx ry h
 unfold kEqD at h
 split at h
 ·rename_i a b
  obtain ⟨n,dx,dy,hn,hx,hy,q⟩:=h
  cases rx
  cases ry
  simp only [Bool.true_bne] at q
  have hu:=hr.un
  cases n with
  | zero=>exact absurd (show false = true from hx.2) Bool.false_ne_true
  | succ n=>
   rcases hx with ⟨_,f⟩ | ⟨a',vs,ds,e,rfl,ha,p⟩ | ⟨a',vs,ds,e,rfl,ha,p⟩
   ·exact absurd (show false = true from f) Bool.false_ne_true
   ·cases e
    obtain ⟨us,r1,pl,_⟩:=I.list ha
    have l1:=r1.length
    have l3:=p.length
    rcases hy with ⟨_,f⟩ | ⟨b',ws,ds',e,rfl,hb,p'⟩ | ⟨b',ws,ds',e,rfl,hb,p'⟩
    ·exact absurd (show false = true from f) Bool.false_ne_true
    ·cases e
     obtain ⟨us',r2,pl2,_⟩:=I.list hb
     have l2:=r2.length
     have l4:=p'.length
     rw [eqD] at q
     by_cases el:ds.length = ds'.length
     ·refine SeqAt.RcNeAt.lists (e:=eqNth ds ds') pl.isList pl2.isList (by simp only [List.size_toArray]; omega) (by omega) (deep_items I (by omega) p p' r1 r2) _ _ _ _ ?_
      rw [show us.toArray.size = ds.length by simp only [List.size_toArray]; omega,all_eqNth el]
      exact ⟨.bl _,H,I,rfl,q⟩
     ·refine SeqAt.RcNeAt.lists_lengths pl.isList pl2.isList (by simp only [List.size_toArray,bne_iff_ne,ne_eq]; omega) (by omega) _ _ _ _ ?_
      rw [eqDs_len el] at q
      exact ⟨.bl _,H,I,rfl,q⟩
    ·cases e
     obtain ⟨us',r2,pl2,_⟩:=I.tuple hb
     rw [eqD] at q
     exact SeqAt.RcNeAt.list_tuple pl.isList pl2 (by omega) _ _ _ _ ⟨.bl _,H,I,rfl,q⟩
   ·cases e
    obtain ⟨us,r1,pl,_⟩:=I.tuple ha
    have l1:=r1.length
    have l3:=p.length
    rcases hy with ⟨_,f⟩ | ⟨b',ws,ds',e,rfl,hb,p'⟩ | ⟨b',ws,ds',e,rfl,hb,p'⟩
    ·exact absurd (show false = true from f) Bool.false_ne_true
    ·cases e
     obtain ⟨us',r2,pl2,_⟩:=I.list hb
     rw [eqD] at q
     exact SeqAt.RcNeAt.tuple_list pl pl2.isList (by omega) _ _ _ _ ⟨.bl _,H,I,rfl,q⟩
    ·cases e
     obtain ⟨us',r2,pl2,_⟩:=I.tuple hb
     have l2:=r2.length
     have l4:=p'.length
     rw [eqD] at q
     refine SeqAt.RcNeAt.tuples (e:=eqNth ds ds') pl pl2 (by omega) (deep_items I (by omega) p p' r1 r2) _ _ _ _ ?_
     rw [tuple_key (by omega) (by omega)]
     exact ⟨.bl _,H,I,rfl,q⟩
 ·exact h.elim
end
section
variable {X:Cx}
theorem a_kEqD {K:Frag} {n:Bool} {a b:Addr} {H:Hp} {Q:VK}:kEqD K n (.ref a) (.ref b) H Q = ∃ k dx dy,k <= 100 /\ Deep K H k (.ref a) dx /\ Deep K H k (.ref b) dy /\ Q (.bl (n ^^ eqD dx dy)) H:=rfl
noncomputable def kAny (K:Frag):List V -> Hp -> VK -> Prop:=fun xs H Q=>match xs with
 | [.ref p]=>∃ bs:List Bool,SqL K H p (bs.map V.bl) /\ Q (.bl (bs.any id)) H
 | _=>False
theorem vals_bools {bs:List Bool}:∀ {us:List Value},Vals (bs.map V.bl) us -> us = bs.map Value.bool:=by
 induction bs with
 | nil=>intro us h; cases h; rfl
 | cons b bs ih=>
  intro us h
  cases h with
  | cons r t=>cases r; rw [ih t]; rfl
theorem call_anyK (K:Frag) (hK:X.K = K) (hc:X.calm = true):CallR X (.builtin "any") (kAny K):=by
 subst hK
 intro pins s σ H xs us Q I r q
 unfold kAny at q
 split at q
 ·rename_i p
  obtain ⟨bs,hq,q⟩:=q
  obtain ⟨u,rfl,ru⟩:=vals1 r
  cases ru
  obtain ⟨its,rv,pl,_⟩:=I.list hq
  obtain rfl:=vals_bools rv
  have hl:s.heap.IsList p (bs.map Value.bool).toArray:=pl.isList
  have hp:p < s.heap.objs.size:=by obtain ⟨o,ho,_⟩:=hl; exact Heap.lt_size ho
  refine tokQ I.tk (call_any_walk (wpAny_pyIter_list hl ?_))
  refine ⟨_,_,_,_,_,_,fun i=>(bs[i]?).getD false,rfl,Walks.list (A:=X.A.in1) (I.ok.hd hc) _ p (Nat.ne_of_lt hp) (bs.map Value.bool).toArray,⟨⟨_,Heap.get?_push_size _ rfl,rfl,rfl⟩,hl.push _⟩,?_,fun h' tk k (htk:0 < tk)=>?_⟩
  ·intro i v s' Q' E' hP hQ'
   have hi:bs[i]?.map Value.bool = some v:=by simpa using hP
   cases hb:bs[i]? with
   | none=>rw [hb] at hi; cases hi
   | some b=>
    have e:(fun i=>(bs[i]?).getD false) i = b:=by simp [hb]
    rw [e] at hQ'
    rw [hb] at hi
    cases hi
    exact wpAny_truthy_bool hQ'
  ·have e:((List.range (bs.map Value.bool).toArray.size).any fun i=>(bs[i]?).getD false) = bs.any id:=by
    simp only [List.size_toArray,List.length_map]
    rw [Bool.eq_iff_iff,List.any_eq_true,List.any_eq_true]
    constructor
    ·rintro ⟨i,hi,h⟩
     have hi:i < bs.length:=by simpa using hi
     rw [List.getElem?_eq_getElem hi] at h
     exact ⟨bs[i],List.getElem_mem hi,h⟩
    ·rintro ⟨b,hb,h⟩
     obtain ⟨i,hi,rfl⟩:=List.getElem_of_mem hb
     exact ⟨i,by simpa using hi,by rw [List.getElem?_eq_getElem hi]; exact h⟩
   rw [e]
   refine ⟨.bl _,H,I.kept (fun b o q=>k b o ?_ (Heap.get?_push_of_some _ q)),rfl,q⟩
   intro z
   have:=Heap.lt_size q
   rw [List.mem_singleton.mp z] at this
   exact Nat.lt_irrefl _ this
 ·exact q.elim
theorem a_kAny {K:Frag} {p:Addr} {H:Hp} {Q:VK}:kAny K [.ref p] H Q = ∃ bs:List Bool,SqL K H p (bs.map V.bl) /\ Q (.bl (bs.any id)) H:=rfl
noncomputable def insI (x:Int):List Int -> List Int
 | []=>[x]
 | y :: r=>if x <= y then x :: y :: r else y :: insI x r
noncomputable def srtI (l:List Int):List Int:=l.foldr insI []
theorem insI_perm (x:Int):∀ l:List Int,(insI x l).Perm (x :: l)
 | []=>List.Perm.refl _
 | y :: r=>by
  unfold insI
  split
  ·exact List.Perm.refl _
  ·exact ((insI_perm x r).cons y).trans (List.Perm.swap x y r)
theorem srtI_perm:∀ l:List Int,(srtI l).Perm l
 | []=>List.Perm.refl _
 | x :: l=>(insI_perm x (srtI l)).trans ((srtI_perm l).cons x)
theorem insI_sorted (x:Int):∀ l:List Int,l.Pairwise (· <= ·) -> (insI x l).Pairwise (· <= ·)
 | [],_=>by simp [insI]
 | y :: r,h=>by
  obtain ⟨h1,h2⟩:=List.pairwise_cons.mp h
  unfold insI
  split
  ·rename_i le
   refine List.pairwise_cons.mpr ⟨fun z hz=>?_,h⟩
   rcases List.mem_cons.mp hz with rfl | hz
   ·exact le
   ·exact Int.le_trans le (h1 z hz)
  ·rename_i nle
   refine List.pairwise_cons.mpr ⟨fun z hz=>?_,insI_sorted x r h2⟩
   rcases List.mem_cons.mp ((insI_perm x r).mem_iff.mp hz) with rfl | hz
   ·omega
   ·exact h1 z hz
theorem srtI_sorted:∀ l:List Int,(srtI l).Pairwise (· <= ·)
 | []=>List.Pairwise.nil
 | x :: l=>insI_sorted x _ (srtI_sorted l)
theorem sortedI_is {ns ns':List Int} (hp:ns'.Perm ns) (hs:ns'.Pairwise (· <= ·)):ns' = srtI ns:=
 List.Perm.eq_of_pairwise (fun a b _ _ h k=>Int.le_antisymm h k) hs (srtI_sorted ns) (hp.trans (srtI_perm ns).symm)
noncomputable def kSorted (K:Frag):List V -> Hp -> VK -> Prop:=fun xs H Q=>match xs with
 | [.ref p]=>∃ ns:List Int,SqL K H p (ns.map V.int) /\ ns.length < 64 /\ ∀ q,H q = none -> Q (.ref q) (upd H q (.lst ((srtI ns).map V.int)))
 | _=>False
theorem call_sortedI (K:Frag) (hK:X.K = K):CallR X (.builtin "sorted") (kSorted K):=by
 subst hK
 intro pins s σ H xs us Q I r q
 unfold kSorted at q
 split at q
 ·rename_i p
  obtain ⟨ns,hq,hn,q⟩:=q
  obtain ⟨u,rfl,ru⟩:=vals1 r
  cases ru
  obtain ⟨its,rv,pl,_⟩:=I.list hq
  have hl:=rv.length
  rw [List.length_map] at hl
  refine PyProof.Rows.sorted_ints (vs:=its) (ns:=ns) pl.isList (intsAre_of rv) (by omega) fun out ns' a1 a2 a3=>?_
  obtain ⟨e,he⟩:=sortedAll_at s.heap its out
  obtain rfl:=sortedI_is a2 a3
  have hle:s.heap.objs.size <= s.heap.objs.size + 1:=Nat.le_succ _
  exact ⟨.ref (s.heap.objs.size + 1),_,I.laid (a:=s.heap.objs.size + 1) (o:=.lst ((srtI ns).map V.int)) (fun _ _ q=>sortedAll_old q) hle
   ⟨by rw [List.length_map,(srtI_perm ns).length_eq,sizeLine_eq]; omega,out.toList,e,vals_ints a1,by simpa using he⟩,rfl,q _ (I.hok.fresh hle)⟩
 ·exact q.elim
theorem a_kSorted {K:Frag} {p:Addr} {H:Hp} {Q:VK}:kSorted K [.ref p] H Q = ∃ ns:List Int,SqL K H p (ns.map V.int) /\ ns.length < 64 /\ ∀ q,H q = none -> Q (.ref q) (upd H q (.lst ((srtI ns).map V.int))):=rfl
end
section
variable {X:Cx}
noncomputable def cListRng (te:TE):TE:=fun σ H Q=>te σ H fun x H1=>match x with
 | .int j=>-(2 ^ 62) <= j /\ j <= 10000 /\ ∀ p,H1 p = none -> Q (.ref p) (upd H1 p (.lst ((List.range j.toNat).map fun (i:Nat)=>V.int i)))
 | _=>False
theorem vals_range {acc:Array Value} {n:Nat} (h:ItemsOf (fun i v=>∃ t,v = Value.int ((0:Int) + (i:Int) * 1) t) acc n):Vals ((List.range n).map fun (i:Nat)=>V.int i) acc.toList:=by
 obtain ⟨hs,hi⟩:=h
 have key:∀ (l:List Value) (k:Nat),(∀ (j:Nat) (v:Value),l[j]? = some v -> ∃ t,v = Value.int ((k + j:Nat):Int) t) -> Vals ((List.range' k l.length).map fun (i:Nat)=>V.int i) l:=by
  intro l
  induction l with
  | nil=>intro k _; exact .nil
  | cons v l ih=>
   intro k h
   obtain ⟨t,e⟩:=h 0 v rfl
   rw [List.length_cons,List.range'_succ,List.map_cons]
   refine .cons ⟨t,by simpa using e⟩ (ih (k + 1) fun j v hj=>?_)
   obtain ⟨t,e⟩:=h (j + 1) v (by simpa using hj)
   exact ⟨t,by rw [e]; congr 1; omega⟩
 have:=key acc.toList 0 fun j v hj=>by
  obtain ⟨t,e⟩:=hi j v (by simpa using hj)
  exact ⟨t,by rw [e]; congr 1; omega⟩
 rw [Array.length_toList,hs,<- List.range_eq_range'] at this
 exact this
theorem qe_listrng {e:Expr} {te:TE} {p p2 pos pos2:Pos} (hc:X.calm = true) (hg:Gl X "list") (hm:X.mg "list" = none) (hg2:Gl X "range") (hm2:X.mg "range" = none) (he:PE X e te)
  (hs:starEach [e] X.env = [(false,eval e X.env)]:=by rfl)
  (hs2:starEach [Expr.Call (.Name "range" p2) [e] [] pos2] X.env = [(false,eval (Expr.Call (.Name "range" p2) [e] [] pos2) X.env)]:=by rfl):
  PE X (.Call (.Name "list" p) [.Call (.Name "range" p2) [e] [] pos2] [] pos) (cListRng te):=by
 intro pins s σ H Q I h
 refine wpAny_Call_Name_kw (ld_blt I hg hm bb_list ?_ (by decide) (by decide))
 refine PyProof.Rows.callWith_type1 ?_ hs2 rfl
 rw [hs2]
 show wpAny _ _ (spliced [(false,eval (Expr.Call (.Name "range" p2) [e] [] pos2) X.env)]) _ _ s
 refine Calls.spliced_cons ?_
 refine wpAny_Call_Name_kw (ld_blt I hg2 hm2 boot_range ?_ (by decide) (by decide))
 refine PyProof.Rows.callWith_type1 ?_ hs rfl
 rw [hs]
 show wpAny _ _ (spliced [(false,eval e X.env)]) _ _ s
 refine Calls.spliced_cons (thn (he pins s σ H _ I h) fun u s1 ⟨x,H1,I1,r1,q1⟩=>Calls.spliced_nil ?_)
 match x,r1,q1 with
 | .int j,⟨t,ht⟩,⟨a1,a2,a3⟩=>
  subst ht
  refine call_range_1 (Calls.spliced_nil ?_)
  have I2:Inv X pins σ H1 { s1 with heap:=s1.heap.push { cls:=.type "range",data:=.fields #[.int 0 s1.toks,.int j t,.int 1 (s1.toks + 1)] },toks:=s1.toks + 1 + 1 }:=I1.kept fun b o q=>Heap.get?_push_of_some _ q
  have hsz:Builtin.Range.rangeSize 0 j 1 = ((j.toNat:Nat):Int):=by rw [rangeSize_one]; split <;> omega
  refine tokQ I2.tk (call_list_range (n:=j.toNat) (I.ok.hd hc) (IsRange.new ..) (small_one (by decide) (by decide) a1 (by omega)) hsz (by omega) fun h' tk acc c' old ho hi (htk:0 < tk)=>?_)
  exact ⟨.ref _,_,I2.laid (o:=.lst ((List.range j.toNat).map fun (i:Nat)=>V.int i)) (t':=tk) old (Nat.le_refl _) ⟨by rw [List.length_map,List.length_range,sizeLine_eq]; omega,acc.toList,c',vals_range hi,by simpa using ho⟩,rfl,a3 _ I2.fresh⟩
theorem a_cListRng {te:TE} {σ:St} {H:Hp} {Q:VK}:cListRng te σ H Q = te σ H fun x H1=>match x with
 | .int j=>-(2 ^ 62) <= j /\ j <= 10000 /\ ∀ p,H1 p = none -> Q (.ref p) (upd H1 p (.lst ((List.range j.toNat).map fun (i:Nat)=>V.int i)))
 | _=>False:=rfl
end
theorem deep_flat {K:Frag} {H:Hp} {v:V} (n:Nat) (f:flatV v = true):Deep K H n v (.f v):=by
 cases n with
 | zero=>exact ⟨rfl,f⟩
 | succ n=>exact .inl ⟨rfl,f⟩
noncomputable abbrev tx (l:List Nat):V:=V.str (st l)
section
variable {K:Frag} {g:TG} {tc:TT} {te:TE} {σc:St} {D:Addr} {Q:VK} {H:Hp}
theorem comp_rel {α:Type} (item:α -> V) (xs:List α) (keep:α -> Bool) (R:α -> V -> Hp -> Prop) {p:Addr} (hfree:H D = none) (hl:SqL K H p (xs.map item)) (hn:xs.length <= 100000)
  (mono:∀ x v H1 H2 acc,H1 D = some (.lst acc) -> (∀ b o,b ≠ D -> H1 b = some o -> H2 b = some o) -> R x v H1 -> R x v H2)
  (hs:∀ x H1 (out:VK) (non:Hp -> Prop),x ∈ xs -> Same H H1 -> (∀ v H6,keep x = true -> Same H1 H6 -> R x v H6 -> out v H6) -> (∀ H5,keep x = false -> Same H1 H5 -> non H5) ->
   g (item x) σc H1 fun σ4 H4=>tc σ4 H4 fun b H5=>if b = true then te σ4 H5 out else non H5)
  (hq:∀ H' vs,Same H H' -> H' D = some (.lst vs) -> Paired (fun x v=>R x v H') (xs.filter keep) vs -> Q (.ref D) H'):compW (Itl K p) g tc te σc D Q H:=by
 refine ⟨fun i m acc H2=>m = xs.length - i /\ i <= xs.length /\ Paired (fun x v=>R x v H2) ((xs.take i).filter keep) acc /\ Same H H2 /\ H2 D = some (.lst acc),⟨xs.length,by simp,Nat.zero_le _,.nil,same_new hfree _,upd_same⟩,?_⟩
 rintro i m acc H2 ⟨rfl,hi,pr,sm,hD⟩
 have len:acc.length <= i:=by
  have a:=pr.length
  have b:=List.length_filter_le keep (xs.take i)
  rw [List.length_take] at b
  omega
 by_cases hlt:i < xs.length
 ·refine .inr ⟨⟨_,item xs[i],sm.seq hl,by simp [hlt]⟩,fun x H3 y=>?_⟩
  obtain ⟨rfl,y⟩:=y
  have e:=y _ (sm.seq hl)
  rw [List.getElem?_map,List.getElem?_eq_getElem hlt] at e
  have e2:item xs[i] = x:=Option.some.inj e
  subst e2
  have ht:xs.take (i + 1) = xs.take i ++ [xs[i]]:=by rw [List.take_add_one,List.getElem?_eq_getElem hlt]; rfl
  refine hs xs[i] _ _ _ (List.getElem_mem hlt) sm (fun v H6 k s6 r=>?_) fun H5 k s5=>?_
  ·refine ⟨s6 _ _ hD,Nat.lt_of_le_of_lt len (sizeBig (by omega)),xs.length - (i + 1),by omega,rfl,hlt,?_,?_,upd_same⟩
   ·have m1:∀ x v,R x v H6 -> R x v (upd H6 D (.lst (acc ++ [v]))):=fun x v r=>mono x v H6 _ acc (s6 _ _ hD) (fun b o nb q=>by rw [upd_ne nb]; exact q) r
    rw [ht,List.filter_append]
    have f1:[xs[i]].filter keep = [xs[i]]:=by simp [k]
    rw [f1]
    have lift:∀ {l:List α} {vs:List V},Paired (fun x v=>R x v H3) l vs -> Paired (fun x v'=>R x v' (upd H6 D (.lst (acc ++ [v])))) l vs:=by
     intro l vs pp
     induction pp with
     | nil=>exact .nil
     | cons r _ ih=>exact .cons (mono _ _ H3 _ acc hD (fun b o nb q=>by rw [upd_ne nb]; exact s6 _ _ q) r) ih
    have app:∀ {l:List α} {vs:List V} {x:α} {v':V} {F:α -> V -> Prop},Paired F l vs -> F x v' -> Paired F (l ++ [x]) (vs ++ [v']):=by
     intro l vs x v' F pp r
     induction pp with
     | nil=>exact .cons r .nil
     | cons r' _ ih=>exact .cons r' ih
    exact app (lift pr) (m1 _ _ r)
   ·exact same_upd (sm.trans s6) hfree
  ·refine ⟨xs.length - (i + 1),by omega,rfl,hlt,?_,sm.trans s5,s5 _ _ hD⟩
   rw [ht,List.filter_append]
   have f1:[xs[i]].filter keep = []:=by simp [k]
   rw [f1,List.append_nil]
   have lift:∀ {l:List α} {vs:List V},Paired (fun x v=>R x v H3) l vs -> Paired (fun x v'=>R x v' H5) l vs:=by
    intro l vs pp
    induction pp with
    | nil=>exact .nil
    | cons r _ ih=>exact .cons (mono _ _ H3 _ acc hD (fun b o _ q=>s5 _ _ q) r) ih
   exact lift pr
 ·have e:i = xs.length:=by omega
  subst e
  rw [List.take_length] at pr
  exact .inl ⟨⟨_,sm.seq hl,by simp⟩,hq H2 acc sm hD pr⟩
end
section
variable {X:Cx}
end
theorem a_gSub {to ti:TE} {t:TSet} {v:V} {σ:St} {H:Hp} {Q:St -> Hp -> Prop}:gSub to ti t v σ H Q = to σ H fun o H1=>ti σ H1 fun i H2=>t o i v H2 fun H3=>Q σ H3:=rfl
theorem a_rSetL {p:Addr} {k:Int} {v:V} {H:Hp} {Q:Hp -> Prop}:rSetL (.ref p) (.int k) v H Q = ∃ xs j,H p = some (.lst xs) /\ ixN xs.length k = some j /\ Q (upd H p (.lst (xs.set j v))):=by
 refine propext ⟨?_,?_⟩
 ·rintro ⟨p',xs,k',j,e1,e2,h⟩
  cases e1
  cases e2
  exact ⟨xs,j,h⟩
 ·rintro ⟨xs,j,h⟩
  exact ⟨p,xs,k,j,rfl,rfl,h⟩
section
variable {X:Cx} {o e:Expr} {to te:TE} {apos cpos:Pos}
end
section
variable {X:Cx} {tg a b c:Expr} {ta tb tc:TE} {pos p:Pos}
end
section
variable {g:TG} {tb:TS} {D:Ends} {σ:St} {H:Hp}
end
noncomputable def Itel (K:Frag) (a:Addr):It:=⟨fun i H=>∃ xs x,SqL K H a xs /\ xs[i]? = some x,fun i H v H'=>∃ T x,v = .ref T /\ H T = none /\ (∀ xs,SqL K H a xs -> xs[i]? = some x) /\ H' = upd H T (.tup [.int i,x]),fun i H=>∃ xs,SqL K H a xs /\ i = xs.length⟩
theorem turn_enumL {P:Program} {w:World} {K:Frag} {elts:List Expr} {kk:Nat} {pos:Pos} (a e it:Addr) (hne:e ≠ it) (hae:a ≠ e) (hai:a ≠ it):
  Turn P w K (.Tuple elts kk pos) (Itel K a) [e,it] e (fun i h=>(∃ old,IsEnum h e it i old) /\ h.IsListIter it a i) where
 mem:=by simp
 obj:=fun i h st b hb=>by
  obtain ⟨⟨old,he⟩,o,e',c,d⟩:=st
  simp only [List.mem_cons,List.not_mem_nil,or_false] at hb
  rcases hb with rfl | rfl
  ·exact ⟨_,he,fun v z=>by
    have z':Data.fields _ = Data.cell v:=z
    cases z'⟩
  ·exact ⟨o,e',fun v z=>by rw [d] at z; cases z⟩
 keep:=fun i h h' st k=>by
  obtain ⟨⟨old,he⟩,hl⟩:=st
  exact ⟨⟨old,k e (by simp) _ he⟩,hl.at fun o q=>k it (by simp) o q⟩
 item:=by
  intro X hP hw hK hc i pins s σ H E I hf st hg
  subst hP hw hK
  obtain ⟨xs,x,hq,hx⟩:=hg
  obtain ⟨its,rv,pl,hz⟩:=I.list hq
  obtain ⟨u,hu,ru⟩:=rv.get hx
  have W:=WalksT.enumerate (prog:=X.prog) (w:=X.w) (A:=X.A) (I.ok.hd hc) e it a hne hae hai its.toArray
  have hi:i < its.toArray.size:=by
   have:=(List.getElem?_eq_some_iff.mp hu).1
   simpa using this
  refine tokQ I.tk (W.item i s _ _ hi ⟨st.1,st.2,pl.isList⟩ fun T vals h' tk hv hsz hT hmid kp (htk:0 < tk)=>?_)
  obtain ⟨t',xv,hxv,rfl⟩:=hv
  have e2:xv = u:=by
   have:its[i]? = some xv:=by simpa using hxv
   rw [hu] at this
   exact (Option.some.inj this).symm
  subst e2
  have hap:=W.apart i T h' hmid
  refine ⟨_,rfl,W.go elts kk pos i T { s with heap:=h',toks:=tk } _ _ hmid fun h'' st'' kp''=>?_⟩
  have hT2:h''.IsTuple T #[.int i t',xv]:=by
   obtain ⟨o,ho,r⟩:=hT
   exact ⟨o,kp'' T o hap ho,r⟩
  have I1:Inv X pins σ (upd H T (.tup [.int i,x])) { s with heap:=h'',toks:=tk }:=by
   refine I.turnedLaid (its:=[e,it]) (fun b ob hb q=>kp'' b ob hb (kp b ob hb q)) hf hsz ?_
   exact ⟨by show 2 <= sizeLine; decide,[.int i t',xv],.cons ⟨_,rfl⟩ (.cons ru .nil),hT2⟩
  refine ⟨.ref T,_,I1,rfl,⟨T,x,rfl,I.hok.fresh hsz,fun ys hy=>by rw [I.list_inj hy hq]; exact hx,rfl⟩,⟨st''.1,st''.2.1⟩,fun b hb=>?_⟩
  have nb:b ≠ T:=fun z=>hap (z ▸ hb)
  rw [upd_ne nb]
  exact (hf b hb).1
 done:=by
  intro X hP hw hK hc i pins s σ H E I hf st hg
  subst hP hw hK
  obtain ⟨xs,hq,rfl⟩:=hg
  obtain ⟨its,rv,pl,hz⟩:=I.list hq
  have hl:=rv.length
  have W:=WalksT.enumerate (prog:=X.prog) (w:=X.w) (A:=X.A) (I.ok.hd hc) e it a hne hae hai its.toArray
  have hn:its.toArray.size = xs.length:=by simp only [List.size_toArray]; omega
  rw [hn] at W
  exact tokQ I.tk (W.done s _ _ ⟨st.1,st.2,pl.isList⟩ fun h' tk kp (htk:0 < tk)=>⟨rfl,I.turnedL (its:=[e,it]) (fun b o hb q=>kp b o hb q) hf⟩)
 self:=fun A i s Q E st h=>by
  obtain ⟨⟨old,he⟩,_⟩:=st
  exact wpAny_pyIter_enum he h
section
variable {X:Cx} {a:Expr} {ta:TE} {p pos:Pos}
noncomputable def cEnumL (K:Frag) (te:TE):TI:=fun σ H R=>te σ H fun x H1=>match x with
 | .ref l=>(∃ xs,SqL K H1 l xs) /\ R (Itel K l) H1
 | _=>False
theorem qi_enumL (K:Frag) (hK:X.K = K) {elts:List Expr} {kk:Nat} {tpos:Pos} (hg:Gl X "enumerate") (hm:X.mg "enumerate" = none) (ha:PE X a ta) (hs:starEach [a] X.env = [(false,eval a X.env)]:=by rfl):
  PI X (.Tuple elts kk tpos) (.Call (.Name "enumerate" p) [a] [] pos) (cEnumL K ta):=by
 subst hK
 intro pins s σ H R I h
 refine Call_ (ld_blt I hg hm bb_enumerate (PyProof.Rows.callWith_type1 (thn ((pa_cons ha.mono pa_nil hs) pos pins s σ H (fun vs H1=>∃ l,vs = [.ref l] /\ (∃ xs,SqL X.K H1 l xs) /\ R (Itel X.K l) H1) I ⟨_,h,fun v H' z=>by
  split at z
  ·exact ⟨_,rfl,z⟩
  ·exact z.elim⟩) fun us s1 ⟨vs,H1,I1,r1,q1⟩=>?_) hs rfl))
 obtain ⟨l,rfl,⟨xs,hq⟩,q1⟩:=q1
 cases r1 with
 | cons r rr=>
  cases rr
  cases r
  obtain ⟨its,rv,pl,hz⟩:=I1.list hq
  have hlt:l < s1.heap.objs.size:=by
   obtain ⟨o,ho,_⟩:=pl.isList
   exact Heap.lt_size ho
  refine call_enumerate_list pl.isList fun h' he hi hz kp=>?_
  have I2:Inv X pins σ H1 { s1 with heap:=h' }:=I1.kept (t':=s1.toks) kp
  refine wpAny_pyIter_enum he ?_
  refine ⟨_,[s1.heap.objs.size + 1,s1.heap.objs.size],_,Itel X.K l,H1,rfl,I2,turn_enumL l (s1.heap.objs.size + 1) s1.heap.objs.size (Nat.succ_ne_self _) (Nat.ne_of_lt (Nat.lt_succ_of_lt hlt)) (Nat.ne_of_lt hlt),⟨⟨_,he⟩,hi⟩,fun c hc=>?_,q1⟩
  have hc':s1.heap.objs.size <= c:=by
   simp only [List.mem_cons,List.not_mem_nil,or_false] at hc
   rcases hc with rfl | rfl <;> omega
  exact I1.fpOk hc' (I1.hok.fresh hc')
theorem a_cEnumL {K:Frag} {σ:St} {H:Hp} {R:It -> Hp -> Prop}:cEnumL K ta σ H R = ta σ H fun x H1=>match x with
 | .ref l=>(∃ xs,SqL K H1 l xs) /\ R (Itel K l) H1
 | _=>False:=rfl
end
section
variable {prog:Program} {w:World} {A:Around} {E:Value -> Shared -> Prop} {s:Shared}
end
section
variable {X:Cx}
end
end L2
namespace L2
open PySem PySem.Spec PyProof.Rows PySem.Builtin PySem.Builtin.Str
section
variable {X:Cx}
end
end L2
namespace L2
open PySem PySem.Spec PyProof.Rows
section
variable {X:Cx}
theorem ps_setC {i:Nat} {x:Str} {pos' spos:Pos} {elt tg iter:Expr} {ifs:List Expr} {scope:Scope} {pos:Pos} {wi:TI} {g:TG} {tc:TT} {te:TE} {nt:Nat} {fi:List Nat} {N':List Str} (hN:X.N.Nodup) (hi0:X.N[i]? = some x) (hx:Loc X.env.scope x) (hcalm:X.calm = true)
  (S:CScope scope) (cn:CNames X scope nt fi N') (gk:GK nt g) (hi:PI X tg iter wi)
  (hg:∀ cl C s H ex,PG (cxC X scope cl N' C s H ex) tg g) (hc:∀ cl C s H ex,PIf (cxC X scope cl N' C s H ex) ifs tc) (he:∀ cl C s H ex,PE (cxC X scope cl N' C s H ex) elt te)
  (hsw:swapsWith (.ListComp elt [⟨tg,iter,ifs,0⟩] scope pos) (some (.Name x pos')) spos.line X.env = pure true:=by rfl)
  (hs:∀ x,foldedSetIterable iter X.env x = pure x:=by intro _; rfl) (hf:X.fn x = true \/ X.env.scope.names.lookup x = some .local:=by first | exact .inl rfl | exact .inr rfl | assumption):
  PS X (.Assign [.Name x pos'] (.ListComp elt [⟨tg,iter,ifs,0⟩] scope pos) spos) (tAsg (cComp nt fi wi g tc te) (gName i)):=by
 intro pins s σ H D I h
 have hfr:∀ y ∈ scope.names,y.2 = .free -> ∃ c,X.env.cells.lookup y.1 = some c:=fun y hy e=>I.ok.has y.1 (cn.fre y hy e)
 rw [exec_Assign_Name_used _ _ _ _ hsw]
 refine wpAny_bind (wpAny_standAt (wpAny_bind ?_))
 change wpAny _ X.A (do let _ <- comprehension (.ListComp elt [⟨tg,iter,ifs,0⟩] scope pos) scope X.env _ (newList []) false (eval iter X.env) (some (assign (.Name x pos') X.env))) _ _ s
 refine wpAny_bind (thn (Q:=fun _ s'=>∃ σ' H',Inv X pins σ' H' s' /\ D.nx σ' H') ?_ fun _ s' q=>wpAny_pure (wpAny_pure q))
 refine wpAny_comprehension_free (use:=some (assign (.Name x pos') X.env)) rfl hs (closureFor_some hfr) S.kind S.loc (thn (hi pins s σ H _ I h) fun v s1 h1=>thn h1 fun itv s2 h2=>?_)
 obtain ⟨it,fp,tn,J,H2,e,I2,T,st2,f2,hW⟩:=h2
 subst e
 have fD:H2 s2.heap.objs.size = none:=I2.hok.fresh (Nat.le_refl _)
 obtain ⟨W,⟨m0,w0⟩,turn⟩:=hW s2.heap.objs.size fD
 refine wpAny_newObj_type (wpAny_newFunctionEnv S.nocell (by intro y hy; simp at hy) (fun h₁ hns₁ hsb₁=>?_) S.kind)
 have I3:Inv X pins σ (upd H2 s2.heap.objs.size (.lst [])) { s2 with heap:=s2.heap.push { cls:=.type "list",dict:=none,data:=.seq ([]:List Value).toArray } }:=I2.lnew (its:=[]) (t':=s2.toks) .nil (Nat.zero_le _)
 generalize hs3:({ s2 with heap:=s2.heap.push { cls:=.type "list",dict:=none,data:=.seq ([]:List Value).toArray } }:Shared) = s3 at I3 hns₁ hsb₁ ⊢
 have hsz:s3.heap.objs.size = s2.heap.objs.size + 1:=by rw [<- hs3]; exact Heap.size_push ..
 have ob2:∀ b ∈ fp,∃ o,s3.heap.get? b = some o:=fun b hb=>by
  obtain ⟨o,e,_⟩:=T.obj _ _ st2 b hb
  rw [<- hs3]
  exact ⟨o,Heap.get?_push_of_some _ e⟩
 have f3:∀ b ∈ fp,FpOk X pins (upd H2 s2.heap.objs.size (.lst [])) b:=fun b hb=>by
  obtain ⟨o,e,_⟩:=T.obj _ _ st2 b hb
  refine ⟨?_,(f2 b hb).2⟩
  rw [upd_ne (Nat.ne_of_lt (Heap.lt_size e))]
  exact (f2 b hb).1
 have kp:∀ b o,s3.heap.get? b = some o -> h₁.get? b = some o:=fun b o e=>hsb₁.extBut b o (Nat.ne_of_lt (Heap.lt_size e)) (Heap.get?_push_of_some _ e)
 have st3:tn 0 h₁:=T.keep _ _ _ st2 fun b _ o e=>kp b o (by rw [<- hs3]; exact Heap.get?_push_of_some _ e)
 have J4:Inv (cxC X scope (clOf X.env.cells scope.names []) N' s3.heap.objs.size s3 (upd H2 s2.heap.objs.size (.lst [])) fp) (X.pn ++ pins) (compσ nt fi σ) (upd H2 s2.heap.objs.size (.lst [])) { s3 with heap:=h₁,toks:=s3.toks + ([]:List (Str × Value)).length }:=
  inv_comp I3 S cn f3 ob2 hns₁ kp I3.tk
 generalize hcl:clOf X.env.cells scope.names [] = cl at J4 ⊢
 generalize hH3:upd H2 s2.heap.objs.size (.lst []) = H3 at J4 I3 f3 w0
 have stat:∀ {H':Hp},(∀ b ∈ fp,H' b = none) -> ∀ b ∈ fp,FpOk (cxC X scope cl N' s3.heap.objs.size s3 H3 fp) (X.pn ++ pins) H' b:=fun {H'} hn b hb=>by
  obtain ⟨g0,g1,g2,g3,g4,g5⟩:=f3 b hb
  have ok:=J4.ok
  refine ⟨hn b hb,(ok.exf b hb).1,ok.exfs b hb,.inl hb,(ok.exf b hb).2,fun p hp=>g5 p ?_⟩
  have hp':p ∈ ([]:List (Addr × Obj)) ++ (X.pn ++ pins):=hp
  simpa using hp'
 have loop:∀ s₃:Shared,s₃ = { s3 with heap:=h₁,toks:=s3.toks + ([]:List (Str × Value)).length } ->
   codeAny (model X.prog X.w) X.A (.compLoop (.ListComp elt [⟨tg,iter,ifs,0⟩] scope pos) 0 (.ref it) (.ref s2.heap.objs.size) (compEnvC scope cl s3.heap.objs.size X.env))
    (compPost (model X.prog X.w) X.A X.xe (some (assign (.Name x pos') X.env)) (fun _ s'=>∃ σ' H',Inv X pins σ' H' s' /\ D.nx σ' H') (.ref s2.heap.objs.size) s3.heap.objs.size) s₃:=by
  rintro s₃ rfl
  refine compLoop_any (fun n s'=>∃ i acc H',Inv (cxC X scope cl N' s3.heap.objs.size s3 H3 fp) (X.pn ++ pins) (compσ nt fi σ) H' s' /\ tn i s'.heap /\ (∀ b ∈ fp,H' b = none) /\ W i n acc H') ?_ m0
   ⟨0,[],H3,J4,st3,fun b hb=>(f3 b hb).1,w0⟩
  rintro n s5 ⟨ii,acc,H5,I5,st5,fr5,w5⟩
  rcases turn ii n acc H5 w5 with ⟨stop,qn⟩ | ⟨go,step⟩
  ·refine thn (T.done (cxC X scope cl N' s3.heap.objs.size s3 H3 fp) rfl rfl rfl hcalm ii (X.pn ++ pins) s5 (compσ nt fi σ) H5 (fun _ _=>False) I5 (stat fr5) st5 stop) fun r s6 ⟨hr,I6⟩=>?_
   subst hr
   obtain ⟨m6,hn6,_⟩:=I6.loc
   have I7:Inv X pins σ H5 s6:=inv_back I3 f3 (Nat.le_refl _) I6 (Heap.SameBut.refl _ s6.heap)
   have fC:FpOk X pins H5 s3.heap.objs.size:=I3.fpOk (Nat.le_refl _) I6.free
   obtain ⟨c0,c1,c2,c3,c4,c5⟩:=fC
   refine wpAny_assign_Name (store_ok2 I7 hN hi0 hx (v:=.ref s2.heap.objs.size) rfl (fun s8 I8 ⟨a,sb,ha⟩=>?_) hf)
   have na:a ≠ s3.heap.objs.size:=by
    rcases ha with rfl | ha
    ·exact c1.symm
    ·exact c4 x a ha
   refine ⟨m6,hn6.sameBut sb na.symm,fun h' sb'=>⟨_,H5,?_,qn⟩⟩
   exact I8.turned (t':=s8.toks) (fun b o nb e=>(sb'.2 b nb).trans e) c0 c1 c3 c4 c5
  ·refine thn (T.item (cxC X scope cl N' s3.heap.objs.size s3 H3 fp) rfl rfl rfl hcalm ii (X.pn ++ pins) s5 (compσ nt fi σ) H5 (fun _ _=>False) I5 (stat fr5) st5 go) fun r s6 ⟨u,hr,h6⟩=>?_
   subst hr
   refine thn h6 fun _ s7 ⟨y,H7,I7,r7,y7,st7,fr7⟩=>?_
   have I7':=I7.pinned (stat fr7) (T.obj _ _ st7)
   refine thn (hg _ _ _ _ _ _ s7 (compσ nt fi σ) H7 y u _ I7' r7 (gk _ _ _ _ (step y H7 y7))) fun _ s8 ⟨σ8,H8,I8,q8,l8,d8⟩=>?_
   refine thn (hc _ _ _ _ _ _ s8 σ8 H8 _ I8 q8) fun b s9 ⟨H9,I9,q9⟩=>?_
   have again:∀ {s':Shared} {H':Hp} {m':Nat} {acc':List V},Inv (cxC X scope cl N' s3.heap.objs.size s3 H3 fp) ((X.pn ++ pins) ++ pinsAt fp s7.heap) σ8 H' s' -> m' < n -> W (ii + 1) m' acc' H' ->
     ∃ m,m < n /\ ∃ i acc H',Inv (cxC X scope cl N' s3.heap.objs.size s3 H3 fp) (X.pn ++ pins) (compσ nt fi σ) H' s' /\ tn i s'.heap /\ (∀ b ∈ fp,H' b = none) /\ W i m acc H':=fun {s' H' m' acc'} I' hm w'=>by
    refine ⟨m',hm,ii + 1,acc',H',I'.unpinned.weak l8.symm (compσ_weak l8 d8),T.keep _ _ _ st7 fun b hb o e=>(I'.pin (b,o) (List.mem_append_right _ (List.mem_append_right _ (mem_pinsAt hb e)))).1,fun b hb=>?_,w'⟩
    obtain ⟨o,e,d⟩:=T.obj _ _ st7 b hb
    exact (I'.pin (b,o) (List.mem_append_right _ (List.mem_append_right _ (mem_pinsAt hb e)))).2.1
   cases b with
   | false=>
    rw [if_neg Bool.false_ne_true] at q9 ⊢
    obtain ⟨m',hm,w'⟩:=q9
    exact again I9 hm w'
   | true=>
    rw [if_pos rfl] at q9 ⊢
    refine thn (he _ _ _ _ _ _ s9 σ8 H9 _ I9 q9) fun uv s10 ⟨v10,H10,I10,r10,hD,hlt,m',hm,w'⟩=>?_
    refine thn (mt_append (X:=cxC X scope cl N' s3.heap.objs.size s3 H3 fp) _ s10 σ8 H10 (.ref s2.heap.objs.size) [v10] (.ref s2.heap.objs.size) [uv] (fun _ H'=>H' = upd H10 s2.heap.objs.size (.lst (acc ++ [v10]))) I10 rfl (.cons r10 .nil) ⟨_,acc,v10,rfl,rfl,hD,hlt,rfl⟩) fun _ s11 ⟨_,H11,I11,_,e11⟩=>?_
    subst e11
    exact again I11 hm w'
 exact codeAny_compStart_list (loop _ rfl) (T.self _ 0 _ _ _ st3 (loop _ rfl))
end
structure Fly (P:Program) (w:World) (outer:List Env) (H H':Hp) (h h':Heap) (ea C:Addr):Prop where
 un:Un (frs outer) [] H H' h h'
 hok:HOk P w H' h'
 new:∀ b o,h.get? b = some o -> b ≠ ea
 fr:H' ea = none
 fl:∃ B a0,Heap.FlyingW B outer ea (.ref C) a0 h' /\ ∀ b,((∃ o,h.get? b = some o) /\ b ∉ frs outer) \/ H' b ≠ none -> ∃ o,B.get? b = some o
noncomputable def XR (P:Program) (w:World):CXT:=fun outer H s E e s'=>
 ∃ ea C H',e = .ref ea /\ 0 < s'.toks /\ s'.os = s.os /\ AllBare s'.gens /\ Fly P w outer H H' s.heap s'.heap ea C /\ E (.ref C) none H'
theorem Fly.on {P:Program} {w:World} {outer:List Env} {H H':Hp} {h h' h2:Heap} {ea C:Addr} (F:Fly P w outer H H' h h' ea C) {B:Heap} {a0:Value}
  (fl1:Heap.FlyingW B outer ea (.ref C) a0 h') (inB:∀ b,((∃ o,h.get? b = some o) /\ b ∉ frs outer) \/ H' b ≠ none -> ∃ o,B.get? b = some o)
  (ff:∀ b ∈ frs outer,H b = none) (fl2:Heap.FlyingW B outer ea (.ref C) a0 h2) (up:h'.UpToSlots h2):Fly P w outer H H' h h2 ea C:=by
 have same:∀ b o,((∃ o,h.get? b = some o) /\ b ∉ frs outer) \/ H' b ≠ none -> h'.get? b = some o -> h2.get? b = some o:=fun b o hb e=>by
  obtain ⟨o',eB⟩:=inB b hb
  have e1:=fl1.1 b o' eB
  rw [e] at e1; cases e1
  exact fl2.1 b o eB
 have sl:∀ b o,b ∈ frs outer -> h'.get? b = some o -> ∃ sl,h2.get? b = some { o with slots:=sl }:=fun b o hb e=>by
  obtain ⟨_,o',ho',hd⟩:=fl1.2.2.1.mem hb
  rw [e] at ho'; cases ho'
  exact up b o e hd
 refine ⟨⟨fun b o e n hf hx=>same b o (.inl ⟨⟨o,e⟩,hf⟩) (F.un.keep b o e n hf hx),fun b o e n hf hx=>?_,F.un.free,fun b o e hx=>?_,F.un.tups,F.un.frzs,F.un.tbls⟩,fun a o e=>?_,F.new,F.fr,B,a0,fl2,inB⟩
 ·obtain ⟨s1,e1⟩:=F.un.slot b o e n hf hx
  obtain ⟨s2,e2⟩:=sl b _ hf e1
  exact ⟨s2,e2⟩
 ·obtain ⟨o1,e1⟩:=F.un.there b o e hx
  by_cases hf:b ∈ frs outer
  ·obtain ⟨s2,e2⟩:=sl b _ hf e1
   exact ⟨_,e2⟩
  ·exact ⟨o1,same b o1 (.inl ⟨⟨o,e⟩,hf⟩) e1⟩
 ·refine (F.hok a o e).stay (fun b u hb q=>same b u (.inr ?_) q) (fun _ q=>q) fun _ _ q=>q
  rcases hb with rfl | hb
  ·rw [e]; simp
  ·rw [hb]; simp
section
variable {X:Cx} {pins:List (Addr × Obj)} {σ:St} {H:Hp} {s:Shared}
theorem frs_cons {env:Env} {l:List Env} {L:Addr} (hf:env.frame = some L):frs (env :: l) = L :: frs l:=by unfold frs; rw [List.filterMap_cons,hf]
theorem Inv.leave (I:Inv X pins σ H s) (hex:X.ex = []) {B h2:Heap} {ea C:Addr} {a0:Value} (hB:B.StaysIn s.heap) (up:s.heap.UpToSlots h2)
  (inB:∀ b,((∃ o,X.s₀.heap.get? b = some o) /\ b ∉ frs X.outer) \/ H b ≠ none -> ∃ o,B.get? b = some o) (fl:Heap.FlyingW B X.outer ea (.ref C) a0 h2)
  (new:∀ b o,X.s₀.heap.get? b = some o -> b ≠ ea) (fr:H ea = none):Fly X.prog X.w X.outer X.H₀ H X.s₀.heap h2 ea C:=by
 have nx:∀ b:Addr,b ∉ X.ex:=fun b z=>by rw [hex] at z; cases z
 have same:∀ b o,((∃ o,X.s₀.heap.get? b = some o) /\ b ∉ frs X.outer) \/ H b ≠ none -> s.heap.get? b = some o -> h2.get? b = some o:=fun b o hb e=>by
  obtain ⟨o',eB⟩:=inB b hb
  have e1:=hB b o' eB
  rw [e] at e1; cases e1
  exact fl.1 b o eB
 have sl:∀ b o,b ∈ frs X.outer -> s.heap.get? b = some o -> ∃ sl,h2.get? b = some { o with slots:=sl }:=fun b o hb e=>by
  obtain ⟨_,o',ho',hd⟩:=I.funs.mem hb
  rw [e] at ho'; cases ho'
  exact up b o e hd
 refine ⟨⟨fun b o e n hf _=>same b o (.inl ⟨⟨o,e⟩,hf⟩) (I.base.keep b o e n hf (nx b)),fun b o e n hf _=>?_,fun b o e n _=>I.base.free b o e n (nx b),fun b o e _=>?_,I.base.tups,I.base.frzs,I.base.tbls⟩,fun a o e=>?_,new,fr,B,a0,fl,inB⟩
 ·obtain ⟨s1,e1⟩:=I.base.slot b o e n hf (nx b)
  obtain ⟨s2,e2⟩:=sl b _ hf e1
  exact ⟨s2,e2⟩
 ·obtain ⟨o1,e1⟩:=I.base.there b o e (nx b)
  by_cases hf:b ∈ frs X.outer
  ·obtain ⟨s2,e2⟩:=sl b _ hf e1
   exact ⟨_,e2⟩
  ·exact ⟨o1,same b o1 (.inl ⟨⟨o,e⟩,hf⟩) e1⟩
 ·refine (I.hok a o e).stay (fun b u hb q=>same b u (.inr ?_) q) (fun _ q=>q) fun _ _ q=>q
  rcases hb with rfl | hb
  ·rw [e]; simp
  ·rw [hb]; simp
end
def Raises (X:Cx) (E:XK):Prop:=∀ (pins:List (Addr × Obj)) (σ:St) (H:Hp) (s:Shared) (h':Heap) (e C:Addr) (vs:List Value),
 Inv X pins σ H s -> Heap.MadeExcOf s.heap h' e (.ref C) vs -> E (.ref C) none H -> X.xe (.ref e) { s with heap:=h' }
section
variable {P:Program} {w:World} {K:Frag} {mg:Str -> Option Value} {base:Heap} {N:List Str} {qual:Str} {scope:Scope} {f:Addr} {cd:Value} {A:Around} {outer:List Env} {s₀:Shared} {H₀:Hp} {E:XK}
theorem raises_fn:Raises (cxOf (XR P w) P w K mg base N qual scope f cd A outer s₀ H₀ E) E:=by
 intro pins σ H s h' e C vs I M q
 let X:Cx:=cxOf (XR P w) P w K mg base N qual scope f cd A outer s₀ H₀ E
 have I:Inv X pins σ H s:=I
 have hf:X.env.frame = some X.env.locals:=rfl
 have hst:X.stack = X.env :: X.outer:=rfl
 show wpAny (model P w) X.A (leaving X.env (.ref e)) (fun _ s''=>XR P w outer H₀ s₀ E (.ref e) s'') (fun e' s''=>XR P w outer H₀ s₀ E e' s'') { s with heap:=h' }
 have hin:∀ env ∈ X.stack,∀ a,env.frame = some a -> a ∈ frs X.stack:=fun env he a ha=>List.mem_filterMap.mpr ⟨env,he,ha⟩
 refine wpAny_leaves_madeW (s:={ s with heap:=h' }) (base:=PySem.W.hideAll s.heap (frs X.stack)) (h:=s.heap) (env:=X.env) (outer:=X.outer) (L:=X.env.locals) I.ok.frames hf (fun b o z=>PySem.W.of_hideAll _ z) (PySem.W.funFrames_hide I.stack hin) M fun h2 t fl _ _ up=>?_
 have up1:s.heap.UpToSlots h2:=(Heap.UpToSlots.of_keeps M.keeps).trans up
 have ne:∀ b o,s.heap.get? b = some o -> b ≠ e:=fun b o q z=>by rw [z,M.new] at q; cases q
 refine ⟨e,C,H,rfl,I.tk,I.os,I.bare,I.leave rfl (fun b o z=>PySem.W.of_hideAll _ z) up1 (fun b hb=>?_) fl (fun b o z=>?_) ?_,q⟩
 ·rcases hb with ⟨⟨o,eo⟩,nf⟩ | hb
  ·obtain ⟨o1,e1⟩:=I.base.there b o eo (by intro z; cases z)
   refine ⟨o1,PySem.W.hideAll_get _ e1 ?_⟩
   rw [hst,frs_cons hf]
   intro z
   rcases List.mem_cons.mp z with z | z
   ·exact absurd (Nat.lt_of_lt_of_le (Heap.lt_size eo) I.ok.above) (by rw [z]; exact Nat.lt_irrefl _)
   ·exact nf z
  ·cases eb:H b with
   | none=>exact absurd eb hb
   | some u=>
    have lt:=I.hok.lt eb
    cases eo:s.heap.get? b with
    | none=>
     exfalso
     have:=(I.hok b u eb)
     cases u with
     | lst xs=>obtain ⟨_,_,_,_,e⟩:=this; rw [eo] at e; cases e
     | tup xs=>obtain ⟨_,_,_,_,e,_⟩:=this; rw [eo] at e; cases e
     | dK kvs=>obtain ⟨_,_,_,_,o,_,_,e,_⟩:=this; rw [eo] at e; cases e
     | dT kvs=>obtain ⟨_,_,_,_,o,_,_,e,_⟩:=this; rw [eo] at e; cases e
     | set S n=>obtain ⟨o,_,_,_,e,_⟩:=this; rw [eo] at e; cases e
     | ins C dx fs=>obtain ⟨_,_,_,e,_⟩:=this; rw [eo] at e; cases e
     | own y=>obtain ⟨_,e⟩:=this; rw [eo] at e; cases e
     | xd fs=>obtain ⟨_,⟨_,_,_,e,_⟩,_⟩:=this; rw [eo] at e; cases e
     | rng lo hi=>obtain ⟨_,_,_,e⟩:=this; rw [eo] at e; cases e
     | frz ob u=>obtain ⟨e,_⟩:=this; rw [eo] at e; cases e
     | tbl ps=>have e:s.heap.get? b = some _:=this; rw [eo] at e; cases e
     | met f y=>have e:s.heap.get? b = some _:=this; rw [eo] at e; cases e
     | ext φ=>obtain ⟨_,⟨_,e⟩,_⟩:=this; rw [eo] at e; cases e
    | some o=>
     refine ⟨o,PySem.W.hideAll_get _ eo fun z=>?_⟩
     exact hb (I.stkFree b z)
 ·obtain ⟨o1,e1⟩:=I.base.there b o z (by intro z; cases z)
  exact ne b o1 e1
 ·cases eb:H e with
  | none=>rfl
  | some u=>
   exfalso
   have:=(I.hok e u eb)
   have eo:=M.new
   cases u with
   | lst xs=>obtain ⟨_,_,_,_,e⟩:=this; rw [eo] at e; cases e
   | tup xs=>obtain ⟨_,_,_,_,e,_⟩:=this; rw [eo] at e; cases e
   | dK kvs=>obtain ⟨_,_,_,_,o,_,_,e,_⟩:=this; rw [eo] at e; cases e
   | dT kvs=>obtain ⟨_,_,_,_,o,_,_,e,_⟩:=this; rw [eo] at e; cases e
   | set S n=>obtain ⟨o,_,_,_,e,_⟩:=this; rw [eo] at e; cases e
   | ins C dx fs=>obtain ⟨_,_,_,e,_⟩:=this; rw [eo] at e; cases e
   | own y=>obtain ⟨_,e⟩:=this; rw [eo] at e; cases e
   | xd fs=>obtain ⟨_,⟨_,_,_,e,_⟩,_⟩:=this; rw [eo] at e; cases e
   | rng lo hi=>obtain ⟨_,_,_,e⟩:=this; rw [eo] at e; cases e
   | frz ob u=>obtain ⟨e,_⟩:=this; rw [eo] at e; cases e
   | tbl ps=>have e:s.heap.get? _ = some _:=this; rw [eo] at e; cases e
   | met f y=>have e:s.heap.get? _ = some _:=this; rw [eo] at e; cases e
   | ext φ=>obtain ⟨_,⟨_,e⟩,_⟩:=this; rw [eo] at e; cases e
theorem passes_fn:Passes (XR P w) (cxOf (XR P w) P w K mg base N qual scope f cd A outer s₀ H₀ E) E:=by
 intro pins σ H s e s' I h
 let X:Cx:=cxOf (XR P w) P w K mg base N qual scope f cd A outer s₀ H₀ E
 have I:Inv X pins σ H s:=I
 obtain ⟨ea,C,H',rfl,tk,os,bare,F,q⟩:=h
 have hf:X.env.frame = some X.env.locals:=rfl
 have hst:X.stack = X.env :: X.outer:=rfl
 show wpAny (model P w) X.A (leaving X.env (.ref ea)) (fun _ s''=>XR P w outer H₀ s₀ E (.ref ea) s'') (fun e' s''=>XR P w outer H₀ s₀ E e' s'') s'
 obtain ⟨B,a0,fl,inB⟩:=F.fl
 have I2:Inv X pins σ H' s':=I.call' os F.un F.hok bare (fun b z=>nomatch z) tk
 refine wpAny_leaves_onW (env:=X.env) (outer:=X.outer) (L:=X.env.locals) I.ok.frames hf fl fun h2 fl2 up=>?_
 refine ⟨ea,C,H',rfl,tk,os.trans I.os,bare,I2.leave rfl fl.1 up (fun b hb=>inB b ?_) fl2 (fun b o z=>?_) F.fr,q⟩
 ·rcases hb with ⟨⟨o,eo⟩,nf⟩ | hb
  ·obtain ⟨o1,e1⟩:=I.base.there b o eo (by intro z; cases z)
   refine .inl ⟨⟨o1,e1⟩,?_⟩
   show b ∉ frs X.stack
   rw [hst,frs_cons hf]
   intro z
   rcases List.mem_cons.mp z with z | z
   ·exact absurd (Nat.lt_of_lt_of_le (Heap.lt_size eo) I.ok.above) (by rw [z]; exact Nat.lt_irrefl _)
   ·exact nf z
  ·exact .inr hb
 ·obtain ⟨o1,e1⟩:=I.base.there b o z (by intro z; cases z)
  exact F.new b o1 e1
end
abbrev bmV:List Value:=[.type "ValueError",.type "Exception",.type "BaseException",.type "object"]
structure XCl (K:Frag) (C:Addr):Prop where
 ex:PySem.W.excIn K C bmV "ValueError.__new__" = true
 ty:PySem.W.typeIn K (.ref C) = some (.type "type")
 mb:PySem.W.mroIn K C (.type "BaseException") = some true
 ga:findIn K (.ref C) "__getattribute__" = some (some (.builtin "BaseException.__getattribute__"))
 gh:findIn K (.ref C) "__getattr__" = some none
 ca:findIn K (.ref C) "__class__" = some (some (.builtin "object.__class__"))
 gt:PySem.W.specialIn K (.builtin "object.__class__") "__get__" = some (some (.builtin "getset_descriptor.__get__"))
 tk:PySem.W.takesIn K (.builtin "object.__class__") = some true
 mo:PySem.W.mroIn K C (.type "object") = some true
theorem XCl.own {K:Frag} {h:Heap} {C:Addr} (c:XCl K C) (X:K.In h):OwnCls "x" C bmV "ValueError.__new__" (fun _=>some (.ref C)) h:=by
 have q:=c.ex
 refine ⟨rfl,?_⟩
 revert q
 unfold PySem.W.excIn
 rcases hk:K.lookup C with _ | ⟨oc,odd,oda,osl⟩
 ·intro q; cases q
 ·intro q
  split at q
  case h_2=>cases q
  case h_1 dd cdt sl eo=>
   cases eo
   split at q
   case h_2=>cases q
   case h_1 C' bm a0 a1 a2 a3 n a5 em es=>
    simp only [Bool.and_eq_true,beq_iff_eq,Bool.not_eq_true'] at q
    obtain ⟨⟨⟨⟨⟨e1,e2⟩,e3⟩,e4⟩,e5⟩,e6⟩:=q
    subst e1 e2
    obtain ⟨f1,f2,f3,f4,f5,f6,f7,f8,f9,f10,f11⟩:=cdt
    dsimp only at em e3 e5 e6
    subst em e3
    have el:osl = #[a0,a1,a2,a3,some (.builtin "ValueError.__new__"),a5]:=by
     rcases osl with ⟨l⟩
     simp only at es
     rw [es]
    subst el
    exact ⟨bm,f4,f1,f5,f2,f6,f7,f8,f9,f10,odd,a0,a1,a2,a3,a5,_,X _ _ hk,.of_isNs (PySem.W.isNs_of_in X e5),PySem.W.nsMap_none_of_in X e5 e6,PySem.W.tail_of_in X e4⟩
section
variable {X:Cx} {x:Str} {C:Addr} {np cpos pos:Pos} {e:Expr} {es:List Expr} {t:TA} {E:XK}
noncomputable def tRaise (C:Addr) (E:XK) (t:TA):TS:=fun _ σ H=>t σ H fun vs H1=>vs.length <= sizeLine /\ E (.ref C) none H1
theorem ps_raise (hc:X.calm = true) (hx:Raises X E) (hg:Gl X x) (hm:X.mg x = some (.ref C)) (c:XCl X.K C) (ha:PA X (e :: es) t) (hdb:(x == ("__debug__" : Str)) = false:=by decide)
  (he:starEach (e :: es) X.env = (false,eval e X.env) :: starEach es X.env:=by rfl) (hpl:(backTo cpos (starEach es X.env)).any (·.1) = false:=by rfl):
  PS X (.Raise (some (.Call (.Name x np) (e :: es) [] cpos)) none pos) (tRaise C E t):=by
 intro pins s σ H D I h
 obtain ⟨tl,N,nm,q,bs,hdct,sn,sub,ab,col,dd,k0,k1,k2,k3,k5,mN,hC,hN,hni,T⟩:=(c.own I.mod.kin).obj
 refine wpAny_Raise_call_subU (k5:=k5) (k3:=k3) (k2:=k2) (k1:=k1) (k0:=k0) (dd:=dd) (col:=col) (ab:=ab) (sub:=sub) (sn:=sn) (hdct:=hdct) (bs:=bs) (q:=q) (C:=C) (nm:=nm) (N:=N) (bm:=tl) (mN:=mN) PySem.F.excBase_ValueError (by decide) PySem.F.excBase_ValueError (T.hasType PySem.F.excBase_ValueError.hasBase) (I.ok.hd hc) ?_ hni (ld_glob I hg hm ⟨rfl,?_⟩ hdb)
 ·rw [he]
  show (false || (backTo cpos (starEach es X.env)).any (·.1)) = false
  rw [hpl]; rfl
 ·have hp:=ha cpos pins s σ H _ I h
  rw [he] at hp ⊢
  refine Calls.evalArgs_plain (wpAny_mono hp (fun us s2 hq=>?_) fun _ _ y=>y)
  obtain ⟨vs,H1,I1,r,z,q1⟩:=hq
  exact ⟨rfl,by rw [<- r.length]; exact z,I1.bk _ _ hC,hN.keeps I1.bk,T.keeps I1.bk,fun h' ea M=>hx pins σ H1 s2 h' ea C us I1 M q1⟩
end
section
variable {K:Frag} {M:Model} {h:Heap} {C D e:Addr}
theorem XCl.isType (d:XCl K D) (X:K.In h):PySem.W.Looks M h (isType (.ref D)) true:=by
 obtain ⟨tl,N,nm,q,bs,hdct,sn,sub,ab,col,dd,k0,k1,k2,k3,k5,mN,hC,hN,hni,T⟩:=(d.own X).obj
 intro A Q E s k z
 unfold PySem.isType loadHead
 exact wpAny_bind (wpAny_loadPart (k D _ hC) (wpAny_pure z))
theorem looks_excMatches (X:K.In h) (d:XCl K D) (m:PySem.W.mroIn K C (.ref D) = some true) (he:∃ o,h.get? e = some o /\ o.cls = .ref C):PySem.W.Looks M h (excMatches (.ref e) (.ref D)) true:=by
 obtain ⟨oe,e1,e2⟩:=he
 have T:PySem.W.Looks M h (typeOf (.ref e)) (.ref C):=e2 ▸ (PySem.W.Looks.ld e1).andThen .now
 have TD:PySem.W.Looks M h (typeOf (.ref D)) (.type "type"):=PySem.W.looks_typeIn X d.ty
 have S:=PySem.W.looks_mroIn (M:=M) X m
 have SB:=PySem.W.looks_mroIn (M:=M) X d.mb
 have NT:PySem.W.Looks M h (isInstance (.ref D) (.type "tuple")) false:=TD.andThen (.of_pure tc_notTuple)
 have IE:PySem.W.Looks M h (isExcClass (.ref D)) true:=by
  intro A Q E s k z
  unfold isExcClass
  refine wpAny_bind (d.isType X A _ E s k ?_)
  exact SB A Q E s k z
 intro A Q E s k q
 unfold excMatches
 refine wpAny_bind (NT A _ E s k ?_)
 simp only [Bool.false_eq_true,if_false]
 refine wpAny_bind (wpAny_pure ?_)
 simp only [List.forIn_cons,List.forIn_nil]
 refine wpAny_bind (wpAny_bind (wpAny_bind (IE A _ E s k ?_)))
 simp only [Bool.not_true,Bool.false_eq_true,if_false]
 refine wpAny_pure (wpAny_pure (wpAny_bind (T A _ E s k ?_)))
 refine wpAny_bind (wpAny_bind (wpAny_bind (S A _ E s k ?_)))
 simp only [if_true]
 exact wpAny_pure (wpAny_pure (wpAny_pure q))
end
noncomputable def Cx.tries (X:Cx) (W:St -> XK) (p:List (Addr × Obj)):Cx:=
 { X with pn:=X.pn ++ p,xe:=fun e s'=>∃ σ H s,Inv X p σ H s /\ XR X.prog X.w X.stack H s (W σ) e s' }
noncomputable def Cx.hand (X:Cx) (ea:Addr):Cx:={ X with A:=X.A.mark (some (.ref ea)),calm:=false,xe:=fun _ _=>False }
section
variable {X:Cx} {W:St -> XK} {p pins:List (Addr × Obj)} {σ:St} {H:Hp} {s:Shared}
theorem Cx.Ok.tries (k:X.Ok):(X.tries W p).Ok:=
 ⟨k.mod,k.kind,k.glob,k.blt,k.above,k.inj,k.has,k.cab,k.hd,k.frames,k.stk,k.exf,k.bs,k.bsz,k.noex,k.exfs,k.funs,k.frf⟩
theorem Cx.Ok.untries (k:(X.tries W p).Ok):X.Ok:=
 ⟨k.mod,k.kind,k.glob,k.blt,k.above,k.inj,k.has,k.cab,k.hd,k.frames,k.stk,k.exf,k.bs,k.bsz,k.noex,k.exfs,k.funs,k.frf⟩
theorem Inv.tries (I:Inv X p σ H s):Inv (X.tries W p) [] σ H s:=
 ⟨I.ok.tries,I.os,I.bare,I.base,I.loc,I.cell,I.free,I.freeC,fun q hq=>I.pin q (by rw [List.append_nil] at hq; exact hq),I.hok,I.len,I.tk⟩
theorem Inv.untries (I:Inv (X.tries W p) pins σ H s):Inv X p σ H s:=
 ⟨I.ok.untries,I.os,I.bare,I.base,I.loc,I.cell,I.free,I.freeC,fun q hq=>I.pin q (List.mem_append_left _ hq),I.hok,I.len,I.tk⟩
theorem Cx.Ok.hand (k:X.Ok) (ea:Addr):(X.hand ea).Ok:=
 ⟨k.mod,k.kind,k.glob,k.blt,k.above,k.inj,k.has,k.cab,fun z=>(nomatch z),k.frames,k.stk,k.exf,k.bs,k.bsz,k.noex,k.exfs,k.funs,k.frf⟩
theorem Inv.hand (I:Inv X p σ H s) (ea:Addr):Inv (X.hand ea) p σ H s:=
 ⟨I.ok.hand ea,I.os,I.bare,I.base,I.loc,I.cell,I.free,I.freeC,I.pin,I.hok,I.len,I.tk⟩
theorem Inv.unhand {ea:Addr} (k:X.Ok) (I:Inv (X.hand ea) p σ H s):Inv X p σ H s:=
 ⟨k,I.os,I.bare,I.base,I.loc,I.cell,I.free,I.freeC,I.pin,I.hok,I.len,I.tk⟩
end
def PassesT (CX:CXT) (X:Cx) (W:St -> XK):Prop:=∀ (pins:List (Addr × Obj)) (σ:St) (H:Hp) (s:Shared) (e:Value) (s':Shared),Inv X pins σ H s -> CX X.stack H s (W σ) e s' -> X.xe e s'
theorem passesT {X:Cx} {W:St -> XK} {p:List (Addr × Obj)}:PassesT (XR X.prog X.w) (X.tries W p) W:=fun _ σ H s _ _ I h=>⟨σ,H,s,I.untries,h⟩
section
variable {X:Cx} {CX:CXT} {k:Nat} {f:Addr} {fd:FuncData} {ps:List Str} {sp:Sp} {dvs:List V} {ds:List Value} {W:St -> XK} {x:Str} {p pos:Pos} {e:Expr} {es:List Expr} {t:TA}
noncomputable def tCallT (sp:Sp) (dvs:List V) (W:St -> XK) (t:TA):TE:=fun σ H Q=>t σ H fun vs H1=>sp (vs ++ dvs) H1 Q (W σ)
theorem run_fnT {pins:List (Addr × Obj)} {σ:St} {H:Hp} {s:Shared} {Q:VK} {us:List Value} {vs:List V} (F:FnOk X.prog X.w X.K X.mg X.base CX k f fd ps sp) (hr:Room k X.A) (hb:Binds X.K fd ps ds) (hd:Vals dvs ds) (hx:PassesT CX X W)
  (I:Inv X pins σ H s) (r:Vals vs us) (h:sp (vs ++ dvs) H Q (W σ)):wpAny (model X.prog X.w) X.A (call (.ref f) us) (EP X pins σ Q) X.xe s:=by
 have r2:Vals (vs ++ dvs) (us ++ ds):=r.append hd
 have hl:ps.length = (us ++ ds).length:=(F.len _ _ _ _ h).symm.trans r2.length
 have R:=F.run X.A X.stack s H ⟨us,[]⟩ (us ++ ds) (vs ++ dvs) Q (W σ) hr I.env0 (hb s us I.kIn hl.symm) r2 h
 refine wpAny_call (codeAny_mono R fun r s' hq=>?_)
 rcases r with er | fl
 ·exact hx pins σ H s er s' I hq
 ·cases fl with
  | ret u=>exact I.after hq
  | _=>exact hq.elim
theorem pe_callT (F:FnOk X.prog X.w X.K X.mg X.base CX k f fd ps sp) (hr:Room k X.A) (hg:Gl X x) (hm:X.mg x = some (.ref f)) (hk:keepIn X.K (.ref f) = true) (hb:Binds X.K fd ps ds) (hd:Vals dvs ds) (hx:PassesT CX X W)
  (ha:PA X (e :: es) t) (hdb:(x == ("__debug__" : Str)) = false:=by decide) (he:starEach (e :: es) X.env = (false,eval e X.env) :: starEach es X.env:=by rfl) (hpl:(backTo pos (starEach es X.env)).any (·.1) = false:=by rfl):
  PE X (.Call (.Name x p) (e :: es) [] pos) (tCallT sp dvs W t):=fun pins s σ H Q I h=>
 wpAny_Call_Name_kw (ld_glob I hg hm (PySem.W.callWith_K (h₀:=X.base) I.ok.mod.kin hk (thn (ha pos pins s σ H _ I h) fun us s1 ⟨vs,H1,I1,r,q⟩=>⟨I1.kIn,run_fnT F hr hb hd hx I1 r q⟩) he hpl) hdb)
end
noncomputable def XO (C ea:Addr):HO:=.ext fun h=>∃ o,h.get? ea = some o /\ o.cls = .ref C
theorem XO.ok {P:Program} {w:World} {H:Hp} {h:Heap} {C ea:Addr} (e:∃ o,h.get? ea = some o /\ o.cls = .ref C):ObjOk P w H h ea (XO C ea):=
 ⟨e,let ⟨o,e1,_⟩:=e; ⟨o,e1⟩,fun _ _ ⟨o,e1,e2⟩ k=>⟨o,k o e1,e2⟩⟩
structure Caught (K:Frag) (C D:Addr):Prop where
 sub:PySem.W.mroIn K C (.ref D) = some true
noncomputable def tTryAs (K:Frag) (D:Addr) (i:Nat) (tb:(St -> XK) -> TS) (th:Addr -> TS):TS:=fun R σ H=>
 tb (fun σ' cv _ H'=>∃ C,cv = .ref C /\ Caught K C D /\ ∀ ea,H' ea = none ->
  th ea { nx:=fun σ2 H2=>R.nx (σ2.set i none) H2,rt:=R.rt,bk:=fun σ2 H2=>R.bk (σ2.set i none) H2,ct:=fun σ2 H2=>R.ct (σ2.set i none) H2 } (σ'.set i (some (.ref ea))) (upd H' ea (XO C ea))) R σ H
theorem Inv.unname {M:Model} {A:Around} {E:Value -> Shared -> Prop} {X:Cx} {pins:List (Addr × Obj)} {σ:St} {H:Hp} {s:Shared} {i:Nat} {n:Str} {pos:Pos} {Q:Unit -> Shared -> Prop} (I:Inv X pins σ H s) (hN:X.N.Nodup) (hi:X.N[i]? = some n) (hl:X.env.kindOf n = some .local)
  (h:∀ s',Inv X pins (σ.set i none) H s' -> Q () s'):wpAny M A (do bindName X.env n .none; unbindBehindTheSuite X.env n pos) Q E s:=by
 obtain ⟨m,hn,hv⟩:=id I.loc
 have hiσ:i < σ.length:=by rw [I.len]; exact (List.getElem?_eq_some_iff.mp hi).1
 refine wpAny_nameGoes_keeps hl hn (by rw [I.ok.kind]; rfl) fun h' v hn' hs=>h _ ?_
 obtain ⟨oL,_,_,hoL,_⟩:=id hn
 have out:∀ b,b < X.s₀.heap.objs.size -> b ≠ X.env.locals:=fun b z q=>absurd (Nat.lt_of_lt_of_le z I.ok.above) (by rw [q]; exact Nat.lt_irrefl _)
 refine ⟨I.ok,I.os,I.bare,⟨fun b o e z hb hx=>(hs.2 b (out b (Heap.lt_size e))).trans (I.base.keep b o e z hb hx),fun b o e z hb hx=>?_,I.base.free,fun b o e hx=>?_,I.base.tups,I.base.frzs,I.base.tbls⟩,⟨_,hn',fun j y v' e1 e2 e3=>?_⟩,fun y c e=>?_,I.free,I.freeC,fun q hq=>?_,fun b ob e=>?_,by simpa using I.len,Nat.succ_pos _⟩
 ·obtain ⟨sl,e1⟩:=I.base.slot b o e z hb hx
  exact ⟨sl,(hs.2 b (out b (Heap.lt_size e))).trans e1⟩
 ·obtain ⟨o',e1⟩:=I.base.there b o e hx
  exact ⟨o',(hs.2 b (out b (Heap.lt_size e))).trans e1⟩
 ·have hj:j ≠ i:=fun z=>by subst z; rw [List.getElem?_set_self hiσ] at e2; cases e2
  rw [List.getElem?_set_ne (Ne.symm hj)] at e2
  obtain ⟨u',r',q⟩:=hv j y v' e1 e2 e3
  refine ⟨u',r',?_⟩
  rcases q with ⟨k,e⟩ | ⟨k,c,e,z⟩
  ·refine .inl ⟨k,?_⟩
   have:y ≠ n:=fun e=>hj (nodup_ix hN e1 (e ▸ hi))
   simp [this,e]
  ·exact .inr ⟨k,c,e,z.sameBut hs (I.cne y c e)⟩
 ·obtain ⟨w',z⟩:=I.cell y c e
  exact ⟨w',z.sameBut hs (I.cne y c e)⟩
 ·obtain ⟨e,z,ne,nf,d⟩:=I.pin q hq
  exact ⟨(hs.2 q.1 ne).trans e,z,ne,nf,d⟩
 ·refine (I.hok b ob e).stay (fun c w' hc q=>(hs.2 c ?_).trans q) (fun _ q=>q) fun _ _ q=>q
  rintro rfl
  rcases hc with rfl | hc
  ·rw [I.free] at e; cases e
  ·rw [I.free] at hc; cases hc
theorem ps_tryAs {X:Cx} {body suite:List Stmt} {b₀:Stmt} {x n:Str} {np hpos pos:Pos} {D:Addr} {i:Nat} {tb:(St -> XK) -> TS} {th:Addr -> TS} (hb:∀ W p,PSs (X.tries W p) body (tb W)) (hh:∀ ea,PSs (X.hand ea) (b₀ :: suite) (th ea))
  (hst:X.stack = X.env :: X.outer) (hfr:X.env.frame = some X.env.locals) (hg:Gl X x) (hm:X.mg x = some (.ref D)) (d:XCl X.K D) (hN:X.N.Nodup) (hi:X.N[i]? = some n) (hl:X.env.kindOf n = some .local) (hdb:(x == ("__debug__" : Str)) = false:=by decide):
  PS X (.Try body [.ExceptHandler (some (.Name x np)) (some n) (b₀ :: suite) hpos] [] [] pos) (tTryAs X.K D i tb th):=by
 intro pins s σ H R I h
 refine wpAny_Try_except (wpAny_mono (hb _ pins [] s σ H R I.tries h) (fun f s1 q=>?_) fun e s1 q=>?_)
 ·have q:SP X pins R f s1:=by
   cases f with
   | next=>obtain ⟨σ',H',I',z⟩:=q; exact ⟨σ',H',I'.untries,z⟩
   | brk=>obtain ⟨σ',H',I',z⟩:=q; exact ⟨σ',H',I'.untries,z⟩
   | cont=>obtain ⟨σ',H',I',z⟩:=q; exact ⟨σ',H',I'.untries,z⟩
   | ret u=>obtain ⟨v,σ',H',I',r,z⟩:=q; exact ⟨v,σ',H',I'.untries,r,z⟩
  cases f with
  | next=>exact wpAny_execs_nil q
  | _=>exact q
 ·obtain ⟨σ1,H1,s0,I1,ea,C,H',rfl,tk,os,bare,F,C',eC,cau,k⟩:=q
  cases eC
  obtain ⟨B,a0,fl,inB⟩:=F.fl
  have ff:∀ b ∈ frs X.stack,H1 b = none:=I1.stkFree
  have hfs:X.A.frames = some (X.env :: X.outer):=by rw [<- hst]; exact I1.ok.frames
  refine wpAny_looks_onW (env:=X.env) (outer:=X.outer) (L:=X.env.locals) hfs hfr (by rw [<- hst]; exact fl) fun h4 held4 up4=>?_
  refine wpAny_landsW held4 fun h5 fl5 up5=>?_
  have F5:Fly X.prog X.w X.stack H1 H' s0.heap h5 ea C:=F.on fl inB ff (by rw [hst]; exact fl5) (up4.trans up5)
  have I5:Inv X pins σ1 H' { s1 with heap:=h5 }:=I1.call' (s':={ s1 with heap:=h5 }) os F5.un F5.hok bare (fun b z=>nomatch z) tk
  refine wpAny_handleBy_cons (codeAny_handlers_test ?_) (by intro q; cases q)
  refine ld_glob (I5.hand ea) hg hm ?_ hdb
  refine looks_excMatches I5.kIn d cau.sub fl5.there _ _ _ _ (fun _ _ z=>z) ?_
  refine codeAny_handlers_suite_as ?_
  refine lands_againW fl5 fun h6 fl6 up6=>?_
  have F6:Fly X.prog X.w X.stack H1 H' s0.heap h6 ea C:=F5.on (by rw [hst]; exact fl5) inB ff (by rw [hst]; exact fl6) up6
  have ne6:∀ b,H' b ≠ none -> b ≠ ea:=fun b z q=>by rw [q,F6.fr] at z; exact z rfl
  have U6:Un (frs X.stack) [] H1 (upd H' ea (XO C ea)) s0.heap h6:=by
   refine ⟨F6.un.keep,F6.un.slot,fun b o e z hx=>?_,F6.un.there,fun b xs e=>?_,fun b o u e=>?_,fun b ps e=>?_⟩
   ·rw [upd_ne (F6.new b o e)]; exact F6.un.free b o e z hx
   ·have q:=F6.un.tups b xs e
    rw [upd_ne (ne6 b (by rw [q]; simp))]; exact q
   ·have q:=F6.un.frzs b o u e
    rw [upd_ne (ne6 b (by rw [q]; simp))]; exact q
   ·obtain ⟨more,q⟩:=F6.un.tbls b ps e
    exact ⟨more,by rw [upd_ne (ne6 b (by rw [q]; simp))]; exact q⟩
  have O6:HOk X.prog X.w (upd H' ea (XO C ea)) h6:=fun b o e=>by
   by_cases hbe:b = ea
   ·subst hbe
    rw [upd_same] at e; cases e
    exact XO.ok fl6.there
   ·rw [upd_ne hbe] at e
    refine (F6.hok b o e).stay (fun _ _ _ q=>q) (fun c q=>?_) fun c xs q=>?_
    ·rw [upd_ne (ne6 c (by rw [q]; simp))]; exact q
    ·rw [upd_ne (ne6 c (by rw [q]; simp))]; exact q
  have I6:Inv X pins σ1 (upd H' ea (XO C ea)) { s1 with heap:=h6 }:=I1.call' (s':={ s1 with heap:=h6 }) os U6 O6 bare (fun b z=>nomatch z) tk
  refine store_ok (X:=X.hand ea) (v:=.ref ea) (I6.hand ea) hN hi (.inl hl) rfl (fun s7 I7=>?_) (.inr hl)
  refine wpAny_mono (hh ea pins s7 _ _ _ I7 (k ea F6.fr)) (fun f s8 q=>?_) fun _ _ z=>z.elim
  cases f with
  | next=>obtain ⟨σ',H',I',z⟩:=q; exact (I'.unhand I.ok).unname hN hi hl fun s9 I9=>⟨_,_,I9,z⟩
  | brk=>obtain ⟨σ',H',I',z⟩:=q; exact (I'.unhand I.ok).unname hN hi hl fun s9 I9=>⟨_,_,I9,z⟩
  | cont=>obtain ⟨σ',H',I',z⟩:=q; exact (I'.unhand I.ok).unname hN hi hl fun s9 I9=>⟨_,_,I9,z⟩
  | ret u=>obtain ⟨v,σ',H',I',r,z⟩:=q; exact (I'.unhand I.ok).unname hN hi hl fun s9 I9=>⟨v,_,_,I9,r,z⟩
end L2
namespace L2
open PySem PySem.Spec PySem.Calls PyProof.Rows PySem.W Builtin Builtin.ObjectAttr Builtin.Getset_descriptor
section
variable {prog:Program} {w:World} {A:Around} {E:Value -> Shared -> Prop} {K:Frag} {x C:Addr} {o:Obj} {h:Heap} {g:Array GenState} {d:Drawn} {t:Nat} {os:OsState}
theorem xget_class {R:Result -> Shared -> Prop} (X:K.In h) (c:XCl K C) (hx:h.get? x = some o) (hc:o.cls = .ref C) (hq:R (.ok (.ret (.ref C))) ⟨h,g,d,t,os⟩):
  codeAny (model prog w) A (.call (.builtin "getset_descriptor.__get__") ⟨[.builtin "object.__class__",.ref x,.ref C],[]⟩) R ⟨h,g,d,t,os⟩:=by
 have L0:Looks (model prog w) h (typeOf (.ref x)) (.ref C):=hc ▸ (Looks.ld hx).andThen .now
 have L1:=looks_mroIn (M:=model prog w) X c.mo
 refine codeAny_call_builtin KF.slot_gs.plain KF.entry_gs (KF.slot_gs.check _ _ _ _ _ _ _ _ KF.type_class (KF.args_gs _ _ _) ?_)
 unfold Builtin.«getset_descriptor.__get__»
 unfold descrGet
 rw [dga_obj]
 apply wpAny_bind
 apply wpAny_pure
 unfold descrGetter descrCheckInstance
 unfold descrNameAndClass
 unfold isInstance
 simp only [KF.owner_class]
 repeat lk
 refine ⟨Code.quiet_builtin _ (by decide +kernel),?_⟩
 apply codeAny_builtin KF.entry_class
 unfold Builtin.«object.__class__»
 unfold shownTypeOf
 repeat lk
 exact hq
theorem xfind_class (X:K.In h) (c:XCl K C):Looks (model prog w) h (find (.ref x) (.ref C) "__class__") (Found.bind (.builtin "getset_descriptor.__get__") (.builtin "object.__class__")):=by
 have L1:=looks_findIn (M:=model prog w) X c.ca
 have L2:Looks (model prog w) h (getOf (some (.builtin "object.__class__"))) (some (.builtin "getset_descriptor.__get__")):=looks_specialIn X c.gt
 have L3:Looks (model prog w) h (dataDescriptor? (some (.builtin "object.__class__")) (some (.builtin "getset_descriptor.__get__"))) (some (.builtin "getset_descriptor.__get__",.builtin "object.__class__")):=(looks_takesIn (M:=model prog w) X c.tk).andThen .now
 exact L1.andThen (L2.andThen (L3.andThen (Looks.tag .now)))
theorem xentry_class {tk:Tok} {Q:Fin -> Shared -> Prop} (X:K.In h) (c:XCl K C) (hx:h.get? x = some o) (hc:o.cls = .ref C) (hq:Q (.done (.ret (.ref C))) ⟨h,g,d,t,os⟩):
  wpAny (model prog w) A (Builtin.«object.__getattribute__» ⟨[.ref x,.str "__class__" tk],[]⟩) Q E ⟨h,g,d,t,os⟩:=by
 have L0:Looks (model prog w) h (typeOf (.ref x)) (.ref C):=hc ▸ (Looks.ld hx).andThen .now
 have L1:=xfind_class (prog:=prog) (w:=w) (x:=x) X c
 unfold Builtin.«object.__getattribute__»
 apply wpAny_bind
 apply wpAny_pure
 dsimp only
 apply wpAny_bind
 apply wpAny_pure
 refine wpAny_bind (L0.at (wpAny_bind (L1.at ?_)))
 dsimp only
 show wpAny _ _ (holding [Value.builtin "object.__class__"] (call (Value.builtin "getset_descriptor.__get__") [Value.builtin "object.__class__",.ref x,.ref C]) >>= ret) _ _ _
 exact wpAny_bind (wpAny_holding (wpAny_call (xget_class X c hx hc (wpAny_pure hq))))
theorem xcheck_ga {M:Model} {nv:Value} {Q:Unit -> Shared -> Prop} (X:K.In h) (c:XCl K C) (hx:h.get? x = some o) (hc:o.cls = .ref C) (hq:Q () ⟨h,g,d,t,os⟩):
  wpAny M A (checkBuiltinCall "BaseException.__getattribute__" ⟨[.ref x,nv],[]⟩) Q E ⟨h,g,d,t,os⟩:=by
 have LI:Looks M h (isInstance (.ref x) (.type "BaseException")) true:=(hc ▸ (Looks.ld hx).andThen .now:Looks M h (typeOf (.ref x)) (.ref C)).andThen (looks_mroIn (M:=M) X c.mb)
 have kd:builtinKind "BaseException.__getattribute__" = some .slot:=by decide +kernel
 have sp:splitId "BaseException.__getattribute__" = some ("BaseException", "__getattribute__"):=by decide +kernel
 have ag:=PySem.F.args_bexc_ga (.ref x) nv
 simp only [checkBuiltinCall,kd,sp]
 refine wpAny_bind (LI.at ?_)
 simp only [Bool.not_true,Bool.false_eq_true,if_false]
 repeat (any_goals (first | assumption | wp_step))
theorem xclass_by {tk:Tok} {Q:Value -> Shared -> Prop} (X:K.In h) (c:XCl K C) (hx:h.get? x = some o) (hc:o.cls = .ref C) (hq:Q (.ref C) ⟨h,g,d,t,os⟩):
  wpAny (model prog w) A (getAttrBy (.ref x) (.str "__class__" tk) false) Q E ⟨h,g,d,t,os⟩:=by
 have L0:Looks (model prog w) h (typeOf (.ref x)) (.ref C):=hc ▸ (Looks.ld hx).andThen .now
 have L1:=looks_findIn (M:=model prog w) X c.ga
 have L2:=looks_findIn (M:=model prog w) X c.gh
 have L3:=looks_mroIn (M:=model prog w) X c.mb
 have LI:Looks (model prog w) h (isInstance (.ref x) (.type "BaseException")) true:=L0.andThen L3
 unfold getAttrBy
 refine wpAny_holding (wpAny_bind (L0.at (wpAny_bind (L1.at ?_))))
 dsimp only
 have nga:(Value.builtin "BaseException.__getattribute__" == Value.builtin "object.__getattribute__") = false:=by decide +kernel
 rw [if_neg (by rw [nga,Bool.and_false]; decide)]
 unfold getAttrByItsOwn hookBefore
 refine wpAny_bind (L2.at ?_)
 refine wpAny_bind (wpAny_attempt (wpAny_holding ?_))
 unfold callGetattribute
 rw [if_neg (by decide)]
 unfold boundAndCalled
 rw [PySem.F.attrBase_ValueError.ga.bind]
 refine wpAny_bind (wpAny_pure ?_)
 refine wpAny_call (codeAny_call_builtin PySem.F.attrBase_ValueError.ga.plain PySem.F.entry_bexc_ga ?_)
 refine xcheck_ga X c hx hc ?_
 have ok:wpAny (model prog w) A.in1 (Builtin.«object.__getattribute__» ⟨[.ref x,.str "__class__" tk],[]⟩) (fun fin s'=>fin = .done (.ret (.ref C)) /\ s' = ⟨h,g,d,t,os⟩) (fun _ _=>False) ⟨h,g,d,t,os⟩:=xentry_class X c hx hc ⟨rfl,rfl⟩
 refine wpAny_mono ok (fun fin s' z=>?_) fun _ _ z=>z.elim
 obtain ⟨rfl,rfl⟩:=z
 dsimp only
 exact handed_on rfl hq
theorem xclass_attr {Q:Option Value -> Shared -> Prop} (X:K.In h) (c:XCl K C) (hx:h.get? x = some o) (hc:o.cls = .ref C) (hq:Q (some (.ref C)) ⟨h,g,d,t + 1,os⟩):
  wpAny (model prog w) A (getAttr? (.ref x) "__class__") Q E ⟨h,g,d,t,os⟩:=by
 unfold getAttr? getAttrBy?
 refine wpAny_bind (wpAny_mkText ?_)
 refine wpAny_bind (wpAny_attempt (xclass_by X c hx hc ?_))
 exact wpAny_pure hq
theorem kitx_exc (c:XCl K C):KitX K (.ref x) (.ref C) (fun h=>∃ o,h.get? x = some o /\ o.cls = .ref C) where
 ty:=fun _ _ _ ⟨_,e1,e2⟩=>e2 ▸ (Looks.ld e1).andThen .now
 it:=fun _ _ X _=>c.isType X
 ne:=fun h tp dd its n sl X htp=>by
  obtain ⟨tl,N,nm,q,bs,hdct,sn,sub,ab,col,dd',k0,k1,k2,k3,k5,mN,hC,_⟩:=(c.own X).obj
  refine Bool.eq_false_iff.mpr fun q=>?_
  have e:C = tp:=Value.ref.inj (beq_iff_eq.mp q)
  rw [e] at hC
  have z:=congrArg Obj.data (Option.some.inj (hC.symm.trans htp))
  cases z
 ca:=fun {_ _ _ _ _ s} X ⟨_,e1,e2⟩ k=>by
  obtain ⟨h,g,d,t,os⟩:=s
  exact xclass_attr X c e1 e2 k
end
theorem kit_exc {K:Frag} {C D:Addr} {b:Bool} (c:XCl K D) (m:mroIn K C (.ref D) = some b) (hb:b = false -> C ≠ D):kitOne K (.ref C) (.ref D) = some b:=by
 unfold kitOne
 by_cases q:((Value.ref C == Value.ref D) = true)
 ·rw [if_pos q]
  have e:C = D:=Value.ref.inj (beq_iff_eq.mp q)
  cases b with
  | true=>rfl
  | false=>exact absurd e (hb rfl)
 ·rw [if_neg q]
  unfold kitCls
  dsimp only
  have hc:(clsIn K D).isSome = true:=by
   have:=c.mb
   unfold mroIn at this
   cases e:clsIn K D with
   | none=>rw [e] at this; cases this
   | some cd=>rfl
  rw [if_pos (by rw [hc,c.ty]; simp)]
  exact m
theorem kit_excV {K:Frag} {C:Addr} {b:Bool} (m:mroIn K C (.type "ValueError") = some b):kitOne K (.ref C) (.type "ValueError") = some b:=by
 unfold kitOne
 rw [if_neg (by intro q; cases beq_iff_eq.mp q)]
 unfold kitCls
 dsimp only
 rw [if_pos (by decide +kernel)]
 exact m
section
variable {X:Cx} {pins:List (Addr × Obj)} {σ:St} {H:Hp} {s:Shared}
theorem Inv.exc (I:Inv X pins σ H s) {ea C:Addr} (e:H ea = some (XO C ea)):∃ o,s.heap.get? ea = some o /\ o.cls = .ref C:=(I.hok ea _ e).1
noncomputable def V.cv:V -> Option Value
 | .ref a=>some (.ref a)
 | .ty n=>some (.type n)
 | _=>none
theorem V.cv_of {v:V} {u c:Value} (r:RelV v u) (e:v.cv = some c):u = c:=by
 cases v with
 | ref a=>cases e; exact r
 | ty n=>cases e; exact r
 | _=>cases e
theorem call_isiX:CallR X (.builtin "isinstance") (fun xs H Q=>∃ ea C v d b,xs = [.ref ea,v] /\ v.cv = some d /\ H ea = some (XO C ea) /\ XCl X.K C /\ kitOne X.K (.ref C) d = some b /\ Q (.bl b) H):=by
 intro pins s σ H xs us Q I r h
 obtain ⟨ea,C,v,d,b,rfl,ev,e,c,m,q⟩:=h
 obtain ⟨u,u',rfl,r1,r2⟩:=vals2 r
 cases r1
 cases V.cv_of r2 ev
 exact tokQ I.tk (kia_one (kitx_exc c) I.kIn (I.exc e) m (fun z=>nomatch z) fun tk (htk:0 < tk)=>⟨.bl b,H,I.tok _,rfl,q⟩)
theorem vals_cv:∀ {xs:List V} {us ds:List Value},Vals xs us -> xs.map V.cv = ds.map some -> us = ds
 | [],_,[],.nil,_=>rfl
 | [],_,_ :: _,.nil,e=>by cases e
 | _ :: _,_,[],.cons _ _,e=>by cases e
 | x :: xs,_,d :: ds,.cons r t,e=>by
  simp only [List.map_cons,List.cons.injEq] at e
  rw [V.cv_of r e.1,vals_cv t e.2]
theorem call_isiXT:CallR X (.builtin "isinstance") (fun xs H Q=>∃ ea C t vs ds b,xs = [.ref ea,.ref t] /\ H t = some (.tup vs) /\ vs.map V.cv = ds.map some /\ H ea = some (XO C ea) /\ XCl X.K C /\ kitAny X.K (.ref C) ds = some b /\ Q (.bl b) H):=by
 intro pins s σ H xs us Q I r h
 obtain ⟨ea,C,t,vs,ds,b,rfl,et,ev,e,c,m,q⟩:=h
 obtain ⟨u,u',rfl,r1,r2⟩:=vals2 r
 cases r1
 cases r2
 obtain ⟨_,its,rv,o,ho,hoc,n,hod⟩:=I.hok t _ et
 cases vals_cv rv ev
 obtain ⟨oc,od,oda,osl⟩:=o
 cases hoc
 cases hod
 exact tokQ I.tk (kia_tup (kitx_exc c) I.kIn (I.exc e) ho m (fun z=>nomatch z) fun tk (htk:0 < tk)=>⟨.bl b,H,I.tok _,rfl,q⟩)
end
end L2
namespace L2
open PySem PySem.Spec PyProof.Rows
def CalleeX (P:Program) (w:World) (K:Frag) (mg:Str -> Option Value) (base:Heap) (k:Nat) (x:Str) (ps:List Str) (sp:Sp):Prop:=
 ∃ f fd,FnOk P w K mg base (XR P w) k f fd ps sp /\ Binds K fd ps [] /\ keepIn K (.ref f) = true /\ mg x = some (.ref f)
theorem Fn.calX {P:Program} {w:World} {K:Frag} {mg:Str -> Option Value} {base:Heap} {x:Str} {st:Stmt} {N ps:List Str} {k:Nat} {sp:Sp} (F:Fn K mg x st) (S:FnScope N ps (defScope st)) (len:∀ vs H Q E,sp vs H Q E -> vs.length = ps.length)
  (hb:∀ (kV doc pm:Value) (an:Option Addr) (cdv ct:Value) (us:List Value),us.length = ps.length -> bindArgs (fnOf x x (defArgs st) (defBody st) (defScope st) .none kV doc pm an cdv ct) ⟨us,[]⟩ = pure (ps.zip us))
  (hbody:∀ (f:Addr) (cdv:Value) (A:Around) (outer:List Env) (s:Shared) (H:Hp) (vs:List V) (Q:VK) (E:XK),Room k (A.deeper (envOfC x (defScope st) s.heap.objs.size f cdv)) -> sp vs H Q E ->
   ∃ t,PSs (cxOf (XR P w) P w K mg base N x (defScope st) f cdv A outer s H E) (defBody st) t /\ t { nx:=fun _ H'=>Q .non H',rt:=Q } (start N vs) H):CalleeX P w K mg base (k + 1) x ps sp:=by
 obtain ⟨f,fd,F,m⟩:=F
 have hB:=F.binds hb
 have hK:=F.kp
 obtain ⟨oc,od,kV,doc,pm,an,cdv,ct,osl,rfl,lk,hcd⟩:=F.ex
 exact ⟨f,_,fn_of lk hcd S len (hbody f cdv),hB,hK,m⟩
section
variable {X:Cx} {k:Nat} {x:Str} {ps:List Str} {sp:Sp} {p pos:Pos} {e:Expr} {es:List Expr} {t:TA} {E:XK} {W:St -> XK}
theorem pe_fnX (C:CalleeX X.prog X.w X.K X.mg X.base k x ps sp) (hr:Room k X.A) (hx:Passes (XR X.prog X.w) X E) (hg:Gl X x) (ha:PA X (e :: es) t)
  (he:starEach (e :: es) X.env = (false,eval e X.env) :: starEach es X.env:=by rfl) (hpl:(backTo pos (starEach es X.env)).any (·.1) = false:=by rfl) (hd:(x == ("__debug__" : Str)) = false:=by decide):PE X (.Call (.Name x p) (e :: es) [] pos) (tCall sp [] E t):=by
 obtain ⟨f,fd,F,b,kp,m⟩:=C
 exact pe_call F hr hg m kp b .nil hx ha (hdb:=hd) (he:=he) (hpl:=hpl)
theorem pe_fnT (C:CalleeX X.prog X.w X.K X.mg X.base k x ps sp) (hr:Room k X.A) (hx:PassesT (XR X.prog X.w) X W) (hg:Gl X x) (ha:PA X (e :: es) t)
  (he:starEach (e :: es) X.env = (false,eval e X.env) :: starEach es X.env:=by rfl) (hpl:(backTo pos (starEach es X.env)).any (·.1) = false:=by rfl) (hd:(x == ("__debug__" : Str)) = false:=by decide):PE X (.Call (.Name x p) (e :: es) [] pos) (tCallT sp [] W t):=by
 obtain ⟨f,fd,F,b,kp,m⟩:=C
 exact pe_callT F hr hg m kp b .nil hx ha (hdb:=hd) (he:=he) (hpl:=hpl)
theorem CalleeX.calm {P:Program} {w:World} {K:Frag} {mg:Str -> Option Value} {base:Heap} {k:Nat} {x:Str} {ps:List Str} {sp:Sp} (C:CalleeX P w K mg base k x ps sp):
  Callee P w K mg base k x ps (fun vs H Q _=>sp vs H Q E0):=by
 obtain ⟨f,fd,F,b,kp,m⟩:=C
 refine ⟨f,fd,⟨fun vs H Q _ h=>F.len vs H Q E0 h,fun A outer s H args us vs Q E hr e0 hb hv h=>?_⟩,b,kp,m⟩
 refine codeAny_mono (F.run A outer s H args us vs Q E0 hr e0 hb hv h) fun r s' q=>?_
 rcases r with er | fl
 ·obtain ⟨_,_,_,_,_,_,_,_,z⟩:=q
  exact z.elim
 ·cases fl with
  | ret u=>exact q
  | _=>exact q.elim
end
theorem PS.nox {X:Cx} {st:Stmt} {t:TS} (h:PS X.nox st t):PS X st t:=fun pins s σ H D I hw=>
 wpAny_mono (h pins s σ H D (I.wish _) hw) (fun _ _ q=>q.unwish) fun _ _ z=>z.elim
theorem PS.calm {X:Cx} {st:Stmt} {t:TS} (h:PS X.nox st t):PS X st t:=PS.nox h
section
variable {X:Cx} {a c:Expr} {es:List Expr} {ta:TE} {pos p tpos:Pos} {x1:Nat}
noncomputable def cIsX (K:Frag) (d:Value) (ta:TE):TE:=fun σ H Q=>ta σ H fun x H1=>match x with
 | .ref ea=>∃ C b,H1 ea = some (XO C ea) /\ XCl K C /\ PySem.W.kitOne K (.ref C) d = some b /\ Q (.bl b) H1
 | _=>False
theorem qe_isiX {v:V} {d:Value} (K:Frag) (hK:X.K = K) (ev:v.cv = some d) (hg:Gl X "isinstance") (hm:X.mg "isinstance" = none) (ha:PE X a ta) (hc:PE X c (tC v))
  (hs:starEach [a,c] X.env = (false,eval a X.env) :: starEach [c] X.env:=by rfl) (hs2:starEach [c] X.env = (false,eval c X.env) :: starEach [] X.env:=by rfl) (hpl:(backTo pos (starEach [c] X.env)).any (·.1) = false:=by rfl):PE X (.Call (.Name "isinstance" p) [a,c] [] pos) (cIsX K d ta):=by
 subst hK
 refine (pe_callB call_isiX hg hm bb_isinstance (pa_cons ha.mono (pa_cons hc pa_nil hs2) hs) (he:=hs) (hpl:=hpl)).imp fun σ H Q q=>⟨_,q,fun x H1 z=>?_⟩
 split at z
 ·obtain ⟨C,b,h1,h2,h3,z⟩:=z
  exact ⟨_,C,v,d,b,rfl,ev,h1,h2,h3,z⟩
 ·exact z.elim
noncomputable def tCs (vs:List V):TA:=fun _ H Q=>Q vs H
theorem pac_nil:PA X [] (tCs []):=pa_nil
theorem pac_cons {v:V} {vs:List V} (ha:PE X a (tC v)) (hr:PA X es (tCs vs)) (hs:starEach (a :: es) X.env = (false,eval a X.env) :: starEach es X.env:=by rfl):PA X (a :: es) (tCs (v :: vs)):=pa_cons ha hr hs
noncomputable def cIsXT (K:Frag) (vs:List V) (ds:List Value) (ta:TE):TE:=fun σ H Q=>ta σ H fun x H1=>match x with
 | .ref ea=>∃ C b,H1 ea = some (XO C ea) /\ XCl K C /\ PySem.W.kitAny K (.ref C) ds = some b /\ ∀ p,H1 p = none -> Q (.bl b) (upd H1 p (.tup vs))
 | _=>False
theorem qe_isiXT {vs:List V} {ds:List Value} (K:Frag) (hK:X.K = K) (ev:vs.map V.cv = ds.map some) (hz:vs.length <= sizeLine) (hg:Gl X "isinstance") (hm:X.mg "isinstance" = none) (ha:PE X a ta) (hc:PA X es (tCs vs))
  (hs:starEach [a,.Tuple es x1 tpos] X.env = (false,eval a X.env) :: starEach [.Tuple es x1 tpos] X.env:=by rfl) (hs2:starEach [.Tuple es x1 tpos] X.env = (false,eval (.Tuple es x1 tpos) X.env) :: starEach [] X.env:=by rfl) (hpl:(backTo pos (starEach [.Tuple es x1 tpos] X.env)).any (·.1) = false:=by rfl):
  PE X (.Call (.Name "isinstance" p) [a,.Tuple es x1 tpos] [] pos) (cIsXT K vs ds ta):=by
 subst hK
 refine (pe_callB call_isiXT hg hm bb_isinstance (pa_cons ha.mono (pa_cons (pe_tup hc) pa_nil hs2) hs) (he:=hs) (hpl:=hpl)).imp fun σ H Q q=>⟨_,q,fun x H1 z=>⟨hz,fun q0 hq0=>?_⟩⟩
 split at z
 ·obtain ⟨C,b,h1,h2,h3,z⟩:=z
  exact ⟨_,C,q0,vs,ds,b,rfl,upd_same,ev,by rw [upd_ne (ne_of_none h1 hq0)]; exact h1,h2,h3,z q0 hq0⟩
 ·exact z.elim
end
theorem kitAny_nil {K:Frag} {t:Value}:PySem.W.kitAny K t [] = some false:=rfl
theorem kitAny_no {K:Frag} {t c:Value} {r:List Value} (h:PySem.W.kitOne K t c = some false):PySem.W.kitAny K t (c :: r) = PySem.W.kitAny K t r:=by
 rw [PySem.W.kitAny,h]
noncomputable abbrev TJ:=Nat -> St -> Hp -> (Hp -> Prop) -> Prop
def PJ (X:Cx) (es:List Expr) (t:TJ):Prop:=∀ (acc:Str) (pins:List (Addr × Obj)) (s:Shared) (σ:St) (H:Hp) (Q:Hp -> Prop),acc.length <= sizeLine -> Inv X pins σ H s -> t acc.length σ H Q ->
 Joins (model X.prog X.w) X.A X.xe (evalEach es X.env) acc (fun out s1=>out.length <= sizeLine /\ ∃ H1,Inv X pins σ H1 s1 /\ Q H1) s
noncomputable def jNil:TJ:=fun _ _ H Q=>Q H
noncomputable def jCons (te:TE) (tj:TJ):TJ:=fun n σ H Q=>te σ H fun x H1=>match x with
 | .str y=>n + y.length <= sizeLine /\ tj (n + y.length) σ H1 Q
 | _=>False
section
variable {X:Cx} {e v1 v2:Expr} {es rest:List Expr} {te:TE} {tj:TJ} {pos:Pos}
theorem pj_nil:PJ X [] jNil:=fun acc pins s σ H Q hz I q=>⟨hz,H,I,q⟩
theorem pj_cons (he:PE X e te) (hr:PJ X es tj) (hs:evalEach (e :: es) X.env = eval e X.env :: evalEach es X.env:=by rfl):PJ X (e :: es) (jCons te tj):=by
 intro acc pins s σ H Q hz I q
 rw [hs]
 refine thn (he pins s σ H _ I q) fun u s1 ⟨x,H1,I1,r,z⟩=>?_
 dsimp only at z
 split at z
 ·rename_i y
  obtain ⟨t,rfl⟩:=r
  have hl:(acc ++ y).length = acc.length + y.length:=strLen_append _ _
  exact ⟨y,t,rfl,by rw [hl]; exact z.1,hr (acc ++ y) pins s1 σ H1 Q (by rw [hl]; exact z.1) I1 (by rw [hl]; exact z.2)⟩
 ·exact z.elim
noncomputable def cFS (tj:TJ):TE:=fun σ H Q=>tj 0 σ H fun H1=>∀ z,Q (.str z) H1
theorem pe_fs (h:PJ X (v1 :: v2 :: rest) tj):PE X (.JoinedStr (v1 :: v2 :: rest) pos) (cFS tj):=by
 intro pins s σ H Q I q
 have J:=h Str.empty pins s σ H _ (by decide) I q
 refine wpAny_JoinedStr ?_
 have mono:∀ {P R:Str -> Shared -> Prop} (l:List (Sem Value)) (acc:Str) (s:Shared),(∀ o s,P o s -> R o s) -> Joins (model X.prog X.w) X.A X.xe l acc P s -> Joins (model X.prog X.w) X.A X.xe l acc R s:=by
  intro P R l
  induction l with
  | nil=>intro acc s k z; exact k _ _ z
  | cons x r ih=>
   intro acc s k z
   exact thn z fun v s1 ⟨y,t,e,hz,z⟩=>⟨y,t,e,hz,ih _ _ k z⟩
 exact mono _ _ _ (fun out s1 ⟨hz,H1,I1,z⟩=>⟨hz,⟨.str out,H1,I1.tok _,⟨_,rfl⟩,z out⟩⟩) J
end
noncomputable def xA (K:Frag) (x:Str):Addr:=match nsIn K mainGlobals x with
 | some (some (.ref a))=>a
 | _=>0
theorem xA_eq {K:Frag} {x:Str} {C:Addr} (e:nsIn K mainGlobals x = some (some (.ref C))):xA K x = C:=by unfold xA; rw [e]
def Xn (K:Frag) (mg:Str -> Option Value) (x:Str):Prop:=mg x = some (.ref (xA K x)) /\ XCl K (xA K x)
def Xm (K:Frag) (x y:Str) (b:Bool):Prop:=PySem.W.mroIn K (xA K x) (.ref (xA K y)) = some b /\ (b = false -> xA K x ≠ xA K y)
def Xv (K:Frag) (x:Str):Prop:=PySem.W.mroIn K (xA K x) (.type "ValueError") = some true
theorem Xn.kit {K:Frag} {mg:Str -> Option Value} {x y:Str} {b:Bool} (m:Xm K x y b) (n:Xn K mg y):PySem.W.kitOne K (.ref (xA K x)) (.ref (xA K y)) = some b:=kit_exc n.2 m.1 m.2
theorem Xv.kit {K:Frag} {x:Str} (m:Xv K x):PySem.W.kitOne K (.ref (xA K x)) (.type "ValueError") = some true:=kit_excV m
theorem Xm.caught {K:Frag} {x y:Str} (m:Xm K x y true):Caught K (xA K x) (xA K y):=⟨m.1⟩
theorem bb_ValueError:bootBuiltins "ValueError" = some (.type "ValueError"):=by decide +kernel
section
variable {K:Frag} {h:Heap} {mg:Str -> Option Value} {x y:Str} {C D:Addr}
theorem xn_mk (X:K.In h) (G:h.Ns mainGlobals mg) (n:nsIn K mainGlobals x = some (some (.ref C))) (ex:PySem.W.excIn K C bmV "ValueError.__new__" = true) (ty:PySem.W.typeIn K (.ref C) = some (.type "type")) (mb:PySem.W.mroIn K C (.type "BaseException") = some true)
  (ga:findIn K (.ref C) "__getattribute__" = some (some (.builtin "BaseException.__getattribute__"))) (gh:findIn K (.ref C) "__getattr__" = some none) (ca:findIn K (.ref C) "__class__" = some (some (.builtin "object.__class__"))) (mo:PySem.W.mroIn K C (.type "object") = some true)
  (gt:PySem.W.specialIn K (.builtin "object.__class__") "__get__" = some (some (.builtin "getset_descriptor.__get__"))) (tk:PySem.W.takesIn K (.builtin "object.__class__") = some true):Xn K mg x:=by
 unfold Xn
 rw [xA_eq n]
 exact ⟨mg_of X G n,⟨ex,ty,mb,ga,gh,ca,gt,tk,mo⟩⟩
theorem xm_mk {b:Bool} (n:nsIn K mainGlobals x = some (some (.ref C))) (n':nsIn K mainGlobals y = some (some (.ref D))) (m:PySem.W.mroIn K C (.ref D) = some b) (d:b = false -> C ≠ D):Xm K x y b:=by
 unfold Xm
 rw [xA_eq n,xA_eq n']
 exact ⟨m,d⟩
theorem xv_mk (n:nsIn K mainGlobals x = some (some (.ref C))) (m:PySem.W.mroIn K C (.type "ValueError") = some true):Xv K x:=by
 unfold Xv
 rw [xA_eq n]
 exact m
end
theorem qe_cls {X:Cx} {K:Frag} {x:Str} {pos:Pos} (n:Xn K X.mg x) (hg:Gl X x) (hd:(x == ("__debug__" : Str)) = false:=by decide):PE X (.Name x pos) (tC (.ref (xA K x))):=pe_glob (v:=.ref (xA K x)) hg n.1 rfl hd
theorem a_tCallT {sp:Sp} {W:St -> XK} {t:TA} {σ:St} {H:Hp} {Q:VK}:tCallT sp [] W t σ H Q = t σ H fun vs H1=>sp vs H1 Q (W σ):=by
 unfold tCallT
 simp only [List.append_nil]
theorem a_tRaise {C:Addr} {E:XK} {t:TA} {D:Ends} {σ:St} {H:Hp}:tRaise C E t D σ H = t σ H fun vs H1=>vs.length <= sizeLine /\ E (.ref C) none H1:=rfl
theorem a_cFS {tj:TJ} {σ:St} {H:Hp} {Q:VK}:cFS tj σ H Q = tj 0 σ H fun H1=>∀ z,Q (.str z) H1:=rfl
theorem a_jNil {n:Nat} {σ:St} {H:Hp} {Q:Hp -> Prop}:jNil n σ H Q = Q H:=rfl
theorem a_jCons {te:TE} {tj:TJ} {n:Nat} {σ:St} {H:Hp} {Q:Hp -> Prop}:jCons te tj n σ H Q = te σ H fun x H1=>match x with
 | .str y=>n + y.length <= sizeLine /\ tj (n + y.length) σ H1 Q
 | _=>False:=rfl
theorem a_cIsX {K:Frag} {d:Value} {ta:TE} {σ:St} {H:Hp} {Q:VK}:cIsX K d ta σ H Q = ta σ H fun x H1=>match x with
 | .ref ea=>∃ C b,H1 ea = some (XO C ea) /\ XCl K C /\ PySem.W.kitOne K (.ref C) d = some b /\ Q (.bl b) H1
 | _=>False:=rfl
theorem a_cIsXT {K:Frag} {vs:List V} {ds:List Value} {ta:TE} {σ:St} {H:Hp} {Q:VK}:cIsXT K vs ds ta σ H Q = ta σ H fun x H1=>match x with
 | .ref ea=>∃ C b,H1 ea = some (XO C ea) /\ XCl K C /\ PySem.W.kitAny K (.ref C) ds = some b /\ ∀ p,H1 p = none -> Q (.bl b) (upd H1 p (.tup vs))
 | _=>False:=rfl
theorem a_tTryAs {K:Frag} {D:Addr} {i:Nat} {tb:(St -> XK) -> TS} {th:Addr -> TS} {R:Ends} {σ:St} {H:Hp}:tTryAs K D i tb th R σ H =
 tb (fun σ' cv _ H'=>∃ C,cv = .ref C /\ Caught K C D /\ ∀ ea,H' ea = none ->
  th ea { nx:=fun σ2 H2=>R.nx (σ2.set i none) H2,rt:=R.rt,bk:=fun σ2 H2=>R.bk (σ2.set i none) H2,ct:=fun σ2 H2=>R.ct (σ2.set i none) H2 } (σ'.set i (some (.ref ea))) (upd H' ea (XO C ea))) R σ H:=rfl
end L2
namespace L2
open PySem PySem.Spec PyProof.Rows PySem.Builtin PySem.Builtin.Str
section
variable {X:Cx}
end
end L2
namespace L2
open PySem PySem.Spec PyProof.Rows
section
variable {K:Frag} {g:TG} {tc:TT} {te:TE} {σc:St} {D:Addr} {Q:VK} {H:Hp}
theorem paired_snoc' {α β:Type} {F:α -> β -> Prop} {l:List α} {m:List β} {x:α} {y:β} (h:Paired F l m) (r:F x y):Paired F (l ++ [x]) (m ++ [y]):=by
 induction h with
 | nil=>exact .cons r .nil
 | cons r' _ ih=>exact .cons r' ih
end
structure RoomH (k:Nat) (A:Around):Prop where
 dp:A.depth + 3 * k + 5 < recursionLimit
 un:A.units + 16 * k + 200 < cLine
theorem Room.h {k:Nat} {A:Around} (r:Room k A):RoomH k A:=⟨r.dp,r.un⟩
theorem RoomH.mark {k:Nat} {A:Around} (r:RoomH k A) (v:Option Value):RoomH k (A.mark v):=⟨r.dp,r.un⟩
theorem RoomH.mono {j k:Nat} {A:Around} (r:RoomH k A) (h:j <= k):RoomH j A:=⟨by have:=r.dp; omega,by have:=r.un; omega⟩
noncomputable def Cx.loud (X:Cx):Cx:={ X with calm:=false,xe:=fun _ _=>False }
theorem Inv.loud {X:Cx} {p:List (Addr × Obj)} {σ:St} {H:Hp} {s:Shared} (I:Inv X p σ H s):Inv X.loud p σ H s:=
 ⟨⟨I.ok.mod,I.ok.kind,I.ok.glob,I.ok.blt,I.ok.above,I.ok.inj,I.ok.has,I.ok.cab,fun z=>(nomatch z),I.ok.frames,I.ok.stk,I.ok.exf,I.ok.bs,I.ok.bsz,I.ok.noex,I.ok.exfs,I.ok.funs,I.ok.frf⟩,I.os,I.bare,I.base,I.loc,I.cell,I.free,I.freeC,I.pin,I.hok,I.len,I.tk⟩
structure FnOkH (P:Program) (w:World) (K:Frag) (mg:Str -> Option Value) (base:Heap) (k:Nat) (f:Addr) (fd:FuncData) (ps:List Str) (sp:Sp):Prop where
 len:∀ vs H Q E,sp vs H Q E -> vs.length = ps.length
 run:∀ (A:Around) (outer:List Env) (s:Shared) (H:Hp) (args:Args) (us:List Value) (vs:List V) (Q:VK) (E:XK),RoomH k A -> Env0 P w K mg base A outer s H -> BindsTo s fd args (ps.zip us) -> Vals vs us -> sp vs H Q E ->
  codeAny (model P w) A (.call (.ref f) args) (CR CX0 outer P w H s Q E) s
theorem fn_ofH {P:Program} {w:World} {K:Frag} {mg:Str -> Option Value} {base:Heap} {k:Nat} {f:Addr} {name qual:Str} {params:Arguments} {body:List Stmt} {scope:Scope} {dV kV doc pm cdv ct oc:Value} {an od:Option Addr}
  {osl:Array (Option Value)} {N ps:List Str} {sp:Sp} (lk:K.lookup f = some ⟨oc,od,.func (fnOf name qual params body scope dV kV doc pm an cdv ct),osl⟩) (hcd:codeIn K cdv qual = true) (S:FnScope N ps scope)
  (len:∀ vs H Q E,sp vs H Q E -> vs.length = ps.length)
  (hbody:∀ (A:Around) (outer:List Env) (s:Shared) (H:Hp) (vs:List V) (Q:VK) (E:XK),RoomH k (A.deeper (envOfC qual scope s.heap.objs.size f cdv)) -> sp vs H Q E ->
   ∃ t,PSs (cxOf CX0 P w K mg base N qual scope f cdv A outer s H E).loud body t /\ t { nx:=fun _ H'=>Q .non H',rt:=Q } (start N vs) H):
  FnOkH P w K mg base (k + 1) f (fnOf name qual params body scope dV kV doc pm an cdv ct) ps sp where
 len:=len
 run:=fun A outer s H args us vs Q E hr e0 hb r hsp=>by
  have hl:=len _ _ _ _ hsp
  have keep:∀ b o,base.get? b = some o -> s.heap.get? b = some o:=fun b o e=>(e0.bs b o e).1
  have KX:K.In s.heap:=e0.mod.kin.keeps keep
  have lim:s.heap.NoLimit:=e0.mod.nolimit.keeps keep
  have loc:∀ y ∈ ps.zip us,scope.names.lookup y.1 = some .local \/ (scope.names.lookup y.1 = some .cell /\ ((cellsFrom (s.heap.objs.size + 1) scope.names []).lookup y.1).isSome = true):=by
   rintro ⟨n,v⟩ hy
   exact (S.par n (List.of_mem_zip hy).1).imp id fun q=>⟨q,PySem.W.cellsFrom_some _ _ _ (.inl q)⟩
  have hd:A.depth < recursionLimit:=by have:=hr.dp; omega
  refine codeAny_call_function hd (KX _ _ lk) rfl S.co S.gen rfl (PySem.W.codeRec_of KX hcd) (hb _ _ _ _ (tokQ e0.tk (wpAny_newFunctionEnv_cells S.kind loc fun env he s1 x htk=>?_)))
  subst he
  refine ⟨lim.keeps x.toInCall.keep,codeAny_func ?_⟩
  have hr2:RoomH k (A.deeper (envOfC qual scope s.heap.objs.size f cdv)):=⟨by have:=hr.dp; show A.depth + 1 + 3 * k + 5 < _; omega,by have:=hr.un; show A.units + 3 + 16 * k + 200 < _; omega⟩
  obtain ⟨t,ht,hq⟩:=hbody A outer s H vs Q E hr2 hsp
  have e1:Env0 P w K mg base { A with handled:=none } outer s H:=⟨e0.frames,e0.mod,e0.bs,e0.bsz,e0.funs,e0.frf,e0.hok,e0.bare,e0.tk⟩
  have I0:Inv (cxOf CX0 P w K mg base N qual scope f cdv { A with handled:=none } outer s H E) [] (start N vs) H s1:=inv_start S rfl e1 hl r x htk
  have I1:=I0.loud
  have I:Inv (cxOf CX0 P w K mg base N qual scope f cdv A outer s H E).loud [] (start N vs) H s1:=
   ⟨⟨I1.ok.mod,I1.ok.kind,I1.ok.glob,I1.ok.blt,I1.ok.above,I1.ok.inj,I1.ok.has,I1.ok.cab,fun z=>(nomatch z),Around.frames_deeper e0.frames,I1.ok.stk,I1.ok.exf,I1.ok.bs,I1.ok.bsz,I1.ok.noex,I1.ok.exfs,I1.ok.funs,I1.ok.frf⟩,I1.os,I1.bare,I1.base,I1.loc,I1.cell,I1.free,I1.freeC,I1.pin,I1.hok,I1.len,I1.tk⟩
  refine wpAny_mono (ht [] s1 (start N vs) H _ I hq) (fun fl s' hs=>?_) fun e s' hs=>hs.elim
  have fin:∀ {σ':St} {H':Hp} {v:V} {u:Value},Inv (cxOf CX0 P w K mg base N qual scope f cdv A outer s H E).loud [] σ' H' s' -> RelV v u -> Q v H' -> CE outer P w H s Q u s':=
   fun {σ' H' v u} J rv q=>⟨v,H',J.tk,J.os,J.bare,J.base,J.hok,rv,q⟩
  cases fl with
  | ret u=>obtain ⟨v,σ',H',J,rv,q⟩:=hs; exact fin J rv q
  | next=>obtain ⟨σ',H',J,q⟩:=hs; exact fin (v:=V.non) (u:=Value.none) J rfl q
  | brk=>obtain ⟨_,_,_,q⟩:=hs; exact q.elim
  | cont=>obtain ⟨_,_,_,q⟩:=hs; exact q.elim
def CalleeH (P:Program) (w:World) (K:Frag) (mg:Str -> Option Value) (base:Heap) (k:Nat) (x:Str) (ps:List Str) (sp:Sp):Prop:=
 ∃ f fd,FnOkH P w K mg base k f fd ps sp /\ Binds K fd ps [] /\ keepIn K (.ref f) = true /\ mg x = some (.ref f)
theorem Fn.calH {P:Program} {w:World} {K:Frag} {mg:Str -> Option Value} {base:Heap} {x:Str} {st:Stmt} {N ps:List Str} {k:Nat} {sp:Sp} (F:Fn K mg x st) (S:FnScope N ps (defScope st)) (len:∀ vs H Q E,sp vs H Q E -> vs.length = ps.length)
  (hb:∀ (kV doc pm:Value) (an:Option Addr) (cdv ct:Value) (us:List Value),us.length = ps.length -> bindArgs (fnOf x x (defArgs st) (defBody st) (defScope st) .none kV doc pm an cdv ct) ⟨us,[]⟩ = pure (ps.zip us))
  (hbody:∀ (f:Addr) (cdv:Value) (A:Around) (outer:List Env) (s:Shared) (H:Hp) (vs:List V) (Q:VK) (E:XK),RoomH k (A.deeper (envOfC x (defScope st) s.heap.objs.size f cdv)) -> sp vs H Q E ->
   ∃ t,PSs (cxOf CX0 P w K mg base N x (defScope st) f cdv A outer s H E).loud (defBody st) t /\ t { nx:=fun _ H'=>Q .non H',rt:=Q } (start N vs) H):CalleeH P w K mg base (k + 1) x ps sp:=by
 obtain ⟨f,fd,F,m⟩:=F
 have hB:=F.binds hb
 have hK:=F.kp
 obtain ⟨oc,od,kV,doc,pm,an,cdv,ct,osl,rfl,lk,hcd⟩:=F.ex
 exact ⟨f,_,fn_ofH lk hcd S len (hbody f cdv),hB,hK,m⟩
section
variable {X:Cx} {k:Nat} {x:Str} {ps:List Str} {sp:Sp} {p pos:Pos} {e:Expr} {es:List Expr} {t:TA}
theorem pe_fnH (C:CalleeH X.prog X.w X.K X.mg X.base k x ps sp) (hr:RoomH k X.A) (hg:Gl X x) (ha:PA X (e :: es) t)
  (he:starEach (e :: es) X.env = (false,eval e X.env) :: starEach es X.env:=by rfl) (hpl:(backTo pos (starEach es X.env)).any (·.1) = false:=by rfl) (hd:(x == ("__debug__" : Str)) = false:=by decide):PE X (.Call (.Name x p) (e :: es) [] pos) (tCall sp [] E0 t):=by
 obtain ⟨f,fd,F,b,kp,m⟩:=C
 intro pins s σ H Q I h
 refine wpAny_Call_Name_kw (ld_glob I hg m (PySem.W.callWith_K (h₀:=X.base) I.ok.mod.kin kp (thn (ha pos pins s σ H _ I h) fun us s1 ⟨vs,H1,I1,r,q⟩=>⟨I1.kIn,?_⟩) he hpl) hd)
 have q:sp vs H1 Q E0:=by dsimp only at q; rw [List.append_nil] at q; exact q
 have hl:(us ++ []).length = ps.length:=by rw [List.append_nil,<- r.length]; exact F.len _ _ _ _ q
 have bd:=b s1 us I1.kIn hl
 rw [List.append_nil] at bd
 refine wpAny_call (codeAny_mono (F.run X.A X.stack s1 H1 ⟨us,[]⟩ us vs Q E0 hr I1.env0 bd r q) fun r s' hq=>?_)
 rcases r with er | fl
 ·exact hq.elim
 ·cases fl with
  | ret u=>exact I1.after hq
  | _=>exact hq.elim
end
section
variable {κ:Type} [DecidableEq κ]
noncomputable def valV (kvs:List (κ × V)) (k:κ):Option V:=(kvs.find? fun kv=>decide (kv.1 = k)).map (·.2)
noncomputable def putK (kvs:List (κ × V)) (k:κ) (v:V):List (κ × V):=
 if (kvs.any fun kv=>decide (kv.1 = k)) = true then kvs.map (fun kv=>if kv.1 = k then (kv.1,v) else kv) else kvs ++ [(k,v)]
noncomputable def dropK (kvs:List (κ × V)) (k:κ):List (κ × V):=kvs.filter fun kv=>decide (kv.1 ≠ k)
theorem valV_pos {p:κ × V} {r:List (κ × V)} {k:κ} (e:p.1 = k):valV (p :: r) k = some p.2:=by simp [valV,List.find?_cons,e]
theorem valV_neg {p:κ × V} {r:List (κ × V)} {k:κ} (e:¬ p.1 = k):valV (p :: r) k = valV r k:=by simp [valV,List.find?_cons,e]
theorem valV_any (k:κ):∀ kvs:List (κ × V),(kvs.any fun kv=>decide (kv.1 = k)) = (valV kvs k).isSome
 | []=>rfl
 | p :: r=>by
  rw [List.any_cons]
  by_cases e:p.1 = k
  ·simp only [valV_pos e,decide_eq_true e,Bool.true_or,Option.isSome_some]
  ·rw [valV_neg e,decide_eq_false e,Bool.false_or]; exact valV_any k r
theorem length_putK (kvs:List (κ × V)) (k:κ) (v:V):(putK kvs k v).length <= kvs.length + 1:=by
 unfold putK
 split
 ·rw [List.length_map]; omega
 ·rw [List.length_append,List.length_cons,List.length_nil]; omega
theorem putK_new {kvs:List (κ × V)} {k:κ} (v:V) (h:valV kvs k = none):putK kvs k v = kvs ++ [(k,v)]:=by
 unfold putK
 rw [valV_any,h]
 exact if_neg (by decide)
theorem RelO.isSome_eq {o:Option V} {u:Option Value} (r:RelO o u):o.isSome = u.isSome:=by
 cases o with
 | none=>cases u with
  | none=>rfl
  | some _=>exact (show False from r).elim
 | some _=>cases u with
  | none=>exact (show False from r).elim
  | some _=>rfl
theorem RelO.getD {o:Option V} {u:Option Value} {d:V} {d':Value} (r:RelO o u) (rd:RelV d d'):RelV (o.getD d) (u.getD d'):=by
 cases o with
 | none=>cases u with
  | none=>exact rd
  | some _=>exact (show False from r).elim
 | some _=>cases u with
  | none=>exact (show False from r).elim
  | some _=>exact r
theorem KV.val {kvs:List (κ × V)} {vs:List (κ × Value)} (r:KV kvs vs) (k:κ):RelO (valV kvs k) (valueAt vs k):=by
 unfold KV at r
 induction r with
 | nil=>exact True.intro
 | @cons p q ps qs h t ih=>
  obtain ⟨h1,h2⟩:=h
  by_cases e:p.1 = k
  ·have e':q.1 = k:=h1.symm.trans e
   have b:valueAt (q :: qs) k = some q.2:=by simp [valueAt,List.find?_cons,e']
   rw [valV_pos e,b]; exact h2
  ·have e':¬ q.1 = k:=fun z=>e (h1.trans z)
   have b:valueAt (q :: qs) k = valueAt qs k:=by simp [valueAt,List.find?_cons,e']
   rw [valV_neg e,b]; exact ih
theorem KV.any {kvs:List (κ × V)} {vs:List (κ × Value)} (r:KV kvs vs) (k:κ):(kvs.any fun kv=>decide (kv.1 = k)) = vs.any fun kv=>decide (kv.1 = k):=by
 unfold KV at r
 induction r with
 | nil=>rfl
 | cons h t ih=>rw [List.any_cons,List.any_cons,ih,h.1]
theorem KV.repl {kvs:List (κ × V)} {vs:List (κ × Value)} (r:KV kvs vs) (k:κ) {y:V} {u:Value} (ry:RelV y u):
  KV (kvs.map fun kv=>if kv.1 = k then (kv.1,y) else kv) (vs.map fun kv=>if kv.1 = k then (kv.1,u) else kv):=by
 unfold KV at r ⊢
 induction r with
 | nil=>exact .nil
 | @cons p q ps qs h t ih=>
  rw [List.map_cons,List.map_cons]
  refine .cons ?_ ih
  obtain ⟨h1,h2⟩:=h
  by_cases e:p.1 = k
  ·rw [if_pos e,if_pos (h1.symm.trans e)]; exact ⟨h1,ry⟩
  ·rw [if_neg e,if_neg (fun z=>e (h1.trans z))]; exact ⟨h1,h2⟩
theorem KV.put {kvs:List (κ × V)} {vs:List (κ × Value)} (r:KV kvs vs) (k:κ) {y:V} {u:Value} (ry:RelV y u):KV (putK kvs k y) (stored vs k u):=by
 unfold putK stored
 rw [r.any k]
 by_cases e:(vs.any fun kv=>decide (kv.1 = k)) = true
 ·rw [if_pos e,if_pos e]; exact r.repl k ry
 ·rw [if_neg e,if_neg e]; exact Paired.snoc r ⟨rfl,ry⟩
theorem KV.drop {kvs:List (κ × V)} {vs:List (κ × Value)} (r:KV kvs vs) (k:κ):KV (dropK kvs k) (without vs k):=by
 unfold KV at r ⊢
 unfold dropK without
 induction r with
 | nil=>exact .nil
 | @cons p q ps qs h t ih=>
  obtain ⟨h1,h2⟩:=h
  rw [List.filter_cons,List.filter_cons]
  by_cases e:p.1 = k
  ·have a:¬ decide (p.1 ≠ k) = true:=by simp [e]
   have b:¬ decide (q.1 ≠ k) = true:=by simp [h1.symm.trans e]
   rw [if_neg a,if_neg b]; exact ih
  ·have e':¬ q.1 = k:=fun z=>e (h1.trans z)
   have a:decide (p.1 ≠ k) = true:=by simp [e]
   have b:decide (q.1 ≠ k) = true:=by simp [e']
   rw [if_pos a,if_pos b]; exact .cons ⟨h1,h2⟩ ih
theorem KV.keys {kvs:List (κ × V)} {vs:List (κ × Value)} (r:KV kvs vs):kvs.map (·.1) = vs.map (·.1):=by
 unfold KV at r
 induction r with
 | nil=>rfl
 | cons h t ih=>rw [List.map_cons,List.map_cons,ih,h.1]
theorem KV.length {kvs:List (κ × V)} {vs:List (κ × Value)} (r:KV kvs vs):kvs.length = vs.length:=Paired.length r
end
theorem kV_is {P:Program} {w:World} {k:Key} {u:Value} (r:RelV (kV k) u):(mixKind P w).is k u = true:=by
 cases k with
 | inl i=>obtain ⟨t,e⟩:=(show ∃ t,u = Value.int i t from r); subst e; exact mixKind_int P w i t
 | inr x=>obtain ⟨t,e⟩:=(show ∃ t,u = Value.str x t from r); subst e; exact mixKind_str P w x t
theorem items_are {P:Program} {w:World}:∀ {ks:List Key} {us:List Value},Vals (ks.map kV) us -> ItemsAre (mixKind P w) ks us
 | [],_,r=>by rw [List.map_nil] at r; cases r; exact .nil
 | k :: ks,_,r=>by
  rw [List.map_cons] at r
  cases r with
  | cons h t=>exact .cons (kV_is h) (items_are t)
noncomputable abbrev KT (H:Hp):List (List Key × V) -> List (List Key × Addr × Value) -> Prop:=Paired fun p q=>p.1 = q.1 /\ H q.2.1 = some (.tup (p.1.map kV)) /\ RelV p.2 q.2.2
theorem KT.val {H:Hp} {kvs:List (List Key × V)} {xs:List (List Key × Addr × Value)} (r:KT H kvs xs) (k:List Key):RelO (valV kvs k) ((atKey xs k).map (·.2)):=by
 induction r with
 | nil=>exact True.intro
 | @cons p q ps qs h t ih=>
  obtain ⟨h1,_,h2⟩:=h
  by_cases e:p.1 = k
  ·have e':q.1 = k:=h1.symm.trans e
   have b:atKey (q :: qs) k = some q.2:=by simp [atKey,List.find?_cons,e']
   rw [valV_pos e,b]; exact h2
  ·have e':¬ q.1 = k:=fun z=>e (h1.trans z)
   have b:atKey (q :: qs) k = atKey qs k:=by simp [atKey,List.find?_cons,e']
   rw [valV_neg e,b]; exact ih
theorem KT.repl {H:Hp} {kvs:List (List Key × V)} {xs:List (List Key × Addr × Value)} (r:KT H kvs xs) (k:List Key) {y:V} {u:Value} (ry:RelV y u):
  KT H (kvs.map fun kv=>if kv.1 = k then (kv.1,y) else kv) (xs.map (putAt k u)):=by
 induction r with
 | nil=>exact .nil
 | @cons p q ps qs h t ih=>
  rw [List.map_cons,List.map_cons]
  refine .cons ?_ ih
  obtain ⟨h1,h2,h3⟩:=h
  unfold putAt
  by_cases e:p.1 = k
  ·rw [if_pos e,if_pos (h1.symm.trans e)]; exact ⟨h1,h2,ry⟩
  ·rw [if_neg e,if_neg (fun z=>e (h1.trans z))]; exact ⟨h1,h2,h3⟩
theorem KT.put {H:Hp} {kvs:List (List Key × V)} {xs:List (List Key × Addr × Value)} (r:KT H kvs xs) (k:List Key) {b:Addr} {y:V} {u:Value} (hb:H b = some (.tup (k.map kV))) (ry:RelV y u):
  KT H (putK kvs k y) (storedH xs k b u):=by
 have e:(kvs.any fun kv=>decide (kv.1 = k)) = (atKey xs k).isSome:=by
  rw [valV_any,(r.val k).isSome_eq,Option.isSome_map]
 unfold putK storedH
 rw [e]
 by_cases q:(atKey xs k).isSome = true
 ·rw [if_pos q,if_pos q]; exact r.repl k ry
 ·rw [if_neg q,if_neg q]; exact Paired.snoc r ⟨rfl,hb,ry⟩
theorem KT.keeps {H H':Hp} {kvs:List (List Key × V)} {xs:List (List Key × Addr × Value)} (r:KT H kvs xs) (ht:∀ b ys,H b = some (.tup ys) -> H' b = some (.tup ys)):KT H' kvs xs:=
 Paired.mapP r fun _ _ z=>⟨z.1,ht _ _ z.2.1,z.2.2⟩
section
variable {P:Program} {w:World} {H:Hp} {h:Heap} {a:Addr}
theorem rd_of {u:HO} (ok:HOk P w H h) (e:Rd H a u):ObjOk P w H h a u:=e.ok ok
theorem dk_rd {kvs:List (Key × V)} (ok:HOk P w H h) (e:Rd H a (.dK kvs)):kvs.length <= sizeLine /\ (a == sysModules) = false /\ ∃ vs,KV kvs vs /\ h.DictOf (mixKind P w) a vs:=
 show ObjOk P w H h a (.dK kvs) from rd_of ok e
theorem dk_of {kvs:List (Key × V)} (ok:HOk P w H h) (e:H a = some (.dK kvs)):kvs.length <= sizeLine /\ (a == sysModules) = false /\ ∃ vs,KV kvs vs /\ h.DictOf (mixKind P w) a vs:=dk_rd ok (.inl e)
theorem key_of {ks:List Key} (ok:HOk P w H h) (e:H a = some (.tup (ks.map kV))):(tupleKind (mixKind P w)).is h ks a:=by
 obtain ⟨_,its,r,o,h1,h2,n,h3⟩:=(show ObjOk P w H h a (.tup (ks.map kV)) from ok a _ e)
 exact ⟨o,its.toArray,n,h1,h2,h3,by simpa using items_are r⟩
theorem dt_rd {kvs:List (List Key × V)} (ok:HOk P w H h) (e:Rd H a (.dT kvs)):kvs.length <= sizeLine /\ (a == sysModules) = false /\
  ∃ xs,KT H kvs xs /\ h.DictOfH (tupleKind (mixKind P w)) a xs:=by
 obtain ⟨z,y,xs,r,o,es,ep,h1,h2,h3,h4,h5⟩:=(show ObjOk P w H h a (.dT kvs) from rd_of ok e)
 refine ⟨z,y,xs,r,o,es,ep,h1,h2,h3,h4,fun x hx=>?_,h5⟩
 have all:∀ {l:List (List Key × V)} {m:List (List Key × Addr × Value)},KT H l m -> ∀ x ∈ m,(tupleKind (mixKind P w)).is h x.1 x.2.1:=by
  intro l m q
  induction q with
  | nil=>intro x hx; exact nomatch hx
  | @cons p q ps qs hq t ih=>
   intro x hx
   rcases List.mem_cons.mp hx with e | hx
   ·subst e
    exact key_of ok (by rw [<- hq.1]; exact hq.2.1)
   ·exact ih x hx
 exact all r x hx
end
def DGet (H:Hp) (a:Addr) (y:V) (r:Option V):Prop:=
 (∃ kvs k,Rd H a (.dK kvs) /\ y = kV k /\ r = valV kvs k) \/ ∃ kvs k b,Rd H a (.dT kvs) /\ y = .ref b /\ H b = some (.tup (k.map kV)) /\ r = valV kvs k
def DPut (H:Hp) (a:Addr) (y v:V) (H':Hp):Prop:=
 (∃ kvs k,H a = some (.dK kvs) /\ y = kV k /\ kvs.length < sizeLine /\ H' = upd H a (.dK (putK kvs k v))) \/
 ∃ kvs k b,H a = some (.dT kvs) /\ y = .ref b /\ H b = some (.tup (k.map kV)) /\ kvs.length < sizeLine /\ H' = upd H a (.dT (putK kvs k v))
theorem DGet.k {H:Hp} {a:Addr} {kvs:List (Key × V)} {k:Key} (e:H a = some (.dK kvs)):DGet H a (kV k) (valV kvs k):=.inl ⟨kvs,k,.inl e,rfl,rfl⟩
theorem DGet.t {H:Hp} {a b:Addr} {kvs:List (List Key × V)} {k:List Key} (e:H a = some (.dT kvs)) (eb:H b = some (.tup (k.map kV))):DGet H a (.ref b) (valV kvs k):=.inr ⟨kvs,k,b,.inl e,rfl,eb,rfl⟩
theorem DPut.k {H:Hp} {a:Addr} {kvs:List (Key × V)} {k:Key} {v:V} (e:H a = some (.dK kvs)) (hl:kvs.length < sizeLine):DPut H a (kV k) v (upd H a (.dK (putK kvs k v))):=.inl ⟨kvs,k,e,rfl,hl,rfl⟩
theorem DPut.t {H:Hp} {a b:Addr} {kvs:List (List Key × V)} {k:List Key} {v:V} (e:H a = some (.dT kvs)) (eb:H b = some (.tup (k.map kV))) (hl:kvs.length < sizeLine):
  DPut H a (.ref b) v (upd H a (.dT (putK kvs k v))):=.inr ⟨kvs,k,b,e,rfl,eb,hl,rfl⟩
section
variable {X:Cx} {pins:List (Addr × Obj)} {σ:St} {H:Hp} {s:Shared} {a:Addr} {y v:V} {u r:Value} {o:Option V} {A:Around} {E:Value -> Shared -> Prop}
theorem Inv.big (I:Inv X pins σ H s):sysModules < s.heap.objs.size:=by
 have h:mainGlobals < s.heap.objs.size:=(I.mod.glob.keeps I.bk).lt
 exact Nat.lt_trans (by decide) h
theorem d_getItem {Q:Value -> Shared -> Prop} (hu:A.units + 1 < cLine) (I:Inv X pins σ H s) (g:DGet H a y (some v)) (ry:RelV y u) (h:∀ w' s',Inv X pins σ H s' -> RelV v w' -> Q w' s'):
  wpAny (model X.prog X.w) A (getItem (.ref a) u) Q E s:=by
 rcases g with ⟨kvs,k,e,ey,l⟩ | ⟨kvs,k,b,e,ey,eb,l⟩
 ·subst ey
  obtain ⟨z,hd,vs,rel,dd⟩:=dk_rd I.hok e
  obtain ⟨w',hw,rw'⟩:=RelO.some_of (v:=v) (o:=valueAt vs k) (by rw [l]; exact rel.val k)
  exact wpAny_getItem_of (kV_is ry) dd.mapOf hw (h w' _ (I.tok _) rw')
 ·subst ey
  cases (show u = Value.ref b from ry)
  obtain ⟨z,hd,xs,rel,dd⟩:=dt_rd I.hok e
  obtain ⟨w',hw,rw'⟩:=RelO.some_of (v:=v) (o:=(atKey xs k).map (·.2)) (by rw [l]; exact rel.val k)
  obtain ⟨p,hp,hp2⟩:=Option.map_eq_some_iff.mp hw
  refine wpAny_getItem_heap (tupleKind_room_in1 hu) (key_of I.hok eb) dd hp ?_
  rw [hp2]
  exact h w' _ (I.tok _) rw'
theorem d_write {h':Heap} {t':Nat} {ob:HO} (I:Inv X pins σ H s) (mu:Mut (H a)) (hs:Heap.SameBut a s.heap h') (he:∃ q,h'.get? a = some q) (new:ObjOk X.prog X.w (upd H a ob) h' a ob) (ht:0 < t':=by first | assumption | exact Nat.succ_pos _ | (apply Inv.tk; assumption) | omega):
  Inv X pins σ (upd H a ob) { s with heap:=h',toks:=t' }:=
 I.write (x:=a) (e:=a) mu (.inl rfl) (fun b q hb z=>(hs.2 b hb).trans z) he new
theorem dk_new {P:Program} {w:World} {H':Hp} {h':Heap} {kvs:List (Key × V)} {vs:List (Key × Value)} (z:kvs.length <= sizeLine) (hd:(a == sysModules) = false) (rel:KV kvs vs) (dd:h'.DictOf (mixKind P w) a vs):
  ObjOk P w H' h' a (.dK kvs):=⟨z,hd,vs,rel,dd⟩
end
section
variable {X:Cx} {pins:List (Addr × Obj)} {σ:St} {H:Hp} {s:Shared} {a:Addr} {kvs:List (Key × V)} {k:Key} {u:Value} {A:Around} {E:Value -> Shared -> Prop}
theorem d_len {Q:Value -> Shared -> Prop} (I:Inv X pins σ H s) (e:Rd H a (.dK kvs)) (h:∀ t s',Inv X pins σ H s' -> Q (.int kvs.length t) s'):wpAny (model X.prog X.w) A (call (.builtin "len") [.ref a]) Q E s:=by
 obtain ⟨z,hd,vs,rel,dd⟩:=dk_rd I.hok e
 refine call_len_dict hd dd (by rw [<- rel.length]; rw [sizeLine_eq] at z; omega) ?_
 rw [<- rel.length]
 exact h _ _ (I.tok _)
end
def NoSl (i:Expr):Prop:=∀ ov iv,subscripted i false ov iv = operate [ov,iv] (getItem ov iv)
theorem subD_of {prog:Program} {w:World} {A:Around} {E:Value -> Shared -> Prop} {s:Shared} {env:Env} {value slice:Expr} {pos:Pos} {T id:String} {Q:Value -> Shared -> Prop}
  (hl:typeLookup (.type T) "__getitem__" = pure (some (.builtin id))) (hs:NoSl slice)
  (h:wpAny (model prog w) A (eval value env) (fun o s₁=>wpAny (model prog w) A (eval slice env) (fun i s₂=>s₂.TypeIs o T /\ wpAny (model prog w) A (getItem o i) Q E s₂) E s₁) E s):
  wpAny (model prog w) A (eval (.Subscript value slice pos) env) Q E s:=by
 refine Subscript_ (wpAny_mono h (fun o s₁ h₁=>wpAny_mono h₁ (fun i s₂ h₂=>?_) fun _ _ x=>x) fun _ _ x=>x)
 obtain ⟨hT,h₂⟩:=h₂
 unfold subscriptTail
 refine wpAny_bind ?_
 rw [getitemInPython_of_ne hT.not_modules]
 refine wpAny_bind (wpAny_specialOf hT hl ?_)
 have fin:wpAny (model prog w) A (subscripted slice false o i) (fun r s₃=>wpAny (model prog w) A (letTemporaryGo value o r >>= fun _=>pure r) Q E s₃) E s₂:=by
  rw [hs o i]
  exact wpAny_operating (wpAny_mono h₂ (fun r s₃ h₃=>wpAny_bind (wpAny_letTemporaryGo (wpAny_pure h₃))) fun _ _ x=>x)
 first
  | exact wpAny_pure (wpAny_bind fin)
  | exact wpAny_bind (wpAny_pure (wpAny_bind fin))
  | exact wpAny_bind fin
theorem dict_typeIs {X:Cx} {pins:List (Addr × Obj)} {σ:St} {H:Hp} {s:Shared} {a:Addr} {y:V} {o:Option V} (I:Inv X pins σ H s) (g:DGet H a y o):s.TypeIs (.ref a) "dict" := by
 rcases g with ⟨kvs,k,e,_,_⟩ | ⟨kvs,k,b,e,_,_,_⟩
 ·obtain ⟨_,_,vs,_,dd⟩:=dk_rd I.hok e
  exact dd.typeIs
 ·obtain ⟨_,_,xs,_,dd⟩:=dt_rd I.hok e
  exact dd.typeIs
noncomputable def tDGet (td ty:TE):TE:=fun σ H Q=>td σ H fun x H1=>ty σ H1 fun y H2=>∃ a v,x = .ref a /\ DGet H2 a y (some v) /\ Q v H2
section
variable {X:Cx} {o i e value:Expr} {pos pos' tpos:Pos} {td ty tv:TE}
theorem pe_dget (hu:X.A.units + 1 < cLine) (ho:PE X o td) (hi:PE X i ty) (hs:NoSl i):PE X (.Subscript o i pos) (tDGet td ty):=by
 intro pins s σ H Q I h
 refine subD_of PySem.F.slot_dict_getitem.lookup hs (thn (ho pins s σ H _ I h) fun u s1 ⟨x,H1,I1,rx,q1⟩=>thn (hi pins s1 σ H1 _ I1 q1) fun iv s2 ⟨y,H2,I2,ry,a,v,ex,g,q2⟩=>?_)
 subst ex
 obtain rfl:u = Value.ref a:=rx
 exact ⟨dict_typeIs I2 g,d_getItem hu I2 g ry fun w' s3 I3 rw'=>⟨v,H2,I3,rw',q2⟩⟩
end
theorem dk_empty {P:Program} {w:World} {H:Hp} (h:Heap) (hb:sysModules < h.objs.size):ObjOk P w H (h.push { cls:=.type "dict",data:=.dict #[] }) h.objs.size (.dK []):=
 ⟨Nat.zero_le _,beq_eq_false_iff_ne.mpr (Ne.symm (Nat.ne_of_lt hb)),[],.nil,Heap.DictOf.new h⟩
noncomputable def tDNewK:TE:=fun _ H Q=>∀ p,H p = none -> Q (.ref p) (upd H p (.dK []))
section
variable {X:Cx} {pos:Pos}
theorem pe_dnewK:PE X (.Dict [] [] pos) tDNewK:=fun pins s σ H Q I h=>
 wpAny_Dict_empty ⟨.ref s.heap.objs.size,_,I.laid (a:=s.heap.objs.size) (o:=.dK []) (t':=s.toks) (fun _ _ q=>Heap.get?_push_of_some _ q) (Nat.le_refl _) (dk_empty s.heap I.big),rfl,h _ (I.hok.fresh (Nat.le_refl _))⟩
end
structure M1 (X:Cx) (o:Expr) (m:Str) (apos:Pos) (e:Expr) (cpos:Pos):Prop where
 base:attributeBase o m X.env (eval o X.env) = eval o X.env
 few:((backTo cpos (starEach [e] X.env)).all (fun x=>!x.1) && (backToKw cpos (keywordEach [] X.env)).all (fun x=>x.1.isSome)
  && decide (([e]:List Expr).length + ([]:List Keyword).length + (if ([]:List Keyword).isEmpty then 0 else 1) < 30)) = true
 line:(apos.endLine == cpos.line) = true
 trees:backTo cpos (starEach [e] X.env) = [(false,eval e X.env)]
structure M2 (X:Cx) (o:Expr) (m:Str) (apos:Pos) (e f:Expr) (cpos:Pos):Prop where
 base:attributeBase o m X.env (eval o X.env) = eval o X.env
 few:((backTo cpos (starEach [e,f] X.env)).all (fun x=>!x.1) && (backToKw cpos (keywordEach [] X.env)).all (fun x=>x.1.isSome)
  && decide (([e,f]:List Expr).length + ([]:List Keyword).length + (if ([]:List Keyword).isEmpty then 0 else 1) < 30)) = true
 line:(apos.endLine == cpos.line) = true
 trees:backTo cpos (starEach [e,f] X.env) = [(false,eval e X.env),(false,eval f X.env)]
def IsD (H:Hp) (a:Addr):Prop:=(∃ kvs,Rd H a (.dK kvs)) \/ ∃ kvs,Rd H a (.dT kvs)
theorem isD_at {X:Cx} {pins:List (Addr × Obj)} {σ:St} {H:Hp} {s:Shared} {a:Addr} (I:Inv X pins σ H s) (d:IsD H a):
  s.TypeIs (.ref a) "dict" /\ (∀ b,Value.ref a = .ref b -> ∃ ob,s.heap.get? b = some ob /\ ob.dict = none) /\ (a == sysModules) = false:=by
 rcases d with ⟨kvs,e⟩ | ⟨kvs,e⟩
 ·obtain ⟨_,hd,vs,_,dd⟩:=dk_rd I.hok e
  refine ⟨dd.typeIs,fun b q=>?_,hd⟩
  cases q
  obtain ⟨ob,_,_,h1,h2,_⟩:=dd
  exact ⟨ob,h1,h2.2.1⟩
 ·obtain ⟨_,hd,xs,_,dd⟩:=dt_rd I.hok e
  refine ⟨dd.typeIs,fun b q=>?_,hd⟩
  cases q
  obtain ⟨ob,_,_,h1,h2,_⟩:=dd
  exact ⟨ob,h1,h2.2.1⟩
section
variable {X:Cx} {pins:List (Addr × Obj)} {σ:St} {H:Hp} {s:Shared} {a:Addr} {y d:V} {u r:Value} {o:Option V} {A:Around} {E:Value -> Shared -> Prop}
end
section
variable {X:Cx} {o e f:Expr} {apos cpos:Pos} {td ty tx:TE}
end
section
variable {X:Cx} {pins:List (Addr × Obj)} {σ:St} {H:Hp} {s:Shared} {a:Addr} {kvs:List (Key × V)} {A:Around} {E:Value -> Shared -> Prop}
end
section
variable {X:Cx} {pins:List (Addr × Obj)} {σ:St} {H:Hp} {s:Shared} {a:Addr} {y:V} {u:Value} {A:Around} {E:Value -> Shared -> Prop}
end
section
variable {X:Cx}
end
section
variable {κ:Type} [DecidableEq κ]
end
section
variable {X:Cx} {o i e value:Expr} {pos pos' apos cpos:Pos} {td ty tv ta:TE}
noncomputable def cDGet (td ty:TE):TE:=fun σ H Q=>td σ H fun x H1=>ty σ H1 fun y H2=>match x with
 | .ref a=>∃ v,DGet H2 a y (some v) /\ Q v H2
 | _=>False
theorem qe_dget (hu:X.A.units + 1 < cLine) (ho:PE X o td) (hi:PE X i ty) (hs:NoSl i):PE X (.Subscript o i pos) (cDGet td ty):=
 (pe_dget hu ho.mono hi.mono hs).imp fun σ H Q q=>⟨_,q,fun x H1 z=>⟨_,z,fun y H2 z=>by
  split at z
  ·obtain ⟨v,g,q⟩:=z
   exact ⟨_,v,rfl,g,q⟩
  ·exact z.elim⟩⟩
theorem a_cDGet {σ:St} {H:Hp} {Q:VK}:cDGet td ty σ H Q = td σ H fun x H1=>ty σ H1 fun y H2=>match x with
 | .ref a=>∃ v,DGet H2 a y (some v) /\ Q v H2
 | _=>False:=rfl
theorem a_dNewK {σ:St} {H:Hp} {Q:VK}:tDNewK σ H Q = ∀ p,H p = none -> Q (.ref p) (upd H p (.dK [])):=rfl
end
section
variable {X:Cx} {e:Expr} {te:TE} {pos:Pos}
end
section
variable {X:Cx}
variable {o e f:Expr} {to te tf:TE} {apos cpos:Pos}
end
section
variable {X:Cx} {e:Expr} {te:TE} {apos cpos:Pos}
theorem join_few (ls:List (List Nat)) (h:ls.length <= 1):Txt.join ⟨#[]⟩ (ls.map st) = st ls.flatten:=by
 match ls,h with
 | [],_=>rfl
 | [x],_=>
  simp [Txt.join,Builtin.Str.glued,Str.join]
noncomputable def cJoinW (K:Frag) (te:TE):TE:=fun σ H Q=>te σ H fun x H1=>match x with
 | .ref l=>∃ ls:List (List Nat),SqL K H1 l (ls.map fun l=>V.str (st l)) /\ ls.length <= 1 /\ (∀ x ∈ ls,x.length <= 10000) /\ Q (.str (st ls.flatten)) H1
 | _=>False
theorem qe_joinW {j:Nat} {p1:Pos} (K:Frag) (hK:X.K = K) (he:PE X e te) (hfew:((backTo cpos (starEach [e] X.env)).all (fun x=>!x.1) && (backToKw cpos (keywordEach [] X.env)).all (fun x=>x.1.isSome) && decide ([e].length + ([]:List Keyword).length + (if ([]:List Keyword).isEmpty then 0 else 1) < 30)) = true:=by rfl)
  (hline:(apos.endLine == cpos.line) = true:=by rfl) (hs:starEach [e] X.env = (false,eval e X.env) :: starEach [] X.env:=by rfl) (hplain:(backTo cpos (starEach [] X.env)).any (·.1) = false:=by rfl)
  (hbase:attributeBase (.Constant (.str (Str.ofString "")) j p1) "join" X.env (eval (.Constant (.str (Str.ofString "")) j p1) X.env) = eval (.Constant (.str (Str.ofString "")) j p1) X.env:=by rfl):
  PE X (.Call (.Attribute (.Constant (.str (Str.ofString "")) j p1) "join" apos) [e] [] cpos) (cJoinW K te):=by
 subst hK
 refine (pe_bm PySem.F.plainAttrs_str PySem.F.slot_str_join PySem.F.type_str_join mt_join pe_str (pa_cons he.mono pa_nil hs) hbase hfew hline hs hplain).imp fun σ H Q q=>⟨rfl,_,q,fun x H1 z=>?_⟩
 split at z
 ·rename_i l
  obtain ⟨ls,h,h1,h2,z⟩:=z
  refine ⟨_,l,ls.map st,rfl,rfl,by rw [List.map_map]; exact h,?_,?_⟩
  ·have hz:(Str.ofString "").length = 0:=by rw [ofString_nil]; rfl
   rw [hz,Nat.mul_zero,Nat.add_zero]
   rcases ls with _ | ⟨x,_ | ⟨y,r⟩⟩
   ·exact Nat.zero_le _
   ·have h3:=h2 x List.mem_cons_self
    have e:(st x).length = x.length:=st_len x
    rw [List.map_cons,List.map_nil,List.map_cons,List.map_nil,List.sum_cons,List.sum_nil,e]
    omega
   ·simp at h1
  ·rw [ofString_nil,join_few ls h1]
   exact z
 ·exact z.elim
theorem a_cJoinW {K:Frag} {σ:St} {H:Hp} {Q:VK}:cJoinW K te σ H Q = te σ H fun x H1=>match x with
 | .ref l=>∃ ls:List (List Nat),SqL K H1 l (ls.map fun l=>V.str (st l)) /\ ls.length <= 1 /\ (∀ x ∈ ls,x.length <= 10000) /\ Q (.str (st ls.flatten)) H1
 | _=>False:=rfl
end
section
variable {X:Cx}
end
section
variable {X:Cx} {pins:List (Addr × Obj)} {σ:St} {H:Hp} {s:Shared} {a:Addr} {y v:V} {u r:Value} {A:Around} {E:Value -> Shared -> Prop}
theorem d_setdef {Q:Value -> Shared -> Prop} {kvs:List (Key × V)} {k:Key} (I:Inv X pins σ H s) (e:H a = some (.dK kvs)) (ry:RelV (kV k) u) (rv:RelV v r) (hl:kvs.length < sizeLine)
  (h1:∀ v' w' s',valV kvs k = some v' -> Inv X pins σ H s' -> RelV v' w' -> Q w' s') (h2:∀ s',valV kvs k = none -> Inv X pins σ (upd H a (.dK (putK kvs k v))) s' -> Q r s'):
  wpAny (model X.prog X.w) A (call (.builtin "dict.setdefault") [.ref a,u,r]) Q E s:=by
 obtain ⟨z,hd,vs,rel,dd⟩:=dk_of I.hok e
 have rv2:=rel.val k
 refine call_meetsIn PySem.F.slot_dict_setdefault dd.typeIs PySem.F.entry_dict_setdefault (PySem.F.args_dict_setdefault_3 _ _ _) (kt_meets_setdefault (mixKind X.prog X.w) a (kV_is ry) hd r) ⟨vs,dd,by rw [<- rel.length]; exact z,fun w' hw=>?_,fun hn h' dd' hs=>?_⟩
 ·rw [hw] at rv2
  cases q:valV kvs k with
  | none=>rw [q] at rv2; exact (show False from rv2).elim
  | some v'=>rw [q] at rv2; exact h1 v' w' _ q (I.tok _) rv2
 ·have q:valV kvs k = none:=by
   cases q:valV kvs k with
   | none=>rfl
   | some v'=>rw [hn,q] at rv2; exact (show False from rv2).elim
  have he:∃ q,h'.get? a = some q:=let ⟨q,_,_,hq,_⟩:=dd'; ⟨q,hq⟩
  have hl2:(putK kvs k v).length <= sizeLine:=by have:=length_putK kvs k v; omega
  exact h2 _ q (d_write I (by rw [e]; exact True.intro) hs he (dk_new hl2 hd (rel.put k rv) dd'))
end
noncomputable def cSetDef (td ty tx:TE):TE:=fun σ H Q=>td σ H fun x H1=>match x with
 | .ref a=>IsD H1 a /\ ty σ H1 fun y H2=>tx σ H2 fun z H3=>∃ kvs k,H3 a = some (.dK kvs) /\ y = kV k /\ kvs.length < sizeLine /\ (∀ v,valV kvs k = some v -> Q v H3) /\ (valV kvs k = none -> Q z (upd H3 a (.dK (putK kvs k z))))
 | _=>False
section
variable {X:Cx} {o e f:Expr} {apos cpos:Pos} {td ty tx:TE}
theorem qe_setdef (ho:PE X o td) (he:PE X e ty) (hf:PE X f tx) (m:M2 X o "setdefault" apos e f cpos):PE X (.Call (.Attribute o "setdefault" apos) [e,f] [] cpos) (cSetDef td ty tx):=by
 intro pins s σ H Q I h
 refine wpAny_Call_method m.base m.few m.line PySem.F.plainAttrs_dict PySem.F.slot_dict_setdefault PySem.F.type_dict_setdefault (thn (ho pins s σ H _ I h) fun u s1 ⟨x,H1,I1,rx,q1⟩=>?_)
 dsimp only at q1
 split at q1
 ·rename_i a
  obtain ⟨d,q1⟩:=q1
  obtain rfl:u = Value.ref a:=rx
  obtain ⟨t1,t2,_⟩:=isD_at I1 d
  refine ⟨t1,t2,?_⟩
  rw [m.trees]
  refine Calls.callWith_builtin rfl (Calls.evalArgs_plain (Calls.spliced_cons (thn (he pins s1 σ H1 _ I1 q1) fun iv s2 ⟨y,H2,I2,ry,q2⟩=>
   Calls.spliced_cons (thn (hf pins s2 σ H2 _ I2 q2) fun fv s3 ⟨z,H3,I3,rz,kvs,k,e3,ey,hl,q3,q4⟩=>Calls.spliced_nil ?_))))
  subst ey
  exact d_setdef I3 e3 ry rz hl (fun v' w' s4 hv I4 r4=>⟨v',H3,I4,r4,q3 v' hv⟩) fun s4 hn I4=>⟨z,_,I4,rz,q4 hn⟩
 ·exact q1.elim
theorem a_cSetDef {σ:St} {H:Hp} {Q:VK}:cSetDef td ty tx σ H Q = td σ H fun x H1=>match x with
 | .ref a=>IsD H1 a /\ ty σ H1 fun y H2=>tx σ H2 fun z H3=>∃ kvs k,H3 a = some (.dK kvs) /\ y = kV k /\ kvs.length < sizeLine /\ (∀ v,valV kvs k = some v -> Q v H3) /\ (valV kvs k = none -> Q z (upd H3 a (.dK (putK kvs k z))))
 | _=>False:=rfl
noncomputable def tRetD (te:TE):TS:=fun D σ H=>te σ H fun x H1=>match x with
 | .ref a=>∃ kvs,H1 a = some (.dK kvs) /\ ∀ ob,D.rt (.ref a) (upd H1 a (.frz ob (.dK kvs)))
 | _=>False
theorem Inv.frozen {pins:List (Addr × Obj)} {σ:St} {H:Hp} {s:Shared} {a:Addr} {kvs:List (Key × V)} (I:Inv X pins σ H s) (e:H a = some (.dK kvs)):∃ ob,Inv X pins σ (upd H a (.frz ob (.dK kvs))) s:=by
 obtain ⟨z,hd,vs,rel,dd⟩:=dk_of I.hok e
 obtain ⟨ob,es,ep,hq,r⟩:=id dd
 refine ⟨ob,?_⟩
 exact d_write (h':=s.heap) (t':=s.toks) I (by rw [e]; exact True.intro) ⟨rfl,fun _ _=>rfl⟩ ⟨ob,hq⟩ ⟨hq,dk_new z hd rel dd⟩
theorem ps_retD {pos:Pos} (he:PE X e ty):PS X (.Return (some e) pos) (tRetD ty):=by
 intro pins s σ H D I h
 refine wpAny_Return_some (thn (he pins s σ H _ I h) fun v s1 ⟨x,H1,I1,r1,q1⟩=>?_)
 dsimp only at q1
 split at q1
 ·rename_i a
  obtain ⟨kvs,e1,q1⟩:=q1
  obtain ⟨ob,I2⟩:=I1.frozen e1
  exact ⟨.ref a,σ,_,I2,r1,q1 ob⟩
 ·exact q1.elim
theorem a_tRetD {D:Ends} {σ:St} {H:Hp}:tRetD ty D σ H = ty σ H fun x H1=>match x with
 | .ref a=>∃ kvs,H1 a = some (.dK kvs) /\ ∀ ob,D.rt (.ref a) (upd H1 a (.frz ob (.dK kvs)))
 | _=>False:=rfl
end
noncomputable def epOf (o:Obj):Nat:=match o.data with | .dict _ ep=>ep | _=>0
noncomputable def Itm (a:Addr) (o:Obj) (kvs:List (Key × V)):It:=⟨fun i H=>H a = some (.frz o (.dK kvs)) /\ i < kvs.length,fun i H v H'=>∃ T k x,v = .ref T /\ H T = none /\ kvs[i]? = some (k,x) /\ H' = upd H T (.tup [kV k,x]),fun i H=>H a = some (.frz o (.dK kvs)) /\ i = kvs.length⟩
theorem key_rel {P:Program} {w:World} {k:Key} {v:Value} (h:(mixKind P w).is k v = true):RelV (kV k) v:=by
 rcases keyIs_shape h with ⟨i,t,rfl,rfl⟩ | ⟨x,t,rfl,rfl⟩
 ·exact ⟨t,rfl⟩
 ·exact ⟨t,rfl⟩
theorem dict_at {X:Cx} {pins:List (Addr × Obj)} {σ:St} {H:Hp} {s:Shared} {a:Addr} {o:Obj} {kvs:List (Key × V)} (I:Inv X pins σ H s) (e:H a = some (.frz o (.dK kvs))):
  ∃ vs,KV kvs vs /\ s.heap.DictAt (mixKind X.prog X.w) a vs (epOf o) /\ (a == sysModules) = false:=by
 obtain ⟨h1,_,hd,vs,rel,ob,es,ep,hq,he,hdt,r⟩:=(show ObjOk X.prog X.w H s.heap a (.frz o (.dK kvs)) from I.hok a _ e)
 rw [h1] at hq
 cases hq
 refine ⟨vs,rel,⟨o,es,h1,he,?_,r⟩,hd⟩
 unfold epOf
 rw [hdt]
theorem turn_items {P:Program} {w:World} {K:Frag} {elts:List Expr} {kk:Nat} {pos:Pos} (a it:Addr) (hne:a ≠ it) (o:Obj) (kvs:List (Key × V)):
  Turn P w K (.Tuple elts kk pos) (Itm a o kvs) [it] it (fun i h=>∃ ok ov,IsItemIter h it a i kvs.length (epOf o) ok ov) where
 mem:=by simp
 obj:=fun i h st b hb=>by
  obtain ⟨ok,ov,he⟩:=st
  have e:b = it:=by simpa using hb
  subst e
  exact ⟨_,he,fun v z=>by
   have z':Data.fields _ = Data.cell v:=z
   cases z'⟩
 keep:=fun i h h' st k=>by
  obtain ⟨ok,ov,he⟩:=st
  exact ⟨ok,ov,k it (by simp) _ he⟩
 item:=by
  intro X hP hw hK hc i pins s σ H E I hf st hg
  subst hP hw hK
  obtain ⟨ok,ov,he⟩:=st
  obtain ⟨hq,hi⟩:=hg
  obtain ⟨vs,rel,hm,hd⟩:=dict_at I hq
  have hl:=rel.length
  obtain ⟨⟨k,x⟩,hx⟩:∃ p,kvs[i]? = some p:=⟨kvs[i],by simp [hi]⟩
  obtain ⟨⟨k',u⟩,hu,hkk,ru⟩:=paired_at rel hx
  obtain rfl:k = k':=hkk
  rw [hl] at he
  refine wpAny_pyNext_items_item he hm hu fun key h' hkey ho hT hsz hk=>⟨_,rfl,?_⟩
  refine wpAny_letOwnedTupleGo_items ho fun h'' he'' hs=>?_
  have ti:s.heap.objs.size ≠ it:=Nat.ne_of_gt (Heap.lt_size he)
  have hT2:h''.IsTuple s.heap.objs.size #[key,u]:=⟨_,hs.extBut _ _ ti hT,rfl,_,rfl⟩
  have I1:Inv X pins σ (upd H s.heap.objs.size (.tup [kV k,x])) { s with heap:=h'',toks:=s.toks }:=by
   refine I.turnedLaid (its:=[it]) (fun b ob hb q=>hs.extBut b ob (by simpa using hb) (hk b ob (by simpa using hb) q)) hf (Nat.le_refl _) ?_ I.tk
   exact ⟨by show 2 <= sizeLine; decide,[key,u],.cons (key_rel hkey) (.cons ru .nil),hT2⟩
  refine ⟨.ref s.heap.objs.size,_,I1,rfl,⟨_,k,x,rfl,I.hok.fresh (Nat.le_refl _),hx,rfl⟩,⟨key,u,by rw [hl]; exact he''⟩,fun b hb=>?_⟩
  have e:b = it:=by simpa using hb
  subst e
  rw [upd_ne (Ne.symm ti)]
  exact (hf b hb).1
 done:=by
  intro X hP hw hK hc i pins s σ H E I hf st hg
  subst hP hw hK
  obtain ⟨ok,ov,he⟩:=st
  obtain ⟨hq,rfl⟩:=hg
  obtain ⟨vs,rel,hm,hd⟩:=dict_at I hq
  have hl:=rel.length
  rw [hl] at he
  refine wpAny_pyNext_items_end (I.ok.hd hc) he hm (by simp) fun h' hx=>⟨rfl,I.turnedL (its:=[it]) (fun b o hb q=>hx b o (by simpa using hb) q) hf I.tk⟩
 self:=fun A i s Q E st h=>by
  obtain ⟨ok,ov,he⟩:=st
  exact PySem.W.kcp_self he h
section
variable {X:Cx} {o:Expr} {to:TE} {apos cpos:Pos}
noncomputable def cItems (to:TE):TI:=fun σ H R=>to σ H fun x H1=>match x with
 | .ref a=>∃ ob kvs,H1 a = some (.frz ob (.dK kvs)) /\ R (Itm a ob kvs) H1
 | _=>False
theorem qi_items {elts:List Expr} {kk:Nat} {tpos:Pos} (ho:PE X o to) (hbase:attributeBase o "items" X.env (eval o X.env) = eval o X.env:=by rfl) (hline:(apos.endLine == cpos.line) = true:=by rfl):
  PI X (.Tuple elts kk tpos) (.Call (.Attribute o "items" apos) [] [] cpos) (cItems to):=by
 intro pins s σ H R I h
 refine wpAny_Call_method hbase rfl hline PySem.F.plainAttrs_dict PySem.F.slot_dict_items PySem.F.type_dict_items (thn (ho pins s σ H _ I h) fun u s1 ⟨x,H1,I1,rx,q1⟩=>?_)
 dsimp only at q1
 split at q1
 ·rename_i a
  obtain ⟨ob,kvs,e1,q1⟩:=q1
  obtain rfl:u = Value.ref a:=rx
  obtain ⟨t1,t2,hd⟩:=isD_at I1 (.inl ⟨kvs,.inr ⟨ob,e1⟩⟩)
  refine ⟨t1,t2,callWith_method0 ?_⟩
  obtain ⟨vs,rel,hm,_⟩:=dict_at I1 e1
  refine call_meetsIn PySem.F.slot_dict_items t1 PySem.F.entry_dict_items (PySem.F.args_dict_items_1 _) (meets_dict_items (mixKind X.prog X.w) a hd) ⟨⟨vs,hm.dictOf⟩,?_⟩
  have I2:Inv X pins σ H1 { s1 with heap:=s1.heap.push { cls:=.type "dict_items",data:=.fields #[.ref a] },toks:=s1.toks }:=I1.kept fun b o e=>Heap.get?_push_of_some _ e
  have hm2:(s1.heap.push { cls:=.type "dict_items",data:=.fields #[.ref a] }).DictAt (mixKind X.prog X.w) a vs (epOf ob):=hm.push _
  refine wpAny_pyIter_items (d:=a) (kvs:=vs) (ep:=epOf ob) ⟨_,Heap.get?_push_size _ rfl,rfl,rfl⟩ hm2 ?_
  have hlt:a < (s1.heap.push { cls:=.type "dict_items",data:=.fields #[.ref a] }).objs.size:=hm2.lt_size
  refine ⟨_,[_],_,Itm a ob kvs,H1,rfl,I2.kept (t':=s1.toks) fun b o e=>Heap.get?_push_of_some _ e,turn_items a _ (Nat.ne_of_lt hlt) ob kvs,⟨.none,.none,?_⟩,fun b hb=>?_,q1⟩
  ·rw [rel.length]
   exact Heap.get?_push_size _ rfl
  ·have e:=List.mem_singleton.mp hb
   subst e
   exact I2.fpOk (Nat.le_refl _) (I2.hok.fresh (Nat.le_refl _))
 ·exact q1.elim
theorem a_cItems {σ:St} {H:Hp} {R:It -> Hp -> Prop}:cItems to σ H R = to σ H fun x H1=>match x with
 | .ref a=>∃ ob kvs,H1 a = some (.frz ob (.dK kvs)) /\ R (Itm a ob kvs) H1
 | _=>False:=rfl
end
def KVal (p:Key × V):Prop:=∃ i,p.2 = V.int i
noncomputable def dEq (ka kb:List (Key × V)):Bool:=ka.length == kb.length && ka.all fun p=>match p.2,valV kb p.1 with | .int i,some (.int j)=>i == j | _,_=>false
section
variable {X:Cx}
theorem hits_of {A:Around} {s:Shared} {kb:List (Key × V)} {vb:List (Key × Value)} (rb:KV kb vb) (hb:∀ p ∈ kb,KVal p):∀ {ka:List (Key × V)} {va:List (Key × Value)},KV ka va -> (∀ p ∈ ka,KVal p) ->
  ∃ r,r = (ka.all fun p=>match p.2,valV kb p.1 with | .int i,some (.int j)=>i == j | _,_=>false) /\ PySem.W.KeqHits A s vb va r:=by
 intro ka va r
 unfold KV at r
 induction r with
 | nil=>intro _; exact ⟨true,rfl,.nil⟩
 | @cons p q ps qs h t ih=>
  intro ha
  obtain ⟨r,hr,hh⟩:=ih fun p hp=>ha p (List.mem_cons_of_mem _ hp)
  obtain ⟨i,hi⟩:=ha p List.mem_cons_self
  obtain ⟨h1,h2⟩:=h
  rw [hi] at h2
  obtain ⟨t1,ht1⟩:=(show ∃ t,q.2 = Value.int i t from h2)
  have rv:=rb.val p.1
  obtain ⟨q1,q2⟩:=q
  obtain rfl:p.1 = q1:=h1
  obtain rfl:q2 = Value.int i t1:=ht1
  rw [List.all_cons,hi]
  cases e:valV kb p.1 with
  | none=>
   rw [e] at rv
   have hn:valueAt vb p.1 = none:=RelO.none_of rv
   exact ⟨_,rfl,by dsimp only; rw [Bool.false_and]; exact .miss hn⟩
  | some v=>
   rw [e] at rv
   obtain ⟨m,hm,em⟩:∃ m ∈ kb,m.2 = v:=by
    unfold valV at e
    obtain ⟨m,hm,em⟩:=Option.map_eq_some_iff.mp e
    exact ⟨m,List.mem_of_find?_eq_some hm,em⟩
   obtain ⟨j,hj⟩:=hb m hm
   rw [em] at hj
   subst hj
   cases ev:valueAt vb p.1 with
   | none=>rw [ev] at rv; exact (show False from rv).elim
   | some y=>
    rw [ev] at rv
    obtain ⟨t2,rfl⟩:=(show ∃ t,y = Value.int j t from rv)
    refine ⟨_,rfl,?_⟩
    dsimp only
    rw [<- hr]
    exact .hit ev (SeqAt.EqAt.int_int i t1 j t2) hh
noncomputable def kEqDict:R2:=fun x y H Q=>match x,y with
 | .ref a,.ref b=>∃ ka kb,Rd H a (.dK ka) /\ Rd H b (.dK kb) /\ (∀ p ∈ ka,KVal p) /\ (∀ p ∈ kb,KVal p) /\ Q (.bl (dEq ka kb)) H
 | _,_=>False
theorem eqDictE {k:Nat} (hr:Room k X.A):OpR X (compareOp .Eq) kEqDict:=by
 intro pins s σ H x y v u Q I rx ry h
 unfold kEqDict at h
 split at h
 ·rename_i a b
  obtain ⟨ka,kb,ea,eb,ha,hb,q⟩:=h
  cases rx
  cases ry
  obtain ⟨_,da,va,ra,oa⟩:=dk_rd I.hok ea
  obtain ⟨_,db,vb,rb,ob⟩:=dk_rd I.hok eb
  obtain ⟨r,er,hh⟩:=hits_of (A:=X.A.in1) (s:=s) rb hb ra ha
  have hu:=hr.un
  refine PySem.W.keq_eq da db oa ob (by omega) (fun _=>hh) ?_
  refine ⟨.bl _,H,I,rfl,?_⟩
  rw [<- ra.length,<- rb.length,er]
  exact q
 ·exact h.elim
noncomputable def kEqF (K:Frag):R2:=fun x y H Q=>match x,y with
 | .int i,.int j=>Q (.bl (decide (i = j))) H
 | .int _,.ref b=>(∃ ys,SqT K H b ys) /\ Q (.bl false) H
 | .ref a,.int _=>(∃ xs,SqT K H a xs) /\ Q (.bl false) H
 | .ref a,.ref b=>kEqD K false (.ref a) (.ref b) H Q
 | _,_=>False
theorem eqFE (K:Frag) (hK:X.K = K) {k:Nat} (hr:Room k X.A):OpR X (compareOp .Eq) (kEqF K):=by
 subst hK
 intro pins s σ H x y v u Q I rx ry h
 have hu:=hr.un
 unfold kEqF at h
 split at h
 ·exact op_eqK pins s σ H _ _ v u Q I rx ry (by rw [a_kEqI]; simpa using h)
 ·obtain ⟨⟨ys,hy⟩,q⟩:=h
  obtain ⟨t,rfl⟩:=rx
  cases ry
  obtain ⟨us,r1,pl,_⟩:=I.tuple hy
  exact SeqAt.RcAt.int_tuple _ _ pl (by omega) _ _ _ _ ⟨.bl _,H,I,rfl,q⟩
 ·obtain ⟨⟨ys,hy⟩,q⟩:=h
  obtain ⟨t,rfl⟩:=ry
  cases rx
  obtain ⟨us,r1,pl,_⟩:=I.tuple hy
  exact SeqAt.RcAt.tuple_int _ _ pl (by omega) _ _ _ _ ⟨.bl _,H,I,rfl,q⟩
 ·exact eqDE X.K rfl hr pins s σ H _ _ v u Q I rx ry h
 ·exact h.elim
theorem call_lenDR:CallR X (.builtin "len") (fun xs H Q=>∃ a kvs,xs = [V.ref a] /\ Rd H a (.dK kvs) /\ Q (.int kvs.length) H):=by
 intro pins s σ H xs us Q I r h
 obtain ⟨a,kvs,rfl,ha,q⟩:=h
 obtain ⟨u,rfl,ru⟩:=vals1 r
 cases ru
 exact d_len I ha fun t s' I'=>⟨.int kvs.length,H,I',⟨t,rfl⟩,q⟩
end
section
variable {K:Frag} {g:TG} {tc:TT} {te:TE} {σc:St} {D:Addr} {Q:VK} {H:Hp} {td ty:TE}
theorem a_tBreak {Dn:Ends} {σ:St}:tBreak Dn σ H = Dn.bk σ H:=rfl
theorem a_kEqDict {a b:Addr}:kEqDict (.ref a) (.ref b) H Q = ∃ ka kb,Rd H a (.dK ka) /\ Rd H b (.dK kb) /\ (∀ p ∈ ka,KVal p) /\ (∀ p ∈ kb,KVal p) /\ Q (.bl (dEq ka kb)) H:=rfl
theorem comp_itemsR {α:Type} (f:α -> Key × V) (xs:List α) (keep:α -> Bool) (R:α -> V -> Hp -> Prop) {a:Addr} {ob:Obj} (hfree:H D = none) (hl:H a = some (.frz ob (.dK (xs.map f)))) (hn:xs.length <= 100000)
  (mono:∀ x v H1 H2 acc,H1 D = some (.lst acc) -> (∀ b o,b ≠ D -> H1 b = some o -> H2 b = some o) -> R x v H1 -> R x v H2)
  (hs:∀ x T H1 (out:VK) (non:Hp -> Prop),x ∈ xs -> Same H H1 -> H1 T = some (.tup [kV (f x).1,(f x).2]) -> (∀ v H6,keep x = true -> Same H1 H6 -> R x v H6 -> out v H6) -> (∀ H5,keep x = false -> Same H1 H5 -> non H5) ->
   g (.ref T) σc H1 fun σ4 H4=>tc σ4 H4 fun b H5=>if b = true then te σ4 H5 out else non H5)
  (hq:∀ H' vs,Same H H' -> H' D = some (.lst vs) -> Paired (fun x v=>R x v H') (xs.filter keep) vs -> Q (.ref D) H'):compW (Itm a ob (xs.map f)) g tc te σc D Q H:=by
 refine ⟨fun i m acc H2=>m = xs.length - i /\ i <= xs.length /\ Paired (fun x v=>R x v H2) ((xs.take i).filter keep) acc /\ Same H H2 /\ H2 D = some (.lst acc),⟨xs.length,by simp,Nat.zero_le _,.nil,same_new hfree _,upd_same⟩,?_⟩
 rintro i m acc H2 ⟨rfl,hi,pr,sm,hD⟩
 have len:acc.length <= i:=by
  have a:=pr.length
  have b:=List.length_filter_le keep (xs.take i)
  rw [List.length_take] at b
  omega
 by_cases hlt:i < xs.length
 ·refine .inr ⟨⟨sm _ _ hl,by simpa using hlt⟩,fun x H3 y=>?_⟩
  obtain ⟨T,k,u,rfl,hT,hk,rfl⟩:=y
  rw [List.getElem?_map,List.getElem?_eq_getElem hlt] at hk
  have e2:f xs[i] = (k,u):=Option.some.inj hk
  have ht:xs.take (i + 1) = xs.take i ++ [xs[i]]:=by rw [List.take_add_one,List.getElem?_eq_getElem hlt]; rfl
  have s3:=same_new hT (.tup [kV k,u])
  have hD3:=s3 _ _ hD
  refine hs xs[i] T _ _ _ (List.getElem_mem hlt) (sm.trans s3) (by rw [e2]; exact upd_same) (fun v H6 k s6 r=>?_) fun H5 k s5=>?_
  ·refine ⟨s6 _ _ hD3,Nat.lt_of_le_of_lt len (sizeBig (by omega)),xs.length - (i + 1),by omega,rfl,hlt,?_,?_,upd_same⟩
   ·have m1:∀ x v,R x v H6 -> R x v (upd H6 D (.lst (acc ++ [v]))):=fun x v r=>mono x v H6 _ acc (s6 _ _ hD3) (fun b o nb q=>by rw [upd_ne nb]; exact q) r
    rw [ht,List.filter_append]
    have f1:[xs[i]].filter keep = [xs[i]]:=by simp [k]
    rw [f1]
    have lift:∀ {l:List α} {vs:List V},Paired (fun x v=>R x v H2) l vs -> Paired (fun x v'=>R x v' (upd H6 D (.lst (acc ++ [v])))) l vs:=by
     intro l vs pp
     induction pp with
     | nil=>exact .nil
     | cons r _ ih=>exact .cons (mono _ _ H2 _ acc hD (fun b o nb q=>by rw [upd_ne nb]; exact s6 _ _ (s3 _ _ q)) r) ih
    have app:∀ {l:List α} {vs:List V} {x:α} {v':V} {F:α -> V -> Prop},Paired F l vs -> F x v' -> Paired F (l ++ [x]) (vs ++ [v']):=by
     intro l vs x v' F pp r
     induction pp with
     | nil=>exact .cons r .nil
     | cons r' _ ih=>exact .cons r' ih
    exact app (lift pr) (m1 _ _ r)
   ·exact same_upd (sm.trans (s3.trans s6)) hfree
  ·refine ⟨xs.length - (i + 1),by omega,rfl,hlt,?_,sm.trans (s3.trans s5),s5 _ _ hD3⟩
   rw [ht,List.filter_append]
   have f1:[xs[i]].filter keep = []:=by simp [k]
   rw [f1,List.append_nil]
   have lift:∀ {l:List α} {vs:List V},Paired (fun x v=>R x v H2) l vs -> Paired (fun x v'=>R x v' H5) l vs:=by
    intro l vs pp
    induction pp with
    | nil=>exact .nil
    | cons r _ ih=>exact .cons (mono _ _ H2 _ acc hD (fun b o _ q=>s5 _ _ (s3 _ _ q)) r) ih
   exact lift pr
 ·have e:i = xs.length:=by omega
  subst e
  rw [List.take_length] at pr
  exact .inl ⟨⟨sm _ _ hl,by simp⟩,hq H2 acc sm hD pr⟩
end
section
variable {K:Frag} {J:It} {g:TG} {tc:TT} {te:TE} {σc:St} {D:Addr} {Q:VK} {H:Hp}
theorem comp_gen {α:Type} (xs:List α) (keep:α -> Bool) (R:α -> V -> Hp -> Prop) (hfree:H D = none) (hn:xs.length <= 100000) (hgo:∀ i H1,i < xs.length -> Same H H1 -> J.go i H1) (hst:∀ H1,Same H H1 -> J.stop xs.length H1)
  (hy:∀ i H1 v H2,i < xs.length -> J.yld i H1 v H2 -> Same H1 H2)
  (mono:∀ x v H1 H2 acc,H1 D = some (.lst acc) -> (∀ b o,b ≠ D -> H1 b = some o -> H2 b = some o) -> R x v H1 -> R x v H2)
  (hs:∀ i x v H1 H2 (out:VK) (non:Hp -> Prop),xs[i]? = some x -> Same H H1 -> J.yld i H1 v H2 -> (∀ v H6,keep x = true -> Same H2 H6 -> R x v H6 -> out v H6) -> (∀ H5,keep x = false -> Same H2 H5 -> non H5) ->
   g v σc H2 fun σ4 H4=>tc σ4 H4 fun b H5=>if b = true then te σ4 H5 out else non H5)
  (hq:∀ H' vs,Same H H' -> H' D = some (.lst vs) -> Paired (fun x v=>R x v H') (xs.filter keep) vs -> Q (.ref D) H'):compW J g tc te σc D Q H:=by
 refine ⟨fun i m acc H2=>m = xs.length - i /\ i <= xs.length /\ Paired (fun x v=>R x v H2) ((xs.take i).filter keep) acc /\ Same H H2 /\ H2 D = some (.lst acc),⟨xs.length,by simp,Nat.zero_le _,.nil,same_new hfree _,upd_same⟩,?_⟩
 rintro i m acc H2 ⟨rfl,hi,pr,sm,hD⟩
 have len:acc.length <= i:=by
  have a:=pr.length
  have b:=List.length_filter_le keep (xs.take i)
  rw [List.length_take] at b
  omega
 by_cases hlt:i < xs.length
 ·refine .inr ⟨hgo i H2 hlt sm,fun x H3 y=>?_⟩
  have s3:=hy i H2 x H3 hlt y
  have ht:xs.take (i + 1) = xs.take i ++ [xs[i]]:=by rw [List.take_add_one,List.getElem?_eq_getElem hlt]; rfl
  have hD3:=s3 _ _ hD
  refine hs i xs[i] x _ _ _ _ (List.getElem?_eq_getElem hlt) sm y (fun v H6 k s6 r=>?_) fun H5 k s5=>?_
  ·refine ⟨s6 _ _ hD3,Nat.lt_of_le_of_lt len (sizeBig (by omega)),xs.length - (i + 1),by omega,rfl,hlt,?_,?_,upd_same⟩
   ·have m1:∀ x v,R x v H6 -> R x v (upd H6 D (.lst (acc ++ [v]))):=fun x v r=>mono x v H6 _ acc (s6 _ _ hD3) (fun b o nb q=>by rw [upd_ne nb]; exact q) r
    rw [ht,List.filter_append]
    have f1:[xs[i]].filter keep = [xs[i]]:=by simp [k]
    rw [f1]
    have lift:∀ {l:List α} {vs:List V},Paired (fun x v=>R x v H2) l vs -> Paired (fun x v'=>R x v' (upd H6 D (.lst (acc ++ [v])))) l vs:=by
     intro l vs pp
     induction pp with
     | nil=>exact .nil
     | cons r _ ih=>exact .cons (mono _ _ H2 _ acc hD (fun b o nb q=>by rw [upd_ne nb]; exact s6 _ _ (s3 _ _ q)) r) ih
    have app:∀ {l:List α} {vs:List V} {x:α} {v':V} {F:α -> V -> Prop},Paired F l vs -> F x v' -> Paired F (l ++ [x]) (vs ++ [v']):=by
     intro l vs x v' F pp r
     induction pp with
     | nil=>exact .cons r .nil
     | cons r' _ ih=>exact .cons r' ih
    exact app (lift pr) (m1 _ _ r)
   ·exact same_upd (sm.trans (s3.trans s6)) hfree
  ·refine ⟨xs.length - (i + 1),by omega,rfl,hlt,?_,sm.trans (s3.trans s5),s5 _ _ hD3⟩
   rw [ht,List.filter_append]
   have f1:[xs[i]].filter keep = []:=by simp [k]
   rw [f1,List.append_nil]
   have lift:∀ {l:List α} {vs:List V},Paired (fun x v=>R x v H2) l vs -> Paired (fun x v'=>R x v' H5) l vs:=by
    intro l vs pp
    induction pp with
    | nil=>exact .nil
    | cons r _ ih=>exact .cons (mono _ _ H2 _ acc hD (fun b o _ q=>s5 _ _ (s3 _ _ q)) r) ih
   exact lift pr
 ·have e:i = xs.length:=by omega
  subst e
  rw [List.take_length] at pr
  exact .inl ⟨hst H2 sm,hq H2 acc sm hD pr⟩
end
section
variable {X:Cx} {e:Expr} {te:TE} {pos:Pos}
theorem small_text:∀ n:Fin 201,((toString ((n.val:Int) - 100):String):Str).length <= 100 /\ ((n.val:Int) - 100).natAbs.log2 < 1920:=by decide +kernel
noncomputable def cFmtI (tv:TE):TE:=fun σ H Q=>tv σ H fun x H1=>match x with
 | .int i=>-100 <= i /\ i <= 100 /\ ∀ z:Str,z.length <= 200000 -> Q (.str z) H1
 | _=>False
theorem pe_fmtI (hv:PE X e te):PE X (.FormattedValue e 114 none pos) (cFmtI te):=by
 intro pins s σ H Q I q
 refine wpAny_FormattedValue_repr (thn (hv pins s σ H _ I q) fun u s1 ⟨x,H1,I1,r,z⟩=>?_)
 dsimp only at z
 split at z
 ·rename_i i
  obtain ⟨t,rfl⟩:=r
  obtain ⟨h1,h2,z⟩:=z
  have hi:((toString i:String):Str).length <= 100 /\ i.natAbs.log2 < 1920:=by
   have:=small_text ⟨(i + 100).toNat,by omega⟩
   rw [show (((i + 100).toNat:Nat):Int) - 100 = i by omega] at this
   exact this
  have hs:((toString i:String):Str).length <= sizeLine:=Nat.le_trans hi.1 (by decide)
  refine pyReprObj_int hi.2 ?_
  exact tokQ (Nat.succ_pos _) (formatField_str (fun t' tk (htk:0 < tk)=>⟨.str _,H1,I1.tok _,⟨_,rfl⟩,z _ (Nat.le_trans hi.1 (by decide))⟩) hs)
 ·exact z.elim
theorem a_cFmtI {tv:TE} {σ:St} {H:Hp} {Q:VK}:cFmtI tv σ H Q = tv σ H fun x H1=>match x with
 | .int i=>-100 <= i /\ i <= 100 /\ ∀ z:Str,z.length <= 200000 -> Q (.str z) H1
 | _=>False:=rfl
theorem cut_to (xs:List V) (n:Nat) (h:n <= xs.length):cutV xs none (some (n:Int)) = xs.take n:=by
 unfold cutV
 have e1:HT.sIx xs.length 0 none = 0:=by simp [HT.sIx]
 have e2:HT.sIx xs.length xs.length (some (n:Int)) = n:=by
  simp only [HT.sIx]
  rw [if_neg (by omega)]
  omega
 rw [e1,e2]
 simp
theorem cut_from (xs:List V) (n:Nat) (h:n <= xs.length):cutV xs (some (n:Int)) none = xs.drop n:=by
 unfold cutV
 have e1:HT.sIx xs.length 0 (some (n:Int)) = n:=by
  simp only [HT.sIx]
  rw [if_neg (by omega)]
  omega
 have e2:HT.sIx xs.length xs.length none = xs.length:=by simp [HT.sIx]
 rw [e1,e2]
 rw [List.take_of_length_le (by rw [List.length_drop]; omega)]
end
section
variable {X:Cx} {o e:Expr} {to te:TE} {apos cpos:Pos}
end
end L2
namespace L2
open PySem PySem.Spec PyProof.Rows PySem.W
def Xt (K:Frag) (mg:Str -> Option Value) (x:Str):Prop:=mg x = some (.ref (xA K x)) /\ typeIn K (.ref (xA K x)) = some (.type "type") /\ mroIn K (xA K x) (.type "BaseException") = some true
theorem Xn.t {K:Frag} {mg:Str -> Option Value} {x:Str} (n:Xn K mg x):Xt K mg x:=⟨n.1,n.2.ty,n.2.mb⟩
theorem xt_mk {K:Frag} {h:Heap} {mg:Str -> Option Value} {x:Str} {C:Addr} (X:K.In h) (G:h.Ns mainGlobals mg) (n:nsIn K mainGlobals x = some (some (.ref C))) (ty:typeIn K (.ref C) = some (.type "type")) (mb:mroIn K C (.type "BaseException") = some true):Xt K mg x:=by
 unfold Xt
 rw [xA_eq n]
 exact ⟨mg_of X G n,ty,mb⟩
theorem Xt.kit {K:Frag} {mg:Str -> Option Value} {x y:Str} {b:Bool} (m:Xm K x y b) (n:Xt K mg y):kitOne K (.ref (xA K x)) (.ref (xA K y)) = some b:=by
 obtain ⟨_,ty,mb⟩:=n
 have known:(clsIn K (xA K y)).isSome = true:=by
  cases e:clsIn K (xA K y) with
  | some _=>rfl
  | none=>unfold mroIn at mb; rw [e] at mb; cases mb
 unfold kitOne
 split
 ·rename_i q
  cases b with
  | true=>rfl
  | false=>exact absurd (Value.ref.inj (eq_of_beq q)) (m.2 rfl)
 ·unfold kitCls
  dsimp only
  rw [if_pos (by rw [known,ty]; simp)]
  exact m.1
theorem qe_clsT {X:Cx} {K:Frag} {x:Str} {pos:Pos} (n:Xt K X.mg x) (hg:Gl X x) (hd:(x == ("__debug__" : Str)) = false:=by decide):PE X (.Name x pos) (tC (.ref (xA K x))):=pe_glob (v:=.ref (xA K x)) hg n.1 rfl hd
end L2
set_option maxHeartbeats 4000000
namespace L2
open PySem PySem.Spec PyProof.Rows
theorem lc {c:Scope} {x:Str} (h:Loc c x:=by first | exact Or.inl rfl | exact Or.inr rfl):Loc c x:=h
theorem Room.m {j k:Nat} {A:Around} (r:Room k A) (h:j <= k:=by first | decide | omega):Room j A:=r.mono h
end L2
namespace Law
open PySem L2 Mir
noncomputable def top (i:Nat):Stmt:=PySem.Challenge.pw_throng_k19_rule_needed.main.body.getD i (.Pass ⟨0,0,0,0⟩)
noncomputable abbrev s_row_meet:Stmt:=top 13
theorem sc_row_meet:FnScope ["one", "other", "signs", "mine", "its"] ["one", "other"] (defScope s_row_meet):=⟨rfl,rfl,rfl,by decide +kernel,rfl,by decide +kernel,by decide +kernel⟩
noncomputable abbrev s_row_least:Stmt:=top 14
theorem sc_row_least:FnScope ["row"] ["row"] (defScope s_row_least):=⟨rfl,rfl,rfl,by decide +kernel,rfl,by decide +kernel,by decide +kernel⟩
noncomputable abbrev s_row_edges:Stmt:=top 15
theorem sc_row_edges:FnScope ["row"] ["row"] (defScope s_row_edges):=⟨rfl,rfl,rfl,by decide +kernel,rfl,by decide +kernel,by decide +kernel⟩
noncomputable abbrev s_row_written:Stmt:=top 16
theorem sc_row_written:FnScope ["row", "over"] ["row", "over"] (defScope s_row_written):=⟨rfl,rfl,rfl,by decide +kernel,rfl,by decide +kernel,by decide +kernel⟩
noncomputable abbrev s_row_with:Stmt:=top 17
theorem sc_row_with:FnScope ["row", "place", "sign"] ["row", "place", "sign"] (defScope s_row_with):=⟨rfl,rfl,rfl,by decide +kernel,rfl,by decide +kernel,by decide +kernel⟩
noncomputable abbrev s_row_narrowed:Stmt:=top 18
theorem sc_row_narrowed:FnScope ["row", "places"] ["row", "places"] (defScope s_row_narrowed):=⟨rfl,rfl,rfl,by decide +kernel,rfl,by decide +kernel,by decide +kernel⟩
noncomputable abbrev s_heap_width:Stmt:=top 20
theorem sc_heap_width:FnScope ["heap"] ["heap"] (defScope s_heap_width):=⟨rfl,rfl,rfl,by decide +kernel,rfl,by decide +kernel,by decide +kernel⟩
noncomputable abbrev s_heap_places:Stmt:=top 21
theorem sc_heap_places:FnScope ["heap", "places", "place"] ["heap"] (defScope s_heap_places):=⟨rfl,rfl,rfl,by decide +kernel,rfl,by decide +kernel,by decide +kernel⟩
noncomputable abbrev s_fork_of:Stmt:=top 23
theorem sc_fork_of:FnScope ["heap", "row", "rows", "met", "places"] ["heap", "row"] (defScope s_fork_of):=⟨rfl,rfl,rfl,by decide +kernel,rfl,by decide +kernel,by decide +kernel⟩
noncomputable abbrev s_firsts_of:Stmt:=top 24
theorem sc_firsts_of:FnScope ["pairs", "width", "firsts", "signs", "number"] ["pairs", "width"] (defScope s_firsts_of):=⟨rfl,rfl,rfl,by decide +kernel,rfl,by decide +kernel,by decide +kernel⟩
noncomputable abbrev s_fork_below:Stmt:=top 25
theorem sc_fork_below:FnScope ["firsts", "places", "no_firsts", "yes_firsts", "no", "yes"] ["firsts", "places"] (defScope s_fork_below):=⟨rfl,rfl,rfl,by decide +kernel,rfl,by decide +kernel,by decide +kernel⟩
noncomputable abbrev s_firsts_side:Stmt:=top 26
theorem sc_firsts_side:FnScope ["firsts", "sign", "width"] ["firsts", "sign", "width"] (defScope s_firsts_side):=⟨rfl,rfl,rfl,by decide +kernel,rfl,by decide +kernel,by decide +kernel⟩
noncomputable abbrev s_fork_parts:Stmt:=top 27
theorem sc_fork_parts:FnScope ["fork", "row", "over", "place", "sign", "no_parts"] ["fork", "row", "over"] (defScope s_fork_parts):=⟨rfl,rfl,rfl,by decide +kernel,rfl,by decide +kernel,by decide +kernel⟩
noncomputable abbrev s_heap_shares:Stmt:=top 28
theorem sc_heap_shares:FnScope ["heap", "row"] ["heap", "row"] (defScope s_heap_shares):=⟨rfl,rfl,rfl,by decide +kernel,rfl,by decide +kernel,by decide +kernel⟩
noncomputable abbrev s_is_dropped:Stmt:=top 30
theorem sc_is_dropped:FnScope ["rules", "number"] ["rules", "number"] (defScope s_is_dropped):=⟨rfl,rfl,rfl,by decide +kernel,rfl,by decide +kernel,by decide +kernel⟩
noncomputable abbrev s_deed_by:Stmt:=top 31
theorem sc_deed_by:FnScope ["rules", "number", "letter"] ["rules", "number", "letter"] (defScope s_deed_by):=⟨rfl,rfl,rfl,by decide +kernel,rfl,by decide +kernel,by decide +kernel⟩
noncomputable abbrev s_rule_shares:Stmt:=top 32
theorem sc_rule_shares:FnScope ["rules", "row"] ["rules", "row"] (defScope s_rule_shares):=⟨rfl,rfl,rfl,by decide +kernel,rfl,by decide +kernel,by decide +kernel⟩
noncomputable abbrev s_check_number:Stmt:=top 33
theorem sc_check_number:FnScope ["number", "count"] ["number", "count"] (defScope s_check_number):=⟨rfl,rfl,rfl,by decide +kernel,rfl,by decide +kernel,by decide +kernel⟩
noncomputable abbrev s_rules_without:Stmt:=top 34
theorem sc_rules_without:FnScope ["rules", "number"] ["rules", "number"] (defScope s_rules_without):=⟨rfl,rfl,rfl,by decide +kernel,rfl,by decide +kernel,by decide +kernel⟩
noncomputable abbrev s_rule_needed:Stmt:=top 35
theorem sc_rule_needed:FnScope ["rules", "number", "width", "others", "part", "first", "letter"] ["rules", "number", "width"] (defScope s_rule_needed):=⟨rfl,rfl,rfl,by decide +kernel,rfl,by decide +kernel,by decide +kernel⟩
noncomputable abbrev s_deeds_parted:Stmt:=top 36
theorem sc_deeds_parted:FnScope ["row", "one", "mine", "other", "its", "letter"] ["row", "one", "mine", "other", "its"] (defScope s_deeds_parted):=⟨rfl,rfl,rfl,by decide +kernel,rfl,by decide +kernel,by decide +kernel⟩
noncomputable abbrev s__law_cell_at:Stmt:=top 38
theorem sc__law_cell_at:FnScope ["_law_script", "_law_k"] ["_law_script", "_law_k"] (defScope s__law_cell_at):=⟨rfl,rfl,rfl,by decide +kernel,rfl,by decide +kernel,by decide +kernel⟩
noncomputable abbrev s__law_stream:Stmt:=top 39
theorem sc__law_stream:FnScope ["_law_cell", "_law_many", "_law_found", "_law_number", "_law_k"] ["_law_cell", "_law_many"] (defScope s__law_stream):=⟨rfl,rfl,rfl,by decide +kernel,rfl,by decide +kernel,by decide +kernel⟩
noncomputable abbrev s__law_width:Stmt:=top 40
theorem sc__law_width:FnScope ["_law_cell"] ["_law_cell"] (defScope s__law_width):=⟨rfl,rfl,rfl,by decide +kernel,rfl,by decide +kernel,by decide +kernel⟩
noncomputable abbrev s__law_places:Stmt:=top 41
theorem sc__law_places:FnScope ["_law_cell", "_law_width_here", "_law_found", "_law_many", "_law_number"] ["_law_cell", "_law_width_here"] (defScope s__law_places):=⟨rfl,rfl,rfl,by decide +kernel,rfl,by decide +kernel,by decide +kernel⟩
noncomputable abbrev s__law_shorts:Stmt:=top 42
theorem sc__law_shorts:FnScope ["_law_cells", "_law_many", "_law_found", "_law_cell", "_law_loose", "_law_signs", "_law_number"] ["_law_cells", "_law_many"] (defScope s__law_shorts):=⟨rfl,rfl,rfl,by decide +kernel,rfl,by decide +kernel,by decide +kernel⟩
noncomputable abbrev s__law_spread:Stmt:=top 43
theorem sc__law_spread:FnScope ["_law_short", "_law_places_here", "_law_base", "_law_sign", "_law_place"] ["_law_short", "_law_places_here", "_law_base"] (defScope s__law_spread):=⟨rfl,rfl,rfl,by decide +kernel,rfl,by decide +kernel,by decide +kernel⟩
noncomputable abbrev s__law_fits:Stmt:=top 44
theorem sc__law_fits:FnScope ["_law_short", "_law_choice", "_law_sign", "_law_own"] ["_law_short", "_law_choice"] (defScope s__law_fits):=⟨rfl,rfl,rfl,by decide +kernel,rfl,by decide +kernel,by decide +kernel⟩
noncomputable abbrev s__law_choices:Stmt:=top 45
theorem sc__law_choices:FnScope ["_law_many", "_law_found", "_law_k"] ["_law_many"] (defScope s__law_choices):=⟨rfl,rfl,rfl,by decide +kernel,rfl,by decide +kernel,by decide +kernel⟩
noncomputable abbrev s__law_rules:Stmt:=top 46
theorem sc__law_rules:FnScope ["_law_cells", "_law_many", "_law_found", "_law_cell", "_law_row", "_law_over", "_law_word_here"] ["_law_cells", "_law_many"] (defScope s__law_rules):=⟨rfl,rfl,rfl,by decide +kernel,rfl,by decide +kernel,by decide +kernel⟩
noncomputable abbrev s__law_written:Stmt:=top 47
theorem sc__law_written:FnScope ["_law_choice", "_law_over"] ["_law_choice", "_law_over"] (defScope s__law_written):=⟨rfl,rfl,rfl,by decide +kernel,rfl,by decide +kernel,by decide +kernel⟩
noncomputable abbrev s__law_first:Stmt:=top 48
theorem sc__law_first:FnScope ["_law_rules_here", "_law_choice", "_law_k"] ["_law_rules_here", "_law_choice"] (defScope s__law_first):=⟨rfl,rfl,rfl,by decide +kernel,rfl,by decide +kernel,by decide +kernel⟩
noncomputable abbrev s__law_deed:Stmt:=top 49
theorem sc__law_deed:FnScope ["_law_rules_here", "_law_choice", "_law_k"] ["_law_rules_here", "_law_choice"] (defScope s__law_deed):=⟨rfl,rfl,rfl,by decide +kernel,rfl,by decide +kernel,by decide +kernel⟩
noncomputable abbrev s__law_wide:Stmt:=top 50
theorem sc__law_wide:FnScope ["_law_rules_here", "_law_places_here", "_law_width_here", "_law_found", "_law_row", "_law_word_here", "_law_over"] ["_law_rules_here", "_law_places_here", "_law_width_here"] (defScope s__law_wide):=⟨rfl,rfl,rfl,by decide +kernel,rfl,by decide +kernel,by decide +kernel⟩
noncomputable abbrev s__law_word:Stmt:=top 51
theorem sc__law_word:FnScope ["_law_e", "_law_words"] ["_law_e"] (defScope s__law_word):=⟨rfl,rfl,rfl,by decide +kernel,rfl,by decide +kernel,by decide +kernel⟩
noncomputable abbrev s__law_refused:Stmt:=top 52
theorem sc__law_refused:FnScope ["_law_rules_here", "_law_number", "_law_width_here", "_law_word_here", "_law_e"] ["_law_rules_here", "_law_number", "_law_width_here"] (defScope s__law_refused):=⟨rfl,rfl,rfl,by decide +kernel,rfl,by decide +kernel,by decide +kernel⟩
noncomputable abbrev s__law_letter:Stmt:=top 53
theorem sc__law_letter:FnScope ["_law_found", "_law_width_here"] ["_law_found", "_law_width_here"] (defScope s__law_letter):=⟨rfl,rfl,rfl,by decide +kernel,rfl,by decide +kernel,by decide +kernel⟩
noncomputable abbrev s_law:Stmt:=top 54
theorem sc_law:FnScope ["_law_script", "_law_width_here", "_law_places_here", "_law_rules_here", "_law_wide_here", "_law_handed", "_law_far", "_law_number", "_law_found", "_law_others", "_law_parting", "_law_choice"] ["_law_script"] (defScope s_law):=⟨rfl,rfl,rfl,by decide +kernel,rfl,by decide +kernel,by decide +kernel⟩
structure Top (K:Frag) (mg:Str -> Option Value):Prop where
 f_row_meet:Fn K mg "row_meet" s_row_meet
 f_row_least:Fn K mg "row_least" s_row_least
 f_row_edges:Fn K mg "row_edges" s_row_edges
 f_row_written:Fn K mg "row_written" s_row_written
 f_row_with:Fn K mg "row_with" s_row_with
 f_row_narrowed:Fn K mg "row_narrowed" s_row_narrowed
 f_heap_width:Fn K mg "heap_width" s_heap_width
 f_heap_places:Fn K mg "heap_places" s_heap_places
 f_fork_of:Fn K mg "fork_of" s_fork_of
 f_firsts_of:Fn K mg "firsts_of" s_firsts_of
 f_fork_below:Fn K mg "fork_below" s_fork_below
 f_firsts_side:Fn K mg "firsts_side" s_firsts_side
 f_fork_parts:Fn K mg "fork_parts" s_fork_parts
 f_heap_shares:Fn K mg "heap_shares" s_heap_shares
 f_is_dropped:Fn K mg "is_dropped" s_is_dropped
 f_deed_by:Fn K mg "deed_by" s_deed_by
 f_rule_shares:Fn K mg "rule_shares" s_rule_shares
 f_check_number:Fn K mg "check_number" s_check_number
 f_rules_without:Fn K mg "rules_without" s_rules_without
 f_rule_needed:Fn K mg "rule_needed" s_rule_needed
 f_deeds_parted:Fn K mg "deeds_parted" s_deeds_parted
 f__law_cell_at:Fn K mg "_law_cell_at" s__law_cell_at
 f__law_stream:Fn K mg "_law_stream" s__law_stream
 f__law_width:Fn K mg "_law_width" s__law_width
 f__law_places:Fn K mg "_law_places" s__law_places
 f__law_shorts:Fn K mg "_law_shorts" s__law_shorts
 f__law_spread:Fn K mg "_law_spread" s__law_spread
 f__law_fits:Fn K mg "_law_fits" s__law_fits
 f__law_choices:Fn K mg "_law_choices" s__law_choices
 f__law_rules:Fn K mg "_law_rules" s__law_rules
 f__law_written:Fn K mg "_law_written" s__law_written
 f__law_first:Fn K mg "_law_first" s__law_first
 f__law_deed:Fn K mg "_law_deed" s__law_deed
 f__law_wide:Fn K mg "_law_wide" s__law_wide
 f__law_word:Fn K mg "_law_word" s__law_word
 f__law_refused:Fn K mg "_law_refused" s__law_refused
 f__law_letter:Fn K mg "_law_letter" s__law_letter
 f_law:Fn K mg "law" s_law
 b_zip:mg "zip" = none
 b_len:mg "len" = none
 b_range:mg "range" = none
 b_any:mg "any" = none
 b_enumerate:mg "enumerate" = none
 b_isinstance:mg "isinstance" = none
 b_int:mg "int" = none
 b_sorted:mg "sorted" = none
 b_list:mg "list" = none
 b_ValueError:mg "ValueError" = none
 b_str:mg "str" = none
 x_NoRule:Xn K mg "NoRule"
 x_ThrongError:Xn K mg "ThrongError"
 t_Misfit:Xt K mg "Misfit"
 t_Twice:Xt K mg "Twice"
 t_NoField:Xt K mg "NoField"
 t_NoWay:Xt K mg "NoWay"
 t_NoDoor:Xt K mg "NoDoor"
 t_NoHouse:Xt K mg "NoHouse"
 t_NoLine:Xt K mg "NoLine"
 t_BadWord:Xt K mg "BadWord"
 t_Unlike:Xt K mg "Unlike"
 v_NoRule:Xv K "NoRule"
 m_NoRule_Misfit:Xm K "NoRule" "Misfit" false
 m_NoRule_Twice:Xm K "NoRule" "Twice" false
 m_NoRule_NoField:Xm K "NoRule" "NoField" false
 m_NoRule_NoRule:Xm K "NoRule" "NoRule" true
 m_NoRule_NoWay:Xm K "NoRule" "NoWay" false
 m_NoRule_ThrongError:Xm K "NoRule" "ThrongError" true
 m_NoRule_NoDoor:Xm K "NoRule" "NoDoor" false
 m_NoRule_NoHouse:Xm K "NoRule" "NoHouse" false
 m_NoRule_NoLine:Xm K "NoRule" "NoLine" false
 m_NoRule_BadWord:Xm K "NoRule" "BadWord" false
 m_NoRule_Unlike:Xm K "NoRule" "Unlike" false
local macro_rules | `(tactic| walk_at "rd")=>`(tactic| try simp only [a_cVar,a_tC,a_tOp,a_kAddI,a_kAddS,a_kAddL,a_kI,a_kI0,a_kMulI,a_kMulS,a_kEqI,a_kEqS,a_kEqB,a_kEqNS,a_kEqSN,a_kEqNN,a_kIs,a_kInS,a_kInL,a_kIxS,a_kIxL,a_kLenS,a_kLenL,a_kIntI,a_kIntB,a_kIntS,a_kSlTo,a_kSlFrom,a_kSlL,a_tSl,a_tNoPart,a_cPart,a_cNeg,a_kEqNil,a_cIsI,Ty.isBl,Ty.isInt,Ty.isStr,Ty.isLst,Ty.isTup,a_cTest,a_blK,a_cAndV,a_cOrV,a_tAnd,a_tOr,a_tNot,a_tYes,a_tIf,a_cApp,a_cJoin1,a_tNil,a_tCons,a_tCall,a_tCB,a_tLst,a_tTup,a_tNext,a_tSeq,a_tDrop,a_tRet,a_tIfS,a_tAsg,a_gName,a_tJoin,a_cFor,a_cIter,a_cRng1,a_cZip,a_srcKS,a_srcKL,a_cComp,compσ,L2.start,a_cxK,a_cxCK,CDiv,CPow,List.map_cons,List.map_nil,List.length_cons,List.length_nil,List.replicate_succ,List.replicate_zero,List.cons_append,List.nil_append,List.getElem?_cons_zero,List.getElem?_cons_succ,List.set_cons_zero,List.set_cons_succ,Option.getD_some,Option.getD_none,Nat.reduceAdd,Nat.reduceSub,Bool.false_bne,Bool.true_bne,Bool.false_xor,Bool.true_xor,Bool.not_eq_true',decide_eq_true_eq,decide_eq_false_iff_not,Bool.not_true,Bool.not_false,if_true,if_false,true_and,and_true,Int.reduceLT,Int.reduceLE,Nat.reduceLeDiff,Bool.false_eq_true,a_gCons,a_gNil,a_gSeq,a_cRepl,a_kListS,a_kListL,a_cEnumL,a_cListRng,a_kAny,a_kSorted,a_kEqD,a_gSub,a_rSetL,a_tCallT,a_tRaise,a_cFS,a_jNil,a_jCons,a_cIsX,a_cIsXT,a_tTryAs,a_cDGet,a_dNewK,a_cJoinW,a_cSetDef,a_tRetD,a_cItems,a_tBreak,a_kEqDict,a_cFmtI,a_one,ite_not,st_cps,Bool.true_eq_false,Int.zero_add,reduceIte,ite_true,ite_false])
section
variable {P:Program} {w:World} {K:Frag} {mg:Str -> Option Value} {base:Heap}
noncomputable def sp__law_cell_at (K:Frag):Sp:=fun vs H Q _=>match vs with
 | [.ref a,.int k]=>∃ ns:List Int,SqL K H a (ns.map V.int) /\ 0 <= k /\ Q (.int (cell ns k.toNat)) H
 | _=>False
theorem cell_here {H:Hp} {a:Addr} {ns:List Int} {k:Int} {Q:VK} {E:XK} (hS:SqL K H a (ns.map V.int)) (hk:0 <= k) (q:Q (.int (cell ns k.toNat)) H):sp__law_cell_at K [.ref a,.int k] H Q E:=⟨ns,hS,hk,q⟩
theorem ok__law_cell_at (T:Top K mg):Callee P w K mg base 1 "_law_cell_at" ["_law_script", "_law_k"] (sp__law_cell_at K):=by
 refine T.f__law_cell_at.cal sc__law_cell_at (by intro vs H Q E h; unfold sp__law_cell_at at h; split at h <;> first | rfl | exact h.elim) (fun _ _ _ _ _ _ us hl=>match us,hl with | [_,_],_=>rfl) (fun f cdv A outer s H vs Q E hr h=>?_)
 unfold sp__law_cell_at at h
 split at h
 case h_2=>exact h.elim
 refine ⟨_,(pss_cons (ps_if (qt_cmp op_ltK (qv 1) (pe_callB (lenE K rfl) rfl T.b_len bb_len (pa_cons (qv 0) pa_nil))) (pss_one (ps_ret (pe_ix (ixE K rfl) (qv 0) (qv 1) (fun _ _=>rfl)))) pss_nil)
   (pss_one (ps_ret pe_int))),?_⟩
 rename_i a k
 obtain ⟨ns,hS,hk,q⟩:=h
 walk_at "rd"
 refine ⟨_,.inl hS,?_⟩
 walk_at "rd"
 rw [List.length_map]
 refine ite2 (fun hlt=>?_) (fun hge=>?_)
 ·exact ⟨_,_,.inl hS,cell_lt hk hlt,q⟩
 ·rw [<- cell_ge hge]
  exact q
noncomputable def sp__law_stream (K:Frag):Sp:=fun vs H Q _=>match vs with
 | [.int c,.int n]=>0 <= n /\ n <= 1000 /\ ∀ p H',H p = none -> Same H H' -> H' p = some (.lst ((stream c n.toNat).map V.int)) -> Q (.ref p) H'
 | _=>False
theorem ok__law_stream (T:Top K mg):Callee P w K mg base 1 "_law_stream" ["_law_cell", "_law_many"] (sp__law_stream K):=by
 refine T.f__law_stream.cal sc__law_stream (by intro vs H Q E h; unfold sp__law_stream at h; split at h <;> first | rfl | exact h.elim) (fun _ _ _ _ _ _ us hl=>match us,hl with | [_,_],_=>rfl) (fun f cdv A outer s H vs Q E hr h=>?_)
 unfold sp__law_stream at h
 split at h
 case h_2=>exact h.elim
 refine ⟨_,(pss_cons (ps_set (i:=2) sc__law_stream.nd rfl lc (pe_lst pa_nil))
   (pss_cons (ps_set (i:=3) sc__law_stream.nd rfl lc (pe_op op_addK (pe_op op_modK (qv 0) pe_int) pe_int))
   (pss_cons (qs_for PassesOwn.never rfl (qi_range1 rfl T.b_range (qv 1)) (pg_name (i:=4) sc__law_stream.nd rfl lc) (pss_cons (ps_set (i:=3) sc__law_stream.nd rfl lc (pe_op op_modK (pe_op op_addK (pe_op op_addK (pe_op op_mulK (qv 3) pe_int) (pe_op op_mulK (pe_op op_mulK pe_int (qv 4)) (qv 4))) pe_int) pe_int))
   (pss_one (ps_expr (qe_append (qv 2) (pe_op op_fdivK (qv 3) pe_int))))))
   (pss_one (ps_ret (qv 2)))))),?_⟩
 rename_i c n
 obtain ⟨h0,h1,q⟩:=h
 walk_at "rd"
 refine ⟨by decide,fun p hp=>⟨by omega,by omega,?_⟩⟩
 refine loop_range (fun i σ H'=>∃ k,σ = [some (.int c),some (.int n),some (.ref p),some (.int (num c i)),k] /\ Same H H' /\ H' p = some (.lst ((stream c i).map V.int))) ⟨none,rfl,same_new hp _,upd_same⟩ ?_ ?_
 ·rintro i σ H1 hi ⟨k,rfl,s1,e1⟩
  walk_at "rd"
  have hb1:=num_lo c i
  have hb2:=num_hi c i
  refine ⟨.inl ⟨by omega,by omega⟩,.inl ⟨by omega,by omega⟩,.inr ⟨by omega,by omega⟩,?_⟩
  refine ⟨⟨_,e1⟩,_,e1,sizeBig (by simp [stream_len]; omega),?_⟩
  refine ⟨_,rfl,same_upd s1 hp,?_⟩
  rw [upd_same,stream_snoc]
  simp [num]
 ·rintro σ H1 ⟨k,rfl,s1,e1⟩
  walk_at "rd"
  exact q p H1 hp s1 e1
noncomputable def okS (m i:Nat):Bool:=m == 45 || i == 45 || m == i
noncomputable def meetS (m i:Nat):Nat:=if m = 45 then i else m
noncomputable def okL (x y:List Nat):Bool:=(x.zip y).all fun p=>okS p.1 p.2
noncomputable def meetL (x y:List Nat):List Nat:=(x.zip y).map fun p=>meetS p.1 p.2
noncomputable def meetV (x y:List Nat):V:=if okL x y = true then .str (st (meetL x y)) else .non
theorem take_zip_succ {x y:List Nat} {i c d:Nat} (hc:x[i]? = some c) (hd:y[i]? = some d):(x.take (i + 1)).zip (y.take (i + 1)) = (x.take i).zip (y.take i) ++ [(c,d)]:=by
 have h1:=(List.getElem?_eq_some_iff.mp hc).1
 have h2:=(List.getElem?_eq_some_iff.mp hd).1
 rw [List.take_succ,List.take_succ,hc,hd,List.zip_append (by simp; omega)]
 rfl
theorem okL_succ {x y:List Nat} {i c d:Nat} (hc:x[i]? = some c) (hd:y[i]? = some d):okL (x.take (i + 1)) (y.take (i + 1)) = (okL (x.take i) (y.take i) && okS c d):=by
 unfold okL
 rw [take_zip_succ hc hd]
 simp
theorem meetL_succ {x y:List Nat} {i c d:Nat} (hc:x[i]? = some c) (hd:y[i]? = some d):meetL (x.take (i + 1)) (y.take (i + 1)) = meetL (x.take i) (y.take i) ++ [meetS c d]:=by
 unfold meetL
 rw [take_zip_succ hc hd]
 simp
theorem okL_bad {x y:List Nat} {i c d:Nat} (hc:x[i]? = some c) (hd:y[i]? = some d) (h:okS c d = false):okL x y = false:=by
 unfold okL
 rw [Bool.eq_false_iff]
 intro z
 rw [List.all_eq_true] at z
 have:=z (c,d) (List.mem_of_getElem? (List.getElem?_zip_eq_some.mpr ⟨hc,hd⟩))
 rw [h] at this
 cases this
theorem take_min:∀ {x y:List Nat},(x.take (min x.length y.length)).zip (y.take (min x.length y.length)) = x.zip y
 | [],y=>by simp
 | _ :: _,[]=>by simp
 | a :: x,b :: y=>by
  have ih:=take_min (x:=x) (y:=y)
  rw [List.length_cons,List.length_cons,Nat.add_min_add_right,List.take_succ_cons,List.take_succ_cons,List.zip_cons_cons,ih,List.zip_cons_cons]
noncomputable def sp_row_meet:Sp:=fun vs H Q _=>match vs with
 | [.str a,.str b]=>a.cps.toList.length <= 1000 /\ ∀ H',Same H H' -> Q (meetV a.cps.toList b.cps.toList) H'
 | _=>False
theorem ok_row_meet (T:Top K mg):Callee P w K mg base 1 "row_meet" ["one", "other"] sp_row_meet:=by
 refine T.f_row_meet.cal sc_row_meet (by intro vs H Q E h; unfold sp_row_meet at h; split at h <;> first | rfl | exact h.elim) (fun _ _ _ _ _ _ us hl=>match us,hl with | [_,_],_=>rfl) (fun f cdv A outer s H vs Q E hr h=>?_)
 unfold sp_row_meet at h
 split at h
 case h_2=>exact h.elim
 refine ⟨_,(pss_cons (ps_set (i:=2) sc_row_meet.nd rfl lc (pe_lst pa_nil))
   (pss_cons (qs_for PassesOwn.never rfl (zipE K rfl rfl T.b_zip (qv 0) (qv 1)) (tupE K rfl rfl (n:=2) (pgs_cons (pg_name (i:=3) sc_row_meet.nd rfl lc) (pgs_cons (pg_name (i:=4) sc_row_meet.nd rfl lc) pgs_nil))) (pss_cons (ps_if (PW.pt (pw_and (qt_cmp op_neK (qv 3) (qs [45])) (pw_and (qt_cmp op_neK (qv 4) (qs [45])) (pw_and1 (qt_cmp op_neK (qv 3) (qv 4)))))) (pss_one (ps_ret pe_non)) pss_nil)
   (pss_one (ps_expr (qe_append (qv 2) (pe_ifExp (qt_cmp op_eqK (qv 3) (qs [45])) (qv 4) (qv 3)))))))
   (pss_one (ps_ret (joinE K rfl (qv 2)))))),?_⟩
 rename_i a b
 obtain ⟨x,rfl⟩:∃ x,a = st x:=⟨_,(st_eta a).symm⟩
 obtain ⟨y,rfl⟩:∃ x,b = st x:=⟨_,(st_eta b).symm⟩
 obtain ⟨h1,q⟩:=h
 simp only [st_cps] at h1 q
 walk_at "rd"
 refine ⟨by decide,fun g hg=>?_⟩
 refine loop_zip (xs:=x.map fun c=>V.str (st [c])) (ys:=y.map fun c=>V.str (st [c])) (fun i σ H'=>∃ u v,σ = [some (.str (st x)),some (.str (st y)),some (.ref g),u,v] /\ Same H H' /\ okL (x.take i) (y.take i) = true /\ H' g = some (.lst ((meetL (x.take i) (y.take i)).map fun k=>V.str (st [k]))))
  ⟨none,none,rfl,same_new hg _,rfl,upd_same⟩ (fun i σ H' _=>⟨rfl,rfl⟩) ?_ ?_
 ·rintro i c d σ H1 t hx hy ⟨u,v,rfl,s1,e1,e2⟩ ht
  rw [List.getElem?_map] at hx hy
  obtain ⟨c,hc,rfl⟩:=Option.map_eq_some_iff.mp hx
  obtain ⟨d,hd,rfl⟩:=Option.map_eq_some_iff.mp hy
  have hi:=(List.getElem?_eq_some_iff.mp hc).1
  have ngt:g ≠ t:=ne_of_none e2 ht
  have e3:(upd H1 t (.tup [V.str (st [c]),V.str (st [d])])) g = _:=(upd_ne ngt).trans e2
  have s2:Same H (upd H1 t (.tup [V.str (st [c]),V.str (st [d])])):=s1.trans (same_new ht _)
  have small:((meetL (x.take i) (y.take i)).map fun k=>V.str (st [k])).length < sizeLine:=sizeBig (by simp [meetL]; omega)
  have good:okS c d = true -> ∀ k,k = meetS c d -> ∃ u v,[some (V.str (st x)),some (V.str (st y)),some (V.ref g),some (V.str (st [c])),some (V.str (st [d]))] = [some (.str (st x)),some (.str (st y)),some (.ref g),u,v] /\
    Same H (upd (upd H1 t (.tup [V.str (st [c]),V.str (st [d])])) g (.lst (((meetL (x.take i) (y.take i)).map fun k=>V.str (st [k])) ++ [V.str (st [k])]))) /\ okL (x.take (i + 1)) (y.take (i + 1)) = true /\
    (upd (upd H1 t (.tup [V.str (st [c]),V.str (st [d])])) g (.lst (((meetL (x.take i) (y.take i)).map fun k=>V.str (st [k])) ++ [V.str (st [k])]))) g = some (.lst ((meetL (x.take (i + 1)) (y.take (i + 1))).map fun k=>V.str (st [k]))):=fun ho k hk=>by
   refine ⟨_,_,rfl,same_upd s2 hg,by rw [okL_succ hc hd,e1,ho]; rfl,?_⟩
   rw [upd_same,meetL_succ hc hd,hk]
   simp
  walk_at "rd"
  refine ite2 (fun g1=>?_) fun g1=>ite2 (fun g2=>?_) fun g2=>ite2 (fun g3=>?_) fun g3=>?_
  ·exact ⟨⟨_,e3⟩,ite2 (fun g4=>⟨_,e3,small,good (by simp [okS,g1]) _ (by simp [meetS,g4])⟩) fun g4=>absurd g1 g4⟩
  ·exact ⟨⟨_,e3⟩,ite2 (fun g4=>absurd g4 g1) fun g4=>⟨_,e3,small,good (by simp [okS,g2]) _ (by simp [meetS,g4])⟩⟩
  ·exact ⟨⟨_,e3⟩,ite2 (fun g4=>absurd g4 g1) fun g4=>⟨_,e3,small,good (by simp [okS,g3]) _ (by simp [meetS,g4])⟩⟩
  ·have e4:=okL_bad hc hd (by simp [okS,g1,g2,g3])
   have:=q _ s2
   unfold meetV at this
   rw [e4] at this
   exact this
 ·rintro σ H1 ⟨u,v,rfl,s1,e1,e2⟩
  walk_at "rd"
  simp only [List.length_map] at e1 e2
  unfold okL at e1
  unfold meetL at e2
  rw [take_min] at e1 e2
  refine ⟨_,SqL.of e2,by simp; omega,?_⟩
  have:=q _ s1
  unfold meetV okL meetL at this
  rw [if_pos e1] at this
  exact this
noncomputable abbrev txt (r:List Nat):V:=V.str (st r)
noncomputable def sp_row_with:Sp:=fun vs H Q _=>match vs with
 | [.str z,.int p,.str s]=>∃ c,s.cps.toList = [c] /\ 0 <= p /\ p < z.cps.toList.length /\ z.cps.toList.length <= 1000 /\ Q (txt (z.cps.toList.set p.toNat c)) H
 | _=>False
theorem ok_row_with (T:Top K mg):Callee P w K mg base 1 "row_with" ["row", "place", "sign"] sp_row_with:=by
 refine T.f_row_with.cal sc_row_with (by intro vs H Q E h; unfold sp_row_with at h; split at h <;> first | rfl | exact h.elim) (fun _ _ _ _ _ _ us hl=>match us,hl with | [_,_,_],_=>rfl) (fun f cdv A outer s H vs Q E hr h=>?_)
 unfold sp_row_with at h
 split at h
 case h_2=>exact h.elim
 refine ⟨_,(pss_one (ps_ret (pe_op op_addK (pe_op op_addK (pe_slice (slE K rfl) (qv 0) po_none (qo_some (qv 1))) (qv 2)) (pe_slice (slE K rfl) (qv 0) (qo_some (pe_op op_addK (qv 1) pe_int)) po_none)))),?_⟩
 rename_i z p s
 obtain ⟨l,rfl⟩:∃ x,z = st x:=⟨_,(st_eta z).symm⟩
 obtain ⟨c,hc,h0,h1,h2,q⟩:=h
 obtain rfl:s = st [c]:=by rw [<- hc,st_eta]
 simp only [st_cps] at h1 h2 q
 walk_at "rd"
 refine ⟨by omega,by omega,by omega,by simp; omega,by omega,by omega,by omega,by simp; omega,?_⟩
 have e:l.take p.toNat ++ [c] ++ l.drop (p + 1).toNat = l.set p.toNat c:=by
  rw [List.set_eq_take_append_cons_drop,if_pos (by omega),show (p + 1).toNat = p.toNat + 1 by omega]
  simp
 rw [e]
 exact q
noncomputable def sp__law_fits:Sp:=fun vs H Q _=>match vs with
 | [.str a,.str b]=>∀ H',Same H H' -> Q (.bl (okL a.cps.toList b.cps.toList)) H'
 | _=>False
theorem ok__law_fits (T:Top K mg):Callee P w K mg base 1 "_law_fits" ["_law_short", "_law_choice"] sp__law_fits:=by
 refine T.f__law_fits.cal sc__law_fits (by intro vs H Q E h; unfold sp__law_fits at h; split at h <;> first | rfl | exact h.elim) (fun _ _ _ _ _ _ us hl=>match us,hl with | [_,_],_=>rfl) (fun f cdv A outer s H vs Q E hr h=>?_)
 unfold sp__law_fits at h
 split at h
 case h_2=>exact h.elim
 refine ⟨_,(pss_cons (qs_for PassesOwn.never rfl (zipE K rfl rfl T.b_zip (qv 0) (qv 1)) (tupE K rfl rfl (n:=2) (pgs_cons (pg_name (i:=2) sc__law_fits.nd rfl lc) (pgs_cons (pg_name (i:=3) sc__law_fits.nd rfl lc) pgs_nil))) (pss_one (ps_if (PW.pt (pw_and (qt_cmp op_neK (qv 2) (qs [45])) (pw_and (qt_cmp op_neK (qv 3) (qs [45])) (pw_and1 (qt_cmp op_neK (qv 2) (qv 3)))))) (pss_one (ps_ret pe_bl)) pss_nil)))
   (pss_one (ps_ret pe_bl))),?_⟩
 rename_i a b
 obtain ⟨x,rfl⟩:∃ x,a = st x:=⟨_,(st_eta a).symm⟩
 obtain ⟨y,rfl⟩:∃ x,b = st x:=⟨_,(st_eta b).symm⟩
 simp only [st_cps] at h
 walk_at "rd"
 refine loop_zip (xs:=x.map fun c=>V.str (st [c])) (ys:=y.map fun c=>V.str (st [c])) (fun i σ H'=>∃ u v,σ = [some (.str (st x)),some (.str (st y)),u,v] /\ Same H H' /\ okL (x.take i) (y.take i) = true) ⟨none,none,rfl,Same.refl _,rfl⟩
  (fun i σ H' _=>⟨rfl,rfl⟩) ?_ ?_
 ·rintro i c d σ H1 p hx hy ⟨u,v,rfl,s1,e1⟩ hp
  rw [List.getElem?_map] at hx hy
  obtain ⟨c,hc,rfl⟩:=Option.map_eq_some_iff.mp hx
  obtain ⟨d,hd,rfl⟩:=Option.map_eq_some_iff.mp hy
  walk_at "rd"
  have s2:Same H (upd H1 p (.tup [V.str (st [c]),V.str (st [d])])):=s1.trans (same_new hp _)
  have good:okS c d = true -> okL (x.take (i + 1)) (y.take (i + 1)) = true:=fun z=>by rw [okL_succ hc hd,e1,z]; rfl
  refine ite2 (fun g1=>⟨_,_,rfl,s2,good (by simp [okS,g1])⟩) fun g1=>ite2 (fun g2=>⟨_,_,rfl,s2,good (by simp [okS,g2])⟩) fun g2=>ite2 (fun g3=>⟨_,_,rfl,s2,good (by simp [okS,g3])⟩) fun g3=>?_
  have:=h _ s2
  rw [okL_bad hc hd (by simp [okS,g1,g2,g3])] at this
  exact this
 ·rintro σ H1 ⟨u,v,rfl,s1,e1⟩
  walk_at "rd"
  simp only [List.length_map] at e1
  unfold okL at e1
  rw [take_min] at e1
  have:=h _ s1
  unfold okL at this
  rw [e1] at this
  exact this
noncomputable def wSign (s o:Nat):Nat:=if o = 45 then s else o
noncomputable def written (r o:List Nat):List Nat:=(r.zip o).map fun p=>wSign p.1 p.2
theorem written_len {r o:List Nat} (h:r.length = o.length):(written r o).length = r.length:=by simp [written,h]
noncomputable def vcode:V -> Nat
 | .str x=>x.cps.toList.headD 0
 | _=>0
theorem zip_signs (r o:List Nat):((r.map fun c=>V.str (st [c])).zip (o.map fun c=>V.str (st [c]))).flatMap (fun p=>[V.str (st [wSign (vcode p.1) (vcode p.2)])]) = (written r o).map fun k=>V.str (st [k]):=by
 unfold written
 induction r generalizing o with
 | nil=>rfl
 | cons a r ih=>
  cases o with
  | nil=>rfl
  | cons b o=>
   simp only [List.map_cons,List.zip_cons_cons,List.flatMap_cons,ih o]
   rfl
noncomputable def sp_row_written:Sp:=fun vs H Q _=>match vs with
 | [.str a,.str b]=>a.cps.toList.length <= 1000 /\ ∀ H',Same H H' -> Q (.str (st (written a.cps.toList b.cps.toList))) H'
 | _=>False
theorem ok_row_written (T:Top K mg):Callee P w K mg base 1 "row_written" ["row", "over"] sp_row_written:=by
 refine T.f_row_written.cal sc_row_written (by intro vs H Q E h; unfold sp_row_written at h; split at h <;> first | rfl | exact h.elim) (fun _ _ _ _ _ _ us hl=>match us,hl with | [_,_],_=>rfl) (fun f cdv A outer s H vs Q E hr h=>?_)
 unfold sp_row_written at h
 split at h
 case h_2=>exact h.elim
 refine ⟨_,(pss_one (ps_ret (joinE K rfl (qe_comp (nt:=2) (fi:=[]) (N':=["mine", "its"]) rfl (cscope rfl (by decide +kernel)) (cnames (N:=["row", "over"]) (sc:=defScope s_row_written) rfl rfl (by decide +kernel)) (gk_tup2 (by decide) (by decide)) (zipE K rfl rfl T.b_zip (qv 0) (qv 1)) (fun _ _ _ _ _=>(tupE K rfl rfl (n:=2) (pgs_cons (pg_name (i:=0) (by show (["mine", "its"]:List Str).Nodup; decide +kernel) rfl lc) (pgs_cons (pg_name (i:=1) (by show (["mine", "its"]:List Str).Nodup; decide +kernel) rfl lc) pgs_nil)))) (fun _ _ _ _ _=>pif_nil) (fun _ _ _ _ _=>(pe_ifExp (qt_cmp op_eqK (qv 1) (qs [45])) (qv 0) (qv 1))))))),?_⟩
 rename_i a b
 obtain ⟨r,rfl⟩:∃ x,a = st x:=⟨_,(st_eta a).symm⟩
 obtain ⟨o,rfl⟩:∃ x,b = st x:=⟨_,(st_eta b).symm⟩
 obtain ⟨h1,q⟩:=h
 simp only [st_cps] at h1 q
 walk_at "rd"
 intro D hD
 refine comp_zip (us:=r.map fun c=>V.str (st [c])) (ws:=o.map fun c=>V.str (st [c])) (h:=fun x y=>[V.str (st [wSign (vcode x) (vcode y)])]) hD (fun _ _=>rfl) (fun _ _=>rfl) (by simp; omega) (fun _ _=>by simp) ?_ ?_
 ·intro x y H1 out non hm s1 ho hn
  obtain ⟨hx,hy⟩:=List.of_mem_zip hm
  obtain ⟨c,_,rfl⟩:=List.mem_map.mp hx
  obtain ⟨d,_,rfl⟩:=List.mem_map.mp hy
  walk_at "rd"
  refine ite2 (fun h4=>?_) fun h4=>?_
  ·exact ho _ _ (by simp [wSign,vcode,h4]) (Same.refl _)
  ·exact ho _ _ (by simp [wSign,vcode,h4]) (Same.refl _)
 ·intro H1 s1 e1
  rw [zip_signs] at e1
  exact ⟨_,SqL.of e1,by simp [written]; omega,q H1 s1⟩
noncomputable def sp_row_least:Sp:=fun vs H Q _=>match vs with
 | [.str a]=>a.cps.toList.length <= 1000 /\ Q (.str (st (rep 45 48 a.cps.toList))) H
 | _=>False
theorem ok_row_least (T:Top K mg):Callee P w K mg base 1 "row_least" ["row"] sp_row_least:=by
 refine T.f_row_least.cal sc_row_least (by intro vs H Q E h; unfold sp_row_least at h; split at h <;> first | rfl | exact h.elim) (fun _ _ _ _ _ _ us hl=>match us,hl with | [_],_=>rfl) (fun f cdv A outer s H vs Q E hr h=>?_)
 unfold sp_row_least at h
 split at h
 case h_2=>exact h.elim
 refine ⟨_,(pss_one (ps_ret (qe_replace 45 48 (qv 0)))),?_⟩
 rename_i a
 obtain ⟨h1,q⟩:=h
 walk_at "rd"
 exact ⟨by omega,q⟩
noncomputable abbrev pl (i:Nat):V:=V.int i
noncomputable def narrow (r:List Nat) (ps:List Nat):List Nat:=ps.map fun i=>r.getD i 0
theorem flat_one {α β:Type} (f:α -> β) (l:List α):(l.flatMap fun x=>[f x]) = l.map f:=by
 induction l with
 | nil=>rfl
 | cons x l ih=>rw [List.flatMap_cons,ih]; rfl
theorem at_nat {α:Type} {l:List α} {i:Nat} (h:i < l.length):atI l (i:Int) = some l[i]:=by
 have e:ixN l.length (i:Int) = some i:=by
  unfold ixN
  simp
  omega
 show ((ixN l.length (i:Int)).bind fun j=>l[j]?) = some l[i]
 rw [e]
 exact List.getElem?_eq_getElem h
noncomputable def sp_row_narrowed (K:Frag):Sp:=fun vs H Q _=>match vs with
 | [.str a,.ref p]=>∃ ps:List Nat,SqL K H p (ps.map pl) /\ (∀ i ∈ ps,i < a.cps.toList.length) /\ a.cps.toList.length <= 1000 /\ ps.length <= 1000 /\ ∀ H',Same H H' -> Q (.str (st (narrow a.cps.toList ps))) H'
 | _=>False
theorem ok_row_narrowed (T:Top K mg):Callee P w K mg base 1 "row_narrowed" ["row", "places"] (sp_row_narrowed K):=by
 refine T.f_row_narrowed.cal sc_row_narrowed (by intro vs H Q E h; unfold sp_row_narrowed at h; split at h <;> first | rfl | exact h.elim) (fun _ _ _ _ _ _ us hl=>match us,hl with | [_,_],_=>rfl) (fun f cdv A outer s H vs Q E hr h=>?_)
 unfold sp_row_narrowed at h
 split at h
 case h_2=>exact h.elim
 refine ⟨_,(pss_one (ps_ret (joinE K rfl (qe_comp (nt:=1) (fi:=[0]) (N':=["place", "row"]) rfl (cscope rfl (by decide +kernel)) (cnames (N:=["row", "places"]) (sc:=defScope s_row_narrowed) rfl rfl (by decide +kernel)) (gk_name (by decide)) (iterE K rfl (qv 1)) (fun _ _ _ _ _=>(pg_name (i:=0) (by show (["place", "row"]:List Str).Nodup; decide +kernel) rfl lc)) (fun _ _ _ _ _=>pif_nil) (fun _ _ _ _ _=>(pe_ix (ixE K rfl) (qv 1) (qv 0) (fun _ _=>rfl))))))),?_⟩
 rename_i a p
 obtain ⟨r,rfl⟩:∃ x,a = st x:=⟨_,(st_eta a).symm⟩
 obtain ⟨ps,h1,h2,h3,h4,q⟩:=h
 simp only [st_cps] at h2 h3 q
 walk_at "rd"
 refine .inl ⟨⟨_,h1⟩,fun D hD=>?_⟩
 refine comp_list (item:=pl) (xs:=ps) (h:=fun i=>[V.str (st [r.getD i 0])]) hD h1 (by omega) (fun _=>by simp) ?_ ?_
 ·intro i H1 out non hi s1 ho hn
  have hi':=h2 i hi
  walk_at "rd"
  refine ⟨by omega,_,at_nat hi',ho _ _ (by simp [hi']) (Same.refl _)⟩
 ·intro H1 s1 e1
  rw [flat_one (fun i=>V.str (st [r.getD i 0])) ps] at e1
  exact ⟨narrow r ps,SqL.of (by rw [e1]; simp [narrow]),by simp [narrow]; omega,q H1 s1⟩
noncomputable def sp_heap_width (K:Frag):Sp:=fun vs H Q _=>match vs with
 | [.ref p]=>∃ hs:List (List Nat),SqL K H p (hs.map tx) /\ (∀ r ∈ hs,r.length <= 1000) /\ ∀ H',Same H H' -> Q (.int (hs.headD []).length) H'
 | _=>False
theorem ok_heap_width (T:Top K mg):Callee P w K mg base 1 "heap_width" ["heap"] (sp_heap_width K):=by
 refine T.f_heap_width.cal sc_heap_width (by intro vs H Q E h; unfold sp_heap_width at h; split at h <;> first | rfl | exact h.elim) (fun _ _ _ _ _ _ us hl=>match us,hl with | [_],_=>rfl) (fun f cdv A outer s H vs Q E hr h=>?_)
 unfold sp_heap_width at h
 split at h
 case h_2=>exact h.elim
 refine ⟨_,(pss_one (ps_ret (pe_ifExp (qt_cmp (eqNilE K rfl (hu1 hr)) (qv 0) (pe_lst pa_nil)) pe_int (pe_callB (lenE K rfl) rfl T.b_len bb_len (pa_cons (pe_ix (ixE K rfl) (qv 0) pe_int (fun _ _=>rfl)) pa_nil))))),?_⟩
 rename_i p
 obtain ⟨hs,h1,h2,q⟩:=h
 walk_at "rd"
 refine ⟨by decide,fun z hz=>⟨_,(same_new hz _).seq h1,SqL.of upd_same,?_⟩⟩
 cases hs with
 | nil=>exact q _ (same_new hz _)
 | cons r hs=>
  refine ⟨_,_,.inl ((same_new hz _).seq h1),at_nat (i:=0) (by simp),?_⟩
  have:=h2 r List.mem_cons_self
  walk_at "rd"
  exact ⟨show r.length <= 100000 by omega,q _ (same_new hz _)⟩
noncomputable def told (hs:List (List Nat)) (i:Nat):Bool:=hs.any fun r=>r.getD i 0 != 45
noncomputable def placesL (hs:List (List Nat)) (w:Nat):List Nat:=(List.range w).filter (told hs)
noncomputable def sp_heap_places (K:Frag):Sp:=fun vs H Q _=>match vs with
 | [.ref p]=>∃ (hs:List (List Nat)) (w:Nat),SqL K H p (hs.map tx) /\ (∀ r ∈ hs,r.length = w) /\ w <= 1000 /\ hs.length <= 1000 /\ ∀ q H',H q = none -> Same H H' -> H' q = some (.lst ((placesL hs (hs.headD []).length).map pl)) -> Q (.ref q) H'
 | _=>False
theorem ok_heap_places (T:Top K mg):Callee P w K mg base 2 "heap_places" ["heap"] (sp_heap_places K):=by
 refine T.f_heap_places.cal sc_heap_places (by intro vs H Q E h; unfold sp_heap_places at h; split at h <;> first | rfl | exact h.elim) (fun _ _ _ _ _ _ us hl=>match us,hl with | [_],_=>rfl) (fun f cdv A outer s H vs Q E hr h=>?_)
 unfold sp_heap_places at h
 split at h
 case h_2=>exact h.elim
 refine ⟨_,(pss_cons (ps_set (i:=1) sc_heap_places.nd rfl lc (pe_lst pa_nil))
   (pss_cons (qs_for PassesOwn.never rfl (qi_range1 rfl T.b_range (pe_fn (ok_heap_width T) hr.m rfl (pa_cons (qv 0) pa_nil))) (pg_name (i:=2) sc_heap_places.nd rfl lc) (pss_one (ps_if (qt_val (pe_callB (call_anyK K rfl rfl) rfl T.b_any bb_any (pa_cons (qe_comp (nt:=1) (fi:=[2]) (N':=["row", "place"]) rfl (cscope rfl (by decide +kernel)) (cnames (N:=["heap", "places", "place"]) (sc:=defScope s_heap_places) rfl rfl (by decide +kernel)) (gk_name (by decide)) (iterE K rfl (qv 0)) (fun _ _ _ _ _=>(pg_name (i:=0) (by show (["row", "place"]:List Str).Nodup; decide +kernel) rfl lc)) (fun _ _ _ _ _=>pif_nil) (fun _ _ _ _ _=>(qe_cmp op_neK (pe_ix (ixE K rfl) (qv 0) (qv 1) (fun _ _=>rfl)) (qs [45])))) pa_nil))) (pss_one (ps_expr (qe_append (qv 1) (qv 2)))) pss_nil)))
   (pss_one (ps_ret (qv 1))))),?_⟩
 rename_i p
 obtain ⟨hs,w,h1,h2,h3,h4,q⟩:=h
 walk_at "rd"
 have hw:∀ r ∈ hs,r.length <= 1000:=fun r hr=>by rw [h2 r hr]; exact h3
 have hh:(hs.headD []).length <= 1000:=by
  cases hs with
  | nil=>simp
  | cons r hs=>exact hw r List.mem_cons_self
 refine ⟨by decide,fun g hg=>⟨hs,(same_new hg _).seq h1,hw,fun H0 s0=>⟨by omega,by omega,?_⟩⟩⟩
 refine loop_range (fun i σ H'=>∃ u,σ = [some (.ref p),some (.ref g),u] /\ (∀ b o,H b = some o -> H' b = some o) /\ H' g = some (.lst ((placesL hs i).map pl))) ⟨none,rfl,fun b o e=>s0 b o (same_new hg _ b o e),s0 _ _ upd_same⟩ ?_ ?_
 ·rintro i σ H1 hi ⟨u,rfl,s1,e1⟩
  walk_at "rd"
  have hS1:SqL K H1 p (hs.map tx):=Same.seq s1 h1
  have hi':∀ r ∈ hs,i < r.length:=fun r hr=>by
   cases hs with
   | nil=>cases hr
   | cons r0 hs=>
    have a:=h2 r0 List.mem_cons_self
    have b:=h2 r hr
    have c:i < r0.length:=hi
    omega
  refine .inl ⟨⟨_,hS1⟩,fun D hD=>?_⟩
  refine comp_list (item:=tx) (xs:=hs) (h:=fun r=>[V.bl (r.getD i 0 != 45)]) hD hS1 (by omega) (fun _=>by simp) ?_ ?_
  ·intro r H2 out non hr' s2 ho hn
   have hir:=hi' r hr'
   have hlr:=hw r hr'
   walk_at "rd"
   refine ⟨by omega,_,at_nat hir,ho _ _ ?_ (Same.refl _)⟩
   rw [List.getD_eq_getElem?_getD,List.getElem?_eq_getElem hir,Option.getD_some]
   simp only [bne]
   congr 3
  ·intro H2 s2 e2
   rw [flat_one (fun r:List Nat=>V.bl (r.getD i 0 != 45)) hs] at e2
   walk_at "rd"
   refine ⟨hs.map fun r=>r.getD i 0 != 45,SqL.of (by rw [e2]; simp),?_⟩
   have et:(hs.map fun r=>r.getD i 0 != 45).any id = told hs i:=by unfold told; rw [List.any_map]; rfl
   rw [et]
   have e3:=s2 _ _ e1
   have ep:placesL hs (i + 1) = placesL hs i ++ (if told hs i = true then [i] else []):=by
    unfold placesL
    rw [List.range_succ,List.filter_append]
    simp [List.filter]
    split <;> simp_all
   show if told hs i = true then _ else _
   refine ite2 (fun ht=>?_) fun ht=>?_
   ·refine ⟨⟨_,e3⟩,_,e3,?_,_,rfl,fun b o e=>?_,?_⟩
    ·have a:(placesL hs i).length <= i:=by
      have:=List.length_filter_le (told hs) (List.range i)
      simpa [placesL] using this
     have b:i < 1000:=by omega
     rw [List.length_map]
     exact small1000 (by omega)
    ·rw [upd_ne (ne_of_none e hg)]
     exact s2 _ _ (s1 _ _ e)
    ·rw [upd_same,ep,if_pos ht,List.map_append]
     rfl
   ·refine ⟨_,rfl,fun b o e=>s2 _ _ (s1 _ _ e),?_⟩
    rw [e3,ep,if_neg ht,List.append_nil]
 ·rintro σ H1 ⟨u,rfl,s1,e1⟩
  walk_at "rd"
  exact q g H1 hg s1 e1
theorem in_txts (x:List Nat) (hs:List (List Nat)):inV (tx x) (hs.map tx) = decide (x ∈ hs):=by
 unfold inV
 rw [List.any_map,Bool.eq_iff_iff,List.any_eq_true,decide_eq_true_eq]
 constructor
 ·rintro ⟨y,hy,e⟩
  have e:(st y == st x) = true:=e
  rw [beq_iff_eq,st_inj] at e
  exact e ▸ hy
 ·intro h
  exact ⟨x,h,by show (st x == st x) = true; simp⟩
theorem flat_txts (hs:List (List Nat)):(hs.map tx).all flatV = true:=by
 rw [List.all_map,List.all_eq_true]
 intro _ _
 rfl
noncomputable def dashes (n:Nat):List Nat:=List.replicate n 45
noncomputable abbrev Tr:=List Nat × Bool × Bool
def TripAt (K:Frag) (x:Tr) (v:V) (H:Hp):Prop:=∃ a,v = .ref a /\ SqT K H a [tx x.1,.bl x.2.1,.bl x.2.2]
def Trips (K:Frag) (H:Hp) (p:Addr) (xs:List Tr):Prop:=∃ vs,H p = some (.lst vs) /\ Paired (fun x v=>TripAt K x v H) xs vs
theorem seqT_same {H H':Hp} (s:Same H H') {a:Addr} {vs:List V} (r:SqT K H a vs):SqT K H' a vs:=by
 rcases r with (r | ⟨o,r⟩) | r
 ·exact .inl (.inl (s _ _ r))
 ·exact .inl (.inr ⟨o,s _ _ r⟩)
 ·exact .inr r
theorem TripAt.same {H H':Hp} (s:Same H H') {x:Tr} {v:V} (r:TripAt K x v H):TripAt K x v H':=by
 obtain ⟨a,e,r⟩:=r
 exact ⟨a,e,seqT_same s r⟩
theorem Trips.same {H H':Hp} (s:Same H H') {p:Addr} {xs:List Tr} (r:Trips K H p xs):Trips K H' p xs:=by
 obtain ⟨vs,h,pr⟩:=r
 exact ⟨vs,s _ _ h,L2.Paired.mapP pr fun _ _ q=>q.same s⟩
theorem paired_mem {α β:Type} {F:α -> β -> Prop}:∀ {l:List α} {m:List β},Paired F l m -> ∀ q ∈ l.zip m,F q.1 q.2
 | _,_,.nil,q,h=>by simp at h
 | _,_,.cons p r,q,h=>by
  rw [List.zip_cons_cons] at h
  rcases List.mem_cons.mp h with rfl | h
  ·exact p
  ·exact paired_mem r q h
theorem paired_zip {α β γ:Type} {F:α -> γ -> Prop}:∀ {l:List α} {m:List β} {n:List γ},l.length = m.length -> Paired (fun (q:α × β) c=>F q.1 c) (l.zip m) n -> Paired F l n
 | [],[],_,_,h=>by cases h; exact .nil
 | a :: l,b :: m,_,e,h=>by
  rw [List.zip_cons_cons] at h
  cases h with
  | cons r t=>exact .cons r (paired_zip (by simpa using e) t)
theorem paired_mapL {α β γ:Type} {F:γ -> β -> Prop} {f:α -> γ}:∀ {l:List α} {m:List β},Paired (fun a b=>F (f a) b) l m -> Paired F (l.map f) m
 | _,_,.nil=>.nil
 | _,_,.cons r t=>.cons r (paired_mapL t)
theorem paired_app {α β:Type} {F:α -> β -> Prop}:∀ {l:List α} {m:List β} {l':List α} {m':List β},Paired F l m -> Paired F l' m' -> Paired F (l ++ l') (m ++ m')
 | _,_,_,_,.nil,h=>h
 | _,_,_,_,.cons r t,h=>.cons r (paired_app t h)
theorem foldl_set_len (l:List (Nat × Nat)):∀ r:List Nat,(l.foldl (fun r q=>r.set q.2 q.1) r).length = r.length:=by
 induction l with
 | nil=>intro r; rfl
 | cons q l ih=>intro r; rw [List.foldl_cons,ih,List.length_set]
noncomputable abbrev sg (c:Nat):V:=V.str (st [c])
noncomputable def headLen (hs:List (List Nat)):Nat:=(hs.headD []).length
theorem headLen_n {hs:List (List Nat)} {n:Nat} (h:∀ r ∈ hs,r.length = n) {r:List Nat} (hr:r ∈ hs):headLen hs = n:=by
 cases hs with
 | nil=>cases hr
 | cons r0 hs=>exact h r0 List.mem_cons_self
theorem places_lt {hs:List (List Nat)} {w i:Nat} (h:i ∈ placesL hs w):i < w:=by
 simpa using (List.mem_filter.mp h).1
noncomputable abbrev Rule:=List Nat × List Nat × List Nat
def RuleAt (H:Hp) (x:Rule) (v:V):Prop:=∃ t,v = .ref t /\ H t = some (.tup [tx x.1,tx x.2.1,tx x.2.2])
def Rules (H:Hp) (p:Addr) (rs:List Rule):Prop:=∃ vs,H p = some (.lst vs) /\ Paired (RuleAt H) rs vs
theorem rules_keep {H H':Hp} (k:∀ t vs,H t = some (.tup vs) -> H' t = some (.tup vs)) {rs:List Rule} {vs:List V} (h:Paired (RuleAt H) rs vs):Paired (RuleAt H') rs vs:=
 L2.Paired.mapP h fun _ _ ⟨t,e,q⟩=>⟨t,e,k _ _ q⟩
theorem keep_lst {H:Hp} {g:Addr} {xs ys:List V} (h:H g = some (.lst xs)):∀ t vs,H t = some (.tup vs) -> upd H g (.lst ys) t = some (.tup vs):=fun t vs q=>by
 rw [upd_ne (fun e=>by rw [e,h] at q; cases q)]
 exact q
theorem Rules.same {H H':Hp} {p:Addr} {rs:List Rule} (h:Rules H p rs) (s:Same H H'):Rules H' p rs:=by
 obtain ⟨vs,e,pr⟩:=h
 exact ⟨vs,s _ _ e,rules_keep (fun t us q=>s _ _ q) pr⟩
noncomputable def ruleD (x:Rule):D:=.t [.f (tx x.1),.f (tx x.2.1),.f (tx x.2.2)]
theorem rules_deep {H:Hp} {p:Addr} {rs:List Rule} (h:Rules H p rs):Deep K H 2 (.ref p) (.l (rs.map ruleD)):=by
 obtain ⟨vs,e,pr⟩:=h
 refine .inr (.inl ⟨p,vs,rs.map ruleD,rfl,rfl,SqL.of e,?_⟩)
 clear e
 induction pr with
 | nil=>exact .nil
 | cons r _ ih=>
  obtain ⟨t,rfl,q⟩:=r
  exact .cons (.inr (.inr ⟨t,_,_,rfl,rfl,SqT.of q,.cons (deep_flat 0 rfl) (.cons (deep_flat 0 rfl) (.cons (deep_flat 0 rfl) .nil))⟩)) ih
theorem eqDs_refl_rule:∀ rs:List Rule,eqDs (rs.map ruleD) (rs.map ruleD) = true
 | []=>by simp [eqDs]
 | x :: rs=>by
  rw [List.map_cons,eqDs,eqDs_refl_rule rs]
  simp [ruleD,eqD,eqDs,eqV]
noncomputable def firstR (rs:List Rule) (l:List Nat):Nat:=rs.findIdx fun r=>within l r.1
noncomputable def dropT:List Nat:=[100,114,111,112]
noncomputable def passT:List Nat:=[112,97,115,115]
noncomputable def deedV (rs:List Rule) (k:Nat) (l:List Nat):List V:=match rs[k]? with
 | some r=>if r.2.1 = dropT then [tx dropT,.non] else [tx passT,tx (written l r.2.2)]
 | none=>[tx dropT,.non]
noncomputable def dropB (rs:List Rule) (k:Nat):Bool:=match rs[k]? with
 | some r=>decide (r.2.1 = dropT)
 | none=>true
noncomputable def sp_is_dropped (K:Frag):Sp:=fun vs H Q _=>match vs with
 | [.ref p,.int k]=>∃ (rs:List Rule) (j:Nat),Rules H p rs /\ k = (j:Int) /\ j <= rs.length /\ Q (.bl (dropB rs j)) H
 | _=>False
theorem ok_is_dropped (T:Top K mg):Callee P w K mg base 1 "is_dropped" ["rules", "number"] (sp_is_dropped K):=by
 refine T.f_is_dropped.cal sc_is_dropped (by intro vs H Q E h; unfold sp_is_dropped at h; split at h <;> first | rfl | exact h.elim) (fun _ _ _ _ _ _ us hl=>match us,hl with | [_,_],_=>rfl) (fun f cdv A outer s H vs Q E hr h=>?_)
 unfold sp_is_dropped at h
 split at h
 case h_2=>exact h.elim
 refine ⟨_,(pss_one (ps_ret (qe_or (qe_cmp op_eqK (qv 1) (pe_callB (lenE K rfl) rfl T.b_len bb_len (pa_cons (qv 0) pa_nil))) (pe_one (qe_cmp op_eqK (pe_ix (ixE K rfl) (pe_ix (ixE K rfl) (qv 0) (qv 1) (fun _ _=>rfl)) pe_int (fun _ _=>rfl)) (qs [100,114,111,112])))))),?_⟩
 rename_i p k
 obtain ⟨rs,j,⟨vs,e0,pr⟩,rfl,hj,q⟩:=h
 have hlv:=pr.length
 walk_at "rd"
 refine ⟨vs,.inl (SqL.of e0),ite2 (fun g=>?_) fun g=>?_⟩
 ·have e:rs[j]? = none:=List.getElem?_eq_none (by omega)
  have:dropB rs j = true:=by unfold dropB; rw [e]
  rw [this] at q
  exact q
 have hjl:j < rs.length:=by omega
 obtain ⟨y,hy,t',ey,et⟩:=paired_at pr (List.getElem?_eq_getElem hjl)
 subst ey
 refine ⟨vs,_,.inl (SqL.of e0),atI_nat hy,?_⟩
 walk_at "rd"
 refine ⟨_,_,.inr (SqT.of et),rfl,?_⟩
 walk_at "rd"
 have:dropB rs j = decide (rs[j].2.1 = dropT):=by unfold dropB; rw [List.getElem?_eq_getElem hjl]
 rw [this] at q
 exact q
noncomputable def sp_deed_by (K:Frag):Sp:=fun vs H Q _=>match vs with
 | [.ref p,.int k,.str l]=>∃ (rs:List Rule) (j:Nat),Rules H p rs /\ k = (j:Int) /\ j <= rs.length /\ l.cps.toList.length <= 1000 /\ ∀ t H',H t = none -> Same H H' -> H' t = some (.tup (deedV rs j l.cps.toList)) -> Q (.ref t) H'
 | _=>False
theorem ok_deed_by (T:Top K mg):Callee P w K mg base 2 "deed_by" ["rules", "number", "letter"] (sp_deed_by K):=by
 refine T.f_deed_by.cal sc_deed_by (by intro vs H Q E h; unfold sp_deed_by at h; split at h <;> first | rfl | exact h.elim) (fun _ _ _ _ _ _ us hl=>match us,hl with | [_,_,_],_=>rfl) (fun f cdv A outer s H vs Q E hr h=>?_)
 unfold sp_deed_by at h
 split at h
 case h_2=>exact h.elim
 refine ⟨_,(pss_cons (ps_if (qt_val (pe_fn (ok_is_dropped T) hr.m rfl (pa_cons (qv 0) (pa_cons (qv 1) pa_nil)))) (pss_one (ps_ret (pe_tup (pa_cons (qs [100,114,111,112]) (pa_cons pe_non pa_nil))))) pss_nil)
   (pss_one (ps_ret (pe_tup (pa_cons (qs [112,97,115,115]) (pa_cons (pe_fn (ok_row_written T) hr.m rfl (pa_cons (qv 2) (pa_cons (pe_ix (ixE K rfl) (pe_ix (ixE K rfl) (qv 0) (qv 1) (fun _ _=>rfl)) pe_int (fun _ _=>rfl)) pa_nil))) pa_nil)))))),?_⟩
 rename_i p k s
 obtain ⟨l,rfl⟩:∃ x,s = st x:=⟨_,(st_eta s).symm⟩
 obtain ⟨rs,j,⟨vs,e0,pr⟩,rfl,hj,hl,q⟩:=h
 simp only [st_cps] at q hl
 have hlv:=pr.length
 walk_at "rd"
 refine ⟨rs,j,⟨vs,e0,pr⟩,rfl,hj,ite2 (fun g=>⟨by decide,fun t ht=>q t _ ht (same_new ht _) ?_⟩) fun g=>?_⟩
 ·rw [upd_same]
  unfold deedV
  unfold dropB at g
  cases e:rs[j]? with
  | none=>rfl
  | some r=>rw [e] at g; dsimp only at g ⊢; rw [if_pos (of_decide_eq_true g)]; rfl
 have hjl:j < rs.length:=by
  rcases Nat.lt_or_ge j rs.length with z | z
  ·exact z
  ·exfalso
   apply g
   unfold dropB
   rw [List.getElem?_eq_none z]
 have g2:¬ rs[j].2.1 = dropT:=fun z=>by
  apply g
  unfold dropB
  rw [List.getElem?_eq_getElem hjl]
  exact decide_eq_true z
 obtain ⟨y,hy,t',ey,et⟩:=paired_at pr (List.getElem?_eq_getElem hjl)
 subst ey
 refine ⟨vs,_,.inl (SqL.of e0),atI_nat hy,?_⟩
 walk_at "rd"
 refine ⟨_,_,.inr (SqT.of et),rfl,by simp only [st_cps]; exact hl,fun H1 s1=>⟨by decide,fun t ht=>q t _ (s1.free ht) (s1.trans (same_new ht _)) ?_⟩⟩
 rw [upd_same]
 unfold deedV
 rw [List.getElem?_eq_getElem hjl]
 dsimp only
 rw [if_neg g2]
 rfl
noncomputable def sp__law_width:Sp:=fun vs H Q _=>match vs with
 | [.int c]=>∀ w:Nat,1 <= w -> w <= 48 -> Q (.int w) H
 | _=>False
theorem ok__law_width (T:Top K mg):Callee P w K mg base 1 "_law_width" ["_law_cell"] sp__law_width:=by
 refine T.f__law_width.cal sc__law_width (by intro vs H Q E h; unfold sp__law_width at h; split at h <;> first | rfl | exact h.elim) (fun _ _ _ _ _ _ us hl=>match us,hl with | [_],_=>rfl) (fun f cdv A outer s H vs Q E hr h=>?_)
 unfold sp__law_width at h
 split at h
 case h_2=>exact h.elim
 refine ⟨_,(pss_cons (ps_if (qt_cmp op_ltK (pe_op op_modK (qv 0) pe_int) pe_int) (pss_one (ps_ret (pe_op op_addK pe_int (pe_op op_modK (pe_op op_fdivK (qv 0) pe_int) pe_int)))) pss_nil)
   (pss_one (ps_ret (pe_op op_addK pe_int (pe_op op_modK (pe_op op_fdivK (qv 0) pe_int) pe_int))))),?_⟩
 rename_i c
 have key:∀ z:Int,1 <= z -> z <= 48 -> Q (.int z) H:=fun z h1 h2=>by
  have:=h z.toNat (by omega) (by omega)
  rwa [show ((z.toNat:Nat):Int) = z by omega] at this
 walk_at "rd"
 exact ite2 (fun g=>key _ (by omega) (by omega)) fun g=>key _ (by omega) (by omega)
noncomputable def setAll (s ps b:List Nat):List Nat:=(s.zip ps).foldl (fun r q=>r.set q.2 q.1) b
theorem setAll_len (s ps b:List Nat):(setAll s ps b).length = b.length:=foldl_set_len _ _
theorem setAll_step {s ps b:List Nat} {i c d:Nat} (hc:s[i]? = some c) (hd:ps[i]? = some d):setAll (s.take (i + 1)) (ps.take (i + 1)) b = (setAll (s.take i) (ps.take i) b).set d c:=by
 unfold setAll
 have l1:=(List.getElem?_eq_some_iff.mp hc).1
 have l2:=(List.getElem?_eq_some_iff.mp hd).1
 rw [List.take_add_one,List.take_add_one,hc,hd,List.zip_append (by simp; omega),List.foldl_append]
 rfl
theorem setAll_all {s ps b:List Nat} {n:Nat} (h:min s.length ps.length <= n):setAll (s.take n) (ps.take n) b = setAll s ps b:=by
 unfold setAll
 have e:(s.take n).zip (ps.take n) = (s.zip ps).take n:=by
  show List.zipWith Prod.mk (s.take n) (ps.take n) = (List.zipWith Prod.mk s ps).take n
  rw [List.take_zipWith]
 rw [e,List.take_of_length_le (by rw [List.length_zip]; omega)]
noncomputable def sp__law_spread (K:Frag):Sp:=fun vs H Q _=>match vs with
 | [.str s,.ref p,.str b]=>∃ ps:List Nat,SqL K H p (ps.map pl) /\ (∀ i ∈ ps,i < b.cps.toList.length) /\ b.cps.toList.length <= 1000 /\ ∀ H',Same H H' -> Q (tx (setAll s.cps.toList ps b.cps.toList)) H'
 | _=>False
theorem ok__law_spread (T:Top K mg):Callee P w K mg base 1 "_law_spread" ["_law_short", "_law_places_here", "_law_base"] (sp__law_spread K):=by
 refine T.f__law_spread.cal sc__law_spread (by intro vs H Q E h; unfold sp__law_spread at h; split at h <;> first | rfl | exact h.elim) (fun _ _ _ _ _ _ us hl=>match us,hl with | [_,_,_],_=>rfl) (fun f cdv A outer s H vs Q E hr h=>?_)
 unfold sp__law_spread at h
 split at h
 case h_2=>exact h.elim
 refine ⟨_,(pss_cons (qs_for PassesOwn.never rfl (zipE K rfl rfl T.b_zip (qv 0) (qv 1)) (tupE K rfl rfl (n:=2) (pgs_cons (pg_name (i:=3) sc__law_spread.nd rfl lc) (pgs_cons (pg_name (i:=4) sc__law_spread.nd rfl lc) pgs_nil))) (pss_one (ps_set (i:=2) sc__law_spread.nd rfl lc (pe_op op_addK (pe_op op_addK (pe_slice (slE K rfl) (qv 2) po_none (qo_some (qv 4))) (qv 3)) (pe_slice (slE K rfl) (qv 2) (qo_some (pe_op op_addK (qv 4) pe_int)) po_none)))))
   (pss_one (ps_ret (qv 2)))),?_⟩
 rename_i s p b
 obtain ⟨l,rfl⟩:∃ x,s = st x:=⟨_,(st_eta s).symm⟩
 obtain ⟨b,rfl⟩:∃ x,b = st x:=⟨_,(st_eta b).symm⟩
 obtain ⟨ps,h1,h2,h3,q⟩:=h
 simp only [st_cps] at h2 h3 q
 walk_at "rd"
 refine ⟨⟨_,h1⟩,?_⟩
 refine loop_zip (xs:=l.map sg) (ys:=ps.map pl) (fun i σ H'=>∃ u v,σ = [some (.str (st l)),some (.ref p),some (tx (setAll (l.take i) (ps.take i) b)),u,v] /\ Same H H')
  ⟨none,none,rfl,Same.refl _⟩ (fun i σ H' ⟨_,_,_,s⟩=>⟨rfl,s.seq h1⟩) ?_ ?_
 ·rintro i x y σ H1 Tt hx hy ⟨u,v,rfl,s1⟩ hT
  rw [List.getElem?_map] at hx hy
  obtain ⟨c,hc,rfl⟩:=Option.map_eq_some_iff.mp hx
  obtain ⟨d,hd,rfl⟩:=Option.map_eq_some_iff.mp hy
  have hdn:=h2 d (List.mem_of_getElem? hd)
  have hL:=setAll_len (l.take i) (ps.take i) b
  generalize hB:setAll (l.take i) (ps.take i) b = B at hL
  walk_at "rd"
  have e:B.take (d:Int).toNat ++ [c] ++ B.drop ((d:Int) + 1).toNat = B.set d c:=by
   rw [List.set_eq_take_append_cons_drop,if_pos (by omega),show ((d:Int) + 1).toNat = d + 1 by omega,Int.toNat_natCast]
   simp
  refine ⟨by omega,by omega,by omega,by simp; omega,by omega,by omega,by omega,by simp; omega,some (sg c),some (pl d),?_,s1.trans (same_new hT _)⟩
  rw [e,setAll_step hc hd,hB]
 ·rintro σ H1 ⟨u,v,rfl,s1⟩
  rw [List.length_map,List.length_map,setAll_all (Nat.le_refl _)]
  walk_at "rd"
  exact q H1 s1
noncomputable def choicesL:Nat -> List (List Nat)
 | 0=>[[]]
 | n + 1=>(choicesL n).map (fun c=>c ++ [48]) ++ (choicesL n).map fun c=>c ++ [49]
theorem choicesL_len:∀ n,(choicesL n).length = 2 ^ n
 | 0=>rfl
 | n + 1=>by
  rw [choicesL,List.length_append,List.length_map,List.length_map,choicesL_len n,Nat.pow_succ]
  omega
theorem choicesL_width:∀ n,∀ c ∈ choicesL n,c.length = n
 | 0,c,h=>by rw [List.mem_singleton.mp h]; rfl
 | n + 1,c,h=>by
  rw [choicesL] at h
  rcases List.mem_append.mp h with h | h
  ·obtain ⟨d,hd,rfl⟩:=List.mem_map.mp h
   simp [choicesL_width n d hd]
  ·obtain ⟨d,hd,rfl⟩:=List.mem_map.mp h
   simp [choicesL_width n d hd]
noncomputable def sp__law_choices (K:Frag):Sp:=fun vs H Q _=>match vs with
 | [.int m]=>∃ n:Nat,m = (n:Int) /\ n <= 12 /\ ∀ q H',H q = none -> Same H H' -> H' q = some (.lst ((choicesL n).map tx)) -> Q (.ref q) H'
 | _=>False
theorem ok__law_choices (T:Top K mg):Callee P w K mg base 1 "_law_choices" ["_law_many"] (sp__law_choices K):=by
 refine T.f__law_choices.cal sc__law_choices (by intro vs H Q E h; unfold sp__law_choices at h; split at h <;> first | rfl | exact h.elim) (fun _ _ _ _ _ _ us hl=>match us,hl with | [_],_=>rfl) (fun f cdv A outer s H vs Q E hr h=>?_)
 unfold sp__law_choices at h
 split at h
 case h_2=>exact h.elim
 refine ⟨_,(pss_cons (ps_set (i:=1) sc__law_choices.nd rfl lc (pe_lst (pa_cons (qs []) pa_nil)))
   (pss_cons (qs_for PassesOwn.never rfl (qi_range1 rfl T.b_range (qv 0)) (pg_name (i:=2) sc__law_choices.nd rfl lc) (pss_one (ps_set (i:=1) sc__law_choices.nd rfl lc (pe_op op_addK (qe_comp (nt:=1) (fi:=[]) (N':=["_law_one"]) rfl (cscope rfl (by decide +kernel)) (cnames (N:=["_law_many", "_law_found", "_law_k"]) (sc:=defScope s__law_choices) rfl rfl (by decide +kernel)) (gk_name (by decide)) (iterE K rfl (qv 1)) (fun _ _ _ _ _=>(pg_name (i:=0) (by show (["_law_one"]:List Str).Nodup; decide +kernel) rfl lc)) (fun _ _ _ _ _=>pif_nil) (fun _ _ _ _ _=>(pe_op op_addK (qv 0) (qs [48])))) (qe_comp (nt:=1) (fi:=[]) (N':=["_law_one"]) rfl (cscope rfl (by decide +kernel)) (cnames (N:=["_law_many", "_law_found", "_law_k"]) (sc:=defScope s__law_choices) rfl rfl (by decide +kernel)) (gk_name (by decide)) (iterE K rfl (qv 1)) (fun _ _ _ _ _=>(pg_name (i:=0) (by show (["_law_one"]:List Str).Nodup; decide +kernel) rfl lc)) (fun _ _ _ _ _=>pif_nil) (fun _ _ _ _ _=>(pe_op op_addK (qv 0) (qs [49]))))))))
   (pss_one (ps_ret (qv 1))))),?_⟩
 rename_i m
 obtain ⟨n,rfl,hn,q⟩:=h
 walk_at "rd"
 refine ⟨by decide,fun z hz=>⟨by omega,by omega,?_⟩⟩
 refine loop_range (fun i σ H'=>∃ a u,σ = [some (.int n),some (.ref a),u] /\ Same H H' /\ H a = none /\ H' a = some (.lst ((choicesL i).map tx))) ⟨z,none,rfl,same_new hz _,hz,upd_same⟩ ?_ ?_
 ·rintro i σ H1 hi ⟨a,u,rfl,s1,ha,e1⟩
  have hi':i < n:=by simpa using hi
  have hl:=choicesL_len i
  have hp:2 ^ i <= 2 ^ 12:=Nat.pow_le_pow_right (by decide) (by omega)
  have hw:=choicesL_width i
  walk_at "rd"
  refine .inl ⟨⟨_,SqL.of e1⟩,fun D hD=>?_⟩
  refine comp_list (item:=tx) (xs:=choicesL i) (h:=fun c=>[tx (c ++ [48])]) hD (SqL.of e1) (by omega) (fun _=>by simp) ?_ ?_
  ·intro c H2 out non hc s2 ho hn
   have:=hw c hc
   walk_at "rd"
   exact ⟨by omega,ho _ _ rfl (Same.refl _)⟩
  intro H2 s2 e2
  rw [flat_one (fun c:List Nat=>tx (c ++ [48])) (choicesL i)] at e2
  have e12:=s2 _ _ e1
  refine .inl ⟨⟨_,SqL.of e12⟩,fun D2 hD2=>?_⟩
  refine comp_list (item:=tx) (xs:=choicesL i) (h:=fun c=>[tx (c ++ [49])]) hD2 (SqL.of e12) (by omega) (fun _=>by simp) ?_ ?_
  ·intro c H3 out non hc s3 ho hn
   have:=hw c hc
   walk_at "rd"
   exact ⟨by omega,ho _ _ rfl (Same.refl _)⟩
  intro H3 s3 e3
  rw [flat_one (fun c:List Nat=>tx (c ++ [49])) (choicesL i)] at e3
  walk_at "rd"
  refine ⟨_,_,s3 _ _ e2,e3,by rw [List.length_map,List.length_map,sizeLine_eq]; omega,fun r hr=>⟨r,some (.int i),rfl,?_,?_,?_⟩⟩
  ·exact (s1.trans (s2.trans s3)).trans (same_new hr _)
  ·exact (s1.trans (s2.trans s3)).free hr
  ·rw [upd_same,choicesL,List.map_append,List.map_map,List.map_map]
   rfl
 ·rintro σ H1 ⟨a,u,rfl,s1,ha,e1⟩
  walk_at "rd"
  rw [Int.toNat_natCast] at e1
  exact q a H1 ha s1 e1
def IsRows (rs:List (List Nat)) (n:Nat):Prop:=∀ r ∈ rs,r.length = n /\ IsRow r
theorem in_ints (x:Nat) (ms:List Nat):inV (V.int x) (ms.map pl) = decide (x ∈ ms):=by
 unfold inV
 rw [List.any_map,Bool.eq_iff_iff,List.any_eq_true,decide_eq_true_eq]
 constructor
 ·rintro ⟨y,hy,e⟩
  have e:((y:Int) == (x:Int)) = true:=e
  rw [beq_iff_eq] at e
  have e:y = x:=by omega
  exact e ▸ hy
 ·intro h
  exact ⟨x,h,by show ((x:Int) == (x:Int)) = true; simp⟩
theorem flat_ints (ms:List Nat):(ms.map pl).all flatV = true:=by
 rw [List.all_map,List.all_eq_true]
 intro _ _
 rfl
noncomputable def srtN (ms:List Nat):List Nat:=(srtI (ms.map fun (x:Nat)=>(x:Int))).map Int.toNat
theorem srtN_cast (ms:List Nat):(srtN ms).map (fun (x:Nat)=>(x:Int)) = srtI (ms.map fun (x:Nat)=>(x:Int)):=by
 unfold srtN
 rw [List.map_map]
 conv=>rhs; rw [<- List.map_id (srtI _)]
 apply List.map_congr_left
 intro z hz
 have:=(srtI_perm _).mem_iff.mp hz
 obtain ⟨y,_,rfl⟩:=List.mem_map.mp this
 simp
theorem srtN_perm (ms:List Nat):(srtN ms).Perm ms:=by
 have:=(srtI_perm (ms.map fun (x:Nat)=>(x:Int))).map Int.toNat
 rw [List.map_map] at this
 refine this.trans (List.Perm.of_eq ?_)
 conv=>rhs; rw [<- List.map_id ms]
 apply List.map_congr_left
 intro x _
 simp
theorem srtN_sorted {ms:List Nat} (h:ms.Nodup):(srtN ms).Pairwise (· < ·):=by
 have a:=srtI_sorted (ms.map fun (x:Nat)=>(x:Int))
 rw [<- srtN_cast,List.pairwise_map] at a
 have b:(srtN ms).Nodup:=(srtN_perm ms).nodup_iff.mpr h
 refine (List.Pairwise.and a b).imp fun {x y} ⟨p,q⟩=>?_
 have:x ≠ y:=q
 omega
noncomputable def sp__law_places (K:Frag):Sp:=fun vs H Q _=>match vs with
 | [.int c,.int w]=>1 <= w /\ w <= 48 /\ ∀ (ps:List Nat) q H',ps.Pairwise (· < ·) -> (∀ i ∈ ps,(i:Int) < w) -> ps.length <= 8 -> 1 <= ps.length -> H q = none -> Same H H' -> H' q = some (.lst (ps.map pl)) -> Q (.ref q) H'
 | _=>False
theorem ok__law_places (T:Top K mg):Callee P w K mg base 2 "_law_places" ["_law_cell", "_law_width_here"] (sp__law_places K):=by
 refine T.f__law_places.cal sc__law_places (by intro vs H Q E h; unfold sp__law_places at h; split at h <;> first | rfl | exact h.elim) (fun _ _ _ _ _ _ us hl=>match us,hl with | [_,_],_=>rfl) (fun f cdv A outer s H vs Q E hr h=>?_)
 unfold sp__law_places at h
 split at h
 case h_2=>exact h.elim
 refine ⟨_,(pss_cons (ps_if (qt_cmp op_leK (qv 1) pe_int) (pss_one (ps_ret (qe_listrng rfl rfl T.b_list rfl T.b_range (qv 1)))) pss_nil)
   (pss_cons (ps_set (i:=2) sc__law_places.nd rfl lc (pe_lst pa_nil))
   (pss_cons (ps_set (i:=3) sc__law_places.nd rfl lc pe_int)
   (pss_join (ps_if (qt_cmp op_eqK (pe_op op_modK (pe_op op_fdivK (qv 0) pe_int) pe_int) pe_int) (pss_one (ps_set (i:=3) sc__law_places.nd rfl lc pe_int)) pss_nil)
   (pss_cons (qs_for PassesOwn.never rfl (iterE K rfl (pe_fn (ok__law_stream T) hr.m rfl (pa_cons (qv 0) (pa_cons (qv 3) pa_nil)))) (pg_name (i:=4) sc__law_places.nd rfl lc) (pss_one (ps_if (qt_cmp (notinE K rfl) (pe_op op_modK (qv 4) (qv 1)) (qv 2)) (pss_one (ps_expr (qe_append (qv 2) (pe_op op_modK (qv 4) (qv 1))))) pss_nil)))
   (pss_one (ps_ret (pe_callB (call_sortedI K rfl) rfl T.b_sorted bb_sorted (pa_cons (qv 2) pa_nil))))))))),?_⟩
 rename_i c w
 obtain ⟨h1,h2,q⟩:=h
 walk_at "rd"
 refine ite2 (fun g=>⟨by omega,by omega,fun p hp=>?_⟩) fun g=>?_
 ·refine q (List.range w.toNat) p _ (List.pairwise_lt_range) (fun i hi=>?_) (by simp; omega) (by simp; omega) hp (same_new hp _) upd_same
  have:=List.mem_range.mp hi
  omega
 ·refine ⟨by decide,fun p hp=>⟨fun σ' H'=>∃ m:Int,5 <= m /\ m <= 8 /\ σ' = [some (.int c),some (.int w),some (.ref p),some (.int m),none] /\ H' = upd H p (.lst []),ite2 (fun _=>⟨8,by decide,by decide,rfl,rfl⟩) fun _=>⟨5,by decide,by decide,rfl,rfl⟩,?_⟩⟩
  rintro σ' H' ⟨m,hm1,hm2,rfl,rfl⟩
  walk_at "rd"
  refine ⟨by omega,by omega,fun a H1 fa s1 e1=>.inl ⟨⟨_,SqL.of e1⟩,?_⟩⟩
  have npa:p ≠ a:=ne_of_none upd_same fa
  have sl:=stream_len c m.toNat
  refine loop_items V.int (stream c m.toNat) (fun i σ H'=>∃ u,∃ ms:List Nat,σ = [some (.int c),some (.int w),some (.ref p),some (.int m),u] /\ Same H H' /\ H' a = some (.lst ((stream c m.toNat).map V.int)) /\ H' p = some (.lst (ms.map pl)) /\ ms.Nodup /\ (∀ x ∈ ms,(x:Int) < w) /\ ms.length <= i /\ (0 < i -> 1 <= ms.length))
   ⟨none,[],rfl,(same_new hp _).trans s1,e1,s1 _ _ upd_same,List.nodup_nil,fun x hx=>(List.not_mem_nil hx).elim,Nat.le_refl _,fun z=>absurd z (Nat.lt_irrefl _)⟩ (fun i σ H' _ ⟨_,_,_,_,z,_⟩=>SqL.of z) ?_ ?_
  ·rintro i e σ H2 he ⟨u,ms,rfl,s2,e2,e3,nd,lt,le,ge⟩
   have hi:=(List.getElem?_eq_some_iff.mp he).1
   obtain ⟨x,hx⟩:∃ x:Nat,e % w = (x:Int):=⟨(e % w).toNat,by have:=Int.emod_nonneg e (show w ≠ 0 by omega); omega⟩
   have hxw:(x:Int) < w:=by rw [<- hx]; exact Int.emod_lt_of_pos e (by omega)
   walk_at "rd"
   refine ⟨by omega,_,.inl (SqL.of e3),rfl,flat_ints ms,?_⟩
   rw [hx,in_ints]
   refine ite2 (fun g1=>?_) fun g1=>?_
   ·have nm:x ∉ ms:=of_decide_eq_false g1
    refine ⟨⟨_,e3⟩,by omega,_,e3,by rw [List.length_map]; exact sizeBig (by omega),some (.int e),ms ++ [x],rfl,same_upd s2 hp,by rw [upd_ne npa.symm]; exact e2,?_,?_,?_,by simp; omega,fun _=>by simp⟩
    ·rw [upd_same,List.map_append]
     rfl
    ·rw [List.nodup_append]
     exact ⟨nd,by simp,fun y hy z hz=>by rw [List.mem_singleton.mp hz]; exact fun e=>nm (e ▸ hy)⟩
    ·intro y hy
     rcases List.mem_append.mp hy with hy | hy
     ·exact lt y hy
     ·rw [List.mem_singleton.mp hy]; exact hxw
   ·have im:x ∈ ms:=Classical.byContradiction fun z=>g1 (decide_eq_false z)
    exact ⟨some (.int e),ms,rfl,s2,e2,e3,nd,lt,by omega,fun _=>List.length_pos_of_mem im⟩
  ·rintro σ H2 ⟨u,ms,rfl,s2,e2,e3,nd,lt,le,ge⟩
   walk_at "rd"
   rw [sl] at le ge
   refine ⟨ms.map fun (x:Nat)=>(x:Int),SqL.of (by rw [e3,List.map_map]; rfl),by rw [List.length_map]; omega,fun r hr=>?_⟩
   have pm:=srtN_perm ms
   refine q (srtN ms) r _ (srtN_sorted nd) (fun i hi=>lt i (pm.mem_iff.mp hi)) (by rw [pm.length_eq]; omega) (by rw [pm.length_eq]; exact ge (by omega)) (s2.free hr) (s2.trans (same_new hr _)) ?_
   rw [upd_same,<- srtN_cast,List.map_map]
   rfl
theorem sign3 (m:Int):∃ c,atI [48,49,45] (m % 3) = some c /\ (c = 48 \/ c = 49 \/ c = 45):=by
 have h1:=Int.emod_nonneg m (show (3:Int) ≠ 0 by decide)
 have h2:=Int.emod_lt_of_pos m (show (0:Int) < 3 by decide)
 generalize m % 3 = k at h1 h2
 have:k = 0 \/ k = 1 \/ k = 2:=by omega
 rcases this with rfl | rfl | rfl
 ·exact ⟨48,rfl,.inl rfl⟩
 ·exact ⟨49,rfl,.inr (.inl rfl)⟩
 ·exact ⟨45,rfl,.inr (.inr rfl)⟩
noncomputable def sp__law_shorts (K:Frag):Sp:=fun vs H Q _=>match vs with
 | [.ref p,.int m]=>∃ (ns:List Int) (n:Nat),SqL K H p (ns.map V.int) /\ m = (n:Int) /\ n <= 100 /\ ns.length <= 100 /\ ∀ (rs:List (List Nat)) q H',rs.length = ns.length -> IsRows rs n -> H q = none -> Same H H' -> H' q = some (.lst (rs.map tx)) -> Q (.ref q) H'
 | _=>False
theorem ok__law_shorts (T:Top K mg):Callee P w K mg base 2 "_law_shorts" ["_law_cells", "_law_many"] (sp__law_shorts K):=by
 refine T.f__law_shorts.cal sc__law_shorts (by intro vs H Q E h; unfold sp__law_shorts at h; split at h <;> first | rfl | exact h.elim) (fun _ _ _ _ _ _ us hl=>match us,hl with | [_,_],_=>rfl) (fun f cdv A outer s H vs Q E hr h=>?_)
 unfold sp__law_shorts at h
 split at h
 case h_2=>exact h.elim
 refine ⟨_,(pss_cons (ps_set (i:=2) sc__law_shorts.nd rfl lc (pe_lst pa_nil))
   (pss_cons (qs_for PassesOwn.never rfl (iterE K rfl (qv 0)) (pg_name (i:=3) sc__law_shorts.nd rfl lc) (pss_cons (ps_set (i:=4) sc__law_shorts.nd rfl lc (pe_op op_addK pe_int (pe_op op_modK (qv 3) pe_int)))
   (pss_cons (ps_set (i:=5) sc__law_shorts.nd rfl lc (pe_lst pa_nil))
   (pss_cons (qs_for PassesOwn.never rfl (iterE K rfl (pe_fn (ok__law_stream T) hr.m rfl (pa_cons (pe_op op_fdivK (qv 3) pe_int) (pa_cons (qv 1) pa_nil)))) (pg_name (i:=6) sc__law_shorts.nd rfl lc) (pss_cons (ps_expr (qe_append (qv 5) (pe_ix (ixE K rfl) (qs [48,49,45]) (pe_op op_modK (pe_op op_fdivK (qv 6) pe_int) pe_int) (fun _ _=>rfl))))
   (pss_one (ps_if (qt_cmp op_ltK (pe_op op_modK (qv 6) pe_int) (pe_op op_subK (qv 4) pe_int)) (pss_one (ps_asg (qs [45]) (pg_sub (qv 5) (qe_neg pe_int) set_list (fun _=>rfl)))) pss_nil))))
   (pss_one (ps_expr (qe_append (qv 2) (joinE K rfl (qv 5)))))))))
   (pss_one (ps_ret (qv 2))))),?_⟩
 rename_i p m
 obtain ⟨ns,n,h1,rfl,hn,hl,q⟩:=h
 walk_at "rd"
 refine ⟨by decide,fun g hg=>.inl ⟨⟨_,(same_new hg _).seq h1⟩,?_⟩⟩
 refine loop_items V.int ns (fun i σ H'=>∃ u1 u2 u3 u4,∃ rs:List (List Nat),σ = [some (.ref p),some (.int n),some (.ref g),u1,u2,u3,u4] /\ Same H H' /\ H' g = some (.lst (rs.map tx)) /\ rs.length = i /\ IsRows rs n)
  ⟨none,none,none,none,[],rfl,same_new hg _,upd_same,rfl,fun r hr=>(List.not_mem_nil hr).elim⟩ (fun i σ H' _ ⟨_,_,_,_,_,_,s,_⟩=>s.seq h1) ?_ ?_
 ·rintro i c σ H1 hc ⟨u1,u2,u3,u4,rs,rfl,s1,e1,len,rows⟩
  have hi:=(List.getElem?_eq_some_iff.mp hc).1
  walk_at "rd"
  refine ⟨by decide,fun z hz=>⟨by omega,by omega,fun a H2 fa s2 e2=>.inl ⟨⟨_,SqL.of e2⟩,?_⟩⟩⟩
  rw [Int.toNat_natCast] at e2
  have gz:g ≠ z:=ne_of_none e1 hz
  have za:z ≠ a:=ne_of_none upd_same fa
  have zH:H z = none:=s1.free hz
  have s02:=(s1.trans (same_new hz (.lst []))).trans s2
  have sl:=stream_len (c / 3) n
  refine loop_items V.int (stream (c / 3) n) (fun j σ H'=>∃ u,∃ l:List Nat,σ = [some (.ref p),some (.int n),some (.ref g),some (.int c),some (.int (1 + c % 3)),some (.ref z),u] /\ Same H H' /\ H' g = some (.lst (rs.map tx)) /\ H' a = some (.lst ((stream (c / 3) n).map V.int)) /\ H' z = some (.lst (l.map sg)) /\ l.length = j /\ IsRow l)
   ⟨_,[],rfl,s02,s2 _ _ (by rw [upd_ne gz]; exact e1),e2,s2 _ _ upd_same,rfl,fun r hr=>(List.not_mem_nil hr).elim⟩ (fun i σ H' _ ⟨_,_,_,_,_,w,_⟩=>SqL.of w) ?_ ?_
  ·rintro j e σ H3 he ⟨u,l,rfl,s3,g3,a3,z3,l3,r3⟩
   have hj:=(List.getElem?_eq_some_iff.mp he).1
   rw [sl] at hj
   walk_at "rd"
   obtain ⟨d,hd,hd3⟩:=sign3 (e / 8)
   have ag:a ≠ g:=fun x=>by subst x; rw [upd_ne gz,e1] at fa; cases fa
   have small:(l.map sg).length < sizeLine:=by rw [List.length_map]; exact sizeBig (by omega)
   have fin:∀ k,(k = 48 \/ k = 49 \/ k = 45) -> IsRow (l ++ [k]):=fun k hk x hx=>by
    rcases List.mem_append.mp hx with hx | hx
    ·exact r3 x hx
    ·rw [List.mem_singleton.mp hx]; exact hk
   refine ⟨⟨_,z3⟩,d,hd,_,z3,small,ite2 (fun _=>⟨_,l.length,upd_same,?_,?_⟩) fun _=>?_⟩
   ·rw [List.length_append,List.length_map,List.length_singleton]
    unfold ixN
    rw [if_neg (by decide),if_pos (by omega)]
    congr 1
    omega
   ·refine ⟨some (.int e),l ++ [45],rfl,same_upd (same_upd s3 zH) zH,?_,?_,?_,by simp [l3],fin 45 (.inr (.inr rfl))⟩
    ·rw [upd_ne gz,upd_ne gz]; exact g3
    ·rw [upd_ne za.symm,upd_ne za.symm]; exact a3
    ·rw [upd_same,List.set_append_right _ _ (by rw [List.length_map]; exact Nat.le_refl _),List.length_map,Nat.sub_self,List.map_append]
     rfl
   ·refine ⟨some (.int e),l ++ [d],rfl,same_upd s3 zH,?_,?_,?_,by simp [l3],fin d hd3⟩
    ·rw [upd_ne gz]; exact g3
    ·rw [upd_ne za.symm]; exact a3
    ·rw [upd_same,List.map_append]
     rfl
  ·rintro σ H3 ⟨u,l,rfl,s3,g3,a3,z3,l3,r3⟩
   rw [sl] at l3
   walk_at "rd"
   refine ⟨⟨_,g3⟩,l,SqL.of z3,by omega,_,g3,by rw [List.length_map]; exact sizeBig (by omega),_,_,_,_,rs ++ [l],rfl,same_upd s3 hg,?_,by simp [len],?_⟩
   ·rw [upd_same,List.map_append]
    rfl
   ·intro r hr
    rcases List.mem_append.mp hr with hr | hr
    ·exact rows r hr
    ·rw [List.mem_singleton.mp hr]; exact ⟨l3,r3⟩
 ·rintro σ H1 ⟨u1,u2,u3,u4,rs,rfl,s1,e1,len,rows⟩
  walk_at "rd"
  exact q rs g H1 len rows hg s1 e1
theorem setAll_cons (x p:Nat) (s ps b:List Nat):setAll (x :: s) (p :: ps) b = setAll s ps (b.set p x):=rfl
theorem written_set:∀ (b d:List Nat) (p x y:Nat),b.length = d.length -> written (b.set p x) (d.set p y) = (written b d).set p (wSign x y)
 | [],[],p,x,y,_=>by simp [written]
 | a :: b,c :: d,0,x,y,_=>by simp [written]
 | a :: b,c :: d,p + 1,x,y,hl=>by
  have ih:=written_set b d p x y (by simpa using hl)
  simp only [written,List.set_cons_succ,List.zip_cons_cons,List.map_cons] at ih ⊢
  rw [ih]
theorem written_setAll:∀ (ps o c b d:List Nat),o.length = ps.length -> c.length = ps.length -> b.length = d.length -> written (setAll c ps b) (setAll o ps d) = setAll (written c o) ps (written b d)
 | [],o,c,b,d,h1,h2,_=>by
  have e1:o = []:=List.length_eq_zero_iff.mp h1
  have e2:c = []:=List.length_eq_zero_iff.mp h2
  subst e1; subst e2
  rfl
 | p :: ps,x :: o,y :: c,b,d,h1,h2,hl=>by
  rw [setAll_cons,setAll_cons,written_setAll ps o c _ _ (by simpa using h1) (by simpa using h2) (by simpa using hl),written_set b d p y x hl]
  rfl
noncomputable def sp__law_written (K:Frag):Sp:=fun vs H Q _=>match vs with
 | [.str a,.str b]=>a.cps.toList.length <= 1000 /\ ∀ H',Same H H' -> Q (tx (written a.cps.toList b.cps.toList)) H'
 | _=>False
theorem ok__law_written (T:Top K mg):Callee P w K mg base 1 "_law_written" ["_law_choice", "_law_over"] (sp__law_written K):=by
 refine T.f__law_written.cal sc__law_written (by intro vs H Q E h; unfold sp__law_written at h; split at h <;> first | rfl | exact h.elim) (fun _ _ _ _ _ _ us hl=>match us,hl with | [_,_],_=>rfl) (fun f cdv A outer s H vs Q E hr h=>?_)
 unfold sp__law_written at h
 split at h
 case h_2=>exact h.elim
 refine ⟨_,(pss_one (ps_ret (joinE K rfl (qe_comp (nt:=2) (fi:=[]) (N':=["_law_own", "_law_sign"]) rfl (cscope rfl (by decide +kernel)) (cnames (N:=["_law_choice", "_law_over"]) (sc:=defScope s__law_written) rfl rfl (by decide +kernel)) (gk_tup2 (by decide) (by decide)) (zipE K rfl rfl T.b_zip (qv 0) (qv 1)) (fun _ _ _ _ _=>(tupE K rfl rfl (n:=2) (pgs_cons (pg_name (i:=0) (by show (["_law_own", "_law_sign"]:List Str).Nodup; decide +kernel) rfl lc) (pgs_cons (pg_name (i:=1) (by show (["_law_own", "_law_sign"]:List Str).Nodup; decide +kernel) rfl lc) pgs_nil)))) (fun _ _ _ _ _=>pif_nil) (fun _ _ _ _ _=>(pe_ix (ixE K rfl) (pe_lst (pa_cons (qv 0) (pa_cons (qv 1) pa_nil))) (pe_callTy call_intK rfl T.b_int bb_int (pa_cons (qe_cmp op_neK (qv 1) (qs [45])) pa_nil)) (fun _ _=>rfl))))))),?_⟩
 rename_i a b
 obtain ⟨r,rfl⟩:∃ x,a = st x:=⟨_,(st_eta a).symm⟩
 obtain ⟨o,rfl⟩:∃ x,b = st x:=⟨_,(st_eta b).symm⟩
 obtain ⟨h1,q⟩:=h
 simp only [st_cps] at h1 q
 walk_at "rd"
 intro D hD
 refine comp_zip (us:=r.map fun c=>V.str (st [c])) (ws:=o.map fun c=>V.str (st [c])) (h:=fun x y=>[V.str (st [wSign (vcode x) (vcode y)])]) hD (fun _ _=>rfl) (fun _ _=>rfl) (by simp; omega) (fun _ _=>by simp) ?_ ?_
 ·intro x y H1 out non hm s1 ho hn
  obtain ⟨hx,hy⟩:=List.of_mem_zip hm
  obtain ⟨c,_,rfl⟩:=List.mem_map.mp hx
  obtain ⟨d,_,rfl⟩:=List.mem_map.mp hy
  walk_at "rd"
  refine ⟨by decide,fun p hp=>?_⟩
  by_cases h4:d = 45
  ·exact ⟨_,V.str (st [c]),.inl (SqL.of upd_same),by rw [if_pos h4]; rfl,ho _ _ (by simp [wSign,vcode,h4]) (same_new hp _)⟩
  ·exact ⟨_,V.str (st [d]),.inl (SqL.of upd_same),by rw [if_neg h4]; rfl,ho _ _ (by simp [wSign,vcode,h4]) (same_new hp _)⟩
 ·intro H1 s1 e1
  rw [zip_signs] at e1
  exact ⟨_,SqL.of e1,by simp [written]; omega,q H1 s1⟩
noncomputable def firstS (rs:List Rule) (c:List Nat):Nat:=rs.findIdx fun r=>okL r.1 c
noncomputable def sp__law_first (K:Frag):Sp:=fun vs H Q _=>match vs with
 | [.ref p,.str c]=>∃ rs:List Rule,Rules H p rs /\ rs.length <= 1000 /\ ∀ H',Same H H' -> Q (.int (firstS rs c.cps.toList)) H'
 | _=>False
theorem ok__law_first (T:Top K mg):Callee P w K mg base 2 "_law_first" ["_law_rules_here", "_law_choice"] (sp__law_first K):=by
 refine T.f__law_first.cal sc__law_first (by intro vs H Q E h; unfold sp__law_first at h; split at h <;> first | rfl | exact h.elim) (fun _ _ _ _ _ _ us hl=>match us,hl with | [_,_],_=>rfl) (fun f cdv A outer s H vs Q E hr h=>?_)
 unfold sp__law_first at h
 split at h
 case h_2=>exact h.elim
 refine ⟨_,(pss_cons (qs_for PassesOwn.never rfl (qi_range1 rfl T.b_range (pe_callB (lenE K rfl) rfl T.b_len bb_len (pa_cons (qv 0) pa_nil))) (pg_name (i:=2) sc__law_first.nd rfl lc) (pss_one (ps_if (qt_val (pe_fn (ok__law_fits T) hr.m rfl (pa_cons (pe_ix (ixE K rfl) (pe_ix (ixE K rfl) (qv 0) (qv 2) (fun _ _=>rfl)) pe_int (fun _ _=>rfl)) (pa_cons (qv 1) pa_nil)))) (pss_one (ps_ret (qv 2))) pss_nil)))
   (pss_one (ps_ret (pe_callB (lenE K rfl) rfl T.b_len bb_len (pa_cons (qv 0) pa_nil))))),?_⟩
 rename_i p s
 obtain ⟨l,rfl⟩:∃ x,s = st x:=⟨_,(st_eta s).symm⟩
 obtain ⟨rs,⟨vs,e0,pr⟩,hn,q⟩:=h
 simp only [st_cps] at q
 have hl:=pr.length
 walk_at "rd"
 refine ⟨vs,.inl (SqL.of e0),by omega,by omega,?_⟩
 rw [Int.toNat_natCast]
 refine loop_range (fun i σ H'=>∃ u,σ = [some (.ref p),some (.str (st l)),u] /\ Same H H' /\ ∀ r ∈ rs.take i,okL r.1 l = false) ⟨none,rfl,Same.refl _,fun r hr=>by simp at hr⟩ ?_ ?_
 ·rintro i σ H1 hi ⟨u,rfl,s1,h1⟩
  have hiw:i < rs.length:=by omega
  obtain ⟨y,hy,t',ey,et⟩:=paired_at pr (List.getElem?_eq_getElem hiw)
  subst ey
  walk_at "rd"
  refine ⟨_,_,.inl (SqL.of (s1 _ _ e0)),atI_nat hy,?_⟩
  walk_at "rd"
  refine ⟨_,_,.inr (SqT.of (s1 _ _ et)),rfl,fun H2 s3=>?_⟩
  simp only [st_cps]
  walk_at "rd"
  refine ite2 (fun g=>?_) fun g=>⟨_,rfl,s1.trans s3,fun r hr=>?_⟩
  ·have e:firstS rs l = i:=(List.findIdx_eq hiw).mpr ⟨g,fun j hj=>h1 rs[j] (List.mem_take_iff_getElem.mpr ⟨j,by omega,rfl⟩)⟩
   have:=q H2 (s1.trans s3)
   rw [e] at this
   exact this
  ·rw [List.take_add_one,List.getElem?_eq_getElem hiw] at hr
   rcases List.mem_append.mp hr with hr | hr
   ·exact h1 r hr
   ·have e:r = rs[i]:=by simpa using hr
    rw [e]
    simpa using g
 ·rintro σ H1 ⟨u,rfl,s1,h1⟩
  walk_at "rd"
  refine ⟨vs,.inl (SqL.of (s1 _ _ e0)),?_⟩
  have e:firstS rs l = vs.length:=by
   unfold firstS
   rw [<- hl]
   exact List.findIdx_eq_length.mpr fun r hr=>h1 r (by rw [<- hl,List.take_length]; exact hr)
  have:=q H1 s1
  rw [e] at this
  exact this
noncomputable def sp__law_deed (K:Frag):Sp:=fun vs H Q _=>match vs with
 | [.ref p,.str c]=>∃ rs:List Rule,Rules H p rs /\ rs.length <= 1000 /\ c.cps.toList.length <= 1000 /\ ∀ t H',H t = none -> Same H H' -> H' t = some (.tup (deedV rs (firstS rs c.cps.toList) c.cps.toList)) -> Q (.ref t) H'
 | _=>False
theorem ok__law_deed (T:Top K mg):Callee P w K mg base 3 "_law_deed" ["_law_rules_here", "_law_choice"] (sp__law_deed K):=by
 refine T.f__law_deed.cal sc__law_deed (by intro vs H Q E h; unfold sp__law_deed at h; split at h <;> first | rfl | exact h.elim) (fun _ _ _ _ _ _ us hl=>match us,hl with | [_,_],_=>rfl) (fun f cdv A outer s H vs Q E hr h=>?_)
 unfold sp__law_deed at h
 split at h
 case h_2=>exact h.elim
 refine ⟨_,(pss_cons (ps_set (i:=2) sc__law_deed.nd rfl lc (pe_fn (ok__law_first T) hr.m rfl (pa_cons (qv 0) (pa_cons (qv 1) pa_nil))))
   (pss_cons (ps_if (PW.pt (pw_or (qt_cmp op_eqK (qv 2) (pe_callB (lenE K rfl) rfl T.b_len bb_len (pa_cons (qv 0) pa_nil))) (pw_or1 (qt_cmp op_eqK (pe_ix (ixE K rfl) (pe_ix (ixE K rfl) (qv 0) (qv 2) (fun _ _=>rfl)) pe_int (fun _ _=>rfl)) (qs [100,114,111,112]))))) (pss_one (ps_ret (pe_tup (pa_cons (qs [100,114,111,112]) (pa_cons pe_non pa_nil))))) pss_nil)
   (pss_one (ps_ret (pe_tup (pa_cons (qs [112,97,115,115]) (pa_cons (pe_fn (ok__law_written T) hr.m rfl (pa_cons (qv 1) (pa_cons (pe_ix (ixE K rfl) (pe_ix (ixE K rfl) (qv 0) (qv 2) (fun _ _=>rfl)) pe_int (fun _ _=>rfl)) pa_nil))) pa_nil))))))),?_⟩
 rename_i p s
 obtain ⟨l,rfl⟩:∃ x,s = st x:=⟨_,(st_eta s).symm⟩
 obtain ⟨rs,h1,hn,hl,q⟩:=h
 simp only [st_cps] at q hl
 walk_at "rd"
 refine ⟨rs,h1,hn,fun H1 s1=>?_⟩
 walk_at "rd"
 obtain ⟨vs,e0,pr⟩:=h1.same s1
 have hj:firstS rs l <= rs.length:=List.findIdx_le_length
 generalize firstS rs l = j at hj q ⊢
 have hlv:=pr.length
 refine ⟨vs,.inl (SqL.of e0),ite2 (fun g=>⟨by decide,fun t ht=>q t _ (s1.free ht) (s1.trans (same_new ht _)) ?_⟩) fun g=>?_⟩
 ·have e:rs[j]? = none:=List.getElem?_eq_none (by omega)
  rw [upd_same]
  unfold deedV
  rw [e]
  rfl
 have hjl:j < rs.length:=by omega
 obtain ⟨y,hy,t',ey,et⟩:=paired_at pr (List.getElem?_eq_getElem hjl)
 subst ey
 refine ⟨vs,_,.inl (SqL.of e0),atI_nat hy,?_⟩
 walk_at "rd"
 refine ⟨_,_,.inr (SqT.of et),rfl,?_⟩
 walk_at "rd"
 refine ite2 (fun g2=>⟨by decide,fun t ht=>q t _ (s1.free ht) (s1.trans (same_new ht _)) ?_⟩) fun g2=>⟨vs,_,.inl (SqL.of e0),atI_nat hy,?_⟩
 ·rw [upd_same]
  unfold deedV
  rw [List.getElem?_eq_getElem hjl]
  dsimp only
  rw [if_pos (show rs[j].2.1 = dropT from g2)]
  rfl
 walk_at "rd"
 refine ⟨_,_,.inr (SqT.of et),rfl,by simp only [st_cps]; exact hl,fun H2 s2=>⟨by decide,fun t ht=>q t _ ((s1.trans s2).free ht) ((s1.trans s2).trans (same_new ht _)) ?_⟩⟩
 rw [upd_same]
 unfold deedV
 rw [List.getElem?_eq_getElem hjl]
 dsimp only
 rw [if_neg (show ¬ rs[j].2.1 = dropT from g2)]
 rfl
noncomputable def turn (l:List Nat) (p:Nat):List Nat:=l.take p ++ [97 - l.getD p 0] ++ l.drop (p + 1)
theorem paired_snoc {α β:Type} {F:α -> β -> Prop} {l:List α} {m:List β} {x:α} {y:β} (h:Paired F l m) (r:F x y):Paired F (l ++ [x]) (m ++ [y]):=by
 induction h with
 | nil=>exact .cons r .nil
 | cons r' _ ih=>exact .cons r' ih
def RuleOk (n:Nat) (r:Rule):Prop:=r.1.length = n /\ IsRow r.1 /\ r.2.2.length = n /\ IsRow r.2.2
noncomputable def wide (ps:List Nat) (W:Nat) (r:Rule):Rule:=(setAll r.1 ps (dashes W),r.2.1,setAll r.2.2 ps (dashes W))
noncomputable def sp__law_wide (K:Frag):Sp:=fun vs H Q _=>match vs with
 | [.ref p,.ref a,.int w]=>∃ (rs:List Rule) (ps:List Nat) (W:Nat),Rules H p rs /\ SqL K H a (ps.map pl) /\ w = (W:Int) /\ W <= 1000 /\ (∀ i ∈ ps,i < W) /\ rs.length <= 1000 /\ ∀ q H',H q = none -> Same H H' -> Rules H' q (rs.map (wide ps W)) -> Q (.ref q) H'
 | _=>False
theorem ok__law_wide (T:Top K mg):Callee P w K mg base 2 "_law_wide" ["_law_rules_here", "_law_places_here", "_law_width_here"] (sp__law_wide K):=by
 refine T.f__law_wide.cal sc__law_wide (by intro vs H Q E h; unfold sp__law_wide at h; split at h <;> first | rfl | exact h.elim) (fun _ _ _ _ _ _ us hl=>match us,hl with | [_,_,_],_=>rfl) (fun f cdv A outer s H vs Q E hr h=>?_)
 unfold sp__law_wide at h
 split at h
 case h_2=>exact h.elim
 refine ⟨_,(pss_cons (ps_set (i:=3) sc__law_wide.nd rfl lc (pe_lst pa_nil))
   (pss_cons (qs_for PassesOwn.never rfl (iterE K rfl (qv 0)) (tupE K rfl rfl (n:=3) (pgs_cons (pg_name (i:=4) sc__law_wide.nd rfl lc) (pgs_cons (pg_name (i:=5) sc__law_wide.nd rfl lc) (pgs_cons (pg_name (i:=6) sc__law_wide.nd rfl lc) pgs_nil)))) (pss_one (ps_expr (qe_append (qv 3) (pe_tup (pa_cons (pe_fn (ok__law_spread T) hr.m rfl (pa_cons (qv 4) (pa_cons (qv 1) (pa_cons (pe_op op_mulK (qs [45]) (qv 2)) pa_nil)))) (pa_cons (qv 5) (pa_cons (pe_fn (ok__law_spread T) hr.m rfl (pa_cons (qv 6) (pa_cons (qv 1) (pa_cons (pe_op op_mulK (qs [45]) (qv 2)) pa_nil)))) pa_nil))))))))
   (pss_one (ps_ret (qv 3))))),?_⟩
 rename_i p a w
 obtain ⟨rs,ps,W,⟨vs,e0,pr⟩,h2,rfl,hW,hps,hn,q⟩:=h
 have hlv:=pr.length
 walk_at "rd"
 refine ⟨by decide,fun g hg=>.inl ⟨⟨_,SqL.of (same_new hg _ _ _ e0)⟩,?_⟩⟩
 have hdash:(List.replicate W 45).length = W:=by simp
 refine loop_list (xs:=vs) (fun i σ H'=>∃ u1 u2 u3,σ = [some (.ref p),some (.ref a),some (.int W),some (.ref g),u1,u2,u3] /\ Same H H' /\ Rules H' g ((rs.take i).map (wide ps W))) ⟨none,none,none,rfl,same_new hg _,⟨[],upd_same,.nil⟩⟩ (fun i σ H' _ ⟨_,_,_,_,z,_⟩=>SqL.of (z _ _ e0)) ?_ ?_
 ·rintro i x σ H1 hx ⟨u1,u2,u3,rfl,s1,r1⟩
  have hi:i < vs.length:=(List.getElem?_eq_some_iff.mp hx).1
  have hiw:i < rs.length:=by omega
  obtain ⟨y,hy,t',ey,et⟩:=paired_at pr (List.getElem?_eq_getElem hiw)
  obtain rfl:x = .ref t':=by rw [hy] at hx; rw [<- Option.some.inj hx,ey]
  have st1:=SqT.of (K:=K) (s1 _ _ et)
  refine ⟨t',[_,_,_],rfl,st1,rfl,_,[_,_],rfl,_,[_],rfl,_,[],rfl,rfl,?_⟩
  walk_at "rd"
  obtain ⟨us,eu,pu⟩:=id r1
  have hlu:=pu.length
  rw [List.length_map,List.length_take] at hlu
  have h2':=s1.seq h2
  have hb:∀ i ∈ ps,i < (st (List.replicate (W:Int).toNat 45)).cps.toList.length:=fun i hi=>by simpa using hps i hi
  have hc:(st (List.replicate (W:Int).toNat 45)).cps.toList.length <= 1000:=by simpa using hW
  refine ⟨⟨_,eu⟩,by omega,by omega,ps,h2',hb,hc,fun H2 s2=>⟨by omega,by omega,ps,s2.seq h2',hb,hc,fun H3 s3=>⟨by decide,fun t ht=>?_⟩⟩⟩
  have s13:=s2.trans s3
  have eu3:=s13 _ _ eu
  have ngt:g ≠ t:=ne_of_none eu3 ht
  simp only [st_cps,Int.toNat_natCast]
  have egt:upd H3 t (.tup [tx (setAll rs[i].1 ps (List.replicate W 45)),tx rs[i].2.1,tx (setAll rs[i].2.2 ps (List.replicate W 45))]) g = some (.lst us):=(upd_ne ngt).trans eu3
  refine ⟨us,egt,sizeBig (by omega),_,_,_,rfl,same_upd ((s1.trans s13).trans (same_new ht _)) hg,_,upd_same,?_⟩
  rw [List.take_add_one,List.getElem?_eq_getElem hiw,List.map_append]
  exact paired_snoc (rules_keep (fun b vs hb=>keep_lst egt b vs (same_new ht _ _ _ (s13 _ _ hb))) pu) ⟨t,rfl,by rw [upd_ne ngt.symm,upd_same]; rfl⟩
 ·rintro σ H1 ⟨u1,u2,u3,rfl,s1,r1⟩
  walk_at "rd"
  rw [<- hlv,List.take_length] at r1
  exact q g H1 hg s1 r1
noncomputable def sp__law_rules (K:Frag):Sp:=fun vs H Q _=>match vs with
 | [.ref a,.int m]=>∃ (ns:List Int) (n:Nat),SqL K H a (ns.map V.int) /\ m = (n:Int) /\ n <= 100 /\ ns.length <= 100 /\ ∀ (rs:List Rule) q H',rs.length = ns.length -> (∀ r ∈ rs,RuleOk n r) -> H q = none -> Same H H' -> Rules H' q rs -> Q (.ref q) H'
 | _=>False
theorem ok__law_rules (T:Top K mg):Callee P w K mg base 3 "_law_rules" ["_law_cells", "_law_many"] (sp__law_rules K):=by
 refine T.f__law_rules.cal sc__law_rules (by intro vs H Q E h; unfold sp__law_rules at h; split at h <;> first | rfl | exact h.elim) (fun _ _ _ _ _ _ us hl=>match us,hl with | [_,_],_=>rfl) (fun f cdv A outer s H vs Q E hr h=>?_)
 unfold sp__law_rules at h
 split at h
 case h_2=>exact h.elim
 refine ⟨_,(pss_cons (ps_set (i:=2) sc__law_rules.nd rfl lc (pe_lst pa_nil))
   (pss_cons (qs_for PassesOwn.never rfl (iterE K rfl (qv 0)) (pg_name (i:=3) sc__law_rules.nd rfl lc) (pss_cons (ps_asg (pe_fn (ok__law_shorts T) hr.m rfl (pa_cons (pe_lst (pa_cons (pe_op op_fdivK (qv 3) pe_int) (pa_cons (pe_op op_modK (pe_op op_mulK (pe_op op_fdivK (qv 3) pe_int) pe_int) pe_int) pa_nil))) (pa_cons (qv 1) pa_nil))) (seqE K rfl rfl (n:=2) (pgs_cons (pg_name (i:=4) sc__law_rules.nd rfl lc) (pgs_cons (pg_name (i:=5) sc__law_rules.nd rfl lc) pgs_nil))))
   (pss_cons (ps_set (i:=6) sc__law_rules.nd rfl lc (qs [112,97,115,115]))
   (pss_join (ps_if (qt_cmp op_eqK (pe_op op_modK (qv 3) pe_int) pe_int) (pss_one (ps_set (i:=6) sc__law_rules.nd rfl lc (qs [100,114,111,112]))) pss_nil)
   (pss_join (ps_if (qt_cmp op_eqK (pe_op op_modK (qv 3) pe_int) pe_int) (pss_one (ps_set (i:=5) sc__law_rules.nd rfl lc (pe_op op_mulK (qs [45]) (qv 1)))) pss_nil)
   (pss_join (ps_if (qt_cmp op_eqK (pe_op op_modK (qv 3) pe_int) pe_int) (pss_one (ps_set (i:=5) sc__law_rules.nd rfl lc (qv 4))) pss_nil)
   (pss_one (ps_expr (qe_append (qv 2) (pe_tup (pa_cons (qv 4) (pa_cons (qv 6) (pa_cons (qv 5) pa_nil)))))))))))))
   (pss_one (ps_ret (qv 2))))),?_⟩
 rename_i a m
 obtain ⟨ns,n,h1,rfl,hn,hl,q⟩:=h
 walk_at "rd"
 refine ⟨by decide,fun g hg=>.inl ⟨⟨_,(same_new hg _).seq h1⟩,?_⟩⟩
 refine loop_items V.int ns (fun i σ H'=>∃ (rs:List Rule) (u1 u2 u3 u4:Option V),σ = [some (.ref a),some (.int n),some (.ref g),u1,u2,u3,u4] /\ Same H H' /\ Rules H' g rs /\ rs.length = i /\ ∀ r ∈ rs,RuleOk n r)
  ⟨[],none,none,none,none,rfl,same_new hg _,⟨[],upd_same,.nil⟩,rfl,fun r hr=>absurd hr List.not_mem_nil⟩ (fun i σ H' _ ⟨_,_,_,_,_,_,z,_⟩=>z.seq h1) ?_ ?_
 ·rintro i c σ H1 hc ⟨rs,u1,u2,u3,u4,rfl,s1,r1,l1,k1⟩
  have hi:i < ns.length:=(List.getElem?_eq_some_iff.mp hc).1
  walk_at "rd"
  refine ⟨.inr ⟨by omega,by omega⟩,by decide,fun p hp=>?_⟩
  refine ⟨[c / 4,c / 4 * 69621 % 1000003],n,SqL.of upd_same,rfl,hn,by simp,fun ss sa H2 hsl hss hsa s2 e2=>?_⟩
  obtain ⟨x,y,rfl⟩:∃ x y,ss = [x,y]:=match ss,hsl with | [x,y],_=>⟨x,y,rfl⟩
  obtain ⟨x1,x2⟩:=hss x (by simp)
  obtain ⟨y1,y2⟩:=hss y (by simp)
  have s12:=(same_new hp (.lst [V.int (c / 4),V.int (c / 4 * 69621 % 1000003)])).trans s2
  walk_at "rd"
  refine ⟨_,.inl (SqL.of e2),rfl,?_⟩
  walk_at "rd"
  refine ⟨fun σ' H'=>∃ wd:List Nat,σ' = [some (.ref a),some (.int n),some (.ref g),some (.int c),some (tx x),some (tx y),some (tx wd)] /\ H' = H2,ite2 (fun _=>⟨_,rfl,rfl⟩) fun _=>⟨_,rfl,rfl⟩,?_⟩
  rintro σ' H3 ⟨wd,rfl,rfl⟩
  walk_at "rd"
  have dr:IsRow (List.replicate n 45):=fun k hk=>.inr (.inr (List.eq_of_mem_replicate hk))
  refine ⟨fun σ' H'=>∃ o:List Nat,σ' = [some (.ref a),some (.int n),some (.ref g),some (.int c),some (tx x),some (tx o),some (tx wd)] /\ o.length = n /\ IsRow o /\ H' = H3,ite2 (fun _=>⟨by omega,by omega,List.replicate n 45,by rw [Int.toNat_natCast],by simp,dr,rfl⟩) fun _=>⟨y,rfl,y1,y2,rfl⟩,?_⟩
  rintro σ' H4 ⟨o,rfl,o1,o2,rfl⟩
  walk_at "rd"
  refine ⟨fun σ' H'=>∃ o:List Nat,σ' = [some (.ref a),some (.int n),some (.ref g),some (.int c),some (tx x),some (tx o),some (tx wd)] /\ o.length = n /\ IsRow o /\ H' = H4,ite2 (fun _=>⟨x,rfl,x1,x2,rfl⟩) fun _=>⟨o,rfl,o1,o2,rfl⟩,?_⟩
  clear o1 o2 o
  rintro σ' H5 ⟨o,rfl,o1,o2,rfl⟩
  walk_at "rd"
  obtain ⟨us,eu,pu⟩:=r1.same s12
  have hlu:=pu.length
  refine ⟨⟨_,eu⟩,by decide,fun t ht=>?_⟩
  have ngt:g ≠ t:=ne_of_none eu ht
  have egt:upd H5 t (.tup [tx x,tx wd,tx o]) g = some (.lst us):=(upd_ne ngt).trans eu
  refine ⟨us,egt,sizeBig (by omega),rs ++ [(x,wd,o)],_,_,_,_,rfl,same_upd ((s1.trans s12).trans (same_new ht _)) hg,⟨_,upd_same,?_⟩,by rw [List.length_append,l1]; rfl,fun r hr=>?_⟩
  ·exact paired_snoc (rules_keep (fun b vs hb=>keep_lst egt b vs (same_new ht _ _ _ hb)) pu) ⟨t,rfl,by rw [upd_ne ngt.symm,upd_same]⟩
  ·rcases List.mem_append.mp hr with hr | hr
   ·exact k1 r hr
   ·rw [List.mem_singleton.mp hr]
    exact ⟨x1,x2,o1,o2⟩
 ·rintro σ H1 ⟨rs,u1,u2,u3,u4,rfl,s1,r1,l1,k1⟩
  walk_at "rd"
  exact q rs g H1 l1 k1 hg s1 r1
theorem within_cons (c d:Nat) (x r:List Nat):within (c :: x) (d :: r) = ((d == 45 || d == c) && within x r):=by
 unfold within
 rw [List.zip_cons_cons,List.all_cons]
theorem within_dashes:∀ (n:Nat) (x:List Nat),within x (dashes n) = true
 | 0,x=>by
  unfold within dashes
  simp
 | n + 1,[]=>by simp [within]
 | n + 1,c :: x=>by
  show within (c :: x) (45 :: dashes n) = true
  rw [within_cons,within_dashes n x]
  rfl
noncomputable def fitAt (x r:List Nat) (i:Nat):Bool:=r.getD i 0 == 45 || r.getD i 0 == x.getD i 0
theorem within_all:∀ (W:Nat) (x r:List Nat),x.length = W -> r.length = W -> within x r = (List.range W).all (fitAt x r)
 | 0,x,r,h1,h2=>by
  rw [List.length_eq_zero_iff.mp h1]
  rfl
 | W + 1,c :: x,d :: r,h1,h2=>by
  rw [within_cons,within_all W x r (by simpa using h1) (by simpa using h2),List.range_succ_eq_map,List.all_cons,List.all_map]
  rfl
theorem within_narrow (x r ps:List Nat):within (narrow x ps) (narrow r ps) = ps.all (fitAt x r):=by
 unfold within narrow
 induction ps with
 | nil=>rfl
 | cons p ps ih=>
  rw [List.map_cons,List.map_cons,List.zip_cons_cons,List.all_cons,ih]
  rfl
theorem places_sorted (hs:List (List Nat)) (W:Nat):(placesL hs W).Pairwise (· < ·):=List.Pairwise.filter _ List.pairwise_lt_range
theorem setAll_other:∀ (ps s d:List Nat) (i:Nat),i ∉ ps -> (setAll s ps d).getD i 0 = d.getD i 0
 | [],s,d,i,_=>by
  cases s <;> rfl
 | p :: ps,[],d,i,_=>rfl
 | p :: ps,x :: s,d,i,h=>by
  show (setAll s ps (d.set p x)).getD i 0 = _
  rw [setAll_other ps s _ i fun z=>h (List.mem_cons_of_mem _ z)]
  have:p ≠ i:=fun e=>h (e ▸ List.mem_cons_self)
  simp [List.getD_eq_getElem?_getD,List.getElem?_set_ne this]
theorem narrow_set {ps s d:List Nat} (hl:s.length = ps.length) (nd:ps.Nodup) (lt:∀ p ∈ ps,p < d.length):narrow (setAll s ps d) ps = s:=by
 induction ps generalizing s d with
 | nil=>
  rw [List.length_eq_zero_iff.mp hl]
  rfl
 | cons p ps ih=>
  cases s with
  | nil=>simp at hl
  | cons x s=>
   rw [List.nodup_cons] at nd
   show (setAll s ps (d.set p x)).getD p 0 :: narrow (setAll s ps (d.set p x)) ps = x :: s
   rw [ih (by simpa using hl) nd.2 (fun q hq=>by rw [List.length_set]; exact lt q (List.mem_cons_of_mem _ hq)),setAll_other ps s _ p nd.1]
   have:=lt p List.mem_cons_self
   simp [List.getD_eq_getElem?_getD,this]
theorem setAll_size (s ps b:List Nat):(setAll s ps b).length = b.length:=by
 unfold setAll
 generalize s.zip ps = l
 induction l generalizing b with
 | nil=>rfl
 | cons q l ih=>rw [List.foldl_cons,ih,List.length_set]
theorem within_laid {W:Nat} {ps s x:List Nat} (hl:s.length = ps.length) (nd:ps.Nodup) (lt:∀ p ∈ ps,p < W) (hx:x.length = W):within x (setAll s ps (dashes W)) = within (narrow x ps) s:=by
 have hd:(dashes W).length = W:=by simp [dashes]
 have e:within (narrow x ps) s = within (narrow x ps) (narrow (setAll s ps (dashes W)) ps):=by rw [narrow_set hl nd (by rw [hd]; exact lt)]
 rw [e,within_narrow,within_all W x _ hx (by rw [setAll_size,hd]),Bool.eq_iff_iff,List.all_eq_true,List.all_eq_true]
 constructor
 ·intro h i hi
  exact h i (List.mem_range.mpr (lt i hi))
 ·intro h i hi
  by_cases ht:i ∈ ps
  ·exact h i ht
  ·unfold fitAt
   rw [setAll_other ps s _ i ht]
   have:=List.mem_range.mp hi
   simp [dashes,this]
theorem ok_within {s c:List Nat} (h:∀ k ∈ c,k = 48 \/ k = 49):okL s c = within c s:=by
 unfold okL within
 induction s generalizing c with
 | nil=>simp
 | cons a s ih=>
  cases c with
  | nil=>rfl
  | cons b c=>
   rw [List.zip_cons_cons,List.all_cons,List.zip_cons_cons,List.all_cons,ih fun k hk=>h k (List.mem_cons_of_mem _ hk)]
   have hb:(b == 45) = false:=by
    rw [beq_eq_false_iff_ne]
    rcases h b List.mem_cons_self with z | z <;> omega
   unfold okS
   rw [hb,Bool.or_false]
theorem choices_let:∀ n,∀ c ∈ choicesL n,IsLet c
 | 0,c,h=>by rw [List.mem_singleton.mp h]; intro k hk; cases hk
 | n + 1,c,h=>by
  rw [choicesL] at h
  rcases List.mem_append.mp h with h | h
  all_goals
   obtain ⟨d,hd,rfl⟩:=List.mem_map.mp h
   intro k hk
   rcases List.mem_append.mp hk with hk | hk
   ·exact choices_let n d hd k hk
   ·rw [List.mem_singleton.mp hk]
    simp
theorem okL_cons (a b:Nat) (x y:List Nat):okL (a :: x) (b :: y) = (okS a b && okL x y):=by
 unfold okL
 rw [List.zip_cons_cons,List.all_cons]
theorem okL_all:∀ (W:Nat) (x y:List Nat),x.length = W -> y.length = W -> okL x y = (List.range W).all fun i=>okS (x.getD i 0) (y.getD i 0)
 | 0,x,y,h1,h2=>by
  rw [List.length_eq_zero_iff.mp h1]
  rfl
 | W + 1,c :: x,d :: y,h1,h2=>by
  rw [okL_cons,okL_all W x y (by simpa using h1) (by simpa using h2),List.range_succ_eq_map,List.all_cons,List.all_map]
  rfl
theorem setAll_isRow {P:Nat -> Prop}:∀ (ps s b:List Nat),(∀ c ∈ s,P c) -> (∀ c ∈ b,P c) -> ∀ c ∈ setAll s ps b,P c
 | [],s,b,_,hb=>by
  cases s <;> exact hb
 | p :: ps,[],b,_,hb=>hb
 | p :: ps,x :: s,b,hs,hb=>by
  show ∀ c ∈ setAll s ps (b.set p x),P c
  refine setAll_isRow ps s _ (fun c hc=>hs c (List.mem_cons_of_mem _ hc)) fun c hc=>?_
  rcases List.mem_or_eq_of_mem_set hc with hc | rfl
  ·exact hb c hc
  ·exact hs _ List.mem_cons_self
theorem in_signs (c:Nat) (l:List Nat):inV (V.str (st [c])) (l.map fun c=>V.str (st [c])) = decide (c ∈ l):=by
 unfold inV
 induction l with
 | nil=>simp
 | cons d l ih=>
  rw [List.map_cons,List.any_cons,ih]
  simp only [eqV,List.mem_cons]
  by_cases h:c = d
  ·subst h; simp
  ·have h2:¬ d = c:=fun z=>h z.symm
   simp [h,h2]
noncomputable abbrev Pr:=List Nat × Nat
noncomputable def firstsL (w:Nat):List Pr -> List Pr -> List Pr
 | acc,[]=>acc
 | acc,p :: r=>if p.1 = dashes w then (if p.1 ∈ acc.map Prod.fst then acc else acc ++ [p]) else firstsL w (if p.1 ∈ acc.map Prod.fst then acc else acc ++ [p]) r
noncomputable def sideP (fs:List Pr) (c:Nat):List Pr:=(fs.filter fun p=>decide (p.1.headD 0 = c) || decide (p.1.headD 0 = 45)).map fun p=>(p.1.tail,p.2)
noncomputable def sideF (fs:List Pr) (c n:Nat):List Pr:=firstsL n [] (sideP fs c)
noncomputable def numOf (fs:List Pr) (s:List Nat):Nat:=((fs.find? fun p=>decide (p.1 = s)).map Prod.snd).getD 0
noncomputable def firstN (fs:List Pr) (y:List Nat):Option Nat:=(fs.find? fun p=>within y p.1).map Prod.snd
def GoodF (n:Nat) (fs:List Pr):Prop:=(∀ p ∈ fs,p.1.length = n) /\ (fs.map Prod.fst).Nodup /\ ∃ pre k,fs = pre ++ [(dashes n,k)]
theorem firstN_app (a b:List Pr) (y:List Nat):firstN (a ++ b) y = (firstN a y).or (firstN b y):=by
 unfold firstN
 rw [List.find?_append]
 cases a.find? fun p=>within y p.1 <;> rfl
theorem firstN_in {acc:List Pr} {p:Pr} {y:List Nat} (h:p.1 ∈ acc.map Prod.fst) (hw:within y p.1 = true):∃ k,firstN acc y = some k:=by
 obtain ⟨q,hq,e⟩:=List.mem_map.mp h
 cases hf:acc.find? fun p=>within y p.1 with
 | some z=>exact ⟨z.2,by unfold firstN; rw [hf]; rfl⟩
 | none=>
  have:=List.find?_eq_none.mp hf q hq
  rw [e,hw] at this
  exact absurd rfl this
theorem firsts_first (w:Nat) (y:List Nat):∀ (pairs acc:List Pr),firstN (firstsL w acc pairs) y = firstN (acc ++ pairs) y
 | [],acc=>by rw [firstsL,List.append_nil]
 | p :: r,acc=>by
  have step:firstN ((if p.1 ∈ acc.map Prod.fst then acc else acc ++ [p]) ++ r) y = firstN (acc ++ p :: r) y:=by
   split
   ·rename_i hm
    rw [firstN_app,firstN_app]
    cases hw:within y p.1 with
    | true=>
     obtain ⟨k,hk⟩:=firstN_in hm hw
     rw [hk]
     rfl
    | false=>
     congr 1
     unfold firstN
     rw [List.find?_cons,hw]
   ·rw [List.append_assoc]
    rfl
  rw [firstsL]
  split
  ·rename_i hd
   rw [<- step,firstN_app]
   have hw:within y p.1 = true:=by rw [hd]; exact within_dashes w y
   have:∃ k,firstN (if p.1 ∈ acc.map Prod.fst then acc else acc ++ [p]) y = some k:=by
    split
    ·rename_i hm
     exact firstN_in hm hw
    ·exact firstN_in (p:=p) (by simp) hw
   obtain ⟨k,hk⟩:=this
   rw [hk]
   rfl
  ·rw [firsts_first w y r,step]
theorem firsts_good (w:Nat):∀ (pairs acc:List Pr),(∀ p ∈ pairs,p.1.length = w) -> (∀ p ∈ acc,p.1.length = w) -> (acc.map Prod.fst).Nodup -> dashes w ∉ acc.map Prod.fst -> dashes w ∈ pairs.map Prod.fst -> GoodF w (firstsL w acc pairs)
 | [],acc,_,_,_,_,h=>by cases h
 | p :: r,acc,hp,ha,nd,hn,hm=>by
  rw [firstsL]
  split
  ·rename_i hd
   have hno:p.1 ∉ acc.map Prod.fst:=by rw [hd]; exact hn
   rw [if_neg hno]
   refine ⟨fun q hq=>?_,?_,acc,p.2,by rw [<- hd]⟩
   ·rcases List.mem_append.mp hq with hq | hq
    ·exact ha q hq
    ·rw [List.mem_singleton.mp hq]
     exact hp p List.mem_cons_self
   ·rw [List.map_append,List.nodup_append]
    exact ⟨nd,by simp,fun a h1 b h2 e=>hno (by rw [List.map_cons,List.map_nil,List.mem_singleton] at h2; rw [<- h2,<- e]; exact h1)⟩
  ·rename_i hd
   have hm':dashes w ∈ r.map Prod.fst:=by
    rw [List.map_cons] at hm
    rcases List.mem_cons.mp hm with e | h
    ·exact absurd e.symm hd
    ·exact h
   have hr:∀ q ∈ r,q.1.length = w:=fun q hq=>hp q (List.mem_cons_of_mem _ hq)
   split
   ·exact firsts_good w r acc hr ha nd hn hm'
   ·rename_i hno
    refine firsts_good w r _ hr (fun q hq=>?_) ?_ ?_ hm'
    ·rcases List.mem_append.mp hq with hq | hq
     ·exact ha q hq
     ·rw [List.mem_singleton.mp hq]
      exact hp p List.mem_cons_self
    ·rw [List.map_append,List.nodup_append]
     exact ⟨nd,by simp,fun a h1 b h2 e=>hno (by rw [List.map_cons,List.map_nil,List.mem_singleton] at h2; rw [<- h2,<- e]; exact h1)⟩
    ·rw [List.map_append,List.mem_append]
     rintro (h | h)
     ·exact hn h
     ·rw [List.map_cons,List.map_nil,List.mem_singleton] at h
      exact hd h.symm
theorem side_first {fs:List Pr} {n:Nat} (w:∀ p ∈ fs,p.1.length = n + 1) (c:Nat) (y:List Nat):firstN fs (c :: y) = firstN (sideP fs c) y:=by
 unfold firstN sideP
 induction fs with
 | nil=>rfl
 | cons p fs ih=>
  obtain ⟨s,k⟩:=p
  cases s with
  | nil=>have:=w _ List.mem_cons_self; simp at this
  | cons d s=>
   have ih:=ih fun q hq=>w q (List.mem_cons_of_mem _ hq)
   rw [List.find?_cons,List.filter_cons]
   show (match within (c :: y) (d :: s) with | true=>some ((d :: s,k):Pr) | false=>_).map Prod.snd = _
   rw [within_cons]
   by_cases h:d = c \/ d = 45
   ·have e1:(d == 45 || d == c) = true:=by rcases h with h | h <;> simp [h]
    have e2:(decide ((d :: s).headD 0 = c) || decide ((d :: s).headD 0 = 45)) = true:=by
     show (decide (d = c) || decide (d = 45)) = true
     rcases h with h | h <;> simp [h]
    rw [e1,Bool.true_and]
    dsimp only
    rw [if_pos e2,List.map_cons,List.find?_cons]
    show _ = Option.map Prod.snd (match within y s with | true=>some ((s,k):Pr) | false=>_)
    cases within y s with
    | true=>rfl
    | false=>exact ih
   ·have e1:(d == 45 || d == c) = false:=by
     rw [Bool.or_eq_false_iff,beq_eq_false_iff_ne,beq_eq_false_iff_ne]
     exact ⟨fun z=>h (.inr z),fun z=>h (.inl z)⟩
    have e2:¬ (decide ((d :: s).headD 0 = c) || decide ((d :: s).headD 0 = 45)) = true:=by
     show ¬ (decide (d = c) || decide (d = 45)) = true
     rw [Bool.or_eq_true,decide_eq_true_eq,decide_eq_true_eq]
     exact h
    rw [e1,Bool.false_and]
    dsimp only
    rw [if_neg e2]
    exact ih
theorem side_good {fs:List Pr} {n:Nat} (h:GoodF (n + 1) fs) (c:Nat):GoodF n (sideF fs c n):=by
 obtain ⟨w,_,pre,k,e⟩:=h
 unfold sideF
 refine firsts_good n _ [] (fun p hp=>?_) (fun p hp=>by cases hp) (by simp) (by simp) ?_
 ·obtain ⟨q,hq,rfl⟩:=List.mem_map.mp hp
  have:=w q (List.mem_filter.mp hq).1
  simp only [List.length_tail]
  omega
 ·refine List.mem_map.mpr ⟨(dashes n,k),List.mem_map.mpr ⟨(dashes (n + 1),k),List.mem_filter.mpr ⟨?_,?_⟩,rfl⟩,rfl⟩
  ·rw [e]
   simp
  ·show (decide ((45:Nat) = c) || decide ((45:Nat) = 45)) = true
   simp
theorem good_one {fs:List Pr} {n:Nat} (h:GoodF n fs) (hl:fs.length = 1):∃ k,fs = [(dashes n,k)]:=by
 obtain ⟨_,_,pre,k,e⟩:=h
 rw [e,List.length_append,List.length_singleton] at hl
 have:pre = []:=List.length_eq_zero_iff.mp (by omega)
 exact ⟨k,by rw [e,this]; rfl⟩
theorem good_zero {fs:List Pr} (h:GoodF 0 fs):∃ k,fs = [([],k)]:=by
 obtain ⟨w,nd,pre,k,e⟩:=id h
 refine ⟨k,?_⟩
 cases pre with
 | nil=>exact e
 | cons p pre=>
  exfalso
  rw [e,List.cons_append,List.map_cons,List.nodup_cons] at nd
  have h1:=List.length_eq_zero_iff.mp (w p (by rw [e]; exact List.mem_cons_self))
  exact nd.1 (by rw [h1]; simp [dashes])
def AscF (fs:List Pr):Prop:=fs.Pairwise fun p q=>p.2 < q.2
theorem firsts_asc (w:Nat):∀ (pairs acc:List Pr),AscF acc -> AscF pairs -> (∀ a ∈ acc,∀ p ∈ pairs,a.2 < p.2) -> AscF (firstsL w acc pairs)
 | [],acc,h,_,_=>h
 | p :: r,acc,h,h2,h3=>by
  have hp:=List.pairwise_cons.mp h2
  have step:AscF (if p.1 ∈ acc.map Prod.fst then acc else acc ++ [p]) /\ ∀ a ∈ (if p.1 ∈ acc.map Prod.fst then acc else acc ++ [p]),∀ q ∈ r,a.2 < q.2:=by
   split
   ·exact ⟨h,fun a ha q hq=>h3 a ha q (List.mem_cons_of_mem _ hq)⟩
   ·refine ⟨List.pairwise_append.mpr ⟨h,List.pairwise_singleton _ _,fun a ha b hb=>?_⟩,fun a ha q hq=>?_⟩
    ·rw [List.mem_singleton.mp hb]
     exact h3 a ha p List.mem_cons_self
    ·rcases List.mem_append.mp ha with ha | ha
     ·exact h3 a ha q (List.mem_cons_of_mem _ hq)
     ·rw [List.mem_singleton.mp ha]
      exact hp.1 q hq
  rw [firstsL]
  split
  ·exact step.1
  ·exact firsts_asc w r _ step.1 hp.2 step.2
theorem side_asc {fs:List Pr} (h:AscF fs) (c n:Nat):AscF (sideF fs c n):=by
 refine firsts_asc n _ [] List.Pairwise.nil ?_ (fun a ha=>by cases ha)
 unfold sideP AscF
 rw [List.pairwise_map]
 exact List.Pairwise.filter _ h
theorem asc_sub:∀ (b a:List Pr),AscF a -> AscF b -> (∀ x ∈ a,x ∈ b) -> List.Sublist a b
 | [],a,_,_,h=>by
  cases a with
  | nil=>exact List.Sublist.refl _
  | cons x a=>exact absurd (h x List.mem_cons_self) List.not_mem_nil
 | y :: b,[],_,_,_=>List.nil_sublist _
 | y :: b,x :: a,ha,hb,h=>by
  have ha':=List.pairwise_cons.mp ha
  have hb':=List.pairwise_cons.mp hb
  by_cases e:x = y
  ·subst e
   refine List.Sublist.cons₂ _ (asc_sub b a ha'.2 hb'.2 fun z hz=>?_)
   rcases List.mem_cons.mp (h z (List.mem_cons_of_mem _ hz)) with e | e
   ·have:=ha'.1 z hz
    rw [e] at this
    exact absurd this (Nat.lt_irrefl _)
   ·exact e
  ·refine List.Sublist.cons _ (asc_sub b (x :: a) ha hb'.2 fun z hz=>?_)
   rcases List.mem_cons.mp (h z hz) with q | q
   ·exfalso
    have hx:x ∈ b:=(List.mem_cons.mp (h x List.mem_cons_self)).resolve_left e
    have h1:=hb'.1 x hx
    rcases List.mem_cons.mp hz with z1 | z1
    ·exact e (z1.symm.trans q)
    ·have h2:=ha'.1 z z1
     rw [q] at h2
     omega
   ·exact q
theorem same_firsts {a b:List Pr} (ha:AscF a) (hb:AscF b) (hl:a.length = b.length) (h:∀ x ∈ a,x ∈ b):a = b:=(asc_sub b a ha hb h).eq_of_length hl
inductive Fork where
 | leaf (n:Nat)
 | ask (p:Nat) (no yes:Fork)
noncomputable def eqK:Fork -> Fork -> Bool
 | .leaf n,.leaf m=>n == m
 | .ask p a b,.ask q c d=>p == q && (eqK a c && eqK b d)
 | .leaf _,.ask _ _ _=>false
 | .ask _ _ _,.leaf _=>false
theorem eqK_refl:∀ a,eqK a a = true
 | .leaf n=>by simp [eqK]
 | .ask p a b=>by simp [eqK,eqK_refl a,eqK_refl b]
theorem eqK_eq:∀ {a b},eqK a b = true -> a = b
 | .leaf n,.leaf m,h=>by
  have:n = m:=by simpa [eqK] using h
  rw [this]
 | .ask p a b,.ask q c d,h=>by
  simp only [eqK,Bool.and_eq_true,beq_iff_eq] at h
  rw [h.1,eqK_eq h.2.1,eqK_eq h.2.2]
 | .leaf _,.ask _ _ _,h=>by simp [eqK] at h
 | .ask _ _ _,.leaf _,h=>by simp [eqK] at h
noncomputable def joinK (p:Nat) (a b:Fork):Fork:=if eqK a b = true then a else .ask p a b
noncomputable def forkL:List Nat -> List Pr -> Fork
 | [],fs=>.leaf (numOf fs [])
 | p :: ps,fs=>if fs.length = 1 then .leaf (numOf fs (dashes (ps.length + 1))) else joinK p (forkL ps (sideF fs 48 ps.length)) (forkL ps (sideF fs 49 ps.length))
noncomputable def evalF:Fork -> List Nat -> Nat
 | .leaf n,_=>n
 | .ask p a b,y=>if y.getD p 0 = 48 then evalF a y else evalF b y
theorem eval_join (p:Nat) (a b:Fork) (y:List Nat):evalF (joinK p a b) y = if y.getD p 0 = 48 then evalF a y else evalF b y:=by
 unfold joinK
 split
 ·rename_i h
  rw [<- eqK_eq h]
  split <;> rfl
 ·rfl
theorem fork_truth:∀ (ps:List Nat) (fs:List Pr) (y:List Nat),GoodF ps.length fs -> (∀ p ∈ ps,y.getD p 0 = 48 \/ y.getD p 0 = 49) -> firstN fs (narrow y ps) = some (evalF (forkL ps fs) y)
 | [],fs,y,h,_=>by
  obtain ⟨k,rfl⟩:=good_zero h
  rfl
 | p :: ps,fs,y,h,hy=>by
  have h:GoodF (ps.length + 1) fs:=h
  rw [forkL]
  split
  ·rename_i h1
   obtain ⟨k,rfl⟩:=good_one h h1
   unfold firstN numOf evalF
   rw [List.find?_cons,within_dashes]
   simp
  ·rw [eval_join]
   have go:∀ d,firstN fs (d :: narrow y ps) = firstN (sideF fs d ps.length) (narrow y ps):=fun d=>by
    unfold sideF
    rw [firsts_first,List.nil_append,side_first h.1]
   have hy':∀ p ∈ ps,y.getD p 0 = 48 \/ y.getD p 0 = 49:=fun q hq=>hy q (List.mem_cons_of_mem _ hq)
   show firstN fs (y.getD p 0 :: narrow y ps) = _
   rcases hy p List.mem_cons_self with e | e
   ·rw [e,go,if_pos rfl]
    exact fork_truth ps _ y (side_good h 48) hy'
   ·rw [e,go,if_neg (by decide)]
    exact fork_truth ps _ y (side_good h 49) hy'
noncomputable def Asks (W:Nat):Fork -> Prop
 | .leaf _=>True
 | .ask p a b=>p < W /\ Asks W a /\ Asks W b
noncomputable def high:Fork -> Nat
 | .leaf _=>0
 | .ask _ a b=>max (high a) (high b) + 1
theorem fork_asks {W:Nat}:∀ (ps:List Nat) (fs:List Pr),(∀ p ∈ ps,p < W) -> Asks W (forkL ps fs)
 | [],fs,_=>True.intro
 | p :: ps,fs,h=>by
  have h':∀ p ∈ ps,p < W:=fun q hq=>h q (List.mem_cons_of_mem _ hq)
  rw [forkL]
  split
  ·exact True.intro
  ·unfold joinK
   split
   ·exact fork_asks ps _ h'
   ·exact ⟨h p List.mem_cons_self,fork_asks ps _ h',fork_asks ps _ h'⟩
theorem fork_high:∀ (ps:List Nat) (fs:List Pr),high (forkL ps fs) <= ps.length
 | [],fs=>Nat.le_refl _
 | p :: ps,fs=>by
  have a:=fork_high ps (sideF fs 48 ps.length)
  have b:=fork_high ps (sideF fs 49 ps.length)
  rw [forkL,List.length_cons]
  split
  ·exact Nat.zero_le _
  ·unfold joinK
   split
   ·omega
   ·show max _ _ + 1 <= _
    omega
noncomputable def signF (p:Nat) (row over:List Nat):Nat:=if over.getD p 0 = 45 then row.getD p 0 else over.getD p 0
noncomputable def cutF:Fork -> List Nat -> List Nat -> List Pr
 | .leaf n,row,_=>[(row,n)]
 | .ask p a b,row,over=>if signF p row over = 45 then cutF a (row.set p 48) over ++ cutF b (row.set p 49) over else if signF p row over = 48 then cutF a row over else cutF b row over
theorem cut_len:∀ (F:Fork) (row over:List Nat),(cutF F row over).length <= 2 ^ high F
 | .leaf n,row,over=>Nat.le_refl _
 | .ask p a b,row,over=>by
  have h1:2 ^ high a <= 2 ^ max (high a) (high b):=Nat.pow_le_pow_right (by decide) (by omega)
  have h2:2 ^ high b <= 2 ^ max (high a) (high b):=Nat.pow_le_pow_right (by decide) (by omega)
  have e:2 ^ high (.ask p a b) = 2 ^ max (high a) (high b) * 2:=Nat.pow_succ ..
  rw [cutF,e]
  split
  ·have i:=cut_len a (row.set p 48) over
   have j:=cut_len b (row.set p 49) over
   rw [List.length_append]
   omega
  ·split
   ·have i:=cut_len a row over
    omega
   ·have i:=cut_len b row over
    omega
theorem dash_at {W p:Nat} (h:p < W):(dashes W).getD p 0 = 45:=by
 unfold dashes
 rw [List.getD_eq_getElem?_getD,List.getElem?_replicate,if_pos h]
 rfl
theorem sign_dash {W p:Nat} (h:p < W) (row:List Nat):signF p row (dashes W) = row.getD p 0:=by
 unfold signF
 rw [dash_at h,if_pos rfl]
theorem getD_set (l:List Nat) (p i c:Nat) (h:p < l.length):(l.set p c).getD i 0 = if i = p then c else l.getD i 0:=by
 rw [List.getD_eq_getElem?_getD,List.getElem?_set]
 by_cases e:p = i
 ·subst e
  rw [if_pos rfl,if_pos rfl,if_pos h]
  rfl
 ·rw [if_neg e,if_neg fun z=>e z.symm,List.getD_eq_getElem?_getD]
theorem row_set {l:List Nat} {p c:Nat} (h:IsRow l) (hc:c = 48 \/ c = 49 \/ c = 45):IsRow (l.set p c):=fun x hx=>by
 rcases List.mem_or_eq_of_mem_set hx with z | z
 ·exact h x z
 ·rw [z]; exact hc
theorem cut_rows {W:Nat}:∀ (F:Fork) (row:List Nat),Asks W F -> row.length = W -> IsRow row -> ∀ x ∈ cutF F row (dashes W),x.1.length = W /\ IsRow x.1
 | .leaf n,row,_,hl,hr,x,hx=>by
  rw [List.mem_singleton.mp hx]
  exact ⟨hl,hr⟩
 | .ask p a b,row,⟨hp,ha,hb⟩,hl,hr,x,hx=>by
  rw [cutF] at hx
  split at hx
  ·rcases List.mem_append.mp hx with hx | hx
   ·exact cut_rows a _ ha (by simpa using hl) (row_set hr (.inl rfl)) x hx
   ·exact cut_rows b _ hb (by simpa using hl) (row_set hr (.inr (.inl rfl))) x hx
  ·split at hx
   ·exact cut_rows a _ ha hl hr x hx
   ·exact cut_rows b _ hb hl hr x hx
theorem cut_in {W:Nat}:∀ (F:Fork) (row:List Nat),Asks W F -> row.length = W -> ∀ x ∈ cutF F row (dashes W),∀ i,row.getD i 0 ≠ 45 -> x.1.getD i 0 = row.getD i 0
 | .leaf n,row,_,hl,x,hx,i,_=>by
  rw [List.mem_singleton.mp hx]
 | .ask p a b,row,⟨hp,ha,hb⟩,hl,x,hx,i,hi=>by
  rw [cutF,sign_dash hp] at hx
  split at hx
  ·rename_i e
   have ne:i ≠ p:=fun z=>hi (by rw [z]; exact e)
   have key:∀ c,(row.set p c).getD i 0 = row.getD i 0:=fun c=>by rw [getD_set _ _ _ _ (by omega),if_neg ne]
   rcases List.mem_append.mp hx with hx | hx
   ·rw [cut_in a _ ha (by simpa using hl) x hx i (by rw [key]; exact hi),key]
   ·rw [cut_in b _ hb (by simpa using hl) x hx i (by rw [key]; exact hi),key]
  ·split at hx
   ·exact cut_in a _ ha hl x hx i hi
   ·exact cut_in b _ hb hl x hx i hi
theorem within_at {W:Nat} {x r:List Nat} (hx:x.length = W) (hr:r.length = W):within x r = true ↔ ∀ i,i < W -> r.getD i 0 = 45 \/ r.getD i 0 = x.getD i 0:=by
 rw [within_all W x r hx hr,List.all_eq_true]
 constructor
 ·intro h i hi
  have:=h i (List.mem_range.mpr hi)
  simpa [fitAt] using this
 ·intro h i hi
  have:=h i (List.mem_range.mp hi)
  simpa [fitAt] using this
theorem cut_within {W:Nat} {F:Fork} {row:List Nat} (ha:Asks W F) (hl:row.length = W) (hr:IsRow row) {x:Pr} (hx:x ∈ cutF F row (dashes W)) {y:List Nat} (hy:y.length = W) (hw:within y x.1 = true):within y row = true:=by
 rw [within_at hy hl]
 intro i hi
 by_cases e:row.getD i 0 = 45
 ·exact .inl e
 ·have h1:=cut_in F row ha hl x hx i e
  have h2:=(within_at hy (cut_rows F row ha hl hr x hx).1).mp hw i hi
  rcases h2 with z | z
  ·exact absurd (h1.symm.trans z) e
  ·exact .inr (h1.symm.trans z)
theorem cut_truth {W:Nat}:∀ (F:Fork) (row:List Nat),Asks W F -> row.length = W -> IsRow row -> ∀ x ∈ cutF F row (dashes W),∀ y:List Nat,y.length = W -> within y x.1 = true -> evalF F y = x.2
 | .leaf n,row,_,hl,hr,x,hx,y,_,_=>by
  rw [List.mem_singleton.mp hx]
  rfl
 | .ask p a b,row,⟨hp,ha,hb⟩,hl,hr,x,hx,y,hy,hw=>by
  rw [cutF,sign_dash hp] at hx
  have told:∀ (G:Fork) (r:List Nat),Asks W G -> r.length = W -> IsRow r -> x ∈ cutF G r (dashes W) -> r.getD p 0 ≠ 45 -> y.getD p 0 = r.getD p 0:=fun G r hG h1 h2 hm h3=>by
   rcases (within_at hy h1).mp (cut_within hG h1 h2 hm hy hw) p hp with z | z
   ·exact absurd z h3
   ·exact z.symm
  have setp:∀ c,(row.set p c).getD p 0 = c:=fun c=>by rw [getD_set _ _ _ _ (by omega),if_pos rfl]
  show (if y.getD p 0 = 48 then evalF a y else evalF b y) = x.2
  split at hx
  ·rcases List.mem_append.mp hx with hx | hx
   ·have e:=told a _ ha (by simpa using hl) (row_set hr (.inl rfl)) hx (by rw [setp]; decide)
    rw [setp] at e
    rw [if_pos e]
    exact cut_truth a _ ha (by simpa using hl) (row_set hr (.inl rfl)) x hx y hy hw
   ·have e:=told b _ hb (by simpa using hl) (row_set hr (.inr (.inl rfl))) hx (by rw [setp]; decide)
    rw [setp] at e
    rw [if_neg (by omega)]
    exact cut_truth b _ hb (by simpa using hl) (row_set hr (.inr (.inl rfl))) x hx y hy hw
  ·rename_i e
   split at hx
   ·rename_i e2
    rw [told a _ ha hl hr hx e,if_pos e2]
    exact cut_truth a _ ha hl hr x hx y hy hw
   ·rename_i e2
    rw [told b _ hb hl hr hx e,if_neg e2]
    exact cut_truth b _ hb hl hr x hx y hy hw
noncomputable def metL (heap:List (List Nat)) (row:List Nat):List Pr:=((heap ++ [dashes row.length]).zipIdx).filter fun q=>okL q.1 row
noncomputable def asked (heap:List (List Nat)) (row:List Nat):List Nat:=(placesL ((metL heap row).map Prod.fst) row.length).filter fun p=>decide (row.getD p 0 = 45)
noncomputable def pairsL (heap:List (List Nat)) (row:List Nat):List Pr:=(metL heap row).map fun q=>(narrow q.1 (asked heap row),q.2)
noncomputable def forkOf (heap:List (List Nat)) (row:List Nat):Fork:=forkL (asked heap row) (firstsL (asked heap row).length [] (pairsL heap row))
theorem zip_asc (l:List (List Nat)):∀ k,(l.zipIdx k).Pairwise fun (p q:Pr)=>p.2 < q.2:=by
 induction l with
 | nil=>intro k; exact List.Pairwise.nil
 | cons x l ih=>
  intro k
  rw [List.zipIdx_cons]
  refine List.pairwise_cons.mpr ⟨fun q hq=>?_,ih (k + 1)⟩
  have:=List.le_snd_of_mem_zipIdx hq
  show k < q.2
  omega
theorem pairs_asc (heap:List (List Nat)) (row:List Nat):AscF (pairsL heap row):=by
 unfold pairsL AscF
 rw [List.pairwise_map]
 exact List.Pairwise.filter _ (zip_asc _ 0)
theorem asked_lt {heap:List (List Nat)} {row:List Nat} {p:Nat} (h:p ∈ asked heap row):p < row.length /\ row.getD p 0 = 45:=by
 obtain ⟨h1,h2⟩:=List.mem_filter.mp h
 exact ⟨places_lt h1,of_decide_eq_true h2⟩
theorem okL_dashes:∀ (n:Nat) (x:List Nat),okL (dashes n) x = true
 | 0,x=>by simp [okL,dashes]
 | n + 1,[]=>by simp [okL]
 | n + 1,c :: x=>by
  have:=okL_dashes n x
  unfold dashes at this ⊢
  rw [List.replicate_succ,okL_cons,this]
  rfl
theorem dash_met (heap:List (List Nat)) (row:List Nat):(dashes row.length,heap.length) ∈ metL heap row:=by
 refine List.mem_filter.mpr ⟨?_,okL_dashes _ _⟩
 rw [List.zipIdx_append]
 exact List.mem_append_right _ (by simp)
theorem narrow_dashes {W:Nat} {ps:List Nat} (h:∀ p ∈ ps,p < W):narrow (dashes W) ps = dashes ps.length:=by
 unfold narrow
 rw [show dashes ps.length = ps.map fun _=>45 by simp [dashes,List.map_const']]
 exact List.map_congr_left fun p hp=>dash_at (h p hp)
theorem firsts_ok (heap:List (List Nat)) (row:List Nat):GoodF (asked heap row).length (firstsL (asked heap row).length [] (pairsL heap row)):=by
 refine firsts_good _ _ [] (fun p hp=>?_) (fun p hp=>by cases hp) (by simp) (by simp) ?_
 ·obtain ⟨q,_,rfl⟩:=List.mem_map.mp hp
  simp [narrow]
 ·refine List.mem_map.mpr ⟨(dashes (asked heap row).length,heap.length),List.mem_map.mpr ⟨_,dash_met heap row,?_⟩,rfl⟩
  rw [narrow_dashes fun p hp=>(asked_lt hp).1]
theorem first_idx {α:Type} (P:α -> Bool) (d:α) (hd:P d = true):∀ (hs:List α) (k:Nat),(((hs ++ [d]).zipIdx k).find? fun q=>P q.1).map Prod.snd = some (k + hs.findIdx P)
 | [],k=>by
  rw [List.nil_append,List.zipIdx_cons,List.find?_cons,hd]
  rfl
 | x :: hs,k=>by
  rw [List.cons_append,List.zipIdx_cons,List.find?_cons,List.findIdx_cons]
  cases h:P x with
  | true=>simp
  | false=>
   have:=first_idx P d hd hs (k + 1)
   simp only [this,cond_false]
   congr 1
   omega
theorem met_rows {heap:List (List Nat)} {row:List Nat} (hh:∀ r ∈ heap,r.length = row.length) {q:Pr} (h:q ∈ metL heap row):q.1.length = row.length /\ okL q.1 row = true:=by
 obtain ⟨h1,h2⟩:=List.mem_filter.mp h
 refine ⟨?_,h2⟩
 have:=List.fst_mem_of_mem_zipIdx h1
 rcases List.mem_append.mp this with z | z
 ·exact hh _ z
 ·rw [List.mem_singleton.mp z]
  simp [dashes]
theorem find_same {α:Type} {f g:α -> Bool}:∀ l:List α,(∀ q ∈ l,f q = g q) -> l.find? f = l.find? g
 | [],_=>rfl
 | q :: l,h=>by
  rw [List.find?_cons,List.find?_cons,h q List.mem_cons_self,find_same l fun z hz=>h z (List.mem_cons_of_mem _ hz)]
theorem fork_first {heap:List (List Nat)} {row y:List Nat} (hh:∀ r ∈ heap,r.length = row.length) (hy:y.length = row.length) (hl:IsLet y) (hw:within y row = true):evalF (forkOf heap row) y = heap.findIdx fun r=>within y r:=by
 have hy':∀ p ∈ asked heap row,y.getD p 0 = 48 \/ y.getD p 0 = 49:=fun p hp=>by
  have:=(asked_lt hp).1
  rw [List.getD_eq_getElem?_getD,List.getElem?_eq_getElem (by omega),Option.getD_some]
  exact hl _ (List.getElem_mem _)
 have t:=fork_truth (asked heap row) _ y (firsts_ok heap row) hy'
 rw [firsts_first,List.nil_append] at t
 have same:∀ q ∈ metL heap row,within (narrow y (asked heap row)) (narrow q.1 (asked heap row)) = within y q.1:=fun q hq=>by
  obtain ⟨l1,l2⟩:=met_rows hh hq
  rw [within_narrow,Bool.eq_iff_iff,List.all_eq_true,within_at hy l1]
  rw [okL_all row.length _ _ l1 rfl,List.all_eq_true] at l2
  constructor
  ·intro h i hi
   by_cases e:q.1.getD i 0 = 45
   ·exact .inl e
   ·refine .inr ?_
    by_cases e2:row.getD i 0 = 45
    ·have hm:i ∈ asked heap row:=by
      refine List.mem_filter.mpr ⟨List.mem_filter.mpr ⟨List.mem_range.mpr hi,?_⟩,decide_eq_true e2⟩
      unfold told
      rw [List.any_eq_true]
      exact ⟨q.1,List.mem_map.mpr ⟨q,hq,rfl⟩,by simpa using e⟩
     have:=h i hm
     simp only [fitAt,Bool.or_eq_true,beq_iff_eq] at this
     exact this.resolve_left e
    ·have h1:=l2 i (List.mem_range.mpr hi)
     have h2:=(within_at hy rfl).mp hw i hi
     simp only [okS,Bool.or_eq_true,beq_iff_eq] at h1
     rcases h1 with (z | z) | z
     ·exact absurd z e
     ·exact absurd z e2
     ·exact z.trans (h2.resolve_left e2)
  ·intro h i hi
   have:=h i (asked_lt hi).1
   simpa [fitAt] using this
 have find:∀ l:List Pr,(∀ q ∈ l,within (narrow y (asked heap row)) (narrow q.1 (asked heap row)) = within y q.1) -> firstN (l.map fun q=>(narrow q.1 (asked heap row),q.2)) (narrow y (asked heap row)) = (l.find? fun q=>within y q.1).map Prod.snd:=by
  intro l
  induction l with
  | nil=>intro _; rfl
  | cons q l ih=>
   intro h
   have ih:=ih fun z hz=>h z (List.mem_cons_of_mem _ hz)
   unfold firstN at ih ⊢
   rw [List.map_cons,List.find?_cons,List.find?_cons]
   dsimp only
   rw [h q List.mem_cons_self]
   cases within y q.1 with
   | true=>rfl
   | false=>exact ih
 have hm:((metL heap row).find? fun q=>within y q.1) = ((heap ++ [dashes row.length]).zipIdx).find? fun q=>within y q.1:=by
  unfold metL
  rw [List.find?_filter]
  refine find_same _ fun q hq=>?_
  cases hq1:within y q.1 with
  | false=>simp
  | true=>
   rw [decide_eq_true_iff]
   refine ⟨?_,rfl⟩
   have l1:q.1.length = row.length:=by
    rcases List.mem_append.mp (List.fst_mem_of_mem_zipIdx hq) with z | z
    ·exact hh _ z
    ·rw [List.mem_singleton.mp z]
     simp [dashes]
   rw [okL_all row.length _ _ l1 rfl,List.all_eq_true]
   intro i hi
   have hi:=List.mem_range.mp hi
   have h1:=(within_at hy l1).mp hq1 i hi
   have h2:=(within_at hy rfl).mp hw i hi
   simp only [okS,Bool.or_eq_true,beq_iff_eq]
   rcases h1 with z | z
   ·exact .inl (.inl z)
   ·rcases h2 with z2 | z2
    ·exact .inl (.inr z2)
    ·exact .inr (z.trans z2.symm)
 rw [show firstN (pairsL heap row) _ = _ from find _ same,hm,first_idx (fun r=>within y r) _ (within_dashes _ _) heap 0,Nat.zero_add] at t
 exact (Option.some.inj t).symm
noncomputable def pk (p:Pr):Key × V:=(Sum.inr (st p.1),V.int p.2)
def PairAt (H:Hp) (x:Pr) (v:V):Prop:=∃ t,v = .ref t /\ H t = some (.tup [tx x.1,.int x.2])
def Pairs (H:Hp) (p:Addr) (xs:List Pr):Prop:=∃ vs,H p = some (.lst vs) /\ Paired (PairAt H) xs vs
theorem Pairs.same {H H':Hp} {p:Addr} {xs:List Pr} (h:Pairs H p xs) (s:Same H H'):Pairs H' p xs:=by
 obtain ⟨vs,e,pr⟩:=h
 exact ⟨vs,s _ _ e,L2.Paired.mapP pr fun _ _ ⟨t,e,q⟩=>⟨t,e,s _ _ q⟩⟩
theorem valV_pk (s:List Nat):∀ fs:List Pr,valV (fs.map pk) (Sum.inr (st s)) = (fs.find? fun p=>decide (p.1 = s)).map fun p=>V.int p.2
 | []=>rfl
 | p :: fs=>by
  rw [List.map_cons,List.find?_cons]
  by_cases h:p.1 = s
  ·rw [valV_pos (by rw [<- h]; rfl),decide_eq_true h]
   rfl
  ·rw [valV_neg (fun z=>h (by have z:(Sum.inr (st p.1):Key) = Sum.inr (st s):=z; injection z with z; exact st_inj.mp z)),decide_eq_false h]
   exact valV_pk s fs
theorem pk_in {fs:List Pr} {s:List Nat}:valV (fs.map pk) (Sum.inr (st s)) = none ↔ s ∉ fs.map Prod.fst:=by
 rw [valV_pk,Option.map_eq_none_iff,List.find?_eq_none]
 constructor
 ·intro h m
  obtain ⟨p,hp,e⟩:=List.mem_map.mp m
  exact h p hp (decide_eq_true e)
 ·intro h p hp e
  exact h (List.mem_map.mpr ⟨p,hp,of_decide_eq_true e⟩)
theorem pk_put {fs:List Pr} {s:List Nat} {n:Nat} (h:s ∉ fs.map Prod.fst):putK (fs.map pk) (Sum.inr (st s)) (V.int n) = (fs ++ [(s,n)]).map pk:=by
 rw [putK_new _ (pk_in.mpr h),List.map_append]
 rfl
noncomputable def sp_firsts_of (K:Frag):Sp:=fun vs H Q _=>match vs with
 | [.ref p,.int w]=>∃ (xs:List Pr) (n:Nat),w = (n:Int) /\ n <= 1000 /\ Pairs H p xs /\ xs.length <= 1000 /\ ∀ q ob H',H q = none -> Same H H' -> H' q = some (.frz ob (.dK ((firstsL n [] xs).map pk))) -> Q (.ref q) H'
 | _=>False
theorem ok_firsts_of (T:Top K mg):Callee P w K mg base 1 "firsts_of" ["pairs", "width"] (sp_firsts_of K):=by
 refine T.f_firsts_of.cal sc_firsts_of (by intro vs H Q E h; unfold sp_firsts_of at h; split at h <;> first | rfl | exact h.elim) (fun _ _ _ _ _ _ us hl=>match us,hl with | [_,_],_=>rfl) (fun f cdv A outer s H vs Q E hr h=>?_)
 unfold sp_firsts_of at h
 split at h
 case h_2=>exact h.elim
 refine ⟨_,(pss_cons (ps_set (i:=2) sc_firsts_of.nd rfl lc pe_dnewK)
   (pss_cons (qs_for PassesOwn.never rfl (iterE K rfl (qv 0)) (tupE K rfl rfl (n:=2) (pgs_cons (pg_name (i:=3) sc_firsts_of.nd rfl lc) (pgs_cons (pg_name (i:=4) sc_firsts_of.nd rfl lc) pgs_nil))) (pss_cons (ps_expr (qe_setdef (qv 2) (qv 3) (qv 4) ⟨rfl,rfl,rfl,rfl⟩))
   (pss_one (ps_if (qt_cmp op_eqK (qv 3) (pe_op op_mulK (qs [45]) (qv 1))) (pss_one ps_break) pss_nil))))
   (pss_one (ps_retD (qv 2))))),?_⟩
 rename_i p w
 obtain ⟨xs,n,rfl,hn,⟨vs,e0,pr⟩,hx,q⟩:=h
 have hl:=pr.length
 walk_at "rd"
 intro g hg
 refine .inl ⟨⟨_,SqL.of (same_new hg _ _ _ e0)⟩,?_⟩
 have fin:∀ H1,Same H H1 -> H1 g = some (.dK ((firstsL n [] xs).map pk)) -> ∃ kvs,H1 g = some (.dK kvs) /\ ∀ ob,Q (.ref g) (upd H1 g (.frz ob (.dK kvs))):=fun H1 s1 e1=>
  ⟨_,e1,fun ob=>q g ob _ hg (same_upd s1 hg) upd_same⟩
 refine loop_list (xs:=vs) (fun i σ H'=>∃ (u v:Option V) (acc:List Pr),σ = [some (.ref p),some (.int n),some (.ref g),u,v] /\ Same H H' /\ H' g = some (.dK (acc.map pk)) /\ acc.length <= i /\ firstsL n [] xs = firstsL n acc (xs.drop i)) ⟨none,none,[],rfl,same_new hg _,upd_same,Nat.le_refl _,by rw [List.drop_zero]⟩ (fun i σ H' _ ⟨_,_,_,_,z,_⟩=>SqL.of (z _ _ e0)) ?_ ?_
 ·rintro i x σ H1 hxi ⟨u,v,acc,rfl,s1,e1,la,ef⟩
  have hi:i < vs.length:=(List.getElem?_eq_some_iff.mp hxi).1
  have hiw:i < xs.length:=by omega
  obtain ⟨y,hy,t',ey,et⟩:=paired_at pr (List.getElem?_eq_getElem hiw)
  obtain rfl:x = .ref t':=by rw [hy] at hxi; rw [<- Option.some.inj hxi,ey]
  rw [List.drop_eq_getElem_cons hiw] at ef
  generalize xs[i] = pr0 at et ef
  obtain ⟨s,k⟩:=pr0
  refine ⟨t',[_,_],rfl,SqT.of (s1 _ _ et),rfl,_,[_],rfl,_,[],rfl,rfl,?_⟩
  walk_at "rd"
  have small:(acc.map pk).length < sizeLine:=by rw [List.length_map,sizeLine_eq]; omega
  refine ⟨.inl ⟨_,.inl e1⟩,_,Sum.inr (st s),e1,rfl,small,fun v0 hv=>?_,fun hnone=>?_⟩
  ·have hm:s ∈ acc.map Prod.fst:=Classical.byContradiction fun z=>by rw [pk_in.mpr z] at hv; cases hv
   rw [firstsL,if_pos hm] at ef
   dsimp only at ef
   walk_at "rd"
   refine ⟨by omega,by omega,ite2 (fun c=>?_) fun c=>?_⟩
   ·rw [Int.toNat_natCast] at c
    rw [if_pos (show s = dashes n from c)] at ef
    exact fin _ s1 (by rw [e1,ef])
   ·rw [Int.toNat_natCast] at c
    rw [if_neg (show ¬ s = dashes n from c)] at ef
    exact ⟨_,_,acc,rfl,s1,e1,by omega,ef⟩
  ·have hm:s ∉ acc.map Prod.fst:=pk_in.mp hnone
   rw [firstsL,if_neg hm] at ef
   dsimp only at ef
   rw [pk_put hm]
   walk_at "rd"
   refine ⟨by omega,by omega,ite2 (fun c=>?_) fun c=>?_⟩
   ·rw [Int.toNat_natCast] at c
    rw [if_pos (show s = dashes n from c)] at ef
    exact fin _ (same_upd s1 hg) (by rw [upd_same,ef])
   ·rw [Int.toNat_natCast] at c
    rw [if_neg (show ¬ s = dashes n from c)] at ef
    exact ⟨_,_,acc ++ [(s,k)],rfl,same_upd s1 hg,upd_same,by rw [List.length_append,List.length_singleton]; omega,ef⟩
 ·rintro σ H1 ⟨u,v,acc,rfl,s1,e1,la,ef⟩
  walk_at "rd"
  rw [<- hl,List.drop_length] at ef
  exact fin _ s1 (by rw [e1,ef]; rfl)
theorem firsts_len (w:Nat):∀ (pairs acc:List Pr),(firstsL w acc pairs).length <= acc.length + pairs.length
 | [],acc=>Nat.le_refl _
 | p :: r,acc=>by
  have a:(if p.1 ∈ acc.map Prod.fst then acc else acc ++ [p]).length <= acc.length + 1:=by
   split
   ·omega
   ·rw [List.length_append,List.length_singleton]
    omega
  have b:=firsts_len w r (if p.1 ∈ acc.map Prod.fst then acc else acc ++ [p])
  rw [firstsL,List.length_cons]
  split
  ·omega
  ·omega
theorem side_small (fs:List Pr) (c n:Nat):(sideF fs c n).length <= fs.length:=by
 have a:=firsts_len n (sideP fs c) []
 have b:(sideP fs c).length <= fs.length:=by
  unfold sideP
  rw [List.length_map]
  exact List.length_filter_le _ _
 rw [List.length_nil] at a
 unfold sideF
 omega
noncomputable def sp_firsts_side (K:Frag):Sp:=fun vs H Q _=>match vs with
 | [.ref d,.str s,.int w]=>∃ (ob:Obj) (fs:List Pr) (c n:Nat),s.cps.toList = [c] /\ w = (n:Int) /\ n <= 1000 /\ H d = some (.frz ob (.dK (fs.map pk))) /\ (∀ p ∈ fs,0 < p.1.length /\ p.1.length <= 1000) /\ fs.length <= 1000 /\
   ∀ q ob' H',H q = none -> Same H H' -> H' q = some (.frz ob' (.dK ((sideF fs c n).map pk))) -> Q (.ref q) H'
 | _=>False
theorem ok_firsts_side (T:Top K mg):Callee P w K mg base 2 "firsts_side" ["firsts", "sign", "width"] (sp_firsts_side K):=by
 refine T.f_firsts_side.cal sc_firsts_side (by intro vs H Q E h; unfold sp_firsts_side at h; split at h <;> first | rfl | exact h.elim) (fun _ _ _ _ _ _ us hl=>match us,hl with | [_,_,_],_=>rfl) (fun f cdv A outer s H vs Q E hr h=>?_)
 unfold sp_firsts_side at h
 split at h
 case h_2=>exact h.elim
 refine ⟨_,(pss_one (ps_ret (pe_fn (ok_firsts_of T) hr.m rfl (pa_cons (qe_comp (nt:=2) (fi:=[1]) (N':=["signs", "number", "sign"]) rfl (cscope rfl (by decide +kernel)) (cnames (N:=["firsts", "sign", "width"]) (sc:=defScope s_firsts_side) rfl rfl (by decide +kernel)) (gk_tup2 (by decide) (by decide)) (qi_items (qv 0)) (fun _ _ _ _ _=>(tupE K rfl rfl (n:=2) (pgs_cons (pg_name (i:=0) (by show (["signs", "number", "sign"]:List Str).Nodup; decide +kernel) rfl lc) (pgs_cons (pg_name (i:=1) (by show (["signs", "number", "sign"]:List Str).Nodup; decide +kernel) rfl lc) pgs_nil)))) (fun _ _ _ _ _=>(pif_one (qt_cmp (inE K rfl) (pe_ix (ixE K rfl) (qv 0) pe_int (fun _ _=>rfl)) (pe_tup (pa_cons (qv 2) (pa_cons (qs [45]) pa_nil)))))) (fun _ _ _ _ _=>(pe_tup (pa_cons (pe_slice (slE K rfl) (qv 0) (qo_some pe_int) po_none) (pa_cons (qv 1) pa_nil))))) (pa_cons (qv 2) pa_nil))))),?_⟩
 rename_i d s w
 obtain ⟨ob,fs,c,n,hc,rfl,hn,h1,h2,h3,q⟩:=h
 obtain rfl:s = st [c]:=by rw [<- hc,st_eta]
 walk_at "rd"
 refine ⟨ob,_,h1,fun D hD=>?_⟩
 refine comp_itemsR pk fs (fun p=>decide (p.1.headD 0 = c) || decide (p.1.headD 0 = 45)) (fun x v H'=>PairAt H' (x.1.tail,x.2) v) hD h1 (by omega) ?_ ?_ ?_
 ·rintro x v H1 H2 acc hd k ⟨t,e,r⟩
  exact ⟨t,e,k _ _ (fun z=>by subst z; rw [hd] at r; cases r) r⟩
 ·rintro ⟨l,k⟩ Tt H1 out non hm s1 hT ho hno
  obtain ⟨a,b⟩:=h2 _ hm
  refine ⟨Tt,[tx l,.int k],rfl,SqT.of hT,rfl,tx l,[.int k],rfl,.int k,[],rfl,rfl,?_⟩
  cases l with
  | nil=>exact absurd a (Nat.lt_irrefl 0)
  | cons x l=>
   have b:l.length + 1 <= 1000:=b
   walk_at "rd"
   refine ⟨by omega,x,at_nat (l:=x :: l) (i:=0) (by simp),by decide,fun p hp=>⟨_,.inr (SqT.of upd_same),rfl,rfl,?_⟩⟩
   have e:inV (V.str (st [x])) [V.str (st [c]),V.str (st [45])] = decide (x ∈ [c,45]):=in_signs x [c,45]
   rw [e]
   refine ite2 (fun e2=>?_) fun e2=>hno _ ?_ (same_new hp _)
   ·refine ⟨by omega,by omega,by decide,fun t ht=>ho _ _ ?_ ((same_new hp _).trans (same_new ht _)) ⟨t,rfl,?_⟩⟩
    ·have:x = c \/ x = 45:=by simpa using e2
     simpa using this
    ·rw [upd_same]
     simp [tx]
   ·have:¬ (x = c \/ x = 45):=by simpa using e2
    simpa using this
 ·intro H1 ws s1 e1 pr
  refine ⟨sideP fs c,n,rfl,hn,⟨ws,e1,?_⟩,?_,fun q1 ob' H' f1 s2 e2=>q q1 ob' H' (s1.free f1) (s1.trans s2) e2⟩
  ·exact paired_mapL pr
  ·unfold sideP
   rw [List.length_map]
   exact Nat.le_trans (List.length_filter_le _ _) h3
noncomputable def FkV (H:Hp):Fork -> V -> Prop
 | .leaf n,v=>v = .int n
 | .ask p a b,v=>∃ t x y,v = .ref t /\ H t = some (.tup [.int p,x,y]) /\ FkV H a x /\ FkV H b y
theorem FkV.same {H H':Hp} (s:Same H H'):∀ {F:Fork} {v:V},FkV H F v -> FkV H' F v
 | .leaf _,_,h=>h
 | .ask _ _ _,_,⟨t,x,y,e,q,h1,h2⟩=>⟨t,x,y,e,s _ _ q,h1.same s,h2.same s⟩
noncomputable def forkD:Fork -> D
 | .leaf n=>.f (.int n)
 | .ask p a b=>.t [.f (.int p),forkD a,forkD b]
theorem fork_deep {H:Hp}:∀ (F:Fork) (v:V) (n:Nat),FkV H F v -> high F <= n -> Deep K H n v (forkD F)
 | .leaf k,v,n,h,_=>by
  rw [show v = .int k from h]
  exact deep_flat n rfl
 | .ask p a b,v,n,⟨t,x,y,e,q,h1,h2⟩,hn=>by
  have hn:max (high a) (high b) + 1 <= n:=hn
  obtain ⟨m,rfl⟩:∃ m,n = m + 1:=⟨n - 1,by omega⟩
  exact .inr (.inr ⟨t,_,_,e,rfl,SqT.of q,.cons (deep_flat m rfl) (.cons (fork_deep a x m h1 (by omega)) (.cons (fork_deep b y m h2 (by omega)) .nil))⟩)
theorem intK (n m:Nat):eqV (.int n) (.int m) = (n == m):=by
 show ((n:Int) == (m:Int)) = _
 rw [Bool.eq_iff_iff,beq_iff_eq,beq_iff_eq]
 omega
theorem eqD_fork:∀ a b:Fork,eqD (forkD a) (forkD b) = eqK a b
 | .leaf n,.leaf m=>by
  rw [forkD,forkD,eqD,eqK]
  exact intK n m
 | .ask p a b,.ask q c d=>by
  rw [forkD,forkD,eqD,eqDs,eqDs,eqDs,eqDs,eqD,eqK,eqD_fork a c,eqD_fork b d,Bool.and_true]
  rw [intK]
 | .leaf _,.ask _ _ _=>by rw [forkD,forkD,eqD,eqK]
 | .ask _ _ _,.leaf _=>by rw [forkD,forkD,eqD,eqK]
theorem kEqF_fork {H:Hp} {Q:VK} {F G:Fork} {x y:V} (hF:FkV H F x) (hG:FkV H G y) (h1:high F <= 50) (h2:high G <= 50) (q:Q (.bl (eqK F G)) H):kEqF K x y H Q:=by
 cases F with
 | leaf n=>
  obtain rfl:x = .int n:=hF
  cases G with
  | leaf m=>
   obtain rfl:y = .int m:=hG
   show Q (.bl (decide ((n:Int) = (m:Int)))) H
   rw [show decide ((n:Int) = (m:Int)) = eqK (.leaf n) (.leaf m) by rw [eqK,Bool.eq_iff_iff,decide_eq_true_iff,beq_iff_eq]; omega]
   exact q
  | ask p a b=>
   obtain ⟨t,x,y,rfl,e,_⟩:=hG
   exact ⟨⟨_,SqT.of e⟩,q⟩
 | ask p a b=>
  obtain ⟨t,x1,y1,rfl,e,z1,z2⟩:=hF
  cases G with
  | leaf m=>
   obtain rfl:y = .int m:=hG
   exact ⟨⟨_,SqT.of e⟩,q⟩
  | ask p' a' b'=>
   have dG:=fork_deep (K:=K) _ _ 50 hG h2
   obtain ⟨t',x',y',rfl,e',z1',z2'⟩:=hG
   refine ⟨50,_,_,by decide,fork_deep (.ask p a b) _ 50 ⟨t,x1,y1,rfl,e,z1,z2⟩ h1,dG,?_⟩
   rw [eqD_fork,Bool.false_xor]
   exact q
theorem cut_tail (x:V) (xs:List V):cutV (x :: xs) (some 1) none = xs:=by
 unfold cutV
 have e1:HT.sIx (x :: xs).length 0 (some 1) = 1:=by
  simp [HT.sIx]
  try omega
 have e2:HT.sIx (x :: xs).length (x :: xs).length none = xs.length + 1:=by simp [HT.sIx]
 rw [e1,e2]
 simp
theorem dEq_same {a b:List Pr} (ha:AscF a) (hb:AscF b) (h:dEq (a.map pk) (b.map pk) = true):a = b:=by
 unfold dEq at h
 rw [Bool.and_eq_true,beq_iff_eq,List.length_map,List.length_map,List.all_eq_true] at h
 refine same_firsts ha hb h.1 fun p hp=>?_
 have:=h.2 (pk p) (List.mem_map.mpr ⟨p,hp,rfl⟩)
 rw [show (pk p).2 = V.int p.2 from rfl,show (pk p).1 = Sum.inr (st p.1) from rfl,valV_pk] at this
 cases e:b.find? fun q=>decide (q.1 = p.1) with
 | none=>rw [e] at this; cases this
 | some q=>
  rw [e] at this
  have e2:((p.2:Int) == (q.2:Int)) = true:=this
  have e1:q.1 = p.1:=by simpa using List.find?_some e
  rw [beq_iff_eq] at e2
  have:p = q:=Prod.ext e1.symm (by omega)
  rw [this]
  exact List.mem_of_find?_eq_some e
noncomputable def sp_fork_below (K:Frag) (m:Nat):Sp:=fun vs H Q _=>match vs with
 | [.ref d,.ref g]=>∃ (ob:Obj) (fs:List Pr) (ps:List Nat),ps.length < m /\ ps.length <= 12 /\ H d = some (.frz ob (.dK (fs.map pk))) /\ SqL K H g (ps.map pl) /\ GoodF ps.length fs /\ AscF fs /\ fs.length <= 1000 /\
   ∀ v H',Same H H' -> FkV H' (forkL ps fs) v -> Q v H'
 | _=>False
theorem rec_fork_below (T:Top K mg):∀ m:Nat,Callee P w K mg base (m + 3) "fork_below" ["firsts", "places"] (sp_fork_below K m):=by
 intro m
 induction m with
 | zero=>
  refine T.f_fork_below.cal sc_fork_below (by intro vs H Q E h; unfold sp_fork_below at h; split at h <;> first | rfl | exact h.elim) (fun _ _ _ _ _ _ us hl=>match us,hl with | [_,_],_=>rfl) (fun f cdv A outer s H vs Q E hr h=>?_)
  unfold sp_fork_below at h
  split at h
  case h_2=>exact h.elim
  obtain ⟨_,_,_,hn,_⟩:=h
  exact absurd hn (Nat.not_lt_zero _)
 | succ m ih=>
  refine T.f_fork_below.cal sc_fork_below (by intro vs H Q E h; unfold sp_fork_below at h; split at h <;> first | rfl | exact h.elim) (fun _ _ _ _ _ _ us hl=>match us,hl with | [_,_],_=>rfl) (fun f cdv A outer s H vs Q E hr h=>?_)
  unfold sp_fork_below at h
  split at h
  case h_2=>exact h.elim
  refine ⟨_,(pss_cons (ps_if (qt_cmp op_eqK (pe_callB call_lenDR rfl T.b_len bb_len (pa_cons (qv 0) pa_nil)) pe_int) (pss_one (ps_ret (qe_dget (hu_of hr) (qv 0) (pe_op op_mulK (qs [45]) (pe_callB (lenE K rfl) rfl T.b_len bb_len (pa_cons (qv 1) pa_nil))) (fun _ _=>rfl)))) pss_nil)
   (pss_cons (ps_set (i:=2) sc_fork_below.nd rfl lc (pe_fn (ok_firsts_side T) hr.m rfl (pa_cons (qv 0) (pa_cons (qs [48]) (pa_cons (pe_op op_subK (pe_callB (lenE K rfl) rfl T.b_len bb_len (pa_cons (qv 1) pa_nil)) pe_int) pa_nil)))))
   (pss_cons (ps_set (i:=3) sc_fork_below.nd rfl lc (pe_fn (ok_firsts_side T) hr.m rfl (pa_cons (qv 0) (pa_cons (qs [49]) (pa_cons (pe_op op_subK (pe_callB (lenE K rfl) rfl T.b_len bb_len (pa_cons (qv 1) pa_nil)) pe_int) pa_nil)))))
   (pss_cons (ps_set (i:=4) sc_fork_below.nd rfl lc (pe_fn ih hr.m rfl (pa_cons (qv 2) (pa_cons (pe_slice (slE K rfl) (qv 1) (qo_some pe_int) po_none) pa_nil))))
   (pss_cons (ps_if (qt_cmp (eqDictE hr) (qv 2) (qv 3)) (pss_one (ps_ret (qv 4))) pss_nil)
   (pss_cons (ps_set (i:=5) sc_fork_below.nd rfl lc (pe_fn ih hr.m rfl (pa_cons (qv 3) (pa_cons (pe_slice (slE K rfl) (qv 1) (qo_some pe_int) po_none) pa_nil))))
   (pss_one (ps_ret (pe_ifExp (qt_cmp (eqFE K rfl hr) (qv 4) (qv 5)) (qv 4) (pe_tup (pa_cons (pe_ix (ixE K rfl) (qv 1) pe_int (fun _ _=>rfl)) (pa_cons (qv 4) (pa_cons (qv 5) pa_nil))))))))))))),?_⟩
  rename_i d g
  obtain ⟨ob,fs,ps,hm,hm12,h1,h2,hG,hA,hl,q⟩:=h
  walk_at "rd"
  refine ⟨d,_,rfl,.inr ⟨ob,h1⟩,?_⟩
  rw [List.length_map]
  refine ite2 (fun c1=>?_) fun c1=>?_
  ·have c1:fs.length = 1:=by omega
   obtain ⟨k,rfl⟩:=good_one hG c1
   refine ⟨_,.inl h2,by rw [List.length_map]; omega,by rw [List.length_map]; omega,V.int k,.inl ⟨_,Sum.inr (st (dashes ps.length)),.inr ⟨ob,h1⟩,?_,?_⟩,q _ H (Same.refl _) ?_⟩
   ·rw [List.length_map,Int.toNat_natCast]
    rfl
   ·rw [valV_pk]
    simp
   ·cases ps with
    | nil=>
     show V.int k = V.int (numOf _ [])
     rfl
    | cons p ps=>
     rw [forkL,if_pos c1]
     show V.int k = V.int (numOf _ _)
     unfold numOf
     simp
  ·have c1:fs.length ≠ 1:=by omega
   cases ps with
   | nil=>
    obtain ⟨k,rfl⟩:=good_zero hG
    exact absurd rfl c1
   | cons p ps=>
    have hG:GoodF (ps.length + 1) fs:=hG
    have ek:(((p :: ps).map pl).length:Int) - 1 = (ps.length:Int):=by rw [List.length_map,List.length_cons]; omega
    have hm':ps.length < m:=by rw [List.length_cons] at hm; omega
    have hm12':ps.length <= 11:=by rw [List.length_cons] at hm12; omega
    have hw:∀ x ∈ fs,0 < x.1.length /\ x.1.length <= 1000:=fun x hx=>by have:=hG.1 x hx; omega
    have t0:=side_small fs 48 ps.length
    have t1:=side_small fs 49 ps.length
    refine ⟨_,.inl h2,ob,fs,48,ps.length,rfl,ek,by omega,h1,hw,hl,fun d0 ob0 H1 f0 s1 e0=>?_⟩
    refine ⟨_,.inl (s1.seq h2),ob,fs,49,ps.length,rfl,ek,by omega,s1 _ _ h1,hw,hl,fun d1 ob1 H2 f1 s2 e1=>?_⟩
    have s02:=s1.trans s2
    refine ⟨_,s02.seq h2,fun g1 hg1=>?_⟩
    rw [List.map_cons,cut_tail]
    have s3:=same_new hg1 (.lst (ps.map pl))
    refine ⟨ob0,_,ps,hm',by omega,s3 _ _ (s2 _ _ e0),SqL.of upd_same,side_good hG 48,side_asc hA 48 _,by omega,fun no H3 s4 k0=>?_⟩
    have s24:=s3.trans s4
    have e0':=s24 _ _ (s2 _ _ e0)
    have e1':=s24 _ _ e1
    walk_at "rd"
    refine ⟨_,_,.inr ⟨ob0,e0'⟩,.inr ⟨ob1,e1'⟩,fun x hx=>?_,fun x hx=>?_,?_⟩
    ·obtain ⟨y,_,rfl⟩:=List.mem_map.mp hx
     exact ⟨_,rfl⟩
    ·obtain ⟨y,_,rfl⟩:=List.mem_map.mp hx
     exact ⟨_,rfl⟩
    have s04:=s02.trans s24
    have ef:forkL (p :: ps) fs = joinK p (forkL ps (sideF fs 48 ps.length)) (forkL ps (sideF fs 49 ps.length)):=by rw [forkL,if_neg c1]
    walk_at "rd"
    refine ite2 (fun c2=>?_) fun c2=>?_
    ·have e:=dEq_same (side_asc hA 48 _) (side_asc hA 49 _) c2
     refine q no H3 s04 ?_
     rw [ef,<- e]
     unfold joinK
     rw [if_pos (eqK_refl _)]
     exact k0
    ·refine ⟨_,s04.seq h2,fun g2 hg2=>?_⟩
     rw [List.map_cons,cut_tail]
     have s5:=same_new hg2 (.lst (ps.map pl))
     refine ⟨ob1,_,ps,hm',by omega,s5 _ _ e1',SqL.of upd_same,side_good hG 49,side_asc hA 49 _,by omega,fun yes H4 s6 k1=>?_⟩
     have s06:=s04.trans (s5.trans s6)
     have k0':=k0.same (s5.trans s6)
     have b0:=fork_high ps (sideF fs 48 ps.length)
     have b1:=fork_high ps (sideF fs 49 ps.length)
     walk_at "rd"
     refine kEqF_fork k0' k1 (by omega) (by omega) ?_
     walk_at "rd"
     refine ite2 (fun c3=>?_) fun c3=>?_
     ·refine q no H4 s06 ?_
      rw [ef]
      unfold joinK
      rw [if_pos c3]
      exact k0'
     ·refine ⟨_,pl p,.inl (s06.seq h2),at_nat (l:=(p :: ps).map pl) (i:=0) (by simp),by decide,fun t ht=>q _ _ (s06.trans (same_new ht _)) ?_⟩
      rw [ef]
      unfold joinK
      rw [if_neg c3]
      exact ⟨t,_,_,rfl,upd_same,k0'.same (same_new ht _),k1.same (same_new ht _)⟩
theorem ok_fork_below (T:Top K mg):Callee P w K mg base 19 "fork_below" ["firsts", "places"] (sp_fork_below K 16):=rec_fork_below T 16
theorem at_getD {l:List Nat} {i:Nat} (h:i < l.length):atI l (i:Int) = some (l.getD i 0):=by
 rw [at_nat h]
 simp [h]
noncomputable def sp_fork_parts (K:Frag) (m:Nat):Sp:=fun vs H Q _=>match vs with
 | [f,.str a,.str b]=>∃ (F:Fork) (W:Nat),FkV H F f /\ high F < m /\ high F <= 12 /\ Asks W F /\ a.cps.toList.length = W /\ b.cps.toList.length = W /\ W <= 1000 /\
   ∀ q H',H q = none -> Same H H' -> Pairs H' q (cutF F a.cps.toList b.cps.toList) -> Q (.ref q) H'
 | _=>False
theorem rec_fork_parts (T:Top K mg):∀ m:Nat,Callee P w K mg base (m + 2) "fork_parts" ["fork", "row", "over"] (sp_fork_parts K m):=by
 intro m
 induction m with
 | zero=>
  refine T.f_fork_parts.cal sc_fork_parts (by intro vs H Q E h; unfold sp_fork_parts at h; split at h <;> first | rfl | exact h.elim) (fun _ _ _ _ _ _ us hl=>match us,hl with | [_,_,_],_=>rfl) (fun f cdv A outer s H vs Q E hr h=>?_)
  unfold sp_fork_parts at h
  split at h
  case h_2=>exact h.elim
  obtain ⟨_,_,_,hn,_⟩:=h
  exact absurd hn (Nat.not_lt_zero _)
 | succ m ih=>
  refine T.f_fork_parts.cal sc_fork_parts (by intro vs H Q E h; unfold sp_fork_parts at h; split at h <;> first | rfl | exact h.elim) (fun _ _ _ _ _ _ us hl=>match us,hl with | [_,_,_],_=>rfl) (fun f cdv A outer s H vs Q E hr h=>?_)
  unfold sp_fork_parts at h
  split at h
  case h_2=>exact h.elim
  refine ⟨_,(pss_cons (ps_if (qt_val (qe_isinst .int rfl T.b_isinstance (qv 0) rfl T.b_int bb_int)) (pss_one (ps_ret (pe_lst (pa_cons (pe_tup (pa_cons (qv 1) (pa_cons (qv 0) pa_nil))) pa_nil)))) pss_nil)
   (pss_cons (ps_set (i:=3) sc_fork_parts.nd rfl lc (pe_ix (ixE K rfl) (qv 0) pe_int (fun _ _=>rfl)))
   (pss_cons (ps_set (i:=4) sc_fork_parts.nd rfl lc (pe_ifExp (qt_cmp op_eqK (pe_ix (ixE K rfl) (qv 2) (qv 3) (fun _ _=>rfl)) (qs [45])) (pe_ix (ixE K rfl) (qv 1) (qv 3) (fun _ _=>rfl)) (pe_ix (ixE K rfl) (qv 2) (qv 3) (fun _ _=>rfl))))
   (pss_cons (ps_if (qt_cmp op_eqK (qv 4) (qs [45])) (pss_cons (ps_set (i:=5) sc_fork_parts.nd rfl lc (pe_fn ih hr.m rfl (pa_cons (pe_ix (ixE K rfl) (qv 0) pe_int (fun _ _=>rfl)) (pa_cons (pe_fn (ok_row_with T) hr.m rfl (pa_cons (qv 1) (pa_cons (qv 3) (pa_cons (qs [48]) pa_nil)))) (pa_cons (qv 2) pa_nil)))))
   (pss_one (ps_ret (pe_op op_addK (qv 5) (pe_fn ih hr.m rfl (pa_cons (pe_ix (ixE K rfl) (qv 0) pe_int (fun _ _=>rfl)) (pa_cons (pe_fn (ok_row_with T) hr.m rfl (pa_cons (qv 1) (pa_cons (qv 3) (pa_cons (qs [49]) pa_nil)))) (pa_cons (qv 2) pa_nil)))))))) pss_nil)
   (pss_one (ps_ret (pe_fn ih hr.m rfl (pa_cons (pe_ifExp (qt_cmp op_eqK (qv 4) (qs [48])) (pe_ix (ixE K rfl) (qv 0) pe_int (fun _ _=>rfl)) (pe_ix (ixE K rfl) (qv 0) pe_int (fun _ _=>rfl))) (pa_cons (qv 1) (pa_cons (qv 2) pa_nil)))))))))),?_⟩
  rename_i fv a b
  obtain ⟨r,rfl⟩:∃ x,a = st x:=⟨_,(st_eta a).symm⟩
  obtain ⟨o,rfl⟩:∃ x,b = st x:=⟨_,(st_eta b).symm⟩
  obtain ⟨F,W,hF,hm,hm12,hA,l1,l2,hW,q⟩:=h
  simp only [st_cps] at l1 l2 q
  cases F with
  | leaf n=>
   obtain rfl:fv = .int n:=hF
   walk_at "rd"
   refine ⟨by decide,fun t ht=>⟨by decide,fun l hl=>q l _ ((same_new ht _).free hl) ((same_new ht _).trans (same_new hl _)) ⟨_,upd_same,.cons ⟨t,rfl,?_⟩ .nil⟩⟩⟩
   rw [upd_ne (ne_of_none upd_same hl),upd_same]
  | ask p x y=>
   obtain ⟨t,u,v,rfl,e,k0,k1⟩:=hF
   obtain ⟨hp,a0,a1⟩:=hA
   have hm:max (high x) (high y) + 1 < m + 1:=hm
   have hm12:max (high x) (high y) + 1 <= 12:=hm12
   have c0:=cut_len x (r.set p 48) o
   have c1:=cut_len y (r.set p 49) o
   have b0:2 ^ high x <= 2 ^ 12:=Nat.pow_le_pow_right (by decide) (by omega)
   have b1:2 ^ high y <= 2 ^ 12:=Nat.pow_le_pow_right (by decide) (by omega)
   walk_at "rd"
   refine .inr ⟨⟨_,e⟩,_,_,.inr (SqT.of e),rfl,?_⟩
   walk_at "rd"
   have go:∀ (sgn:Nat),signF p r o = sgn -> cutF (.ask p x y) r o = if sgn = 45 then cutF x (r.set p 48) o ++ cutF y (r.set p 49) o else if sgn = 48 then cutF x r o else cutF y r o:=fun sgn z=>by rw [cutF,z]
   refine ⟨by omega,_,at_getD (by omega),ite2 (fun c=>⟨by omega,_,at_getD (by omega),?_⟩) fun c=>⟨by omega,_,at_getD (by omega),?_⟩⟩
   ·have es:=go (r.getD p 0) (by unfold signF; rw [if_pos c])
    generalize r.getD p 0 = sgn at es
    walk_at "rd"
    refine ite2 (fun g1=>?_) fun g1=>?_
    ·rw [if_pos g1] at es
     refine ⟨_,_,.inr (SqT.of e),rfl,48,rfl,by omega,by simp only [st_cps]; omega,by simp only [st_cps]; omega,?_⟩
     simp only [st_cps,Int.toNat_natCast]
     refine ⟨x,W,k0,by omega,by omega,a0,by simpa using l1,by simpa using l2,hW,fun z0 H1 f0 s1 u0=>?_⟩
     simp only [st_cps] at u0
     refine ⟨_,_,.inr (SqT.of (s1 _ _ e)),rfl,49,rfl,by omega,by simp only [st_cps]; omega,by simp only [st_cps]; omega,?_⟩
     simp only [st_cps,Int.toNat_natCast]
     refine ⟨y,W,k1.same s1,by omega,by omega,a1,by simpa using l1,by simpa using l2,hW,fun z1 H2 f1 s2 u1=>?_⟩
     simp only [st_cps] at u1
     obtain ⟨x8,e8,y8⟩:=u0.same s2
     obtain ⟨x9,e9,y9⟩:=u1
     have z8:=y8.length
     have z9:=y9.length
     walk_at "rd"
     refine ⟨_,_,e8,e9,by rw [sizeLine_eq]; omega,fun z2 f2=>?_⟩
     have s02:=s1.trans s2
     refine q z2 _ (s02.free f2) (s02.trans (same_new f2 _)) ?_
     rw [es]
     exact ⟨_,upd_same,L2.Paired.mapP (paired_app y8 y9) fun _ _ ⟨t,e,h⟩=>⟨t,e,same_new f2 _ _ _ h⟩⟩
    ·rw [if_neg g1] at es
     refine ite2 (fun g2=>⟨_,_,.inr (SqT.of e),rfl,?_⟩) fun g2=>⟨_,_,.inr (SqT.of e),rfl,?_⟩
     ·rw [if_pos g2] at es
      refine ⟨x,W,k0,by omega,by omega,a0,by simpa using l1,by simpa using l2,hW,fun z0 H1 f0 s1 u0=>q z0 H1 f0 s1 ?_⟩
      simp only [st_cps] at u0
      rw [es]
      exact u0
     ·rw [if_neg g2] at es
      refine ⟨y,W,k1,by omega,by omega,a1,by simpa using l1,by simpa using l2,hW,fun z0 H1 f0 s1 u0=>q z0 H1 f0 s1 ?_⟩
      simp only [st_cps] at u0
      rw [es]
      exact u0
   ·have es:=go (o.getD p 0) (by unfold signF; rw [if_neg c])
    generalize o.getD p 0 = sgn at es c
    walk_at "rd"
    refine ite2 (fun g1=>absurd g1 c) fun g1=>?_
    rw [if_neg g1] at es
    refine ite2 (fun g2=>⟨_,_,.inr (SqT.of e),rfl,?_⟩) fun g2=>⟨_,_,.inr (SqT.of e),rfl,?_⟩
    ·rw [if_pos g2] at es
     refine ⟨x,W,k0,by omega,by omega,a0,by simpa using l1,by simpa using l2,hW,fun z0 H1 f0 s1 u0=>q z0 H1 f0 s1 ?_⟩
     simp only [st_cps] at u0
     rw [es]
     exact u0
    ·rw [if_neg g2] at es
     refine ⟨y,W,k1,by omega,by omega,a1,by simpa using l1,by simpa using l2,hW,fun z0 H1 f0 s1 u0=>q z0 H1 f0 s1 ?_⟩
     simp only [st_cps] at u0
     rw [es]
     exact u0
theorem ok_fork_parts (T:Top K mg):Callee P w K mg base 18 "fork_parts" ["fork", "row", "over"] (sp_fork_parts K 16):=rec_fork_parts T 16
theorem pairs_zip {xs:List Pr} {vs:List V} (h:xs.length = vs.length):(xs.zip vs).map Prod.snd = vs:=List.map_snd_zip (by omega)
theorem flat_fst:∀ (l:List Pr) (m:List V),l.length = m.length -> ((l.zip m).flatMap fun pr=>[tx pr.1.1]) = (l.map Prod.fst).map tx
 | [],_,_=>rfl
 | x :: l,[],h=>by cases h
 | x :: l,v :: m,h=>by
  rw [List.zip_cons_cons,List.flatMap_cons,flat_fst l m (by simpa using h)]
  rfl
theorem flat_keep {α:Type} (f:α -> V) (k:α -> Bool):∀ l:List α,(l.flatMap fun x=>if k x = true then [f x] else []) = (l.filter k).map f
 | []=>rfl
 | x :: l=>by
  rw [List.flatMap_cons,flat_keep f k l,List.filter_cons]
  split <;> rfl
noncomputable def sp_fork_of (K:Frag):Sp:=fun vs H Q _=>match vs with
 | [.ref p,.str r]=>∃ hs:List (List Nat),H p = some (.lst (hs.map tx)) /\ (∀ x ∈ hs,x.length = r.cps.toList.length) /\ r.cps.toList.length <= 1000 /\ hs.length <= 500 /\ (asked hs r.cps.toList).length <= 12 /\ ∀ v H',Same H H' -> FkV H' (forkOf hs r.cps.toList) v -> Q v H'
 | _=>False
theorem ok_fork_of (T:Top K mg):Callee P w K mg base 20 "fork_of" ["heap", "row"] (sp_fork_of K):=by
 refine T.f_fork_of.cal sc_fork_of (by intro vs H Q E h; unfold sp_fork_of at h; split at h <;> first | rfl | exact h.elim) (fun _ _ _ _ _ _ us hl=>match us,hl with | [_,_],_=>rfl) (fun f cdv A outer s H vs Q E hr h=>?_)
 unfold sp_fork_of at h
 split at h
 case h_2=>exact h.elim
 refine ⟨_,(pss_cons (ps_set (i:=2) sc_fork_of.nd rfl lc (pe_op op_addK (qv 0) (pe_lst (pa_cons (pe_op op_mulK (qs [45]) (pe_callB (lenE K rfl) rfl T.b_len bb_len (pa_cons (qv 1) pa_nil))) pa_nil))))
   (pss_cons (ps_setC (i:=3) (nt:=2) (fi:=[1]) (N':=["number", "mine", "row"]) sc_fork_of.nd rfl lc rfl (cscope rfl (by decide +kernel)) (cnames (N:=["heap", "row", "rows", "met", "places"]) (sc:=defScope s_fork_of) rfl rfl (by decide +kernel)) (gk_tup2 (by decide) (by decide)) (qi_enumL K rfl rfl T.b_enumerate (qv 2)) (fun _ _ _ _ _=>(tupE K rfl rfl (n:=2) (pgs_cons (pg_name (i:=0) (by show (["number", "mine", "row"]:List Str).Nodup; decide +kernel) rfl lc) (pgs_cons (pg_name (i:=1) (by show (["number", "mine", "row"]:List Str).Nodup; decide +kernel) rfl lc) pgs_nil)))) (fun _ _ _ _ _=>(pif_one (qt_cmp op_isnotK (pe_fn (ok_row_meet T) hr.m rfl (pa_cons (qv 1) (pa_cons (qv 2) pa_nil))) pe_non))) (fun _ _ _ _ _=>(pe_tup (pa_cons (qv 1) (pa_cons (qv 0) pa_nil)))))
   (pss_cons (ps_set (i:=4) sc_fork_of.nd rfl lc (qe_comp (nt:=1) (fi:=[1]) (N':=["place", "row"]) rfl (cscope rfl (by decide +kernel)) (cnames (N:=["heap", "row", "rows", "met", "places"]) (sc:=defScope s_fork_of) rfl rfl (by decide +kernel)) (gk_name (by decide)) (iterE K rfl (pe_fn (ok_heap_places T) hr.m rfl (pa_cons (qe_comp (nt:=2) (fi:=[]) (N':=["mine", "number"]) rfl (cscope rfl (by decide +kernel)) (cnames (N:=["heap", "row", "rows", "met", "places"]) (sc:=defScope s_fork_of) rfl rfl (by decide +kernel)) (gk_tup2 (by decide) (by decide)) (iterE K rfl (qv 3)) (fun _ _ _ _ _=>(tupE K rfl rfl (n:=2) (pgs_cons (pg_name (i:=0) (by show (["mine", "number"]:List Str).Nodup; decide +kernel) rfl lc) (pgs_cons (pg_name (i:=1) (by show (["mine", "number"]:List Str).Nodup; decide +kernel) rfl lc) pgs_nil)))) (fun _ _ _ _ _=>pif_nil) (fun _ _ _ _ _=>(qv 0))) pa_nil))) (fun _ _ _ _ _=>(pg_name (i:=0) (by show (["place", "row"]:List Str).Nodup; decide +kernel) rfl lc)) (fun _ _ _ _ _=>(pif_one (qt_cmp op_eqK (pe_ix (ixE K rfl) (qv 1) (qv 0) (fun _ _=>rfl)) (qs [45])))) (fun _ _ _ _ _=>(qv 0))))
   (pss_one (ps_ret (pe_fn (ok_fork_below T) hr.m rfl (pa_cons (pe_fn (ok_firsts_of T) hr.m rfl (pa_cons (qe_comp (nt:=2) (fi:=[4]) (N':=["mine", "number", "places"]) rfl (cscope rfl (by decide +kernel)) (cnames (N:=["heap", "row", "rows", "met", "places"]) (sc:=defScope s_fork_of) rfl rfl (by decide +kernel)) (gk_tup2 (by decide) (by decide)) (iterE K rfl (qv 3)) (fun _ _ _ _ _=>(tupE K rfl rfl (n:=2) (pgs_cons (pg_name (i:=0) (by show (["mine", "number", "places"]:List Str).Nodup; decide +kernel) rfl lc) (pgs_cons (pg_name (i:=1) (by show (["mine", "number", "places"]:List Str).Nodup; decide +kernel) rfl lc) pgs_nil)))) (fun _ _ _ _ _=>pif_nil) (fun _ _ _ _ _=>(pe_tup (pa_cons (pe_fn (ok_row_narrowed T) hr.m rfl (pa_cons (qv 0) (pa_cons (qv 2) pa_nil))) (pa_cons (qv 1) pa_nil))))) (pa_cons (pe_callB (lenE K rfl) rfl T.b_len bb_len (pa_cons (qv 4) pa_nil)) pa_nil))) (pa_cons (qv 4) pa_nil)))))))),?_⟩
 rename_i p r
 obtain ⟨r,rfl⟩:∃ x,r = st x:=⟨_,(st_eta r).symm⟩
 obtain ⟨hs,h1,h2,h3,h4,h5,q⟩:=h
 simp only [st_cps] at h2 h3 h5 q
 walk_at "rd"
 refine ⟨by omega,by omega,by omega,by decide,fun z hz=>?_⟩
 refine ⟨_,_,same_new hz _ _ _ h1,upd_same,by rw [List.length_map,sizeLine_eq]; simp; omega,fun ra hra=>?_⟩
 have er:upd (upd H z (.lst [V.str (st (List.replicate (r.length:Int).toNat 45))])) ra (.lst (hs.map tx ++ [V.str (st (List.replicate (r.length:Int).toNat 45))])) = upd (upd H z (.lst [tx (dashes r.length)])) ra (.lst ((hs ++ [dashes r.length]).map tx)):=by
  rw [Int.toNat_natCast,List.map_append]
  rfl
 have s1:Same H (upd (upd H z (.lst [tx (dashes r.length)])) ra (.lst ((hs ++ [dashes r.length]).map tx))):=by
  rw [<- er]
  exact (same_new hz _).trans (same_new hra _)
 rw [er]
 generalize hrows:hs ++ [dashes r.length] = rows at s1
 have hrl:rows.length <= 501:=by rw [<- hrows]; simp; omega
 have hrw:∀ x ∈ rows,x.length = r.length:=fun x hx=>by
  rw [<- hrows] at hx
  rcases List.mem_append.mp hx with hx | hx
  ·exact h2 x hx
  ·rw [List.mem_singleton.mp hx]
   simp [dashes]
 have e1:upd (upd H z (.lst [tx (dashes r.length)])) ra (.lst (rows.map tx)) ra = some (.lst (rows.map tx)):=upd_same
 generalize upd (upd H z (.lst [tx (dashes r.length)])) ra (.lst (rows.map tx)) = H1 at s1 e1
 walk_at "rd"
 refine ⟨⟨_,SqL.of e1⟩,fun D hD=>?_⟩
 refine comp_gen (xs:=rows.zipIdx) (keep:=fun q=>okL q.1 r) (R:=fun x v H'=>PairAt H' x v) hD (by rw [List.length_zipIdx]; omega) ?_ ?_ ?_ ?_ ?_ ?_
 ·intro i H2 hi s2
  rw [List.length_zipIdx] at hi
  exact ⟨_,tx rows[i],SqL.of (s2 _ _ e1),by rw [List.getElem?_map,List.getElem?_eq_getElem hi]; rfl⟩
 ·intro H2 s2
  exact ⟨_,SqL.of (s2 _ _ e1),by rw [List.length_zipIdx,List.length_map]⟩
 ·rintro i H2 v H3 hi ⟨Tt,x,rfl,hT,_,rfl⟩
  exact same_new hT _
 ·rintro x v H2 H3 acc hd k ⟨t,e,r⟩
  exact ⟨t,e,k _ _ (fun z=>by subst z; rw [hd] at r; cases r) r⟩
 ·rintro i x v H2 H3 out non hx s2 ⟨Tt,y,rfl,hT,hxi,rfl⟩ ho hno
  have hi:i < rows.length:=by
   have:=(List.getElem?_eq_some_iff.mp hx).1
   simpa using this
  have ex:x = (rows[i],i):=by
   rw [List.getElem?_zipIdx,List.getElem?_eq_getElem hi] at hx
   have:=Option.some.inj hx
   rw [<- this,Nat.zero_add]
  subst ex
  have ey:=hxi _ (SqL.of (s2 _ _ e1))
  rw [List.getElem?_map,List.getElem?_eq_getElem hi] at ey
  obtain rfl:tx rows[i] = y:=Option.some.inj ey
  have hrl':=hrw _ (List.getElem_mem hi)
  refine ⟨Tt,[.int i,tx rows[i]],rfl,SqT.upd_same,rfl,.int i,[tx rows[i]],rfl,tx rows[i],[],rfl,rfl,?_⟩
  walk_at "rd"
  refine ⟨by simp only [st_cps]; omega,fun H4 s4=>?_⟩
  simp only [st_cps]
  unfold meetV
  cases hk:okL rows[i] r with
  | true=>
   walk_at "rd"
   exact ⟨by decide,fun t ht=>ho _ _ hk (s4.trans (same_new ht _)) ⟨t,rfl,upd_same⟩⟩
  | false=>
   walk_at "rd"
   exact hno _ hk s4
 intro H2 ws s2 e2 pr
 have hmet:rows.zipIdx.filter (fun q=>okL q.1 r) = metL hs r:=by unfold metL; rw [hrows]
 rw [hmet] at pr
 have mw:∀ x ∈ metL hs r,x.1.length = r.length:=fun x hx=>(met_rows h2 hx).1
 have ml:(metL hs r).length <= 501:=by
  rw [<- hmet]
  refine Nat.le_trans (List.length_filter_le _ _) ?_
  rw [List.length_zipIdx]
  exact hrl
 have hz:=pr.length
 have hS:SqL K H2 D (((metL hs r).zip ws).map Prod.snd):=by rw [pairs_zip hz]; exact SqL.of e2
 walk_at "rd"
 refine .inl ⟨⟨_,hS⟩,fun D2 hD2=>?_⟩
 refine comp_list (item:=Prod.snd) (xs:=(metL hs r).zip ws) (h:=fun x=>[tx x.1.1]) hD2 hS (by rw [List.length_zip]; omega) (fun _=>by simp) ?_ ?_
 ·rintro ⟨x,v⟩ H3 out non hm s3 ho hno
  obtain ⟨t,rfl,et⟩:=paired_mem pr _ hm
  refine ⟨t,[tx x.1,.int x.2],rfl,SqT.of (s3 _ _ et),rfl,tx x.1,[.int x.2],rfl,.int x.2,[],rfl,rfl,?_⟩
  walk_at "rd"
  exact ho _ _ rfl (Same.refl _)
 intro H3 s3 e3
 rw [flat_fst _ _ hz] at e3
 have hd0:dashes r.length ∈ (metL hs r).map Prod.fst:=List.mem_map.mpr ⟨_,dash_met hs r,rfl⟩
 have hw0:∀ x ∈ (metL hs r).map Prod.fst,x.length = r.length:=fun x hx=>by
  obtain ⟨y,hy,rfl⟩:=List.mem_map.mp hx
  exact mw y hy
 refine ⟨(metL hs r).map Prod.fst,r.length,SqL.of e3,hw0,h3,by rw [List.length_map]; omega,fun pa H4 f4 s4 e4=>?_⟩
 have hhd:(((metL hs r).map Prod.fst).headD []).length = r.length:=headLen_n hw0 hd0
 rw [hhd] at e4
 have lt4:∀ i ∈ placesL ((metL hs r).map Prod.fst) r.length,i < r.length:=fun i hi=>places_lt hi
 have pl4:(placesL ((metL hs r).map Prod.fst) r.length).length <= 1000:=by
  have:=List.length_filter_le (told ((metL hs r).map Prod.fst)) (List.range r.length)
  rw [List.length_range] at this
  exact Nat.le_trans this h3
 refine .inl ⟨⟨_,SqL.of e4⟩,fun D3 hD3=>?_⟩
 refine comp_list (item:=pl) (xs:=placesL ((metL hs r).map Prod.fst) r.length) (h:=fun i=>if decide (r.getD i 0 = 45) = true then [pl i] else []) hD3 (SqL.of e4) (by omega) (fun _=>by split <;> simp) ?_ ?_
 ·intro i H5 out non hi s5 ho hno
  have:=lt4 i hi
  walk_at "rd"
  exact ⟨by omega,_,at_getD this,ite2 (fun g=>ho _ _ (if_pos (decide_eq_true g)) (Same.refl _)) fun g=>hno _ (if_neg (by simpa using g)) (Same.refl _)⟩
 intro H5 s5 e5
 rw [flat_keep pl fun i=>decide (r.getD i 0 = 45)] at e5
 have e5:H5 D3 = some (.lst ((asked hs r).map pl)):=e5
 have s25:=s3.trans (s4.trans s5)
 have pr5:=L2.Paired.mapP pr fun _ _ (h:PairAt H2 _ _)=>(⟨h.choose,h.choose_spec.1,s25 _ _ h.choose_spec.2⟩:PairAt H5 _ _)
 have hS5:=s25.seq hS
 walk_at "rd"
 refine .inl ⟨⟨_,hS5⟩,fun D4 hD4=>?_⟩
 refine comp_rel (K:=K) Prod.snd ((metL hs r).zip ws) (fun _=>true) (fun x v H'=>PairAt H' (narrow x.1.1 (asked hs r),x.1.2) v) hD4 hS5 (by rw [List.length_zip]; omega) ?_ ?_ ?_
 ·rintro x v H6 H7 acc hd k ⟨t,e,q⟩
  exact ⟨t,e,k _ _ (fun z=>by subst z; rw [hd] at q; cases q) q⟩
 ·rintro ⟨x,v⟩ H6 out non hm s6 ho _
  obtain ⟨t,rfl,et⟩:=paired_mem pr5 _ hm
  have hx:=mw x (List.of_mem_zip hm).1
  refine ⟨t,[tx x.1,.int x.2],rfl,SqT.of (s6 _ _ et),rfl,tx x.1,[.int x.2],rfl,.int x.2,[],rfl,rfl,?_⟩
  walk_at "rd"
  refine ⟨asked hs r,s6.seq (SqL.of e5),fun i hi=>?_,by simp only [st_cps]; omega,by omega,fun H7 s7=>?_⟩
  ·have:=(asked_lt hi).1
   simp only [st_cps]
   omega
  ·simp only [st_cps]
   walk_at "rd"
   exact ⟨by decide,fun t2 ht2=>ho _ _ rfl (s7.trans (same_new ht2 _)) ⟨t2,rfl,upd_same⟩⟩
 intro H6 us s6 e6 pr6
 rw [List.filter_eq_self.mpr fun _ _=>rfl] at pr6
 have e56:=s6 _ _ e5
 walk_at "rd"
 refine ⟨_,.inl (SqL.of e56),pairsL hs r,(asked hs r).length,by rw [List.length_map],by omega,⟨us,e6,?_⟩,by unfold pairsL; rw [List.length_map]; omega,fun d ob H7 f7 s7 e7=>?_⟩
 ·exact paired_mapL (paired_zip (F:=fun x v=>PairAt H6 (narrow x.1 (asked hs r),x.2) v) hz pr6)
 have fl:=firsts_len (asked hs r).length (pairsL hs r) []
 have fl2:(pairsL hs r).length = (metL hs r).length:=by unfold pairsL; rw [List.length_map]
 rw [List.length_nil] at fl
 refine ⟨ob,_,asked hs r,by omega,h5,e7,SqL.of (s7 _ _ e56),firsts_ok hs r,firsts_asc _ _ [] List.Pairwise.nil (pairs_asc hs r) (fun a ha=>by cases ha),by omega,fun v H8 s8 k8=>?_⟩
 exact q v H8 (s1.trans (s2.trans (s25.trans (s6.trans (s7.trans s8))))) k8
noncomputable def sharesOf (hs:List (List Nat)) (r:List Nat):List Pr:=cutF (forkOf hs r) r (dashes r.length)
noncomputable def sp_heap_shares (K:Frag):Sp:=fun vs H Q _=>match vs with
 | [.ref p,.str r]=>∃ hs:List (List Nat),H p = some (.lst (hs.map tx)) /\ (∀ x ∈ hs,x.length = r.cps.toList.length) /\ r.cps.toList.length <= 1000 /\ hs.length <= 500 /\ (asked hs r.cps.toList).length <= 12 /\ ∀ q H',H q = none -> Same H H' -> Pairs H' q (sharesOf hs r.cps.toList) -> Q (.ref q) H'
 | _=>False
theorem of_high (hs:List (List Nat)) (r:List Nat):high (forkOf hs r) <= (asked hs r).length:=fork_high _ _
theorem of_asks (hs:List (List Nat)) (r:List Nat):Asks r.length (forkOf hs r):=fork_asks _ _ fun p hp=>(asked_lt hp).1
theorem ok_heap_shares (T:Top K mg):Callee P w K mg base 21 "heap_shares" ["heap", "row"] (sp_heap_shares K):=by
 refine T.f_heap_shares.cal sc_heap_shares (by intro vs H Q E h; unfold sp_heap_shares at h; split at h <;> first | rfl | exact h.elim) (fun _ _ _ _ _ _ us hl=>match us,hl with | [_,_],_=>rfl) (fun f cdv A outer s H vs Q E hr h=>?_)
 unfold sp_heap_shares at h
 split at h
 case h_2=>exact h.elim
 refine ⟨_,(pss_one (ps_ret (pe_fn (ok_fork_parts T) hr.m rfl (pa_cons (pe_fn (ok_fork_of T) hr.m rfl (pa_cons (qv 0) (pa_cons (qv 1) pa_nil))) (pa_cons (qv 1) (pa_cons (pe_op op_mulK (qs [45]) (pe_callB (lenE K rfl) rfl T.b_len bb_len (pa_cons (qv 1) pa_nil))) pa_nil)))))),?_⟩
 rename_i p r
 obtain ⟨r,rfl⟩:∃ x,r = st x:=⟨_,(st_eta r).symm⟩
 obtain ⟨hs,h1,h2,h3,h4,h5,q⟩:=h
 simp only [st_cps] at h2 h3 h5 q
 have hh:=of_high hs r
 walk_at "rd"
 refine ⟨hs,h1,by simpa using h2,by simpa using h3,h4,by simpa using h5,fun v H1 s1 k1=>?_⟩
 simp only [st_cps] at k1
 refine ⟨by omega,by omega,by omega,?_⟩
 rw [Int.toNat_natCast]
 refine ⟨forkOf hs r,r.length,k1,by omega,by omega,of_asks hs r,by simp,by simp,h3,fun z H2 f2 s2 u2=>q z H2 (s1.free f2) (s1.trans s2) ?_⟩
 simp only [st_cps] at u2
 exact u2
noncomputable def sp_rule_shares (K:Frag):Sp:=fun vs H Q _=>match vs with
 | [.ref p,.str r]=>∃ rs:List Rule,Rules H p rs /\ (∀ x ∈ rs,x.1.length = r.cps.toList.length) /\ r.cps.toList.length <= 1000 /\ rs.length <= 500 /\ (asked (rs.map fun x=>x.1) r.cps.toList).length <= 12 /\ ∀ q H',H q = none -> Same H H' -> Pairs H' q (sharesOf (rs.map fun x=>x.1) r.cps.toList) -> Q (.ref q) H'
 | _=>False
theorem flat_rule:∀ (l:List Rule) (m:List V),l.length = m.length -> ((l.zip m).flatMap fun pr=>[tx pr.1.1]) = (l.map fun x=>x.1).map tx
 | [],_,_=>rfl
 | x :: l,[],h=>by cases h
 | x :: l,v :: m,h=>by
  rw [List.zip_cons_cons,List.flatMap_cons,flat_rule l m (by simpa using h)]
  rfl
theorem ok_rule_shares (T:Top K mg):Callee P w K mg base 22 "rule_shares" ["rules", "row"] (sp_rule_shares K):=by
 refine T.f_rule_shares.cal sc_rule_shares (by intro vs H Q E h; unfold sp_rule_shares at h; split at h <;> first | rfl | exact h.elim) (fun _ _ _ _ _ _ us hl=>match us,hl with | [_,_],_=>rfl) (fun f cdv A outer s H vs Q E hr h=>?_)
 unfold sp_rule_shares at h
 split at h
 case h_2=>exact h.elim
 refine ⟨_,(pss_one (ps_ret (pe_fn (ok_heap_shares T) hr.m rfl (pa_cons (qe_comp (nt:=1) (fi:=[]) (N':=["rule"]) rfl (cscope rfl (by decide +kernel)) (cnames (N:=["rules", "row"]) (sc:=defScope s_rule_shares) rfl rfl (by decide +kernel)) (gk_name (by decide)) (iterE K rfl (qv 0)) (fun _ _ _ _ _=>(pg_name (i:=0) (by show (["rule"]:List Str).Nodup; decide +kernel) rfl lc)) (fun _ _ _ _ _=>pif_nil) (fun _ _ _ _ _=>(pe_ix (ixE K rfl) (qv 0) pe_int (fun _ _=>rfl)))) (pa_cons (qv 1) pa_nil))))),?_⟩
 rename_i p r
 obtain ⟨rs,⟨vs,e0,pr⟩,h2,h3,h4,h5,q⟩:=h
 have hz:=pr.length
 have hS:SqL K H p ((rs.zip vs).map Prod.snd):=by rw [List.map_snd_zip (by omega)]; exact SqL.of e0
 walk_at "rd"
 refine .inl ⟨⟨_,hS⟩,fun D hD=>?_⟩
 refine comp_list (item:=Prod.snd) (xs:=rs.zip vs) (h:=fun x=>[tx x.1.1]) hD hS (by rw [List.length_zip]; omega) (fun _=>by simp) ?_ ?_
 ·rintro ⟨x,v⟩ H3 out non hm s3 ho hno
  obtain ⟨t,rfl,et⟩:=paired_mem pr _ hm
  walk_at "rd"
  exact ⟨_,_,.inr (SqT.of (s3 _ _ et)),rfl,ho _ _ rfl (Same.refl _)⟩
 intro H1 s1 e1
 rw [flat_rule _ _ hz] at e1
 refine ⟨rs.map fun x=>x.1,e1,fun x hx=>?_,h3,by rw [List.length_map]; exact h4,h5,fun z H2 f2 s2 u2=>q z H2 (s1.free f2) (s1.trans s2) u2⟩
 obtain ⟨y,hy,rfl⟩:=List.mem_map.mp hx
 exact h2 y hy
noncomputable def low (x:List Nat):List Nat:=x.map fun c=>if c = 45 then 48 else c
noncomputable def hi (x:List Nat):List Nat:=x.map fun c=>if c = 45 then 49 else c
noncomputable def deedO (rs:List Rule) (j:Nat) (l:List Nat):Option (List Nat):=match rs[j]? with
 | some r=>if r.2.1 = dropT then none else some (written l r.2.2)
 | none=>none
noncomputable def dV:Option (List Nat) -> List V
 | none=>[tx dropT,.non]
 | some s=>[tx passT,tx s]
theorem deedV_eq (rs:List Rule) (j:Nat) (l:List Nat):deedV rs j l = dV (deedO rs j l):=by
 unfold deedV deedO
 cases rs[j]? with
 | none=>rfl
 | some r=>
  dsimp only
  split <;> rfl
noncomputable def partO (rs:List Rule) (n:Nat) (os:List Rule) (k:Nat) (x:List Nat):Option (List Nat):=
 if deedO rs n (low x) ≠ deedO os k (low x) then some (low x) else if deedO rs n (hi x) ≠ deedO os k (hi x) then some (hi x) else none
noncomputable def needL (rs:List Rule) (n:Nat) (os:List Rule) (xs:List Pr):Option (List Nat):=xs.findSome? fun x=>if n <= x.2 then partO rs n os x.2 x.1 else none
def RulesW (W:Nat) (rs:List Rule):Prop:=∀ r ∈ rs,RuleOk W r
theorem map_at (f:Nat -> Nat) {x:List Nat} {i:Nat} (h:i < x.length):(x.map f).getD i 0 = f (x.getD i 0):=by
 rw [List.getD_eq_getElem?_getD,List.getElem?_map,List.getElem?_eq_getElem h,List.getD_eq_getElem?_getD,List.getElem?_eq_getElem h]
 rfl
theorem get_getD {l:List Nat} {i:Nat} (h:i < l.length):l[i]? = some (l.getD i 0):=by
 rw [List.getD_eq_getElem?_getD,List.getElem?_eq_getElem h]
 rfl
theorem written_at {x o:List Nat} (h:x.length = o.length) {i:Nat} (hi:i < x.length):(written x o).getD i 0 = wSign (x.getD i 0) (o.getD i 0):=by
 unfold written
 have e:(x.zip o)[i]? = some (x.getD i 0,o.getD i 0):=by
  exact List.getElem?_zip_eq_some.mpr ⟨get_getD hi,get_getD (by omega)⟩
 rw [List.getD_eq_getElem?_getD,List.getElem?_map,e]
 rfl
theorem same_at {W:Nat} {a b:List Nat} (ha:a.length = W) (hb:b.length = W) (h:∀ i,i < W -> a.getD i 0 = b.getD i 0):a = b:=by
 apply List.ext_getElem?
 intro i
 by_cases hi:i < W
 ·have:=h i hi
  rw [List.getD_eq_getElem?_getD,List.getElem?_eq_getElem (by omega),List.getD_eq_getElem?_getD,List.getElem?_eq_getElem (by omega)] at this
  rw [List.getElem?_eq_getElem (by omega),List.getElem?_eq_getElem (by omega)]
  exact congrArg some this
 ·rw [List.getElem?_eq_none (by omega),List.getElem?_eq_none (by omega)]
theorem low_len (x:List Nat):(low x).length = x.length:=by simp [low]
theorem hi_len (x:List Nat):(hi x).length = x.length:=by simp [hi]
theorem low_let {x:List Nat} (h:IsRow x):IsLet (low x):=fun k hk=>by
 obtain ⟨z,hz,rfl⟩:=List.mem_map.mp hk
 rcases h z hz with e | e | e <;> rw [e] <;> simp
theorem hi_let {x:List Nat} (h:IsRow x):IsLet (hi x):=fun k hk=>by
 obtain ⟨z,hz,rfl⟩:=List.mem_map.mp hk
 rcases h z hz with e | e | e <;> rw [e] <;> simp
theorem low_in (x:List Nat):within (low x) x = true:=by
 rw [within_at (low_len x) rfl]
 intro i hi
 by_cases e:x.getD i 0 = 45
 ·exact .inl e
 ·refine .inr ?_
  show _ = (x.map _).getD i 0
  rw [map_at _ hi,if_neg e]
theorem hi_in (x:List Nat):within (hi x) x = true:=by
 rw [within_at (hi_len x) rfl]
 intro i hi
 by_cases e:x.getD i 0 = 45
 ·exact .inl e
 ·refine .inr ?_
  show _ = (x.map _).getD i 0
  rw [map_at _ hi,if_neg e]
theorem overs_same {W:Nat} {x o1 o2 y:List Nat} (hx:x.length = W) (h1:o1.length = W) (h2:o2.length = W) (e1:written (low x) o1 = written (low x) o2) (e2:written (hi x) o1 = written (hi x) o2) (hy:y.length = W) (hw:within y x = true):written y o1 = written y o2:=by
 refine same_at (W:=W) (by rw [written_len (by omega)]; exact hy) (by rw [written_len (by omega)]; exact hy) fun i hi'=>?_
 have ll:=low_len x
 have lh:=hi_len x
 have a1:=congrArg (fun l=>l.getD i 0) e1
 have a2:=congrArg (fun l=>l.getD i 0) e2
 rw [written_at (by omega) (by omega),written_at (by omega) (by omega)] at a1 a2
 rw [written_at (by omega) (by omega),written_at (by omega) (by omega)]
 have m1:(low x).getD i 0 = if x.getD i 0 = 45 then 48 else x.getD i 0:=map_at _ (by omega)
 have m2:(hi x).getD i 0 = if x.getD i 0 = 45 then 49 else x.getD i 0:=map_at _ (by omega)
 have m3:=(within_at hy hx).mp hw i hi'
 rw [m1] at a1
 rw [m2] at a2
 unfold wSign at a1 a2 ⊢
 by_cases p:o1.getD i 0 = 45
 ·by_cases q:o2.getD i 0 = 45
  ·rw [if_pos p,if_pos q]
  ·rw [if_pos p,if_neg q] at a1 a2 ⊢
   by_cases z:x.getD i 0 = 45
   ·rw [if_pos z] at a1 a2
    omega
   ·rw [if_neg z] at a1
    omega
 ·by_cases q:o2.getD i 0 = 45
  ·rw [if_neg p,if_pos q] at a1 a2 ⊢
   by_cases z:x.getD i 0 = 45
   ·rw [if_pos z] at a1 a2
    omega
   ·rw [if_neg z] at a1
    omega
  ·rw [if_neg p,if_neg q] at a1 ⊢
   exact a1
theorem part_none {W:Nat} {rs os:List Rule} {n k:Nat} {x y:List Nat} (hr:RulesW W rs) (ho:RulesW W os) (hx:x.length = W) (h:partO rs n os k x = none) (hy:y.length = W) (hw:within y x = true):deedO rs n y = deedO os k y:=by
 unfold partO at h
 split at h
 ·cases h
 ·rename_i c1
  split at h
  ·cases h
  ·rename_i c2
   have c1:=Classical.not_not.mp c1
   have c2:=Classical.not_not.mp c2
   unfold deedO at c1 c2 ⊢
   cases e1:rs[n]? with
   | none=>
    cases e2:os[k]? with
    | none=>rfl
    | some r2=>
     rw [e1,e2] at c1
     dsimp only at c1 ⊢
     split
     ·rfl
     ·rename_i d; rw [if_neg d] at c1; cases c1
   | some r1=>
    cases e2:os[k]? with
    | none=>
     rw [e1,e2] at c1
     dsimp only at c1 ⊢
     split
     ·rfl
     ·rename_i d; rw [if_neg d] at c1; cases c1
    | some r2=>
     rw [e1,e2] at c1 c2
     dsimp only at c1 c2 ⊢
     have k1:=hr r1 (List.mem_of_getElem? e1)
     have k2:=ho r2 (List.mem_of_getElem? e2)
     by_cases d1:r1.2.1 = dropT <;> by_cases d2:r2.2.1 = dropT
     ·rw [if_pos d1,if_pos d2]
     ·rw [if_pos d1,if_neg d2] at c1; cases c1
     ·rw [if_neg d1,if_pos d2] at c1; cases c1
     ·rw [if_neg d1,if_neg d2] at c1 c2
      rw [if_neg d1,if_neg d2,overs_same hx k1.2.2.1 k2.2.2.1 (Option.some.inj c1) (Option.some.inj c2) hy hw]
theorem part_some {rs os:List Rule} {n k:Nat} {x y:List Nat} (h:partO rs n os k x = some y):(y = low x \/ y = hi x) /\ deedO rs n y ≠ deedO os k y:=by
 unfold partO at h
 split at h
 ·rename_i c
  cases h
  exact ⟨.inl rfl,c⟩
 ·split at h
  ·rename_i c
   cases h
   exact ⟨.inr rfl,c⟩
  ·cases h
theorem cut_cover {W:Nat}:∀ (F:Fork) (row:List Nat),Asks W F -> row.length = W -> ∀ y:List Nat,y.length = W -> IsLet y -> within y row = true -> ∃ x ∈ cutF F row (dashes W),within y x.1 = true
 | .leaf n,row,_,_,y,_,_,hw=>⟨(row,n),List.mem_singleton.mpr rfl,hw⟩
 | .ask p a b,row,⟨hp,ha,hb⟩,hl,y,hy,hyl,hw=>by
  have hyp:y.getD p 0 = 48 \/ y.getD p 0 = 49:=by
   rw [List.getD_eq_getElem?_getD,List.getElem?_eq_getElem (by omega),Option.getD_some]
   exact hyl _ (List.getElem_mem _)
  rw [cutF,sign_dash hp]
  have setw:∀ c,y.getD p 0 = c -> within y (row.set p c) = true:=fun c hc=>by
   rw [within_at hy (by simpa using hl)]
   intro i hi
   rw [getD_set _ _ _ _ (by omega)]
   by_cases e:i = p
   ·rw [if_pos e,e]
    exact .inr hc.symm
   ·rw [if_neg e]
    exact (within_at hy hl).mp hw i hi
  split
  ·rcases hyp with e | e
   ·obtain ⟨x,hx,hw'⟩:=cut_cover a (row.set p 48) ha (by simpa using hl) y hy hyl (setw 48 e)
    exact ⟨x,List.mem_append_left _ hx,hw'⟩
   ·obtain ⟨x,hx,hw'⟩:=cut_cover b (row.set p 49) hb (by simpa using hl) y hy hyl (setw 49 e)
    exact ⟨x,List.mem_append_right _ hx,hw'⟩
  ·split
   ·exact cut_cover a row ha hl y hy hyl hw
   ·exact cut_cover b row hb hl y hy hyl hw
theorem deed_at {rs os:List Rule} {j k:Nat} (h:rs[j]? = os[k]?) (l:List Nat):deedO rs j l = deedO os k l:=by
 unfold deedO
 rw [h]
section
variable {W:Nat} {A B:List Rule} {r:Rule}
theorem first_same {y:List Nat} (h:within y r.1 = false \/ firstR (A ++ B) y < A.length):deedO (A ++ r :: B) (firstR (A ++ r :: B) y) y = deedO (A ++ B) (firstR (A ++ B) y) y:=by
 unfold firstR at h ⊢
 rw [List.findIdx_append] at h ⊢
 rw [List.findIdx_append]
 by_cases c:A.findIdx (fun r=>within y r.1) < A.length
 ·rw [if_pos c,if_pos c]
  refine deed_at ?_ y
  rw [List.getElem?_append_left c,List.getElem?_append_left c]
 ·rw [if_neg c] at h ⊢
  rw [if_neg c]
  have hr:within y r.1 = false:=h.resolve_right (by omega)
  rw [List.findIdx_cons,hr]
  refine deed_at ?_ y
  rw [List.getElem?_append_right (by omega),List.getElem?_append_right (by omega)]
  simp only [cond_false]
  rw [show B.findIdx (fun r=>within y r.1) + 1 + A.length - A.length = B.findIdx (fun r=>within y r.1) + 1 by omega,List.getElem?_cons_succ]
  congr 1
  omega
theorem first_here {y:List Nat} (h:within y r.1 = true) (hf:A.length <= firstR (A ++ B) y):firstR (A ++ r :: B) y = A.length:=by
 unfold firstR at hf ⊢
 rw [List.findIdx_append] at hf ⊢
 by_cases c:A.findIdx (fun r=>within y r.1) < A.length
 ·rw [if_pos c] at hf
  omega
 ·rw [if_neg c,List.findIdx_cons,h]
  simp
theorem need_ok (hA:RulesW W A) (hr:RuleOk W r) (hB:RulesW W B):
  (needL (A ++ r :: B) A.length (A ++ B) (sharesOf ((A ++ B).map fun x=>x.1) r.1) = none -> ∀ y,y.length = W -> IsLet y -> deedO (A ++ r :: B) (firstR (A ++ r :: B) y) y = deedO (A ++ B) (firstR (A ++ B) y) y) /\
  ∀ y,needL (A ++ r :: B) A.length (A ++ B) (sharesOf ((A ++ B).map fun x=>x.1) r.1) = some y -> y.length = W /\ IsLet y /\ deedO (A ++ r :: B) (firstR (A ++ r :: B) y) y ≠ deedO (A ++ B) (firstR (A ++ B) y) y:=by
 have hO:RulesW W (A ++ B):=fun z hz=>(List.mem_append.mp hz).elim (hA z) (hB z)
 have hR:RulesW W (A ++ r :: B):=fun z hz=>(List.mem_append.mp hz).elim (hA z) fun h=>(List.mem_cons.mp h).elim (fun e=>e ▸ hr) (hB z)
 have hh:∀ z ∈ (A ++ B).map (fun x=>x.1),z.length = r.1.length:=fun z hz=>by
  obtain ⟨x,hx,rfl⟩:=List.mem_map.mp hz
  rw [(hO x hx).1,hr.1]
 have hAs:=of_asks ((A ++ B).map fun x=>x.1) r.1
 rw [hr.1] at hAs
 have first:∀ x ∈ sharesOf ((A ++ B).map fun x=>x.1) r.1,∀ y:List Nat,y.length = W -> IsLet y -> within y x.1 = true -> firstR (A ++ B) y = x.2 /\ within y r.1 = true /\ x.1.length = W /\ IsRow x.1:=fun x hx y hy hyl hw=>by
  unfold sharesOf at hx
  rw [hr.1] at hx
  obtain ⟨x1,x2⟩:=cut_rows _ _ hAs hr.1 hr.2.1 x hx
  have hb:=cut_within hAs hr.1 hr.2.1 hx hy hw
  have t:=cut_truth _ _ hAs hr.1 hr.2.1 x hx _ hy hw
  rw [fork_first hh (by rw [hr.1]; exact hy) hyl hb,List.findIdx_map] at t
  exact ⟨t,hb,x1,x2⟩
 constructor
 ·intro h y hy hyl
  by_cases c:within y r.1 = false \/ firstR (A ++ B) y < A.length
  ·exact first_same c
  ·have c1:within y r.1 = true:=by
    cases e:within y r.1 with
    | true=>rfl
    | false=>exact absurd (.inl e) c
   have c2:A.length <= firstR (A ++ B) y:=Nat.le_of_not_lt fun z=>c (.inr z)
   obtain ⟨x,hx,hw⟩:=cut_cover _ _ hAs hr.1 y hy hyl c1
   have hx:x ∈ sharesOf ((A ++ B).map fun x=>x.1) r.1:=by unfold sharesOf; rw [hr.1]; exact hx
   obtain ⟨f1,_,f2,_⟩:=first x hx y hy hyl hw
   have hn:=List.findSome?_eq_none_iff.mp h x hx
   rw [if_pos (by omega)] at hn
   rw [first_here c1 c2,f1]
   exact part_none hR hO f2 hn hy hw
 ·intro y h
  obtain ⟨x,hx,hp⟩:=List.exists_of_findSome?_eq_some h
  split at hp
  ·rename_i c
   have hs:x ∈ cutF (forkOf ((A ++ B).map fun x=>x.1) r.1) r.1 (dashes W):=by
    unfold sharesOf at hx
    rw [hr.1] at hx
    exact hx
   obtain ⟨x1,x2⟩:=cut_rows _ _ hAs hr.1 hr.2.1 x hs
   obtain ⟨hy,hne⟩:=part_some hp
   have k:y.length = W /\ IsLet y /\ within y x.1 = true:=by
    rcases hy with rfl | rfl
    ·exact ⟨by rw [low_len]; exact x1,low_let x2,low_in _⟩
    ·exact ⟨by rw [hi_len]; exact x1,hi_let x2,hi_in _⟩
   obtain ⟨f1,f2,_⟩:=first x hx y k.1 k.2.1 k.2.2
   refine ⟨k.1,k.2.1,?_⟩
   rw [first_here f2 (by omega),f1]
   exact hne
  ·cases hp
end
noncomputable def sp_row_edges:Sp:=fun vs H Q _=>match vs with
 | [.str a]=>a.cps.toList.length <= 1000 /\ ∀ t,H t = none -> Q (.ref t) (upd H t (.tup [tx (low a.cps.toList),tx (hi a.cps.toList)]))
 | _=>False
theorem ok_row_edges (T:Top K mg):Callee P w K mg base 2 "row_edges" ["row"] sp_row_edges:=by
 refine T.f_row_edges.cal sc_row_edges (by intro vs H Q E h; unfold sp_row_edges at h; split at h <;> first | rfl | exact h.elim) (fun _ _ _ _ _ _ us hl=>match us,hl with | [_],_=>rfl) (fun f cdv A outer s H vs Q E hr h=>?_)
 unfold sp_row_edges at h
 split at h
 case h_2=>exact h.elim
 refine ⟨_,(pss_one (ps_ret (pe_tup (pa_cons (pe_fn (ok_row_least T) hr.m rfl (pa_cons (qv 0) pa_nil)) (pa_cons (qe_replace 45 49 (qv 0)) pa_nil))))),?_⟩
 rename_i a
 obtain ⟨h1,q⟩:=h
 walk_at "rd"
 exact ⟨h1,by omega,by decide,fun t ht=>q t ht⟩
noncomputable def oV:Option (List Nat) -> V
 | none=>.non
 | some l=>tx l
noncomputable def dvD (o:Option (List Nat)):D:=match o with
 | none=>.t [.f (tx dropT),.f .non]
 | some s=>.t [.f (tx passT),.f (tx s)]
theorem deep_dV {H:Hp} {t:Addr} {o:Option (List Nat)} (h:H t = some (.tup (dV o))):Deep K H 1 (.ref t) (dvD o):=by
 cases o with
 | none=>exact .inr (.inr ⟨t,_,_,rfl,rfl,SqT.of h,.cons (deep_flat 0 rfl) (.cons (deep_flat 0 rfl) .nil)⟩)
 | some s=>exact .inr (.inr ⟨t,_,_,rfl,rfl,SqT.of h,.cons (deep_flat 0 rfl) (.cons (deep_flat 0 rfl) .nil)⟩)
theorem eqD_dV (a b:Option (List Nat)):eqD (dvD a) (dvD b) = decide (a = b):=by
 have txs:∀ x y:List Nat,eqV (tx x) (tx y) = decide (x = y):=fun x y=>by
  show (st x == st y) = _
  rw [Bool.eq_iff_iff,beq_iff_eq,st_inj,decide_eq_true_eq]
 cases a with
 | none=>
  cases b with
  | none=>
   show (eqV (tx dropT) (tx dropT) && (eqV .non .non && true)) = true
   rw [txs]
   rfl
  | some y=>
   show (eqV (tx dropT) (tx passT) && (eqV .non (tx y) && true)) = false
   rw [txs]
   rfl
 | some x=>
  cases b with
  | none=>
   show (eqV (tx passT) (tx dropT) && (eqV (tx x) .non && true)) = false
   rw [txs]
   rfl
  | some y=>
   show (eqV (tx passT) (tx passT) && (eqV (tx x) (tx y) && true)) = _
   rw [txs,txs,Bool.and_true,Bool.eq_iff_iff]
   simp
noncomputable def sp_deeds_parted (K:Frag):Sp:=fun vs H Q _=>match vs with
 | [.str x,.ref p1,.int n,.ref p2,.int k]=>∃ (rs os:List Rule) (j i:Nat),Rules H p1 rs /\ n = (j:Int) /\ j <= rs.length /\ Rules H p2 os /\ k = (i:Int) /\ i <= os.length /\ x.cps.toList.length <= 1000 /\ ∀ H',Same H H' -> Q (oV (partO rs j os i x.cps.toList)) H'
 | _=>False
theorem ok_deeds_parted (T:Top K mg):Callee P w K mg base 3 "deeds_parted" ["row", "one", "mine", "other", "its"] (sp_deeds_parted K):=by
 refine T.f_deeds_parted.cal sc_deeds_parted (by intro vs H Q E h; unfold sp_deeds_parted at h; split at h <;> first | rfl | exact h.elim) (fun _ _ _ _ _ _ us hl=>match us,hl with | [_,_,_,_,_],_=>rfl) (fun f cdv A outer s H vs Q E hr h=>?_)
 unfold sp_deeds_parted at h
 split at h
 case h_2=>exact h.elim
 refine ⟨_,(pss_cons (qs_for PassesOwn.never rfl (iterE K rfl (pe_fn (ok_row_edges T) hr.m rfl (pa_cons (qv 0) pa_nil))) (pg_name (i:=5) sc_deeds_parted.nd rfl lc) (pss_one (ps_if (qt_cmp (neDE K rfl hr) (pe_fn (ok_deed_by T) hr.m rfl (pa_cons (qv 1) (pa_cons (qv 2) (pa_cons (qv 5) pa_nil)))) (pe_fn (ok_deed_by T) hr.m rfl (pa_cons (qv 3) (pa_cons (qv 4) (pa_cons (qv 5) pa_nil))))) (pss_one (ps_ret (qv 5))) pss_nil)))
   (pss_one (ps_ret pe_non))),?_⟩
 rename_i x p1 n p2 k
 obtain ⟨x,rfl⟩:∃ y,x = st y:=⟨_,(st_eta x).symm⟩
 obtain ⟨rs,os,j,i,R1,rfl,hj,R2,rfl,hio,hx,q⟩:=h
 simp only [st_cps] at hx q
 walk_at "rd"
 refine ⟨by simp only [st_cps]; exact hx,fun t ht=>?_⟩
 simp only [st_cps]
 have s0:=same_new ht (.tup [tx (low x),tx (hi x)])
 refine .inr ⟨⟨_,SqT.of upd_same⟩,?_⟩
 refine loop_tup (xs:=[tx (low x),tx (hi x)]) (fun m σ H'=>∃ u,σ = [some (.str (st x)),some (.ref p1),some (.int j),some (.ref p2),some (.int i),u] /\ Same (upd H t (.tup [tx (low x),tx (hi x)])) H' /\ (1 <= m -> deedO rs j (low x) = deedO os i (low x)) /\ (2 <= m -> deedO rs j (hi x) = deedO os i (hi x))) ⟨none,rfl,Same.refl _,fun z=>absurd z (by decide),fun z=>absurd z (by decide)⟩ (fun m σ H' _ ⟨_,_,z,_⟩=>SqT.of (z _ _ upd_same)) ?_ ?_
 ·rintro m v σ H1 hv ⟨u,rfl,s1,k1,k2⟩
  have s01:Same H H1:=s0.trans s1
  obtain ⟨l,rfl,hl⟩:∃ l,v = tx l /\ l.length = x.length:=by
   match m,hv with
   | 0,hv=>exact ⟨low x,(Option.some.inj hv).symm,low_len x⟩
   | 1,hv=>exact ⟨hi x,(Option.some.inj hv).symm,hi_len x⟩
  walk_at "rd"
  refine ⟨rs,j,R1.same s01,rfl,hj,by simp only [st_cps]; omega,fun t1 H2 f1 s2 e1=>?_⟩
  refine ⟨os,i,R2.same (s01.trans s2),rfl,by omega,by simp only [st_cps]; omega,fun t2 H3 f2 s3 e2=>?_⟩
  simp only [st_cps] at e1 e2
  rw [deedV_eq] at e1 e2
  have e1':=s3 _ _ e1
  walk_at "rd"
  refine ⟨1,_,_,by decide,deep_dV e1',deep_dV e2,?_⟩
  rw [eqD_dV]
  have s13:=s2.trans s3
  by_cases c:deedO rs j l = deedO os i l
  ·rw [decide_eq_true c]
   walk_at "rd"
   refine ⟨_,rfl,s1.trans s13,?_,?_⟩
   ·intro _
    match m,hv with
    | 0,hv=>
     have:tx (low x) = tx l:=Option.some.inj hv
     have e:low x = l:=st_inj.mp (by injection this)
     rw [e]
     exact c
    | 1,hv=>exact k1 (Nat.le_refl _)
   ·intro h2
    match m,hv with
    | 0,hv=>exact absurd h2 (by decide)
    | 1,hv=>
     have:tx (hi x) = tx l:=Option.some.inj hv
     have e:hi x = l:=st_inj.mp (by injection this)
     rw [e]
     exact c
  ·rw [decide_eq_false c]
   walk_at "rd"
   have q':=q H3 (s01.trans s13)
   have:partO rs j os i x = some l:=by
    match m,hv with
    | 0,hv=>
     have:tx (low x) = tx l:=Option.some.inj hv
     have e:low x = l:=st_inj.mp (by injection this)
     rw [<- e] at c
     unfold partO
     rw [if_pos c,e]
    | 1,hv=>
     have:tx (hi x) = tx l:=Option.some.inj hv
     have e:hi x = l:=st_inj.mp (by injection this)
     rw [<- e] at c
     unfold partO
     rw [if_neg (fun z=>z (k1 (Nat.le_refl _))),if_pos c,e]
   rw [this] at q'
   exact q'
 ·rintro σ H1 ⟨u,rfl,s1,k1,k2⟩
  walk_at "rd"
  have q':=q H1 (s0.trans s1)
  have:partO rs j os i x = none:=by
   unfold partO
   rw [if_neg (fun z=>z (k1 (by simp))),if_neg (fun z=>z (k2 (by simp)))]
  rw [this] at q'
  exact q'
noncomputable def othersL (rs:List Rule) (n:Nat):List Rule:=rs.take n ++ rs.drop (n + 1)
noncomputable def neededL (rs:List Rule) (n:Nat):Option (List Nat):=needL rs n (othersL rs n) (sharesOf ((othersL rs n).map fun x=>x.1) (rs.getD n ([],[],[])).1)
theorem paired_take {α β:Type} {F:α -> β -> Prop} {l:List α} {m:List β} (h:Paired F l m):∀ n,Paired F (l.take n) (m.take n):=by
 induction h with
 | nil=>intro n; rw [List.take_nil,List.take_nil]; exact .nil
 | cons r _ ih=>
  intro n
  cases n with
  | zero=>exact .nil
  | succ n=>exact .cons r (ih n)
theorem paired_drop {α β:Type} {F:α -> β -> Prop} {l:List α} {m:List β} (h:Paired F l m):∀ n,Paired F (l.drop n) (m.drop n):=by
 induction h with
 | nil=>intro n; rw [List.drop_nil,List.drop_nil]; exact .nil
 | cons r t ih=>
  intro n
  cases n with
  | zero=>exact .cons r t
  | succ n=>exact ih n
theorem find_at {α β:Type} {f:α -> Option β}:∀ {xs:List α} {i:Nat} {x:α} {l:β},(∀ z ∈ xs.take i,f z = none) -> xs[i]? = some x -> f x = some l -> xs.findSome? f = some l
 | [],i,x,l,_,h,_=>by simp at h
 | a :: xs,0,x,l,_,h,hl=>by
  have:a = x:=by simpa using h
  rw [List.findSome?_cons,this,hl]
 | a :: xs,i + 1,x,l,hn,h,hl=>by
  rw [List.findSome?_cons,hn a (by simp)]
  exact find_at (fun z hz=>hn z (by rw [List.take_succ_cons]; exact List.mem_cons_of_mem _ hz)) (by simpa using h) hl
theorem share_le {hs:List (List Nat)} {r:List Nat} (hh:∀ z ∈ hs,z.length = r.length) (hr:IsRow r):∀ x ∈ sharesOf hs r,x.2 <= hs.length /\ x.1.length = r.length:=fun x hx=>by
 have hA:=of_asks hs r
 obtain ⟨x1,x2⟩:=cut_rows _ _ hA rfl hr x hx
 have hy:(low x.1).length = r.length:=by rw [low_len]; exact x1
 have t:=cut_truth _ _ hA rfl hr x hx _ hy (low_in _)
 rw [fork_first hh hy (low_let x2) (cut_within hA rfl hr hx hy (low_in _))] at t
 exact ⟨by rw [<- t]; exact List.findIdx_le_length,x1⟩
noncomputable def sp_check_number (K:Frag):Sp:=fun vs H Q E=>match vs with
 | [.int n,.int c]=>-100 <= n /\ n <= 100 /\ ((0 <= n /\ n < c) -> Q .non H) /\ ((n < 0 \/ c <= n) -> E (.ref (xA K "NoRule")) none H)
 | _=>False
theorem ok_check_number (T:Top K mg):CalleeX P w K mg base 1 "check_number" ["number", "count"] (sp_check_number K):=by
 refine T.f_check_number.calX sc_check_number (by intro vs H Q E h; unfold sp_check_number at h; split at h <;> first | rfl | exact h.elim) (fun _ _ _ _ _ _ us hl=>match us,hl with | [_,_],_=>rfl) (fun f cdv A outer s H vs Q E hr h=>?_)
 unfold sp_check_number at h
 split at h
 case h_2=>exact h.elim
 refine ⟨_,(pss_one (ps_if (PW.pt (pw_or (qt_cmp op_ltK (qv 0) pe_int) (pw_or1 (qt_cmp op_geK (qv 0) (qv 1))))) (pss_one (ps_raise rfl raises_fn rfl T.x_NoRule.1 T.x_NoRule.2 (pa_cons (pe_fs (pj_cons (qs [110,111,32,114,117,108,101,32]) (pj_cons (pe_fmtI (qv 0)) pj_nil))) pa_nil))) pss_nil)),?_⟩
 rename_i n c
 obtain ⟨n1,n2,q1,q2⟩:=h
 have fly:(n < 0 \/ c <= n) -> 0 + (st [110,111,32,114,117,108,101,32]).length <= sizeLine /\ -100 <= n /\ n <= 100 /\ ∀ z:Str,z.length <= 200000 -> 0 + (st [110,111,32,114,117,108,101,32]).length + z.length <= sizeLine /\ ∀ _:Str,1 <= sizeLine /\ E (.ref (xA K "NoRule")) none H:=fun c=>
  ⟨by rw [st_len]; exact Nat.le_of_lt (sizeBig (by decide)),n1,n2,fun z hz=>⟨by rw [st_len,sizeLine_eq]; simp only [List.length_cons,List.length_nil]; omega,fun _=>⟨by decide,q2 c⟩⟩⟩
 walk_at "rd"
 exact ite2 (fun d=>fly (.inl d)) fun d=>ite2 (fun d2=>fly (.inr d2)) fun d2=>q1 ⟨by omega,by omega⟩
noncomputable def sp_rules_without (K:Frag):Sp:=fun vs H Q _=>match vs with
 | [.ref p,.int n]=>∃ (rs:List Rule) (j:Nat),Rules H p rs /\ n = (j:Int) /\ j < rs.length /\ rs.length <= 90 /\ ∀ q H',H q = none -> Same H H' -> Rules H' q (othersL rs j) -> Q (.ref q) H'
 | _=>False
theorem ok_rules_without (T:Top K mg):Callee P w K mg base 1 "rules_without" ["rules", "number"] (sp_rules_without K):=by
 refine T.f_rules_without.cal sc_rules_without (by intro vs H Q E h; unfold sp_rules_without at h; split at h <;> first | rfl | exact h.elim) (fun _ _ _ _ _ _ us hl=>match us,hl with | [_,_],_=>rfl) (fun f cdv A outer s H vs Q E hr h=>?_)
 unfold sp_rules_without at h
 split at h
 case h_2=>exact h.elim
 refine ⟨_,(pss_one (ps_ret (pe_op op_addK (pe_slice (slE K rfl) (qv 0) po_none (qo_some (qv 1))) (pe_slice (slE K rfl) (qv 0) (qo_some (pe_op op_addK (qv 1) pe_int)) po_none)))),?_⟩
 rename_i p n
 obtain ⟨rs,j,⟨vs,e0,pr⟩,rfl,hj,hl,q⟩:=h
 have hlv:=pr.length
 walk_at "rd"
 refine ⟨vs,SqL.of e0,fun a1 h1=>?_⟩
 rw [cut_to vs j (by omega)]
 refine ⟨vs,SqL.of (same_new h1 _ _ _ e0),fun a2 h2=>?_⟩
 rw [show (j:Int) + 1 = ((j + 1:Nat):Int) from rfl,cut_from vs (j + 1) (by omega)]
 refine ⟨vs.take j,vs.drop (j + 1),same_new h2 _ _ _ upd_same,upd_same,by rw [List.length_take,List.length_drop,sizeLine_eq]; omega,fun oa hoa=>?_⟩
 have s2:Same H (upd (upd H a1 (.lst (vs.take j))) a2 (.lst (vs.drop (j + 1)))):=(same_new h1 _).trans (same_new h2 _)
 have s3:=s2.trans (same_new hoa (.lst (vs.take j ++ vs.drop (j + 1))))
 exact q oa _ (s2.free hoa) s3 ⟨_,upd_same,rules_keep (fun t us q=>s3 _ _ q) (paired_app (paired_take pr j) (paired_drop pr (j + 1)))⟩
noncomputable def sp_rule_needed (K:Frag):Sp:=fun vs H Q E=>match vs with
 | [.ref p,.int n,.int _]=>∃ (rs:List Rule) (W:Nat),Rules H p rs /\ RulesW W rs /\ W <= 1000 /\ rs.length <= 90 /\ -100 <= n /\ n <= 100 /\
   (∀ j:Nat,n = (j:Int) -> j < rs.length -> (asked ((othersL rs j).map fun x=>x.1) (rs.getD j ([],[],[])).1).length <= 12 /\ ∀ H',Same H H' -> Q (oV (neededL rs j)) H') /\
   (n < 0 \/ (rs.length:Int) <= n -> ∀ H',Same H H' -> E (.ref (xA K "NoRule")) none H')
 | _=>False
theorem ok_rule_needed (T:Top K mg):CalleeX P w K mg base 23 "rule_needed" ["rules", "number", "width"] (sp_rule_needed K):=by
 refine T.f_rule_needed.calX sc_rule_needed (by intro vs H Q E h; unfold sp_rule_needed at h; split at h <;> first | rfl | exact h.elim) (fun _ _ _ _ _ _ us hl=>match us,hl with | [_,_,_],_=>rfl) (fun f cdv A outer s H vs Q E hr h=>?_)
 unfold sp_rule_needed at h
 split at h
 case h_2=>exact h.elim
 refine ⟨_,(pss_cons (ps_expr (pe_fnX (ok_check_number T) hr.m passes_fn rfl (pa_cons (qv 1) (pa_cons (pe_callB (lenE K rfl) rfl T.b_len bb_len (pa_cons (qv 0) pa_nil)) pa_nil))))
   (pss_cons (ps_set (i:=3) sc_rule_needed.nd rfl lc (pe_fn (ok_rules_without T) hr.m rfl (pa_cons (qv 0) (pa_cons (qv 1) pa_nil))))
   (pss_cons (qs_for PassesOwn.leaving rfl (iterE K rfl (pe_fn (ok_rule_shares T) hr.m rfl (pa_cons (qv 3) (pa_cons (pe_ix (ixE K rfl) (pe_ix (ixE K rfl) (qv 0) (qv 1) (fun _ _=>rfl)) pe_int (fun _ _=>rfl)) pa_nil)))) (tupE K rfl rfl (n:=2) (pgs_cons (pg_name (i:=4) sc_rule_needed.nd rfl lc) (pgs_cons (pg_name (i:=5) sc_rule_needed.nd rfl lc) pgs_nil))) (pss_one (ps_if (qt_cmp op_geK (qv 5) (qv 1)) (pss_cons (ps_set (i:=6) sc_rule_needed.nd rfl lc (pe_fn (ok_deeds_parted T) hr.m rfl (pa_cons (qv 4) (pa_cons (qv 0) (pa_cons (qv 1) (pa_cons (qv 3) (pa_cons (qv 5) pa_nil)))))))
   (pss_one (ps_if (qt_cmp op_isnotK (qv 6) pe_non) (pss_one (ps_ret (qv 6))) pss_nil))) pss_nil)))
   (pss_one (ps_ret pe_non))))),?_⟩
 rename_i p n w0
 obtain ⟨rs,W,R,hW,hW2,hl,n1,n2,q1,q2⟩:=h
 obtain ⟨vs,e0,pr⟩:=id R
 have hlv:=pr.length
 walk_at "rd"
 refine ⟨vs,.inl (SqL.of e0),n1,n2,fun c=>?_,fun c=>q2 (by rw [hlv]; exact c) H (Same.refl _)⟩
 obtain ⟨c,c2⟩:=c
 walk_at "rd"
 obtain ⟨j,rfl⟩:∃ j:Nat,n = (j:Int):=⟨n.toNat,by omega⟩
 have hj:j < rs.length:=by omega
 obtain ⟨h12,q⟩:=q1 j rfl hj
 have hgd:rs.getD j ([],[],[]) = rs[j]:=by rw [List.getD_eq_getElem?_getD,List.getElem?_eq_getElem hj]; rfl
 have eO:neededL rs j = needL rs j (othersL rs j) (sharesOf ((othersL rs j).map fun x=>x.1) rs[j].1):=by unfold neededL; rw [hgd]
 rw [hgd] at h12
 rw [eO] at q
 refine ⟨rs,j,R,rfl,hj,hl,fun oa H3 hoa s3 RO=>?_⟩
 obtain ⟨y,hy,t',ey,et⟩:=paired_at pr (List.getElem?_eq_getElem hj)
 subst ey
 have hol:(othersL rs j).length <= rs.length:=by unfold othersL; rw [List.length_append,List.length_take,List.length_drop]; omega
 have hos:∀ x ∈ othersL rs j,RuleOk W x:=fun r hr=>by
  rcases List.mem_append.mp hr with h | h
  ·exact hW r (List.mem_of_mem_take h)
  ·exact hW r (List.mem_of_mem_drop h)
 have hrj:=hW _ (List.getElem_mem hj)
 have hlen:∀ z ∈ (othersL rs j).map (fun x=>x.1),z.length = rs[j].1.length:=fun z hz=>by
  obtain ⟨x,hx,rfl⟩:=List.mem_map.mp hz
  rw [(hos x hx).1,hrj.1]
 refine ⟨_,_,.inl (SqL.of (s3 _ _ e0)),atI_nat hy,?_⟩
 walk_at "rd"
 refine ⟨_,_,.inr (SqT.of (s3 _ _ et)),rfl,othersL rs j,RO,fun x hx=>by simp only [st_cps]; rw [(hos x hx).1,hrj.1],by simp only [st_cps]; rw [hrj.1]; exact hW2,by omega,by simp only [st_cps]; exact h12,fun fa H4 f4 s4 P4=>?_⟩
 simp only [st_cps] at P4
 have sh:=share_le hlen hrj.2.1
 generalize sharesOf ((othersL rs j).map fun x=>x.1) rs[j].1 = xs at P4 sh q
 obtain ⟨fv,ef,pf⟩:=P4
 have lf:=pf.length
 have s34:=s3.trans s4
 refine .inl ⟨⟨_,SqL.of ef⟩,?_⟩
 refine loop_list (xs:=fv) (fun i σ H'=>∃ u1 u2 u3,σ = [some (.ref p),some (.int j),some (.int w0),some (.ref oa),u1,u2,u3] /\ Same H4 H' /\ ∀ x ∈ xs.take i,(if j <= x.2 then partO rs j (othersL rs j) x.2 x.1 else none) = none) ⟨none,none,none,rfl,Same.refl _,fun x hx=>by simp at hx⟩ (fun i σ H' _ ⟨_,_,_,_,z,_⟩=>SqL.of (z _ _ ef)) ?_ ?_
 ·rintro i v σ H5 hv ⟨u1,u2,u3,rfl,s5,k5⟩
  have hi:i < fv.length:=(List.getElem?_eq_some_iff.mp hv).1
  have hix:i < xs.length:=by omega
  obtain ⟨y,hy,t2,ey,et2⟩:=paired_at pf (List.getElem?_eq_getElem hix)
  obtain rfl:v = .ref t2:=by rw [hy] at hv; rw [<- Option.some.inj hv,ey]
  obtain ⟨g1,g2⟩:=sh _ (List.getElem_mem hix)
  rw [List.length_map] at g1
  have hxi:xs[i]? = some xs[i]:=List.getElem?_eq_getElem hix
  generalize xs[i] = x at et2 g1 g2 hxi
  obtain ⟨x,k⟩:=x
  dsimp only at g1 g2
  have more:∀ f:Pr -> Option (List Nat),(∀ x ∈ xs.take i,f x = none) -> f (x,k) = none -> ∀ x ∈ xs.take (i + 1),f x = none:=fun f hf hk z hz=>by
   rw [List.take_add_one,hxi] at hz
   rcases List.mem_append.mp hz with h | h
   ·exact hf z h
   ·have:z = (x,k):=by simpa using h
    rw [this]
    exact hk
  refine ⟨t2,[_,_],rfl,SqT.of (s5 _ _ et2),rfl,_,[_],rfl,_,[],rfl,rfl,?_⟩
  walk_at "rd"
  refine ite2 (fun c5=>?_) fun c5=>⟨_,_,_,rfl,s5,more _ k5 (if_neg (by show ¬ j <= k; omega))⟩
  have c5':j <= k:=by omega
  have s35:=s34.trans s5
  refine ⟨rs,othersL rs j,j,k,R.same s35,rfl,by omega,RO.same (s4.trans s5),rfl,by omega,by simp only [st_cps]; rw [g2,hrj.1]; exact hW2,fun H6 s6=>?_⟩
  simp only [st_cps]
  walk_at "rd"
  cases hp:partO rs j (othersL rs j) k x with
  | none=>
   unfold oV
   walk_at "rd"
   exact ⟨_,_,_,rfl,s5.trans s6,more _ k5 (by show (if j <= k then partO rs j (othersL rs j) k x else none) = none; rw [if_pos c5',hp])⟩
  | some l=>
   unfold oV
   walk_at "rd"
   have q':=q H6 (s35.trans s6)
   have:needL rs j (othersL rs j) xs = some l:=find_at (f:=fun x:Pr=>if j <= x.2 then partO rs j (othersL rs j) x.2 x.1 else none) k5 hxi (by show (if j <= k then partO rs j (othersL rs j) k x else none) = some l; rw [if_pos c5',hp])
   rw [this] at q'
   exact q'
 ·rintro σ H5 ⟨u1,u2,u3,rfl,s5,k5⟩
  walk_at "rd"
  have q':=q H5 (s34.trans s5)
  have:needL rs j (othersL rs j) xs = none:=List.findSome?_eq_none_iff.mpr fun x hx=>k5 x (by rw [<- lf,List.take_length]; exact hx)
  rw [this] at q'
  exact q'
theorem written_dashes:∀ (b:List Nat),written b (dashes b.length) = b
 | []=>rfl
 | x :: b=>by
  have:=written_dashes b
  unfold written dashes at this ⊢
  rw [List.length_cons,List.replicate_succ,List.zip_cons_cons,List.map_cons,this]
  rfl
theorem findIdx_same {α:Type} {p q:α -> Bool}:∀ {l:List α},(∀ x ∈ l,p x = q x) -> l.findIdx p = l.findIdx q
 | [],_=>rfl
 | x :: l,h=>by
  rw [List.findIdx_cons,List.findIdx_cons,h x List.mem_cons_self,findIdx_same fun y hy=>h y (List.mem_cons_of_mem _ hy)]
section
variable {ps y:List Nat} {W:Nat}
theorem narrow_self (nd:ps.Nodup) (lt:∀ p ∈ ps,p < W) (hy:y.length = W):setAll (narrow y ps) ps y = y:=by
 refine same_at (W:=W) (by rw [setAll_len]; exact hy) hy fun i hi=>?_
 by_cases hm:i ∈ ps
 ·have:=narrow_set (ps:=ps) (s:=narrow y ps) (d:=y) (by simp [narrow]) nd (by rw [hy]; exact lt)
  unfold narrow at this
  exact List.map_inj_left.mp this i hm
 ·rw [setAll_other ps _ _ i hm]
theorem narrow_let (lt:∀ p ∈ ps,p < W) (hy:y.length = W) (hl:IsLet y):IsLet (narrow y ps):=fun k hk=>by
 obtain ⟨p,hp,rfl⟩:=List.mem_map.mp hk
 have:=lt p hp
 rw [List.getD_eq_getElem?_getD,List.getElem?_eq_getElem (by omega),Option.getD_some]
 exact hl _ (List.getElem_mem _)
theorem first_short {rs:List Rule} (nd:ps.Nodup) (lt:∀ p ∈ ps,p < W) (hy:y.length = W) (hl:IsLet y) (hrs:RulesW ps.length rs):firstR (rs.map (wide ps W)) y = firstS rs (narrow y ps):=by
 unfold firstR firstS
 rw [List.findIdx_map]
 refine findIdx_same fun r hr=>?_
 show within y (setAll r.1 ps (dashes W)) = _
 rw [within_laid (hrs r hr).1 nd lt hy,ok_within (narrow_let lt hy hl)]
theorem deed_short {rs:List Rule} (nd:ps.Nodup) (lt:∀ p ∈ ps,p < W) (hy:y.length = W) (hrs:RulesW ps.length rs) (j:Nat):deedO (rs.map (wide ps W)) j y = (deedO rs j (narrow y ps)).map fun s=>setAll s ps y:=by
 unfold deedO
 rw [List.getElem?_map]
 cases e:rs[j]? with
 | none=>rfl
 | some r=>
  have hr:=hrs r (List.mem_of_getElem? e)
  show (if r.2.1 = dropT then none else some (written y (setAll r.2.2 ps (dashes W)))) = _
  dsimp only
  by_cases d:r.2.1 = dropT
  ·rw [if_pos d,if_pos d]
   rfl
  ·rw [if_neg d,if_neg d]
   have:=written_setAll ps r.2.2 (narrow y ps) y (dashes W) hr.2.2.1 (by simp [narrow]) (by simp [dashes,hy])
   rw [narrow_self nd lt hy,<- hy,written_dashes] at this
   rw [<- hy,this]
   rfl
theorem deed_len {rs:List Rule} {n j:Nat} {c s:List Nat} (hrs:RulesW n rs) (hc:c.length = n) (h:deedO rs j c = some s):s.length = n:=by
 unfold deedO at h
 cases e:rs[j]? with
 | none=>rw [e] at h; cases h
 | some r=>
  rw [e] at h
  dsimp only at h
  have hr:=hrs r (List.mem_of_getElem? e)
  split at h
  ·cases h
  ·cases h
   rw [written_len (by rw [hc,hr.2.2.1])]
   exact hc
theorem deeds_short {rs os:List Rule} (nd:ps.Nodup) (lt:∀ p ∈ ps,p < W) (hy:y.length = W) (hl:IsLet y) (hrs:RulesW ps.length rs) (hos:RulesW ps.length os):
  (deedO (rs.map (wide ps W)) (firstR (rs.map (wide ps W)) y) y = deedO (os.map (wide ps W)) (firstR (os.map (wide ps W)) y) y) ↔ deedO rs (firstS rs (narrow y ps)) (narrow y ps) = deedO os (firstS os (narrow y ps)) (narrow y ps):=by
 rw [first_short nd lt hy hl hrs,first_short nd lt hy hl hos,deed_short nd lt hy hrs,deed_short nd lt hy hos]
 have hc:(narrow y ps).length = ps.length:=by simp [narrow]
 constructor
 ·intro h
  cases e1:deedO rs (firstS rs (narrow y ps)) (narrow y ps) with
  | none=>
   cases e2:deedO os (firstS os (narrow y ps)) (narrow y ps) with
   | none=>rfl
   | some s=>rw [e1,e2] at h; cases h
  | some s=>
   cases e2:deedO os (firstS os (narrow y ps)) (narrow y ps) with
   | none=>rw [e1,e2] at h; cases h
   | some s'=>
    rw [e1,e2] at h
    have h:setAll s ps y = setAll s' ps y:=Option.some.inj h
    have n1:=narrow_set (ps:=ps) (s:=s) (d:=y) (deed_len hrs hc e1) nd (by rw [hy]; exact lt)
    have n2:=narrow_set (ps:=ps) (s:=s') (d:=y) (deed_len hos hc e2) nd (by rw [hy]; exact lt)
    rw [<- n1,<- n2,h]
 ·intro h
  rw [h]
theorem wide_ok {r:Rule} (h:RuleOk ps.length r):RuleOk W (wide ps W r):=by
 have big:∀ s:List Nat,IsRow s -> IsRow (setAll s ps (dashes W)):=fun s hs=>setAll_isRow ps s (dashes W) hs fun c hc=>.inr (.inr (List.eq_of_mem_replicate hc))
 have len:∀ s:List Nat,(setAll s ps (dashes W)).length = W:=fun s=>by rw [setAll_len]; simp [dashes]
 exact ⟨len _,big _ h.2.1,len _,big _ h.2.2.2⟩
end
theorem others_map (f:Rule -> Rule) (rs:List Rule) (n:Nat):othersL (rs.map f) n = (othersL rs n).map f:=by
 unfold othersL
 rw [List.map_append,List.map_take,List.map_drop]
theorem needed_told {rs:List Rule} {ps:List Nat} {W n:Nat} (psd:ps.Pairwise (· < ·)) (lt:∀ p ∈ ps,p < W) (hrs:RulesW ps.length rs) (hn:n < rs.length):
  (neededL (rs.map (wide ps W)) n = none -> ∀ c,c.length = ps.length -> IsLet c -> deedO rs (firstS rs c) c = deedO (othersL rs n) (firstS (othersL rs n) c) c) /\
  ∀ y,neededL (rs.map (wide ps W)) n = some y -> y.length = W /\ IsLet y /\ deedO rs (firstS rs (narrow y ps)) (narrow y ps) ≠ deedO (othersL rs n) (firstS (othersL rs n) (narrow y ps)) (narrow y ps):=by
 have nd:ps.Nodup:=psd.imp fun h=>Nat.ne_of_lt h
 have hos:RulesW ps.length (othersL rs n):=fun r hr=>by
  rcases List.mem_append.mp hr with h | h
  ·exact hrs r (List.mem_of_mem_take h)
  ·exact hrs r (List.mem_of_mem_drop h)
 have wR:∀ l:List Rule,RulesW ps.length l -> RulesW W (l.map (wide ps W)):=fun l hl r hr=>by
  obtain ⟨x,hx,rfl⟩:=List.mem_map.mp hr
  exact wide_ok (hl x hx)
 have cut:rs = rs.take n ++ rs[n] :: rs.drop (n + 1):=by rw [<- List.drop_eq_getElem_cons hn,List.take_append_drop]
 have hl:((rs.take n).map (wide ps W)).length = n:=by rw [List.length_map,List.length_take]; omega
 have K:=need_ok (W:=W) (A:=(rs.take n).map (wide ps W)) (r:=wide ps W rs[n]) (B:=(rs.drop (n + 1)).map (wide ps W)) (wR _ fun r hr=>hrs r (List.mem_of_mem_take hr)) (wide_ok (hrs _ (List.getElem_mem hn))) (wR _ fun r hr=>hrs r (List.mem_of_mem_drop hr))
 have e1:(rs.take n).map (wide ps W) ++ wide ps W rs[n] :: (rs.drop (n + 1)).map (wide ps W) = rs.map (wide ps W):=by
  conv=>rhs; rw [cut]
  rw [List.map_append,List.map_cons]
 have e2:(rs.take n).map (wide ps W) ++ (rs.drop (n + 1)).map (wide ps W) = (othersL rs n).map (wide ps W):=by
  unfold othersL
  rw [List.map_append]
 have e3:((rs.map (wide ps W)).getD n ([],[],[])).1 = (wide ps W rs[n]).1:=by
  rw [List.getD_eq_getElem?_getD,List.getElem?_map,List.getElem?_eq_getElem hn]
  rfl
 rw [e1,e2,hl] at K
 unfold neededL
 rw [others_map,e3]
 constructor
 ·intro h c hc hcl
  have hd:IsLet (List.replicate W 48):=fun k hk=>.inl (List.eq_of_mem_replicate hk)
  have hy:(setAll c ps (List.replicate W 48)).length = W:=by rw [setAll_len]; simp
  have hyl:IsLet (setAll c ps (List.replicate W 48)):=setAll_isRow ps c _ hcl hd
  have hnar:narrow (setAll c ps (List.replicate W 48)) ps = c:=narrow_set hc nd (by simpa using lt)
  have:=(deeds_short nd lt hy hyl hrs hos).mp (K.1 h _ hy hyl)
  rw [hnar] at this
  exact this
 ·intro y h
  obtain ⟨k1,k2,k3⟩:=K.2 y h
  exact ⟨k1,k2,fun z=>k3 ((deeds_short nd lt k1 k2 hrs hos).mpr z)⟩
noncomputable def ruleT:List Nat:=[114,117,108,101]
noncomputable def sp__law_word (K:Frag):Sp:=fun vs H Q _=>match vs with
 | [.ref ea]=>H ea = some (XO (xA K "NoRule") ea) /\ ∀ H',Same H H' -> Q (tx ruleT) H'
 | _=>False
theorem ok__law_word (T:Top K mg):CalleeH P w K mg base 1 "_law_word" ["_law_e"] (sp__law_word K):=by
 refine T.f__law_word.calH sc__law_word (by intro vs H Q E h; unfold sp__law_word at h; split at h <;> first | rfl | exact h.elim) (fun _ _ _ _ _ _ us hl=>match us,hl with | [_],_=>rfl) (fun f cdv A outer s H vs Q E hr h=>?_)
 unfold sp__law_word at h
 split at h
 case h_2=>exact h.elim
 refine ⟨_,(pss_cons (ps_set (i:=1) sc__law_word.nd rfl lc (pe_lst pa_nil))
   (pss_join (ps_if (qt_val (qe_isiX K rfl rfl rfl T.b_isinstance (qv 0) (qe_clsT T.t_Misfit rfl))) (pss_one (ps_expr (qe_append (qv 1) (qs [109,105,115,102,105,116])))) pss_nil)
   (pss_join (ps_if (qt_val (qe_isiX K rfl rfl rfl T.b_isinstance (qv 0) (qe_clsT T.t_Twice rfl))) (pss_one (ps_expr (qe_append (qv 1) (qs [116,119,105,99,101])))) pss_nil)
   (pss_join (ps_if (qt_val (qe_isiX K rfl rfl rfl T.b_isinstance (qv 0) (qe_clsT T.t_NoField rfl))) (pss_one (ps_expr (qe_append (qv 1) (qs [102,105,101,108,100])))) pss_nil)
   (pss_join (ps_if (qt_val (qe_isiX K rfl rfl rfl T.b_isinstance (qv 0) (qe_cls T.x_NoRule rfl))) (pss_one (ps_expr (qe_append (qv 1) (qs [114,117,108,101])))) pss_nil)
   (pss_join (ps_if (qt_val (qe_isiX K rfl rfl rfl T.b_isinstance (qv 0) (qe_clsT T.t_NoWay rfl))) (pss_one (ps_expr (qe_append (qv 1) (qs [119,97,121])))) pss_nil)
   (pss_join (ps_if (PW.pt (pw_or (qt_val (qe_isiXT (ds:=[.ref (xA K "NoDoor"),.ref (xA K "NoHouse")]) K rfl rfl (Nat.le_of_lt (sizeBig (by simp))) rfl T.b_isinstance (qv 0) (pac_cons (qe_clsT T.t_NoDoor rfl) (pac_cons (qe_clsT T.t_NoHouse rfl) pac_nil)))) (pw_or (qt_val (qe_isiXT (ds:=[.ref (xA K "NoLine"),.ref (xA K "BadWord")]) K rfl rfl (Nat.le_of_lt (sizeBig (by simp))) rfl T.b_isinstance (qv 0) (pac_cons (qe_clsT T.t_NoLine rfl) (pac_cons (qe_clsT T.t_BadWord rfl) pac_nil)))) (pw_or1 (qt_val (qe_isiX K rfl rfl rfl T.b_isinstance (qv 0) (qe_clsT T.t_Unlike rfl))))))) (pss_one (ps_expr (qe_append (qv 1) (qs [111,116,104,101,114])))) pss_nil)
   (pss_join (ps_if (pt_not (qt_val (qe_isiX K rfl rfl rfl T.b_isinstance (qv 0) (qe_ty rfl T.b_ValueError bb_ValueError)))) (pss_one (ps_expr (qe_append (qv 1) (qs [98,97,115,101])))) pss_nil)
   (pss_one (ps_ret (qe_joinW K rfl (qv 1)))))))))))),?_⟩
 rename_i ea
 obtain ⟨e0,q⟩:=h
 have xc:=T.x_NoRule.2
 walk_at "rd"
 refine ⟨by decide,fun p hp=>?_⟩
 have s0:=same_new hp (.lst [])
 have g0:upd H p (.lst []) p = some (.lst []):=upd_same
 generalize upd H p (.lst []) = H0 at s0 g0 ⊢
 refine ⟨fun σ' H'=>σ' = [some (.ref ea),some (.ref p)] /\ Same H H' /\ H' p = some (.lst []),⟨_,false,s0 _ _ e0,xc,Xt.kit T.m_NoRule_Misfit T.t_Misfit,?_⟩,?_⟩
 ·exact ⟨rfl,s0,g0⟩
 clear s0 g0
 rintro σ' H3 ⟨rfl,s3,e3⟩
 walk_at "rd"
 refine ⟨fun σ' H'=>σ' = [some (.ref ea),some (.ref p)] /\ Same H H' /\ H' p = some (.lst []),⟨_,false,s3 _ _ e0,xc,Xt.kit T.m_NoRule_Twice T.t_Twice,?_⟩,?_⟩
 ·exact ⟨rfl,s3,e3⟩
 clear s3 e3
 rintro σ' H3 ⟨rfl,s3,e3⟩
 walk_at "rd"
 refine ⟨fun σ' H'=>σ' = [some (.ref ea),some (.ref p)] /\ Same H H' /\ H' p = some (.lst []),⟨_,false,s3 _ _ e0,xc,Xt.kit T.m_NoRule_NoField T.t_NoField,?_⟩,?_⟩
 ·exact ⟨rfl,s3,e3⟩
 clear s3 e3
 rintro σ' H3 ⟨rfl,s3,e3⟩
 walk_at "rd"
 refine ⟨fun σ' H'=>σ' = [some (.ref ea),some (.ref p)] /\ Same H H' /\ H' p = some (.lst ([ruleT].map tx)),⟨_,true,s3 _ _ e0,xc,Xn.kit T.m_NoRule_NoRule T.x_NoRule,?_⟩,?_⟩
 ·walk_at "rd"
  exact ⟨⟨_,e3⟩,_,e3,sizeBig (by simp),same_upd s3 hp,by rw [upd_same]; rfl⟩
 clear s3 e3
 rintro σ' H3 ⟨rfl,s3,e3⟩
 walk_at "rd"
 refine ⟨fun σ' H'=>σ' = [some (.ref ea),some (.ref p)] /\ Same H H' /\ H' p = some (.lst ([ruleT].map tx)),⟨_,false,s3 _ _ e0,xc,Xt.kit T.m_NoRule_NoWay T.t_NoWay,?_⟩,?_⟩
 ·exact ⟨rfl,s3,e3⟩
 clear s3 e3
 rintro σ' H3 ⟨rfl,s3,e3⟩
 walk_at "rd"
 refine ⟨fun σ' H'=>σ' = [some (.ref ea),some (.ref p)] /\ Same H H' /\ H' p = some (.lst ([ruleT].map tx)),⟨_,false,s3 _ _ e0,xc,by rw [kitAny_no (Xt.kit T.m_NoRule_NoDoor T.t_NoDoor),kitAny_no (Xt.kit T.m_NoRule_NoHouse T.t_NoHouse),kitAny_nil],fun p1 hp1=>?_⟩,?_⟩
 ·walk_at "rd"
  have s4:=s3.trans (same_new hp1 (.tup [V.ref (xA K "NoDoor"),V.ref (xA K "NoHouse")]))
  have e4:=same_new hp1 (.tup [V.ref (xA K "NoDoor"),V.ref (xA K "NoHouse")]) _ _ e3
  refine ⟨_,false,s4 _ _ e0,xc,by rw [kitAny_no (Xt.kit T.m_NoRule_NoLine T.t_NoLine),kitAny_no (Xt.kit T.m_NoRule_BadWord T.t_BadWord),kitAny_nil],fun p2 hp2=>?_⟩
  walk_at "rd"
  have s5:=s4.trans (same_new hp2 (.tup [V.ref (xA K "NoLine"),V.ref (xA K "BadWord")]))
  refine ⟨_,false,s5 _ _ e0,xc,Xt.kit T.m_NoRule_Unlike T.t_Unlike,?_⟩
  walk_at "rd"
  exact ⟨s5,same_new hp2 _ _ _ e4⟩
 clear s3 e3
 rintro σ' H3 ⟨rfl,s3,e3⟩
 walk_at "rd"
 refine ⟨fun σ' H'=>σ' = [some (.ref ea),some (.ref p)] /\ Same H H' /\ H' p = some (.lst ([ruleT].map tx)),⟨_,true,s3 _ _ e0,xc,Xv.kit T.v_NoRule,?_⟩,?_⟩
 ·exact ⟨rfl,s3,e3⟩
 clear s3 e3
 rintro σ' H3 ⟨rfl,s3,e3⟩
 walk_at "rd"
 refine ⟨[ruleT],SqL.of e3,by decide,fun x hx=>?_,?_⟩
 ·rw [List.mem_singleton.mp hx]
  decide
 ·exact q H3 s3
theorem same_exc {H H1:Hp} {ea C:Addr} (s:Same H H1) (h:H1 ea = none):Same H (upd H1 ea (XO C ea)):=s.trans (same_new h _)
noncomputable def sp__law_refused (K:Frag):Sp:=fun vs H Q _=>match vs with
 | [.ref p,.int n,.int _]=>∃ (rs:List Rule) (W:Nat),Rules H p rs /\ RulesW W rs /\ W <= 1000 /\ rs.length <= 90 /\ -100 <= n /\ n <= 100 /\ (n < 0 \/ (rs.length:Int) <= n) /\ ∀ H',Same H H' -> Q (.bl true) H'
 | _=>False
theorem ok__law_refused (T:Top K mg):Callee P w K mg base 24 "_law_refused" ["_law_rules_here", "_law_number", "_law_width_here"] (sp__law_refused K):=by
 refine T.f__law_refused.cal sc__law_refused (by intro vs H Q E h; unfold sp__law_refused at h; split at h <;> first | rfl | exact h.elim) (fun _ _ _ _ _ _ us hl=>match us,hl with | [_,_,_],_=>rfl) (fun f cdv A outer s H vs Q E hr h=>?_)
 unfold sp__law_refused at h
 split at h
 case h_2=>exact h.elim
 refine ⟨_,(pss_cons (ps_set (i:=3) sc__law_refused.nd rfl lc (qs [110,111,110,101]))
   (pss_join (ps_tryAs (D:=xA K "ThrongError") (i:=4) (fun _ _=>(pss_one (ps_expr (pe_fnT (ok_rule_needed T) hr.m passesT rfl (pa_cons (qv 0) (pa_cons (qv 1) (pa_cons (qv 2) pa_nil))))))) (fun _=>(pss_one (ps_set (i:=3) sc__law_refused.nd rfl lc (pe_fnH (ok__law_word T) ((hr.h.mark _).mono (by first | decide | omega)) rfl (pa_cons (qv 4) pa_nil))))) rfl rfl rfl T.x_ThrongError.1 T.x_ThrongError.2 sc__law_refused.nd rfl rfl)
   (pss_one (ps_ret (qe_cmp op_eqK (qv 3) (qs [114,117,108,101])))))),?_⟩
 rename_i p n w0
 obtain ⟨rs,W,R,hW,hW2,hl,n1,n2,hn,q⟩:=h
 walk_at "rd"
 refine ⟨fun σ' H'=>∃ u,σ' = [some (.ref p),some (.int n),some (.int w0),some (tx ruleT),u] /\ Same H H',⟨rs,W,R,hW,hW2,hl,n1,n2,fun j e hj=>absurd hj (by omega),fun _ H2 s2=>⟨_,rfl,T.m_NoRule_ThrongError.caught,fun ea hea=>⟨upd_same,fun H3 s3=>?_⟩⟩⟩,?_⟩
 ·walk_at "rd"
  exact ⟨_,rfl,(same_exc s2 hea).trans s3⟩
 ·rintro σ' H3 ⟨u,rfl,s3⟩
  walk_at "rd"
  exact q H3 s3
noncomputable def sp_law (K:Frag):Sp:=fun vs H Q _=>match vs with
 | [.ref a]=>∃ ns:List Int,SqL K H a (ns.map V.int) /\ ns.length <= 63 /\ ∀ H',Q (.bl true) H'
 | _=>False
theorem sub_len:∀ (l m:List Nat),l.Nodup -> (∀ x ∈ l,x ∈ m) -> l.length <= m.length
 | [],m,_,_=>Nat.zero_le _
 | x :: l,m,hn,h=>by
  rw [List.nodup_cons] at hn
  have ih:=sub_len l (m.erase x) hn.2 fun y hy=>(List.mem_erase_of_ne (show y ≠ x from fun e=>hn.1 (by rw [<- e]; exact hy))).mpr (h y (List.mem_cons_of_mem _ hy))
  have hx:=h x List.mem_cons_self
  rw [List.length_erase_of_mem hx] at ih
  have:=List.length_pos_of_mem hx
  rw [List.length_cons]
  omega
noncomputable def rowsW (rs:List Rule) (ps:List Nat) (W:Nat):List (List Nat):=(rs.map (wide ps W)).map fun x=>x.1
theorem big_len (row ps:List Nat) (W:Nat):(setAll row ps (dashes W)).length = W:=by
 rw [setAll_len]
 simp [dashes]
theorem asked_few {rs:List Rule} {ps row:List Nat} {W:Nat}:(asked (rowsW rs ps W) (setAll row ps (dashes W))).length <= ps.length:=by
 refine sub_len _ _ ?_ fun i hi=>?_
 ·unfold asked
  exact (List.Pairwise.filter _ (places_sorted _ _)).imp fun h=>Nat.ne_of_lt h
 ·have hlt:=(asked_lt hi).1
  rw [big_len] at hlt
  obtain ⟨r,hr,h45⟩:=List.any_eq_true.mp (List.mem_filter.mp (List.mem_filter.mp hi).1).2
  obtain ⟨q,hq,rfl⟩:=List.mem_map.mp hr
  have hq1:=List.fst_mem_of_mem_zipIdx (List.mem_filter.mp hq).1
  apply Classical.byContradiction
  intro hn
  rcases List.mem_append.mp hq1 with z | z
  ·obtain ⟨x,hx,e⟩:=List.mem_map.mp z
   obtain ⟨y,hy,rfl⟩:=List.mem_map.mp hx
   rw [<- e] at h45
   have:(setAll y.1 ps (dashes W)).getD i 0 = 45:=by rw [setAll_other ps y.1 _ i hn,dash_at hlt]
   rw [show (wide ps W y).1 = setAll y.1 ps (dashes W) from rfl,this] at h45
   exact absurd h45 (by decide)
  ·rw [List.mem_singleton.mp z,big_len,dash_at hlt] at h45
   exact absurd h45 (by decide)
noncomputable def sp__law_letter:Sp:=fun vs H Q _=>match vs with
 | [.str a,.int w]=>IsLet a.cps.toList /\ (a.cps.toList.length:Int) = w /\ a.cps.toList.length <= 1000 /\ ∀ H',Same H H' -> Q (.bl true) H'
 | _=>False
theorem ok__law_letter (T:Top K mg):Callee P w K mg base 1 "_law_letter" ["_law_found", "_law_width_here"] sp__law_letter:=by
 refine T.f__law_letter.cal sc__law_letter (by intro vs H Q E h; unfold sp__law_letter at h; split at h <;> first | rfl | exact h.elim) (fun _ _ _ _ _ _ us hl=>match us,hl with | [_,_],_=>rfl) (fun f cdv A outer s H vs Q E hr h=>?_)
 unfold sp__law_letter at h
 split at h
 case h_2=>exact h.elim
 refine ⟨_,(pss_cons (ps_if (PW.pt (pw_or (pt_not (qt_val (qe_isinst .str rfl T.b_isinstance (qv 0) rfl T.b_str bb_str))) (pw_or1 (qt_cmp op_neK (pe_callB (lenE K rfl) rfl T.b_len bb_len (pa_cons (qv 0) pa_nil)) (qv 1))))) (pss_one (ps_ret pe_bl)) pss_nil)
   (pss_one (ps_ret (qe_cmp (eqNilE K rfl (hu1 hr)) (qe_comp (nt:=1) (fi:=[]) (N':=["_law_sign"]) rfl (cscope rfl (by decide +kernel)) (cnames (N:=["_law_found", "_law_width_here"]) (sc:=defScope s__law_letter) rfl rfl (by decide +kernel)) (gk_name (by decide)) (iterE K rfl (qv 0)) (fun _ _ _ _ _=>(pg_name (i:=0) (by show (["_law_sign"]:List Str).Nodup; decide +kernel) rfl lc)) (fun _ _ _ _ _=>(pif_one (qt_cmp (notinE K rfl) (qv 0) (pe_tup (pa_cons (qs [48]) (pa_cons (qs [49]) pa_nil)))))) (fun _ _ _ _ _=>(qv 0))) (pe_lst pa_nil))))),?_⟩
 rename_i a n
 obtain ⟨x,rfl⟩:∃ x,a = st x:=⟨_,(st_eta a).symm⟩
 obtain ⟨hx,h1,h2,q⟩:=h
 simp only [st_cps] at hx h1 h2
 walk_at "rd"
 refine ⟨by omega,?_⟩
 rw [if_pos h1]
 intro D hD
 refine comp_str (h:=fun _=>[]) hD (by omega) (fun _=>by simp) ?_ ?_
 ·intro c H1 out non hc s1 ho hn
  walk_at "rd"
  refine ⟨by decide,fun p hp=>⟨_,.inr (SqT.of upd_same),rfl,rfl,?_⟩⟩
  have e:inV (V.str (st [c])) [V.str (st [48]),V.str (st [49])] = decide (c ∈ [48,49]):=in_signs c [48,49]
  have e2:c ∈ [48,49]:=by rcases hx c hc with z | z <;> simp [z]
  rw [e,decide_eq_true e2]
  walk_at "rd"
  exact hn _ rfl (same_new hp _)
 ·intro H1 s1 e1
  have en:x.flatMap (fun _=>([]:List V)) = []:=by simp
  rw [en] at e1
  walk_at "rd"
  refine ⟨by decide,fun z hz=>⟨_,SqL.of (same_new hz _ _ _ e1),SqL.of upd_same,?_⟩⟩
  exact q _ (s1.trans (same_new hz _))
theorem cut_8 (ns:List Int):∃ cs:List Int,cutV (ns.map V.int) (some 3) (some 11) = cs.map V.int /\ cs.length <= 8:=by
 unfold cutV
 rw [<- List.map_drop,<- List.map_take]
 refine ⟨_,rfl,?_⟩
 have e11:HT.sIx (ns.map V.int).length (ns.map V.int).length (some 11) = min 11 (ns.map V.int).length:=HT.sIx_nat _ _ 11
 have e3:HT.sIx (ns.map V.int).length 0 (some 3) = min 3 (ns.map V.int).length:=HT.sIx_nat _ _ 3
 rw [List.length_take,e11,e3,List.length_drop,List.length_map]
 omega
theorem choices_mem:∀ (n:Nat) (c:List Nat),c.length = n -> IsLet c -> c ∈ choicesL n
 | 0,c,h,_=>by rw [List.length_eq_zero_iff.mp h]; simp [choicesL]
 | n + 1,c,h,hl=>by
  have hne:c ≠ []:=fun z=>by rw [z] at h; cases h
  have e:=List.dropLast_concat_getLast hne
  have hd:c.dropLast ∈ choicesL n:=choices_mem n _ (by rw [List.length_dropLast]; omega) fun k hk=>hl k (by rw [<- e]; exact List.mem_append_left _ hk)
  rw [choicesL]
  rcases hl (c.getLast hne) (List.getLast_mem hne) with z | z
  ·exact List.mem_append_left _ (List.mem_map.mpr ⟨_,hd,by rw [<- z]; exact e⟩)
  ·exact List.mem_append_right _ (List.mem_map.mpr ⟨_,hd,by rw [<- z]; exact e⟩)
theorem ok_law (T:Top K mg) {f:Addr} {fd:FuncData} (F:Fun K "law" "law" s_law f fd):FnOk P w K mg base CX0 25 f fd ["_law_script"] (sp_law K):=by
 refine F.ok sc_law (by intro vs H Q E h; unfold sp_law at h; split at h <;> first | rfl | exact h.elim) (fun cdv A outer s H vs Q E hr h=>?_)
 unfold sp_law at h
 split at h
 case h_2=>exact h.elim
 refine ⟨_,(pss_cons (ps_set (i:=1) sc_law.nd rfl lc (pe_fn (ok__law_width T) hr.m rfl (pa_cons (pe_fn (ok__law_cell_at T) hr.m rfl (pa_cons (qv 0) (pa_cons pe_int pa_nil))) pa_nil)))
   (pss_cons (ps_set (i:=2) sc_law.nd rfl lc (pe_fn (ok__law_places T) hr.m rfl (pa_cons (pe_fn (ok__law_cell_at T) hr.m rfl (pa_cons (qv 0) (pa_cons pe_int pa_nil))) (pa_cons (qv 1) pa_nil))))
   (pss_cons (ps_set (i:=3) sc_law.nd rfl lc (pe_fn (ok__law_rules T) hr.m rfl (pa_cons (pe_slice (slE K rfl) (qv 0) (qo_some pe_int) (qo_some pe_int)) (pa_cons (pe_callB (lenE K rfl) rfl T.b_len bb_len (pa_cons (qv 2) pa_nil)) pa_nil))))
   (pss_join (ps_if (qt_cmp op_eqK (pe_op op_modK (pe_op op_fdivK (pe_fn (ok__law_cell_at T) hr.m rfl (pa_cons (qv 0) (pa_cons pe_int pa_nil))) pe_int) pe_int) pe_int) (pss_one (ps_set (i:=3) sc_law.nd rfl lc (pe_op op_addK (qv 3) (pe_slice (slE K rfl) (qv 3) po_none (qo_some pe_int))))) pss_nil)
   (pss_cons (ps_set (i:=4) sc_law.nd rfl lc (pe_fn (ok__law_wide T) hr.m rfl (pa_cons (qv 3) (pa_cons (qv 2) (pa_cons (qv 1) pa_nil)))))
   (pss_cons (ps_set (i:=5) sc_law.nd rfl lc (pe_callTy (call_listK K rfl rfl) rfl T.b_list bb_list (pa_cons (qv 4) pa_nil)))
   (pss_cons (ps_set (i:=6) sc_law.nd rfl lc (pe_op op_modK (pe_op op_fdivK (pe_fn (ok__law_cell_at T) hr.m rfl (pa_cons (qv 0) (pa_cons pe_int pa_nil))) pe_int) pe_int))
   (pss_cons (ps_if (PW.pt (pw_or (pt_not (qt_val (pe_fn (ok__law_refused T) hr.m rfl (pa_cons (qv 5) (pa_cons (pe_op op_subK (qe_neg pe_int) (qv 6)) (pa_cons (qv 1) pa_nil)))))) (pw_or1 (pt_not (qt_val (pe_fn (ok__law_refused T) hr.m rfl (pa_cons (qv 5) (pa_cons (pe_op op_addK (pe_callB (lenE K rfl) rfl T.b_len bb_len (pa_cons (qv 3) pa_nil)) (qv 6)) (pa_cons (qv 1) pa_nil))))))))) (pss_one (ps_ret pe_bl)) pss_nil)
   (pss_cons (ps_if (qt_cmp (eqNilE K rfl (hu1 hr)) (qv 3) (pe_lst pa_nil)) (pss_one (ps_ret (qe_cmp (eqDE K rfl hr) (qv 5) (qv 4)))) pss_nil)
   (pss_cons (ps_set (i:=7) sc_law.nd rfl lc (pe_op op_modK (pe_fn (ok__law_cell_at T) hr.m rfl (pa_cons (qv 0) (pa_cons pe_int pa_nil))) (pe_callB (lenE K rfl) rfl T.b_len bb_len (pa_cons (qv 3) pa_nil))))
   (pss_cons (ps_set (i:=8) sc_law.nd rfl lc (pe_fn (ok_rule_needed T).calm hr.m rfl (pa_cons (qv 5) (pa_cons (qv 7) (pa_cons (qv 1) pa_nil)))))
   (pss_cons (ps_set (i:=9) sc_law.nd rfl lc (pe_op op_addK (pe_slice (slE K rfl) (qv 3) po_none (qo_some (qv 7))) (pe_slice (slE K rfl) (qv 3) (qo_some (pe_op op_addK (qv 7) pe_int)) po_none)))
   (pss_cons (ps_set (i:=10) sc_law.nd rfl lc (pe_lst pa_nil))
   (pss_cons (qs_for PassesOwn.never rfl (iterE K rfl (pe_fn (ok__law_choices T) hr.m rfl (pa_cons (pe_callB (lenE K rfl) rfl T.b_len bb_len (pa_cons (qv 2) pa_nil)) pa_nil))) (pg_name (i:=11) sc_law.nd rfl lc) (pss_one (ps_if (qt_cmp (neDE K rfl hr) (pe_fn (ok__law_deed T) hr.m rfl (pa_cons (qv 3) (pa_cons (qv 11) pa_nil))) (pe_fn (ok__law_deed T) hr.m rfl (pa_cons (qv 9) (pa_cons (qv 11) pa_nil)))) (pss_one (ps_expr (qe_append (qv 10) (qv 11)))) pss_nil)))
   (pss_cons (ps_if (PW.pt (pw_or (qt_cmp op_isK (qv 8) pe_non) (pw_or1 (qt_cmp (eqNilE K rfl (hu1 hr)) (qv 10) (pe_lst pa_nil))))) (pss_one (ps_ret (qe_and (qe_cmp op_isK (qv 8) pe_non) (qe_and (qe_cmp (eqNilE K rfl (hu1 hr)) (qv 10) (pe_lst pa_nil)) (pe_one (qe_cmp (eqDE K rfl hr) (qv 5) (qv 4))))))) pss_nil)
   (pss_cons (ps_if (pt_not (qt_val (pe_fn (ok__law_letter T) hr.m rfl (pa_cons (qv 8) (pa_cons (qv 1) pa_nil))))) (pss_one (ps_ret pe_bl)) pss_nil)
   (pss_one (ps_ret (qe_and (qe_cmp (inE K rfl) (joinE K rfl (qe_comp (nt:=1) (fi:=[8]) (N':=["_law_place", "_law_found"]) rfl (cscope rfl (by decide +kernel)) (cnames (N:=["_law_script", "_law_width_here", "_law_places_here", "_law_rules_here", "_law_wide_here", "_law_handed", "_law_far", "_law_number", "_law_found", "_law_others", "_law_parting", "_law_choice"]) (sc:=defScope s_law) rfl rfl (by decide +kernel)) (gk_name (by decide)) (iterE K rfl (qv 2)) (fun _ _ _ _ _=>(pg_name (i:=0) (by show (["_law_place", "_law_found"]:List Str).Nodup; decide +kernel) rfl lc)) (fun _ _ _ _ _=>pif_nil) (fun _ _ _ _ _=>(pe_ix (ixE K rfl) (qv 1) (qv 0) (fun _ _=>rfl))))) (qv 10)) (pe_one (qe_cmp (eqDE K rfl hr) (qv 5) (qv 4)))))))))))))))))))))),?_⟩
 rename_i a
 obtain ⟨ns,hS,hlen,q⟩:=h
 walk_at "rd"
 refine cell_here hS (by decide) fun W hW1 hW2=>?_
 walk_at "rd"
 refine cell_here hS (by decide) ⟨by omega,by omega,fun ps pa H1 psd plt pl8 pl1 hpa s1 e1=>?_⟩
 have hS1:=s1.seq hS
 have plt':∀ i ∈ ps,i < W:=fun i hi=>by have:=plt i hi; omega
 have nd:ps.Nodup:=psd.imp fun h=>Nat.ne_of_lt h
 walk_at "rd"
 obtain ⟨cs,hcs,hcl⟩:∃ cs:List Int,cutV (ns.map V.int) (some 3) (some 11) = cs.map V.int /\ cs.length <= 8:=cut_8 ns
 refine ⟨_,hS1,fun qa hqa=>?_⟩
 rw [hcs]
 have s1q:=same_new hqa (.lst (cs.map V.int))
 refine ⟨_,.inl (s1q.seq (SqL.of e1)),?_⟩
 rw [List.length_map]
 refine ⟨cs,ps.length,SqL.of upd_same,rfl,by omega,by omega,fun rs ra H2 hrl hrs hra s2 R2=>?_⟩
 have s12:=s1q.trans s2
 have e12:=s12 _ _ e1
 have hS2:=s12.seq hS1
 walk_at "rd"
 refine ⟨fun σ' H'=>∃ (ra:Addr) (rs:List Rule),σ' = [some (.ref a),some (.int W),some (.ref pa),some (.ref ra),none,none,none,none,none,none,none,none] /\ Same H2 H' /\ Rules H' ra rs /\ RulesW ps.length rs /\ rs.length <= 11,?_,?_⟩
 ·refine cell_here hS2 (by decide) ?_
  walk_at "rd"
  refine ite2 (fun _=>?_) fun _=>⟨ra,rs,rfl,Same.refl _,R2,hrs,by omega⟩
  obtain ⟨vs,e0,pr⟩:=id R2
  have hlv:=pr.length
  refine ⟨vs,SqL.of e0,fun a1 h1=>?_⟩
  obtain ⟨m,hm,hm3⟩:∃ m,cutV vs none (some 3) = vs.take m /\ m <= 3:=⟨min 3 vs.length,by
   unfold cutV
   rw [show HT.sIx vs.length 0 none = 0 from rfl,show HT.sIx vs.length vs.length (some 3) = min 3 vs.length from HT.sIx_nat _ _ 3]
   simp,by omega⟩
  rw [hm]
  refine ⟨vs,vs.take m,same_new h1 _ _ _ e0,upd_same,by rw [List.length_take,sizeLine_eq]; omega,fun rb hrb=>⟨rb,rs ++ rs.take m,rfl,(same_new h1 _).trans (same_new hrb _),⟨_,upd_same,rules_keep (fun t us q=>(same_new hrb _) _ _ (same_new h1 _ _ _ q)) (paired_app pr (paired_take pr m))⟩,fun r hr=>?_,by rw [List.length_append,List.length_take]; omega⟩⟩
  rcases List.mem_append.mp hr with h | h
  ·exact hrs r h
  ·exact hrs r (List.mem_of_mem_take h)
 clear hrs hrl hcl hcs R2
 rintro σ' H3 ⟨ra,rs,rfl,s3,R3,hrs,hrl⟩
 have e13:=s3 _ _ e12
 have hS3:=s3.seq hS2
 walk_at "rd"
 refine ⟨rs,ps,W,R3,SqL.of e13,rfl,by omega,plt',by omega,fun wa H4 hwa s4 w4=>?_⟩
 walk_at "rd"
 obtain ⟨us,eu,pu⟩:=id w4
 refine ⟨us,.inl (SqL.of eu),fun ha hha=>?_⟩
 have s5:=same_new hha (.lst us)
 have wh:Rules (upd H4 ha (.lst us)) ha (rs.map (wide ps W)):=⟨us,upd_same,rules_keep (fun t us q=>s5 _ _ q) pu⟩
 have ww:=w4.same s5
 have s45:=s4.trans s5
 have e15:=s45 _ _ e13
 have hS5:=s45.seq hS3
 have R5:=R3.same s45
 generalize upd H4 ha (.lst us) = H5 at s5 wh ww s45 e15 hS5 R5 ⊢
 have wR:RulesW W (rs.map (wide ps W)):=fun r hr=>by
  obtain ⟨x,hx,rfl⟩:=List.mem_map.mp hr
  exact wide_ok (hrs x hx)
 have wl:(rs.map (wide ps W)).length = rs.length:=List.length_map ..
 walk_at "rd"
 refine cell_here hS5 (by decide) ?_
 walk_at "rd"
 have f0:=Int.emod_nonneg (cell ns (Int.toNat 2) / 11) (show (9:Int) ≠ 0 by decide)
 have f1:=Int.emod_lt_of_pos (cell ns (Int.toNat 2) / 11) (show (0:Int) < 9 by decide)
 refine ⟨rs.map (wide ps W),W,wh,wR,by omega,by omega,by omega,by omega,.inl (by omega),fun H6 s6=>?_⟩
 walk_at "rd"
 obtain ⟨vs,e0,pr⟩:=id (R5.same s6)
 have hlv:=pr.length
 refine ⟨vs,.inl (SqL.of e0),?_⟩
 rw [<- hlv]
 refine ⟨rs.map (wide ps W),W,wh.same s6,wR,by omega,by omega,by omega,by omega,.inr (by omega),fun H7 s7=>?_⟩
 walk_at "rd"
 refine ⟨by decide,fun z hz=>⟨vs,SqL.of (same_new hz _ _ _ (s7 _ _ e0)),SqL.of upd_same,?_⟩⟩
 have s8:Same H5 (upd H7 z (.lst [])):=s6.trans (s7.trans (same_new hz _))
 generalize upd H7 z (.lst []) = H8 at s8
 refine ite2 (fun c0=>?_) fun c0=>?_
 ·refine ⟨2,_,_,by decide,rules_deep (wh.same s8),rules_deep (ww.same s8),?_⟩
  rw [eqD,eqDs_refl_rule]
  exact q _
 have hpos:0 < rs.length:=by
  rcases Nat.eq_zero_or_pos rs.length with h | h
  ·exact absurd (List.length_eq_zero_iff.mp (by omega)) c0
  ·exact h
 obtain ⟨vs8,e8,pr8⟩:=id (R5.same s8)
 have hlv8:=pr8.length
 refine cell_here (s8.seq hS5) (by decide) ⟨vs8,.inl (SqL.of e8),?_⟩
 walk_at "rd"
 obtain ⟨n,hn⟩:∃ n:Nat,cell ns (Int.toNat 2) % (vs8.length:Int) = n:=⟨(cell ns (Int.toNat 2) % (vs8.length:Int)).toNat,by have:=Int.emod_nonneg (cell ns (Int.toNat 2)) (show (vs8.length:Int) ≠ 0 by omega); omega⟩
 have hnl:n < rs.length:=by
  have:=Int.emod_lt_of_pos (cell ns (Int.toNat 2)) (show (0:Int) < vs8.length by omega)
  omega
 rw [hn]
 refine ⟨by omega,rs.map (wide ps W),W,wh.same s8,wR,by omega,by omega,by omega,by omega,fun j e hj=>?_,fun hc=>absurd hc (by omega)⟩
 obtain rfl:n = j:=by omega
 have ask:=asked_few (rs:=othersL rs n) (ps:=ps) (row:=rs[n].1) (W:=W)
 have eask:((rs.map (wide ps W)).getD n ([],[],[])).1 = setAll rs[n].1 ps (dashes W):=by
  rw [List.getD_eq_getElem?_getD,List.getElem?_map,List.getElem?_eq_getElem hnl]
  rfl
 refine ⟨by rw [others_map,eask]; unfold rowsW at ask; omega,fun H9 s9=>?_⟩
 have told:=needed_told psd plt' hrs hnl
 generalize neededL (rs.map (wide ps W)) n = found at told
 have s59:=s8.trans s9
 obtain ⟨vs9,e9,pr9⟩:=id (R5.same s59)
 have hlv9:=pr9.length
 refine ⟨vs9,SqL.of e9,fun a1 h1=>?_⟩
 rw [cut_to vs9 n (by omega)]
 refine ⟨vs9,SqL.of (same_new h1 _ _ _ e9),fun a2 h2=>?_⟩
 rw [show (n:Int) + 1 = ((n + 1:Nat):Int) from rfl,cut_from vs9 (n + 1) (by omega)]
 refine ⟨vs9.take n,vs9.drop (n + 1),same_new h2 _ _ _ upd_same,upd_same,by rw [List.length_take,List.length_drop,sizeLine_eq]; omega,fun oa hoa=>?_⟩
 have s10:Same H9 (upd (upd (upd H9 a1 (.lst (vs9.take n))) a2 (.lst (vs9.drop (n + 1)))) oa (.lst (vs9.take n ++ vs9.drop (n + 1)))):=((same_new h1 _).trans (same_new h2 _)).trans (same_new hoa _)
 have RO:Rules (upd (upd (upd H9 a1 (.lst (vs9.take n))) a2 (.lst (vs9.drop (n + 1)))) oa (.lst (vs9.take n ++ vs9.drop (n + 1)))) oa (othersL rs n):=⟨_,upd_same,rules_keep (fun t us q=>s10 _ _ q) (paired_app (paired_take pr9 n) (paired_drop pr9 (n + 1)))⟩
 generalize upd (upd (upd H9 a1 (.lst (vs9.take n))) a2 (.lst (vs9.drop (n + 1)))) oa (.lst (vs9.take n ++ vs9.drop (n + 1))) = H10 at s10 RO ⊢
 have hol:(othersL rs n).length <= rs.length:=by unfold othersL; rw [List.length_append,List.length_take,List.length_drop]; omega
 have s510:=s59.trans s10
 refine ⟨by decide,fun g hg=>?_⟩
 have sg0:=same_new hg (.lst [])
 refine ⟨_,.inl (sg0.seq (s510.seq (SqL.of e15))),?_⟩
 rw [List.length_map]
 refine ⟨ps.length,rfl,by omega,fun ca H11 hca s11 e11=>?_⟩
 have s1011:Same H10 H11:=sg0.trans s11
 let part:List Nat -> Bool:=fun c=>decide (deedO rs (firstS rs c) c ≠ deedO (othersL rs n) (firstS (othersL rs n) c) c)
 have chl:(choicesL ps.length).length <= 256:=by rw [choicesL_len]; exact Nat.pow_le_pow_right (by decide) pl8
 refine .inl ⟨⟨_,SqL.of e11⟩,?_⟩
 refine loop_items tx (choicesL ps.length) (fun i σ H'=>∃ u,σ = [some (.ref a),some (.int W),some (.ref pa),some (.ref ra),some (.ref wa),some (.ref ha),some (.int (cell ns (Int.toNat 2) / 11 % 9)),some (.int n),some (oV found),some (.ref oa),some (.ref g),u] /\ Same H10 H' /\ H' ca = some (.lst ((choicesL ps.length).map tx)) /\ H' g = some (.lst ((((choicesL ps.length).take i).filter part).map tx)))
  ⟨none,rfl,s1011,e11,s11 _ _ upd_same⟩ (fun i σ H' _ ⟨_,_,_,z,_⟩=>SqL.of z) ?_ ?_
 ·rintro i c σ H12 hc ⟨u,rfl,s12',e12',eg⟩
  have hcm:=List.mem_of_getElem? hc
  have c1:=choicesL_width _ c hcm
  have hi:=(List.getElem?_eq_some_iff.mp hc).1
  have fl:(((choicesL ps.length).take i).filter part).length <= 256:=by
   refine Nat.le_trans (List.length_filter_le _ _) ?_
   rw [List.length_take]
   omega
  have et:(choicesL ps.length).take (i + 1) = (choicesL ps.length).take i ++ [c]:=by rw [List.take_add_one,hc]; rfl
  have s512:=s510.trans s12'
  walk_at "rd"
  refine ⟨rs,R5.same s512,by omega,by simp only [st_cps]; omega,fun t1 H13 f1' s13 k1=>?_⟩
  refine ⟨othersL rs n,RO.same (s12'.trans s13),by omega,by simp only [st_cps]; omega,fun t2 H14 f2' s14 k2=>?_⟩
  simp only [st_cps] at k1 k2
  rw [deedV_eq] at k1 k2
  have k1':=s14 _ _ k1
  have s1214:=s13.trans s14
  have eg14:=s1214 _ _ eg
  have ngc:ca ≠ g:=fun z=>by rw [z,upd_same] at hca; cases hca
  walk_at "rd"
  refine ⟨1,_,_,by decide,deep_dV k1',deep_dV k2,?_⟩
  rw [eqD_dV]
  by_cases cc:deedO rs (firstS rs c) c = deedO (othersL rs n) (firstS (othersL rs n) c) c
  ·rw [decide_eq_true cc]
   walk_at "rd"
   refine ⟨_,rfl,s12'.trans s1214,s1214 _ _ e12',?_⟩
   have:part c = false:=decide_eq_false (fun z=>z cc)
   rw [eg14,et,List.filter_append]
   simp [List.filter,this]
  ·rw [decide_eq_false cc]
   walk_at "rd"
   refine ⟨⟨_,eg14⟩,_,eg14,by rw [List.length_map]; exact sizeBig (by omega),_,rfl,same_upd (s12'.trans s1214) hg,by rw [upd_ne ngc]; exact s1214 _ _ e12',?_⟩
   have:part c = true:=decide_eq_true cc
   rw [upd_same,et,List.filter_append]
   simp [List.filter,this]
 ·rintro σ H12 ⟨u,rfl,s12',e12',eg⟩
  rw [List.take_length] at eg
  have s512:=s510.trans s12'
  walk_at "rd"
  cases found with
  | none=>
   have h0:(choicesL ps.length).filter part = []:=List.filter_eq_nil_iff.mpr fun c hc=>by
    have:=told.1 rfl c (choicesL_width _ c hc) (choices_let _ c hc)
    simp [part,this]
   rw [h0] at eg
   unfold oV
   walk_at "rd"
   refine ⟨by decide,fun z1 hz1=>⟨_,SqL.of (same_new hz1 _ _ _ eg),SqL.of upd_same,?_⟩⟩
   have s13:=s512.trans (same_new hz1 (.lst []))
   walk_at "rd"
   refine ⟨2,_,_,by decide,rules_deep (wh.same s13),rules_deep (ww.same s13),?_⟩
   rw [eqD,eqDs_refl_rule]
   exact q _
  | some y=>
   obtain ⟨y1,y2,y3⟩:=told.2 y rfl
   have hm:narrow y ps ∈ (choicesL ps.length).filter part:=List.mem_filter.mpr ⟨choices_mem _ _ (by simp [narrow]) (narrow_let plt' y1 y2),decide_eq_true y3⟩
   have hne:((choicesL ps.length).filter part).map tx ≠ []:=fun z=>by rw [List.map_eq_nil_iff.mp z] at hm; cases hm
   unfold oV
   walk_at "rd"
   refine ⟨by decide,fun z1 hz1=>⟨_,SqL.of (same_new hz1 _ _ _ eg),SqL.of upd_same,?_⟩⟩
   rw [if_neg hne]
   have s13:=s512.trans (same_new hz1 (.lst []))
   have eg13:=same_new hz1 (.lst []) _ _ eg
   generalize upd H12 z1 (.lst []) = H13 at s13 eg13
   walk_at "rd"
   refine ⟨by simp only [st_cps]; exact y2,by simp only [st_cps]; omega,by simp only [st_cps]; omega,fun H14 s14=>?_⟩
   walk_at "rd"
   have s514:=s13.trans s14
   have hp14:=s514.seq (SqL.of (K:=K) e15)
   refine .inl ⟨⟨_,hp14⟩,fun D hD=>?_⟩
   refine comp_list (item:=pl) (xs:=ps) (h:=fun i=>[V.str (st [y.getD i 0])]) hD hp14 (by omega) (fun _=>by simp) ?_ ?_
   ·intro i H15 out non hi s15 ho hn'
    have hi':=plt' i hi
    walk_at "rd"
    exact ⟨by omega,_,at_getD (by omega),ho _ _ rfl (Same.refl _)⟩
   intro H15 s15 e15'
   rw [flat_one (fun i=>V.str (st [y.getD i 0])) ps] at e15'
   have e15'':H15 D = some (.lst ((narrow y ps).map sg)):=by rw [e15']; unfold narrow; rw [List.map_map]; rfl
   refine ⟨narrow y ps,SqL.of e15'',by simp [narrow]; omega,_,.inl (SqL.of (s15 _ _ (s14 _ _ eg13))),rfl,flat_txts _,?_⟩
   rw [show V.str (st (narrow y ps)) = tx (narrow y ps) from rfl,in_txts,decide_eq_true hm]
   walk_at "rd"
   have s515:=s514.trans s15
   refine ⟨2,_,_,by decide,rules_deep (wh.same s515),rules_deep (ww.same s515),?_⟩
   rw [eqD,eqDs_refl_rule]
   exact q _
end
theorem all_mk {K:Frag} {h:Heap} {mg:Str -> Option Value} (X:K.In h) (G:h.Ns mainGlobals mg)
  {f0:Addr} {od0 an0:Option Addr} {sl0:Array (Option Value)} {oc0 kV0 dc0 pm0 cd0 ct0:Value}
  {f1:Addr} {od1 an1:Option Addr} {sl1:Array (Option Value)} {oc1 kV1 dc1 pm1 cd1 ct1:Value}
  {f2:Addr} {od2 an2:Option Addr} {sl2:Array (Option Value)} {oc2 kV2 dc2 pm2 cd2 ct2:Value}
  {f3:Addr} {od3 an3:Option Addr} {sl3:Array (Option Value)} {oc3 kV3 dc3 pm3 cd3 ct3:Value}
  {f4:Addr} {od4 an4:Option Addr} {sl4:Array (Option Value)} {oc4 kV4 dc4 pm4 cd4 ct4:Value}
  {f5:Addr} {od5 an5:Option Addr} {sl5:Array (Option Value)} {oc5 kV5 dc5 pm5 cd5 ct5:Value}
  {f6:Addr} {od6 an6:Option Addr} {sl6:Array (Option Value)} {oc6 kV6 dc6 pm6 cd6 ct6:Value}
  {f7:Addr} {od7 an7:Option Addr} {sl7:Array (Option Value)} {oc7 kV7 dc7 pm7 cd7 ct7:Value}
  {f8:Addr} {od8 an8:Option Addr} {sl8:Array (Option Value)} {oc8 kV8 dc8 pm8 cd8 ct8:Value}
  {f9:Addr} {od9 an9:Option Addr} {sl9:Array (Option Value)} {oc9 kV9 dc9 pm9 cd9 ct9:Value}
  {f10:Addr} {od10 an10:Option Addr} {sl10:Array (Option Value)} {oc10 kV10 dc10 pm10 cd10 ct10:Value}
  {f11:Addr} {od11 an11:Option Addr} {sl11:Array (Option Value)} {oc11 kV11 dc11 pm11 cd11 ct11:Value}
  {f12:Addr} {od12 an12:Option Addr} {sl12:Array (Option Value)} {oc12 kV12 dc12 pm12 cd12 ct12:Value}
  {f13:Addr} {od13 an13:Option Addr} {sl13:Array (Option Value)} {oc13 kV13 dc13 pm13 cd13 ct13:Value}
  {f14:Addr} {od14 an14:Option Addr} {sl14:Array (Option Value)} {oc14 kV14 dc14 pm14 cd14 ct14:Value}
  {f15:Addr} {od15 an15:Option Addr} {sl15:Array (Option Value)} {oc15 kV15 dc15 pm15 cd15 ct15:Value}
  {f16:Addr} {od16 an16:Option Addr} {sl16:Array (Option Value)} {oc16 kV16 dc16 pm16 cd16 ct16:Value}
  {f17:Addr} {od17 an17:Option Addr} {sl17:Array (Option Value)} {oc17 kV17 dc17 pm17 cd17 ct17:Value}
  {f18:Addr} {od18 an18:Option Addr} {sl18:Array (Option Value)} {oc18 kV18 dc18 pm18 cd18 ct18:Value}
  {f19:Addr} {od19 an19:Option Addr} {sl19:Array (Option Value)} {oc19 kV19 dc19 pm19 cd19 ct19:Value}
  {f20:Addr} {od20 an20:Option Addr} {sl20:Array (Option Value)} {oc20 kV20 dc20 pm20 cd20 ct20:Value}
  {f21:Addr} {od21 an21:Option Addr} {sl21:Array (Option Value)} {oc21 kV21 dc21 pm21 cd21 ct21:Value}
  {f22:Addr} {od22 an22:Option Addr} {sl22:Array (Option Value)} {oc22 kV22 dc22 pm22 cd22 ct22:Value}
  {f23:Addr} {od23 an23:Option Addr} {sl23:Array (Option Value)} {oc23 kV23 dc23 pm23 cd23 ct23:Value}
  {f24:Addr} {od24 an24:Option Addr} {sl24:Array (Option Value)} {oc24 kV24 dc24 pm24 cd24 ct24:Value}
  {f25:Addr} {od25 an25:Option Addr} {sl25:Array (Option Value)} {oc25 kV25 dc25 pm25 cd25 ct25:Value}
  {f26:Addr} {od26 an26:Option Addr} {sl26:Array (Option Value)} {oc26 kV26 dc26 pm26 cd26 ct26:Value}
  {f27:Addr} {od27 an27:Option Addr} {sl27:Array (Option Value)} {oc27 kV27 dc27 pm27 cd27 ct27:Value}
  {f28:Addr} {od28 an28:Option Addr} {sl28:Array (Option Value)} {oc28 kV28 dc28 pm28 cd28 ct28:Value}
  {f29:Addr} {od29 an29:Option Addr} {sl29:Array (Option Value)} {oc29 kV29 dc29 pm29 cd29 ct29:Value}
  {f30:Addr} {od30 an30:Option Addr} {sl30:Array (Option Value)} {oc30 kV30 dc30 pm30 cd30 ct30:Value}
  {f31:Addr} {od31 an31:Option Addr} {sl31:Array (Option Value)} {oc31 kV31 dc31 pm31 cd31 ct31:Value}
  {f32:Addr} {od32 an32:Option Addr} {sl32:Array (Option Value)} {oc32 kV32 dc32 pm32 cd32 ct32:Value}
  {f33:Addr} {od33 an33:Option Addr} {sl33:Array (Option Value)} {oc33 kV33 dc33 pm33 cd33 ct33:Value}
  {f34:Addr} {od34 an34:Option Addr} {sl34:Array (Option Value)} {oc34 kV34 dc34 pm34 cd34 ct34:Value}
  {f35:Addr} {od35 an35:Option Addr} {sl35:Array (Option Value)} {oc35 kV35 dc35 pm35 cd35 ct35:Value}
  {f36:Addr} {od36 an36:Option Addr} {sl36:Array (Option Value)} {oc36 kV36 dc36 pm36 cd36 ct36:Value}
  {f37:Addr} {od37 an37:Option Addr} {sl37:Array (Option Value)} {oc37 kV37 dc37 pm37 cd37 ct37:Value}
  (a0:nsIn K mainGlobals "row_meet" = some (some (.ref f0))) (l0:K.lookup f0 = some ⟨oc0,od0,.func (fnOf "row_meet" "row_meet" (defArgs s_row_meet) (defBody s_row_meet) (defScope s_row_meet) .none kV0 dc0 pm0 an0 cd0 ct0),sl0⟩) (c0:codeIn K cd0 "row_meet" = true) (k0:keepIn K (.ref f0) = true)
  (a1:nsIn K mainGlobals "row_least" = some (some (.ref f1))) (l1:K.lookup f1 = some ⟨oc1,od1,.func (fnOf "row_least" "row_least" (defArgs s_row_least) (defBody s_row_least) (defScope s_row_least) .none kV1 dc1 pm1 an1 cd1 ct1),sl1⟩) (c1:codeIn K cd1 "row_least" = true) (k1:keepIn K (.ref f1) = true)
  (a2:nsIn K mainGlobals "row_edges" = some (some (.ref f2))) (l2:K.lookup f2 = some ⟨oc2,od2,.func (fnOf "row_edges" "row_edges" (defArgs s_row_edges) (defBody s_row_edges) (defScope s_row_edges) .none kV2 dc2 pm2 an2 cd2 ct2),sl2⟩) (c2:codeIn K cd2 "row_edges" = true) (k2:keepIn K (.ref f2) = true)
  (a3:nsIn K mainGlobals "row_written" = some (some (.ref f3))) (l3:K.lookup f3 = some ⟨oc3,od3,.func (fnOf "row_written" "row_written" (defArgs s_row_written) (defBody s_row_written) (defScope s_row_written) .none kV3 dc3 pm3 an3 cd3 ct3),sl3⟩) (c3:codeIn K cd3 "row_written" = true) (k3:keepIn K (.ref f3) = true)
  (a4:nsIn K mainGlobals "row_with" = some (some (.ref f4))) (l4:K.lookup f4 = some ⟨oc4,od4,.func (fnOf "row_with" "row_with" (defArgs s_row_with) (defBody s_row_with) (defScope s_row_with) .none kV4 dc4 pm4 an4 cd4 ct4),sl4⟩) (c4:codeIn K cd4 "row_with" = true) (k4:keepIn K (.ref f4) = true)
  (a5:nsIn K mainGlobals "row_narrowed" = some (some (.ref f5))) (l5:K.lookup f5 = some ⟨oc5,od5,.func (fnOf "row_narrowed" "row_narrowed" (defArgs s_row_narrowed) (defBody s_row_narrowed) (defScope s_row_narrowed) .none kV5 dc5 pm5 an5 cd5 ct5),sl5⟩) (c5:codeIn K cd5 "row_narrowed" = true) (k5:keepIn K (.ref f5) = true)
  (a6:nsIn K mainGlobals "heap_width" = some (some (.ref f6))) (l6:K.lookup f6 = some ⟨oc6,od6,.func (fnOf "heap_width" "heap_width" (defArgs s_heap_width) (defBody s_heap_width) (defScope s_heap_width) .none kV6 dc6 pm6 an6 cd6 ct6),sl6⟩) (c6:codeIn K cd6 "heap_width" = true) (k6:keepIn K (.ref f6) = true)
  (a7:nsIn K mainGlobals "heap_places" = some (some (.ref f7))) (l7:K.lookup f7 = some ⟨oc7,od7,.func (fnOf "heap_places" "heap_places" (defArgs s_heap_places) (defBody s_heap_places) (defScope s_heap_places) .none kV7 dc7 pm7 an7 cd7 ct7),sl7⟩) (c7:codeIn K cd7 "heap_places" = true) (k7:keepIn K (.ref f7) = true)
  (a8:nsIn K mainGlobals "fork_of" = some (some (.ref f8))) (l8:K.lookup f8 = some ⟨oc8,od8,.func (fnOf "fork_of" "fork_of" (defArgs s_fork_of) (defBody s_fork_of) (defScope s_fork_of) .none kV8 dc8 pm8 an8 cd8 ct8),sl8⟩) (c8:codeIn K cd8 "fork_of" = true) (k8:keepIn K (.ref f8) = true)
  (a9:nsIn K mainGlobals "firsts_of" = some (some (.ref f9))) (l9:K.lookup f9 = some ⟨oc9,od9,.func (fnOf "firsts_of" "firsts_of" (defArgs s_firsts_of) (defBody s_firsts_of) (defScope s_firsts_of) .none kV9 dc9 pm9 an9 cd9 ct9),sl9⟩) (c9:codeIn K cd9 "firsts_of" = true) (k9:keepIn K (.ref f9) = true)
  (a10:nsIn K mainGlobals "fork_below" = some (some (.ref f10))) (l10:K.lookup f10 = some ⟨oc10,od10,.func (fnOf "fork_below" "fork_below" (defArgs s_fork_below) (defBody s_fork_below) (defScope s_fork_below) .none kV10 dc10 pm10 an10 cd10 ct10),sl10⟩) (c10:codeIn K cd10 "fork_below" = true) (k10:keepIn K (.ref f10) = true)
  (a11:nsIn K mainGlobals "firsts_side" = some (some (.ref f11))) (l11:K.lookup f11 = some ⟨oc11,od11,.func (fnOf "firsts_side" "firsts_side" (defArgs s_firsts_side) (defBody s_firsts_side) (defScope s_firsts_side) .none kV11 dc11 pm11 an11 cd11 ct11),sl11⟩) (c11:codeIn K cd11 "firsts_side" = true) (k11:keepIn K (.ref f11) = true)
  (a12:nsIn K mainGlobals "fork_parts" = some (some (.ref f12))) (l12:K.lookup f12 = some ⟨oc12,od12,.func (fnOf "fork_parts" "fork_parts" (defArgs s_fork_parts) (defBody s_fork_parts) (defScope s_fork_parts) .none kV12 dc12 pm12 an12 cd12 ct12),sl12⟩) (c12:codeIn K cd12 "fork_parts" = true) (k12:keepIn K (.ref f12) = true)
  (a13:nsIn K mainGlobals "heap_shares" = some (some (.ref f13))) (l13:K.lookup f13 = some ⟨oc13,od13,.func (fnOf "heap_shares" "heap_shares" (defArgs s_heap_shares) (defBody s_heap_shares) (defScope s_heap_shares) .none kV13 dc13 pm13 an13 cd13 ct13),sl13⟩) (c13:codeIn K cd13 "heap_shares" = true) (k13:keepIn K (.ref f13) = true)
  (a14:nsIn K mainGlobals "is_dropped" = some (some (.ref f14))) (l14:K.lookup f14 = some ⟨oc14,od14,.func (fnOf "is_dropped" "is_dropped" (defArgs s_is_dropped) (defBody s_is_dropped) (defScope s_is_dropped) .none kV14 dc14 pm14 an14 cd14 ct14),sl14⟩) (c14:codeIn K cd14 "is_dropped" = true) (k14:keepIn K (.ref f14) = true)
  (a15:nsIn K mainGlobals "deed_by" = some (some (.ref f15))) (l15:K.lookup f15 = some ⟨oc15,od15,.func (fnOf "deed_by" "deed_by" (defArgs s_deed_by) (defBody s_deed_by) (defScope s_deed_by) .none kV15 dc15 pm15 an15 cd15 ct15),sl15⟩) (c15:codeIn K cd15 "deed_by" = true) (k15:keepIn K (.ref f15) = true)
  (a16:nsIn K mainGlobals "rule_shares" = some (some (.ref f16))) (l16:K.lookup f16 = some ⟨oc16,od16,.func (fnOf "rule_shares" "rule_shares" (defArgs s_rule_shares) (defBody s_rule_shares) (defScope s_rule_shares) .none kV16 dc16 pm16 an16 cd16 ct16),sl16⟩) (c16:codeIn K cd16 "rule_shares" = true) (k16:keepIn K (.ref f16) = true)
  (a17:nsIn K mainGlobals "check_number" = some (some (.ref f17))) (l17:K.lookup f17 = some ⟨oc17,od17,.func (fnOf "check_number" "check_number" (defArgs s_check_number) (defBody s_check_number) (defScope s_check_number) .none kV17 dc17 pm17 an17 cd17 ct17),sl17⟩) (c17:codeIn K cd17 "check_number" = true) (k17:keepIn K (.ref f17) = true)
  (a18:nsIn K mainGlobals "rules_without" = some (some (.ref f18))) (l18:K.lookup f18 = some ⟨oc18,od18,.func (fnOf "rules_without" "rules_without" (defArgs s_rules_without) (defBody s_rules_without) (defScope s_rules_without) .none kV18 dc18 pm18 an18 cd18 ct18),sl18⟩) (c18:codeIn K cd18 "rules_without" = true) (k18:keepIn K (.ref f18) = true)
  (a19:nsIn K mainGlobals "rule_needed" = some (some (.ref f19))) (l19:K.lookup f19 = some ⟨oc19,od19,.func (fnOf "rule_needed" "rule_needed" (defArgs s_rule_needed) (defBody s_rule_needed) (defScope s_rule_needed) .none kV19 dc19 pm19 an19 cd19 ct19),sl19⟩) (c19:codeIn K cd19 "rule_needed" = true) (k19:keepIn K (.ref f19) = true)
  (a20:nsIn K mainGlobals "deeds_parted" = some (some (.ref f20))) (l20:K.lookup f20 = some ⟨oc20,od20,.func (fnOf "deeds_parted" "deeds_parted" (defArgs s_deeds_parted) (defBody s_deeds_parted) (defScope s_deeds_parted) .none kV20 dc20 pm20 an20 cd20 ct20),sl20⟩) (c20:codeIn K cd20 "deeds_parted" = true) (k20:keepIn K (.ref f20) = true)
  (a21:nsIn K mainGlobals "_law_cell_at" = some (some (.ref f21))) (l21:K.lookup f21 = some ⟨oc21,od21,.func (fnOf "_law_cell_at" "_law_cell_at" (defArgs s__law_cell_at) (defBody s__law_cell_at) (defScope s__law_cell_at) .none kV21 dc21 pm21 an21 cd21 ct21),sl21⟩) (c21:codeIn K cd21 "_law_cell_at" = true) (k21:keepIn K (.ref f21) = true)
  (a22:nsIn K mainGlobals "_law_stream" = some (some (.ref f22))) (l22:K.lookup f22 = some ⟨oc22,od22,.func (fnOf "_law_stream" "_law_stream" (defArgs s__law_stream) (defBody s__law_stream) (defScope s__law_stream) .none kV22 dc22 pm22 an22 cd22 ct22),sl22⟩) (c22:codeIn K cd22 "_law_stream" = true) (k22:keepIn K (.ref f22) = true)
  (a23:nsIn K mainGlobals "_law_width" = some (some (.ref f23))) (l23:K.lookup f23 = some ⟨oc23,od23,.func (fnOf "_law_width" "_law_width" (defArgs s__law_width) (defBody s__law_width) (defScope s__law_width) .none kV23 dc23 pm23 an23 cd23 ct23),sl23⟩) (c23:codeIn K cd23 "_law_width" = true) (k23:keepIn K (.ref f23) = true)
  (a24:nsIn K mainGlobals "_law_places" = some (some (.ref f24))) (l24:K.lookup f24 = some ⟨oc24,od24,.func (fnOf "_law_places" "_law_places" (defArgs s__law_places) (defBody s__law_places) (defScope s__law_places) .none kV24 dc24 pm24 an24 cd24 ct24),sl24⟩) (c24:codeIn K cd24 "_law_places" = true) (k24:keepIn K (.ref f24) = true)
  (a25:nsIn K mainGlobals "_law_shorts" = some (some (.ref f25))) (l25:K.lookup f25 = some ⟨oc25,od25,.func (fnOf "_law_shorts" "_law_shorts" (defArgs s__law_shorts) (defBody s__law_shorts) (defScope s__law_shorts) .none kV25 dc25 pm25 an25 cd25 ct25),sl25⟩) (c25:codeIn K cd25 "_law_shorts" = true) (k25:keepIn K (.ref f25) = true)
  (a26:nsIn K mainGlobals "_law_spread" = some (some (.ref f26))) (l26:K.lookup f26 = some ⟨oc26,od26,.func (fnOf "_law_spread" "_law_spread" (defArgs s__law_spread) (defBody s__law_spread) (defScope s__law_spread) .none kV26 dc26 pm26 an26 cd26 ct26),sl26⟩) (c26:codeIn K cd26 "_law_spread" = true) (k26:keepIn K (.ref f26) = true)
  (a27:nsIn K mainGlobals "_law_fits" = some (some (.ref f27))) (l27:K.lookup f27 = some ⟨oc27,od27,.func (fnOf "_law_fits" "_law_fits" (defArgs s__law_fits) (defBody s__law_fits) (defScope s__law_fits) .none kV27 dc27 pm27 an27 cd27 ct27),sl27⟩) (c27:codeIn K cd27 "_law_fits" = true) (k27:keepIn K (.ref f27) = true)
  (a28:nsIn K mainGlobals "_law_choices" = some (some (.ref f28))) (l28:K.lookup f28 = some ⟨oc28,od28,.func (fnOf "_law_choices" "_law_choices" (defArgs s__law_choices) (defBody s__law_choices) (defScope s__law_choices) .none kV28 dc28 pm28 an28 cd28 ct28),sl28⟩) (c28:codeIn K cd28 "_law_choices" = true) (k28:keepIn K (.ref f28) = true)
  (a29:nsIn K mainGlobals "_law_rules" = some (some (.ref f29))) (l29:K.lookup f29 = some ⟨oc29,od29,.func (fnOf "_law_rules" "_law_rules" (defArgs s__law_rules) (defBody s__law_rules) (defScope s__law_rules) .none kV29 dc29 pm29 an29 cd29 ct29),sl29⟩) (c29:codeIn K cd29 "_law_rules" = true) (k29:keepIn K (.ref f29) = true)
  (a30:nsIn K mainGlobals "_law_written" = some (some (.ref f30))) (l30:K.lookup f30 = some ⟨oc30,od30,.func (fnOf "_law_written" "_law_written" (defArgs s__law_written) (defBody s__law_written) (defScope s__law_written) .none kV30 dc30 pm30 an30 cd30 ct30),sl30⟩) (c30:codeIn K cd30 "_law_written" = true) (k30:keepIn K (.ref f30) = true)
  (a31:nsIn K mainGlobals "_law_first" = some (some (.ref f31))) (l31:K.lookup f31 = some ⟨oc31,od31,.func (fnOf "_law_first" "_law_first" (defArgs s__law_first) (defBody s__law_first) (defScope s__law_first) .none kV31 dc31 pm31 an31 cd31 ct31),sl31⟩) (c31:codeIn K cd31 "_law_first" = true) (k31:keepIn K (.ref f31) = true)
  (a32:nsIn K mainGlobals "_law_deed" = some (some (.ref f32))) (l32:K.lookup f32 = some ⟨oc32,od32,.func (fnOf "_law_deed" "_law_deed" (defArgs s__law_deed) (defBody s__law_deed) (defScope s__law_deed) .none kV32 dc32 pm32 an32 cd32 ct32),sl32⟩) (c32:codeIn K cd32 "_law_deed" = true) (k32:keepIn K (.ref f32) = true)
  (a33:nsIn K mainGlobals "_law_wide" = some (some (.ref f33))) (l33:K.lookup f33 = some ⟨oc33,od33,.func (fnOf "_law_wide" "_law_wide" (defArgs s__law_wide) (defBody s__law_wide) (defScope s__law_wide) .none kV33 dc33 pm33 an33 cd33 ct33),sl33⟩) (c33:codeIn K cd33 "_law_wide" = true) (k33:keepIn K (.ref f33) = true)
  (a34:nsIn K mainGlobals "_law_word" = some (some (.ref f34))) (l34:K.lookup f34 = some ⟨oc34,od34,.func (fnOf "_law_word" "_law_word" (defArgs s__law_word) (defBody s__law_word) (defScope s__law_word) .none kV34 dc34 pm34 an34 cd34 ct34),sl34⟩) (c34:codeIn K cd34 "_law_word" = true) (k34:keepIn K (.ref f34) = true)
  (a35:nsIn K mainGlobals "_law_refused" = some (some (.ref f35))) (l35:K.lookup f35 = some ⟨oc35,od35,.func (fnOf "_law_refused" "_law_refused" (defArgs s__law_refused) (defBody s__law_refused) (defScope s__law_refused) .none kV35 dc35 pm35 an35 cd35 ct35),sl35⟩) (c35:codeIn K cd35 "_law_refused" = true) (k35:keepIn K (.ref f35) = true)
  (a36:nsIn K mainGlobals "_law_letter" = some (some (.ref f36))) (l36:K.lookup f36 = some ⟨oc36,od36,.func (fnOf "_law_letter" "_law_letter" (defArgs s__law_letter) (defBody s__law_letter) (defScope s__law_letter) .none kV36 dc36 pm36 an36 cd36 ct36),sl36⟩) (c36:codeIn K cd36 "_law_letter" = true) (k36:keepIn K (.ref f36) = true)
  (a37:nsIn K mainGlobals "law" = some (some (.ref f37))) (l37:K.lookup f37 = some ⟨oc37,od37,.func (fnOf "law" "law" (defArgs s_law) (defBody s_law) (defScope s_law) .none kV37 dc37 pm37 an37 cd37 ct37),sl37⟩) (c37:codeIn K cd37 "law" = true) (k37:keepIn K (.ref f37) = true)
  (z_zip:nsIn K mainGlobals "zip" = some none)
  (z_len:nsIn K mainGlobals "len" = some none)
  (z_range:nsIn K mainGlobals "range" = some none)
  (z_any:nsIn K mainGlobals "any" = some none)
  (z_enumerate:nsIn K mainGlobals "enumerate" = some none)
  (z_isinstance:nsIn K mainGlobals "isinstance" = some none)
  (z_int:nsIn K mainGlobals "int" = some none)
  (z_sorted:nsIn K mainGlobals "sorted" = some none)
  (z_list:nsIn K mainGlobals "list" = some none)
  (z_ValueError:nsIn K mainGlobals "ValueError" = some none)
  (z_str:nsIn K mainGlobals "str" = some none)
  {C_NoRule:Addr} (n_NoRule:nsIn K mainGlobals "NoRule" = some (some (.ref C_NoRule))) (q_NoRule:PySem.W.excIn K C_NoRule bmV "ValueError.__new__" = true) (t_NoRule:PySem.W.typeIn K (.ref C_NoRule) = some (.type "type")) (b_NoRule:PySem.W.mroIn K C_NoRule (.type "BaseException") = some true) (g_NoRule:findIn K (.ref C_NoRule) "__getattribute__" = some (some (.builtin "BaseException.__getattribute__"))) (h_NoRule:findIn K (.ref C_NoRule) "__getattr__" = some none) (a_NoRule:findIn K (.ref C_NoRule) "__class__" = some (some (.builtin "object.__class__"))) (o_NoRule:PySem.W.mroIn K C_NoRule (.type "object") = some true)
  {C_ThrongError:Addr} (n_ThrongError:nsIn K mainGlobals "ThrongError" = some (some (.ref C_ThrongError))) (q_ThrongError:PySem.W.excIn K C_ThrongError bmV "ValueError.__new__" = true) (t_ThrongError:PySem.W.typeIn K (.ref C_ThrongError) = some (.type "type")) (b_ThrongError:PySem.W.mroIn K C_ThrongError (.type "BaseException") = some true) (g_ThrongError:findIn K (.ref C_ThrongError) "__getattribute__" = some (some (.builtin "BaseException.__getattribute__"))) (h_ThrongError:findIn K (.ref C_ThrongError) "__getattr__" = some none) (a_ThrongError:findIn K (.ref C_ThrongError) "__class__" = some (some (.builtin "object.__class__"))) (o_ThrongError:PySem.W.mroIn K C_ThrongError (.type "object") = some true)
  {C_Misfit:Addr} (n_Misfit:nsIn K mainGlobals "Misfit" = some (some (.ref C_Misfit))) (t_Misfit:PySem.W.typeIn K (.ref C_Misfit) = some (.type "type")) (b_Misfit:PySem.W.mroIn K C_Misfit (.type "BaseException") = some true)
  {C_Twice:Addr} (n_Twice:nsIn K mainGlobals "Twice" = some (some (.ref C_Twice))) (t_Twice:PySem.W.typeIn K (.ref C_Twice) = some (.type "type")) (b_Twice:PySem.W.mroIn K C_Twice (.type "BaseException") = some true)
  {C_NoField:Addr} (n_NoField:nsIn K mainGlobals "NoField" = some (some (.ref C_NoField))) (t_NoField:PySem.W.typeIn K (.ref C_NoField) = some (.type "type")) (b_NoField:PySem.W.mroIn K C_NoField (.type "BaseException") = some true)
  {C_NoWay:Addr} (n_NoWay:nsIn K mainGlobals "NoWay" = some (some (.ref C_NoWay))) (t_NoWay:PySem.W.typeIn K (.ref C_NoWay) = some (.type "type")) (b_NoWay:PySem.W.mroIn K C_NoWay (.type "BaseException") = some true)
  {C_NoDoor:Addr} (n_NoDoor:nsIn K mainGlobals "NoDoor" = some (some (.ref C_NoDoor))) (t_NoDoor:PySem.W.typeIn K (.ref C_NoDoor) = some (.type "type")) (b_NoDoor:PySem.W.mroIn K C_NoDoor (.type "BaseException") = some true)
  {C_NoHouse:Addr} (n_NoHouse:nsIn K mainGlobals "NoHouse" = some (some (.ref C_NoHouse))) (t_NoHouse:PySem.W.typeIn K (.ref C_NoHouse) = some (.type "type")) (b_NoHouse:PySem.W.mroIn K C_NoHouse (.type "BaseException") = some true)
  {C_NoLine:Addr} (n_NoLine:nsIn K mainGlobals "NoLine" = some (some (.ref C_NoLine))) (t_NoLine:PySem.W.typeIn K (.ref C_NoLine) = some (.type "type")) (b_NoLine:PySem.W.mroIn K C_NoLine (.type "BaseException") = some true)
  {C_BadWord:Addr} (n_BadWord:nsIn K mainGlobals "BadWord" = some (some (.ref C_BadWord))) (t_BadWord:PySem.W.typeIn K (.ref C_BadWord) = some (.type "type")) (b_BadWord:PySem.W.mroIn K C_BadWord (.type "BaseException") = some true)
  {C_Unlike:Addr} (n_Unlike:nsIn K mainGlobals "Unlike" = some (some (.ref C_Unlike))) (t_Unlike:PySem.W.typeIn K (.ref C_Unlike) = some (.type "type")) (b_Unlike:PySem.W.mroIn K C_Unlike (.type "BaseException") = some true)
  (sgt:PySem.W.specialIn K (.builtin "object.__class__") "__get__" = some (some (.builtin "getset_descriptor.__get__"))) (stk:PySem.W.takesIn K (.builtin "object.__class__") = some true)
  (v_NoRule:PySem.W.mroIn K C_NoRule (.type "ValueError") = some true)
  (m_NoRule_Misfit:PySem.W.mroIn K C_NoRule (.ref C_Misfit) = some false) (d_NoRule_Misfit:C_NoRule ≠ C_Misfit)
  (m_NoRule_Twice:PySem.W.mroIn K C_NoRule (.ref C_Twice) = some false) (d_NoRule_Twice:C_NoRule ≠ C_Twice)
  (m_NoRule_NoField:PySem.W.mroIn K C_NoRule (.ref C_NoField) = some false) (d_NoRule_NoField:C_NoRule ≠ C_NoField)
  (m_NoRule_NoRule:PySem.W.mroIn K C_NoRule (.ref C_NoRule) = some true)
  (m_NoRule_NoWay:PySem.W.mroIn K C_NoRule (.ref C_NoWay) = some false) (d_NoRule_NoWay:C_NoRule ≠ C_NoWay)
  (m_NoRule_ThrongError:PySem.W.mroIn K C_NoRule (.ref C_ThrongError) = some true)
  (m_NoRule_NoDoor:PySem.W.mroIn K C_NoRule (.ref C_NoDoor) = some false) (d_NoRule_NoDoor:C_NoRule ≠ C_NoDoor)
  (m_NoRule_NoHouse:PySem.W.mroIn K C_NoRule (.ref C_NoHouse) = some false) (d_NoRule_NoHouse:C_NoRule ≠ C_NoHouse)
  (m_NoRule_NoLine:PySem.W.mroIn K C_NoRule (.ref C_NoLine) = some false) (d_NoRule_NoLine:C_NoRule ≠ C_NoLine)
  (m_NoRule_BadWord:PySem.W.mroIn K C_NoRule (.ref C_BadWord) = some false) (d_NoRule_BadWord:C_NoRule ≠ C_BadWord)
  (m_NoRule_Unlike:PySem.W.mroIn K C_NoRule (.ref C_Unlike) = some false) (d_NoRule_Unlike:C_NoRule ≠ C_Unlike)
  : Top K mg where
 f_row_meet:=⟨_,_,fun_mk (st:=s_row_meet) l0 c0 k0,mg_of X G a0⟩
 f_row_least:=⟨_,_,fun_mk (st:=s_row_least) l1 c1 k1,mg_of X G a1⟩
 f_row_edges:=⟨_,_,fun_mk (st:=s_row_edges) l2 c2 k2,mg_of X G a2⟩
 f_row_written:=⟨_,_,fun_mk (st:=s_row_written) l3 c3 k3,mg_of X G a3⟩
 f_row_with:=⟨_,_,fun_mk (st:=s_row_with) l4 c4 k4,mg_of X G a4⟩
 f_row_narrowed:=⟨_,_,fun_mk (st:=s_row_narrowed) l5 c5 k5,mg_of X G a5⟩
 f_heap_width:=⟨_,_,fun_mk (st:=s_heap_width) l6 c6 k6,mg_of X G a6⟩
 f_heap_places:=⟨_,_,fun_mk (st:=s_heap_places) l7 c7 k7,mg_of X G a7⟩
 f_fork_of:=⟨_,_,fun_mk (st:=s_fork_of) l8 c8 k8,mg_of X G a8⟩
 f_firsts_of:=⟨_,_,fun_mk (st:=s_firsts_of) l9 c9 k9,mg_of X G a9⟩
 f_fork_below:=⟨_,_,fun_mk (st:=s_fork_below) l10 c10 k10,mg_of X G a10⟩
 f_firsts_side:=⟨_,_,fun_mk (st:=s_firsts_side) l11 c11 k11,mg_of X G a11⟩
 f_fork_parts:=⟨_,_,fun_mk (st:=s_fork_parts) l12 c12 k12,mg_of X G a12⟩
 f_heap_shares:=⟨_,_,fun_mk (st:=s_heap_shares) l13 c13 k13,mg_of X G a13⟩
 f_is_dropped:=⟨_,_,fun_mk (st:=s_is_dropped) l14 c14 k14,mg_of X G a14⟩
 f_deed_by:=⟨_,_,fun_mk (st:=s_deed_by) l15 c15 k15,mg_of X G a15⟩
 f_rule_shares:=⟨_,_,fun_mk (st:=s_rule_shares) l16 c16 k16,mg_of X G a16⟩
 f_check_number:=⟨_,_,fun_mk (st:=s_check_number) l17 c17 k17,mg_of X G a17⟩
 f_rules_without:=⟨_,_,fun_mk (st:=s_rules_without) l18 c18 k18,mg_of X G a18⟩
 f_rule_needed:=⟨_,_,fun_mk (st:=s_rule_needed) l19 c19 k19,mg_of X G a19⟩
 f_deeds_parted:=⟨_,_,fun_mk (st:=s_deeds_parted) l20 c20 k20,mg_of X G a20⟩
 f__law_cell_at:=⟨_,_,fun_mk (st:=s__law_cell_at) l21 c21 k21,mg_of X G a21⟩
 f__law_stream:=⟨_,_,fun_mk (st:=s__law_stream) l22 c22 k22,mg_of X G a22⟩
 f__law_width:=⟨_,_,fun_mk (st:=s__law_width) l23 c23 k23,mg_of X G a23⟩
 f__law_places:=⟨_,_,fun_mk (st:=s__law_places) l24 c24 k24,mg_of X G a24⟩
 f__law_shorts:=⟨_,_,fun_mk (st:=s__law_shorts) l25 c25 k25,mg_of X G a25⟩
 f__law_spread:=⟨_,_,fun_mk (st:=s__law_spread) l26 c26 k26,mg_of X G a26⟩
 f__law_fits:=⟨_,_,fun_mk (st:=s__law_fits) l27 c27 k27,mg_of X G a27⟩
 f__law_choices:=⟨_,_,fun_mk (st:=s__law_choices) l28 c28 k28,mg_of X G a28⟩
 f__law_rules:=⟨_,_,fun_mk (st:=s__law_rules) l29 c29 k29,mg_of X G a29⟩
 f__law_written:=⟨_,_,fun_mk (st:=s__law_written) l30 c30 k30,mg_of X G a30⟩
 f__law_first:=⟨_,_,fun_mk (st:=s__law_first) l31 c31 k31,mg_of X G a31⟩
 f__law_deed:=⟨_,_,fun_mk (st:=s__law_deed) l32 c32 k32,mg_of X G a32⟩
 f__law_wide:=⟨_,_,fun_mk (st:=s__law_wide) l33 c33 k33,mg_of X G a33⟩
 f__law_word:=⟨_,_,fun_mk (st:=s__law_word) l34 c34 k34,mg_of X G a34⟩
 f__law_refused:=⟨_,_,fun_mk (st:=s__law_refused) l35 c35 k35,mg_of X G a35⟩
 f__law_letter:=⟨_,_,fun_mk (st:=s__law_letter) l36 c36 k36,mg_of X G a36⟩
 f_law:=⟨_,_,fun_mk (st:=s_law) l37 c37 k37,mg_of X G a37⟩
 b_zip:=PySem.W.mg_none_of X G z_zip
 b_len:=PySem.W.mg_none_of X G z_len
 b_range:=PySem.W.mg_none_of X G z_range
 b_any:=PySem.W.mg_none_of X G z_any
 b_enumerate:=PySem.W.mg_none_of X G z_enumerate
 b_isinstance:=PySem.W.mg_none_of X G z_isinstance
 b_int:=PySem.W.mg_none_of X G z_int
 b_sorted:=PySem.W.mg_none_of X G z_sorted
 b_list:=PySem.W.mg_none_of X G z_list
 b_ValueError:=PySem.W.mg_none_of X G z_ValueError
 b_str:=PySem.W.mg_none_of X G z_str
 x_NoRule:=xn_mk X G n_NoRule q_NoRule t_NoRule b_NoRule g_NoRule h_NoRule a_NoRule o_NoRule sgt stk
 x_ThrongError:=xn_mk X G n_ThrongError q_ThrongError t_ThrongError b_ThrongError g_ThrongError h_ThrongError a_ThrongError o_ThrongError sgt stk
 t_Misfit:=xt_mk X G n_Misfit t_Misfit b_Misfit
 t_Twice:=xt_mk X G n_Twice t_Twice b_Twice
 t_NoField:=xt_mk X G n_NoField t_NoField b_NoField
 t_NoWay:=xt_mk X G n_NoWay t_NoWay b_NoWay
 t_NoDoor:=xt_mk X G n_NoDoor t_NoDoor b_NoDoor
 t_NoHouse:=xt_mk X G n_NoHouse t_NoHouse b_NoHouse
 t_NoLine:=xt_mk X G n_NoLine t_NoLine b_NoLine
 t_BadWord:=xt_mk X G n_BadWord t_BadWord b_BadWord
 t_Unlike:=xt_mk X G n_Unlike t_Unlike b_Unlike
 v_NoRule:=xv_mk n_NoRule v_NoRule
 m_NoRule_Misfit:=xm_mk n_NoRule n_Misfit m_NoRule_Misfit (fun _=>d_NoRule_Misfit)
 m_NoRule_Twice:=xm_mk n_NoRule n_Twice m_NoRule_Twice (fun _=>d_NoRule_Twice)
 m_NoRule_NoField:=xm_mk n_NoRule n_NoField m_NoRule_NoField (fun _=>d_NoRule_NoField)
 m_NoRule_NoRule:=xm_mk n_NoRule n_NoRule m_NoRule_NoRule (fun z=>nomatch z)
 m_NoRule_NoWay:=xm_mk n_NoRule n_NoWay m_NoRule_NoWay (fun _=>d_NoRule_NoWay)
 m_NoRule_ThrongError:=xm_mk n_NoRule n_ThrongError m_NoRule_ThrongError (fun z=>nomatch z)
 m_NoRule_NoDoor:=xm_mk n_NoRule n_NoDoor m_NoRule_NoDoor (fun _=>d_NoRule_NoDoor)
 m_NoRule_NoHouse:=xm_mk n_NoRule n_NoHouse m_NoRule_NoHouse (fun _=>d_NoRule_NoHouse)
 m_NoRule_NoLine:=xm_mk n_NoRule n_NoLine m_NoRule_NoLine (fun _=>d_NoRule_NoLine)
 m_NoRule_BadWord:=xm_mk n_NoRule n_BadWord m_NoRule_BadWord (fun _=>d_NoRule_BadWord)
 m_NoRule_Unlike:=xm_mk n_NoRule n_Unlike m_NoRule_Unlike (fun _=>d_NoRule_Unlike)
theorem law_bind {P:Program} {w:World} {K:Frag} {mg:Str -> Option Value} (T:Top K mg):∃ f fd,(∀ base:Heap,FnOk P w K mg base CX0 25 f fd ["_law_script"] (sp_law K)) /\ (∀ (s:Shared) (u:Value),BindsTo s fd ⟨[u],[]⟩ [("_law_script",u)]) /\ mg "law" = some (.ref f):=by
 obtain ⟨f,fd,F,m⟩:=T.f_law
 refine ⟨f,fd,fun base=>ok_law T F,?_,m⟩
 obtain ⟨oc,od,kV,doc,pm,an,cdv,ct,osl,rfl,lk,hcd⟩:=F.ex
 exact fun s u=>.of_eq rfl
theorem walk {l:PySem.W.OpenLaw} {q:Program} {loose:List Str} {XP:(Str -> Option Value) -> Heap -> Prop} {α:Type} {Yf:Shared -> α} {Ya:World -> α} {d:DefRec} {K:Params -> Frag} (hn:l.most = some 63) (hdf:d.params.defaults = [])
  (hY:∀ (w:World) (s:Shared),Yf s = Ya w -> (K w.params).In s.heap /\ 0 < s.toks)
  (F:∀ (w:World) (mg:Str -> Option Value) (fa:Addr) (h:Heap),(K w.params).In h -> h.Ns mainGlobals mg -> mg d.name = some (.ref fa) ->
   ∃ fd:FuncData,(∀ (s:Shared) (u:Value),BindsTo s fd ⟨[u],[]⟩ [("_law_script",u)]) /\ ∀ base:Heap,(K w.params).In base -> base.Ns mainGlobals mg -> FnOk l.prog w (K w.params) mg base CX0 25 fa fd ["_law_script"] (sp_law (K w.params))):
  PySem.W.WalkX q loose XP Yf Ya l.row.toRowW d [] (fun f vs=>PySem.call f vs):=
 L2.walk_ofX (n:=63) (k:=25) (x := "_law_script") (CX:=fun _=>CX0) (sp:=fun w=>sp_law (K w.params)) hn (by decide) hdf ⟨rfl,by decide,by decide,rfl⟩ hY F (fun _ _ a ns hl _ hS=>⟨ns,hS,hl,fun _=>rfl⟩) fun _ _ _ _ _ z=>z
end Law
open PySem PySem.W PyProof.Rows
set_option maxRecDepth 100000 in
set_option maxHeartbeats 0 in
theorem PySem.Challenge.cw_throng_k19_rule_needed_holds : PySem.Challenge.rw_throng_k19_rule_needed.Holds := by
 w_on; o_law; z_head; (case hw=>w_witness2)
 k_fill
 refine Law.walk (l:=PySem.Challenge.rw_throng_k19_rule_needed) rfl rfl (fun w s Y=>L2.z_pos Y (fun _=>rfl) (by decide)) ?F
 case F=>
  intro w mg fa h KX G hmg
  have T:Law.Top (L2.KOf KX) mg:=by
   dsimp only [L2.KOf]
   refine' Law.all_mk KX G ?a0 ?l0 ?c0 ?k0 ?a1 ?l1 ?c1 ?k1 ?a2 ?l2 ?c2 ?k2 ?a3 ?l3 ?c3 ?k3 ?a4 ?l4 ?c4 ?k4 ?a5 ?l5 ?c5 ?k5 ?a6 ?l6 ?c6 ?k6 ?a7 ?l7 ?c7 ?k7 ?a8 ?l8 ?c8 ?k8 ?a9 ?l9 ?c9 ?k9 ?a10 ?l10 ?c10 ?k10 ?a11 ?l11 ?c11 ?k11 ?a12 ?l12 ?c12 ?k12 ?a13 ?l13 ?c13 ?k13 ?a14 ?l14 ?c14 ?k14 ?a15 ?l15 ?c15 ?k15 ?a16 ?l16 ?c16 ?k16 ?a17 ?l17 ?c17 ?k17 ?a18 ?l18 ?c18 ?k18 ?a19 ?l19 ?c19 ?k19 ?a20 ?l20 ?c20 ?k20 ?a21 ?l21 ?c21 ?k21 ?a22 ?l22 ?c22 ?k22 ?a23 ?l23 ?c23 ?k23 ?a24 ?l24 ?c24 ?k24 ?a25 ?l25 ?c25 ?k25 ?a26 ?l26 ?c26 ?k26 ?a27 ?l27 ?c27 ?k27 ?a28 ?l28 ?c28 ?k28 ?a29 ?l29 ?c29 ?k29 ?a30 ?l30 ?c30 ?k30 ?a31 ?l31 ?c31 ?k31 ?a32 ?l32 ?c32 ?k32 ?a33 ?l33 ?c33 ?k33 ?a34 ?l34 ?c34 ?k34 ?a35 ?l35 ?c35 ?k35 ?a36 ?l36 ?c36 ?k36 ?a37 ?l37 ?c37 ?k37 ?z_zip ?z_len ?z_range ?z_any ?z_enumerate ?z_isinstance ?z_int ?z_sorted ?z_list ?z_ValueError ?z_str ?n_NoRule ?q_NoRule ?t_NoRule ?b_NoRule ?g_NoRule ?h_NoRule ?a_NoRule ?o_NoRule ?n_ThrongError ?q_ThrongError ?t_ThrongError ?b_ThrongError ?g_ThrongError ?h_ThrongError ?a_ThrongError ?o_ThrongError ?n_Misfit ?t_Misfit ?b_Misfit ?n_Twice ?t_Twice ?b_Twice ?n_NoField ?t_NoField ?b_NoField ?n_NoWay ?t_NoWay ?b_NoWay ?n_NoDoor ?t_NoDoor ?b_NoDoor ?n_NoHouse ?t_NoHouse ?b_NoHouse ?n_NoLine ?t_NoLine ?b_NoLine ?n_BadWord ?t_BadWord ?b_BadWord ?n_Unlike ?t_Unlike ?b_Unlike ?sgt ?stk ?v_NoRule ?m_NoRule_Misfit ?d_NoRule_Misfit ?m_NoRule_Twice ?d_NoRule_Twice ?m_NoRule_NoField ?d_NoRule_NoField ?m_NoRule_NoRule ?m_NoRule_NoWay ?d_NoRule_NoWay ?m_NoRule_ThrongError ?m_NoRule_NoDoor ?d_NoRule_NoDoor ?m_NoRule_NoHouse ?d_NoRule_NoHouse ?m_NoRule_NoLine ?d_NoRule_NoLine ?m_NoRule_BadWord ?d_NoRule_BadWord ?m_NoRule_Unlike ?d_NoRule_Unlike
   (case a0=>k_is); (case l0=>k_is); (case c0=>k_is); (case k0=>k_is)
   (case a1=>k_is); (case l1=>k_is); (case c1=>k_is); (case k1=>k_is)
   (case a2=>k_is); (case l2=>k_is); (case c2=>k_is); (case k2=>k_is)
   (case a3=>k_is); (case l3=>k_is); (case c3=>k_is); (case k3=>k_is)
   (case a4=>k_is); (case l4=>k_is); (case c4=>k_is); (case k4=>k_is)
   (case a5=>k_is); (case l5=>k_is); (case c5=>k_is); (case k5=>k_is)
   (case a6=>k_is); (case l6=>k_is); (case c6=>k_is); (case k6=>k_is)
   (case a7=>k_is); (case l7=>k_is); (case c7=>k_is); (case k7=>k_is)
   (case a8=>k_is); (case l8=>k_is); (case c8=>k_is); (case k8=>k_is)
   (case a9=>k_is); (case l9=>k_is); (case c9=>k_is); (case k9=>k_is)
   (case a10=>k_is); (case l10=>k_is); (case c10=>k_is); (case k10=>k_is)
   (case a11=>k_is); (case l11=>k_is); (case c11=>k_is); (case k11=>k_is)
   (case a12=>k_is); (case l12=>k_is); (case c12=>k_is); (case k12=>k_is)
   (case a13=>k_is); (case l13=>k_is); (case c13=>k_is); (case k13=>k_is)
   (case a14=>k_is); (case l14=>k_is); (case c14=>k_is); (case k14=>k_is)
   (case a15=>k_is); (case l15=>k_is); (case c15=>k_is); (case k15=>k_is)
   (case a16=>k_is); (case l16=>k_is); (case c16=>k_is); (case k16=>k_is)
   (case a17=>k_is); (case l17=>k_is); (case c17=>k_is); (case k17=>k_is)
   (case a18=>k_is); (case l18=>k_is); (case c18=>k_is); (case k18=>k_is)
   (case a19=>k_is); (case l19=>k_is); (case c19=>k_is); (case k19=>k_is)
   (case a20=>k_is); (case l20=>k_is); (case c20=>k_is); (case k20=>k_is)
   (case a21=>k_is); (case l21=>k_is); (case c21=>k_is); (case k21=>k_is)
   (case a22=>k_is); (case l22=>k_is); (case c22=>k_is); (case k22=>k_is)
   (case a23=>k_is); (case l23=>k_is); (case c23=>k_is); (case k23=>k_is)
   (case a24=>k_is); (case l24=>k_is); (case c24=>k_is); (case k24=>k_is)
   (case a25=>k_is); (case l25=>k_is); (case c25=>k_is); (case k25=>k_is)
   (case a26=>k_is); (case l26=>k_is); (case c26=>k_is); (case k26=>k_is)
   (case a27=>k_is); (case l27=>k_is); (case c27=>k_is); (case k27=>k_is)
   (case a28=>k_is); (case l28=>k_is); (case c28=>k_is); (case k28=>k_is)
   (case a29=>k_is); (case l29=>k_is); (case c29=>k_is); (case k29=>k_is)
   (case a30=>k_is); (case l30=>k_is); (case c30=>k_is); (case k30=>k_is)
   (case a31=>k_is); (case l31=>k_is); (case c31=>k_is); (case k31=>k_is)
   (case a32=>k_is); (case l32=>k_is); (case c32=>k_is); (case k32=>k_is)
   (case a33=>k_is); (case l33=>k_is); (case c33=>k_is); (case k33=>k_is)
   (case a34=>k_is); (case l34=>k_is); (case c34=>k_is); (case k34=>k_is)
   (case a35=>k_is); (case l35=>k_is); (case c35=>k_is); (case k35=>k_is)
   (case a36=>k_is); (case l36=>k_is); (case c36=>k_is); (case k36=>k_is)
   (case a37=>k_is); (case l37=>k_is); (case c37=>k_is); (case k37=>k_is)
   (case z_zip=>k_is)
   (case z_len=>k_is)
   (case z_range=>k_is)
   (case z_any=>k_is)
   (case z_enumerate=>k_is)
   (case z_isinstance=>k_is)
   (case z_int=>k_is)
   (case z_sorted=>k_is)
   (case z_list=>k_is)
   (case z_ValueError=>k_is)
   (case z_str=>k_is)
   (case n_NoRule=>k_is); (case q_NoRule=>k_exc); (case t_NoRule=>k_is); (case b_NoRule=>k_is); (case g_NoRule=>k_is); (case h_NoRule=>k_is); (case a_NoRule=>k_is); (case o_NoRule=>k_is)
   (case n_ThrongError=>k_is); (case q_ThrongError=>k_exc); (case t_ThrongError=>k_is); (case b_ThrongError=>k_is); (case g_ThrongError=>k_is); (case h_ThrongError=>k_is); (case a_ThrongError=>k_is); (case o_ThrongError=>k_is)
   (case n_Misfit=>k_is); (case t_Misfit=>k_is); (case b_Misfit=>k_is)
   (case n_Twice=>k_is); (case t_Twice=>k_is); (case b_Twice=>k_is)
   (case n_NoField=>k_is); (case t_NoField=>k_is); (case b_NoField=>k_is)
   (case n_NoWay=>k_is); (case t_NoWay=>k_is); (case b_NoWay=>k_is)
   (case n_NoDoor=>k_is); (case t_NoDoor=>k_is); (case b_NoDoor=>k_is)
   (case n_NoHouse=>k_is); (case t_NoHouse=>k_is); (case b_NoHouse=>k_is)
   (case n_NoLine=>k_is); (case t_NoLine=>k_is); (case b_NoLine=>k_is)
   (case n_BadWord=>k_is); (case t_BadWord=>k_is); (case b_BadWord=>k_is)
   (case n_Unlike=>k_is); (case t_Unlike=>k_is); (case b_Unlike=>k_is)
   (case sgt=>k_is); (case stk=>k_is)
   (case v_NoRule=>k_is)
   (case m_NoRule_Misfit=>k_is); (case d_NoRule_Misfit=>decide)
   (case m_NoRule_Twice=>k_is); (case d_NoRule_Twice=>decide)
   (case m_NoRule_NoField=>k_is); (case d_NoRule_NoField=>decide)
   (case m_NoRule_NoRule=>k_is)
   (case m_NoRule_NoWay=>k_is); (case d_NoRule_NoWay=>decide)
   (case m_NoRule_ThrongError=>k_is)
   (case m_NoRule_NoDoor=>k_is); (case d_NoRule_NoDoor=>decide)
   (case m_NoRule_NoHouse=>k_is); (case d_NoRule_NoHouse=>decide)
   (case m_NoRule_NoLine=>k_is); (case d_NoRule_NoLine=>decide)
   (case m_NoRule_BadWord=>k_is); (case d_NoRule_BadWord=>decide)
   (case m_NoRule_Unlike=>k_is); (case d_NoRule_Unlike=>decide)
  obtain ⟨f,fd,F,b,m⟩:=Law.law_bind (P:=PySem.Challenge.pw_throng_k19_rule_needed) (w:=w) T
  have e0:=hmg.symm.trans m
  cases e0
  exact ⟨fd,b,fun base _ _=>F base⟩
#print axioms PySem.Challenge.cw_throng_k19_rule_needed_holds
