import PyProof.Rows.All
import Wide.All
import OpenK.AllK
import Wide.FinOn
import Lean
import PyProof.EqAt
import PyProof.EqKinds
import PyProof.TupleCall
import KE.KLam
import KE.KSortKey
import KE.KSorted
import KE.KTabLook
import PySem.Challenge.RW_throng_k37_spots_and_houses
namespace PySem.W.Fast
def tw1534951349997325376:=0
def tw501328372926879840:=0
def tw8893941441014662304:=0
def tw6132614329170813088:=0
def tw1327334381233919168:=0
def tw8002503285551546592:=0
def tw18237614658236646656:=0
def tw3735076310883247520:=0
def tw2146917981769462208:=0
def tw2642218448539735520:=0
def tw2463826917736580640:=0
def tw8533066649775034944:=0
def tw18183232253996402272:=0
def tw4208538104271055456:=0
def tw14310583131358312064:=0
def tw10652665027016372928:=0
def tw10484703277800646721:=0
def tw306292484866651265:=0
def tw16137820206742341761:=0
def tw13447123539135133249:=0
def tw4106585195042702913:=0
def tw14131546957672061537:=0
def tw14999441510481054465:=0
def tw10401056751390748449:=0
def tw14496292663728336673:=0
def tw10356404652998672386:=0
def tw5840870487348151362:=0
def tw6974092577426452578:=0
def tw12773099722386695426:=0
def tw6561670578641895746:=0
def tw2952991921697097122:=0
def tw5841985796828116418:=0
def tw7969467480714217954:=0
def tw6090371856104359458:=0
def tw11618118665251555906:=0
def tw15610619001928940194:=0
def tw6455619811471503042:=0
def tw13184969223529403074:=0
def tw3063797553603177186:=0
def tw1972095583810166594:=0
def tw2635606807261938530:=0
def tw6526014645434053474:=0
def tw492792835965564802:=0
def tw3055642551462655938:=0
def tw6735950331976147938:=0
def tw12662083594236478531:=0
def tw14874182710961913987:=0
def tw11387491965599987939:=0
def tw18312638982085059811:=0
def tw1465744414135177475:=0
def tw11811781287237606659:=0
def tw17061168430573841955:=0
def tw9630405517969558083:=0
def tw10066249580720949859:=0
def tw1554504412544976643:=0
def tw17483956812873426948:=0
def tw5764524781274752132:=0
def tw3047233991228956868:=0
def tw5601132638509229284:=0
def tw1507280122969270500:=0
def tw16080171349769621796:=0
def tw1057428327579340292:=0
def tw10826880342468553252:=0
def tw18065663109808674372:=0
def tw521379589021854276:=0
def tw8030009701621003940:=0
def tw3731487576925340324:=0
def tw8217991497971348164:=0
def tw2422577869809388228:=0
def tw12196177786721325988:=0
def tw14254605950505757701:=0
def tw85848768168783877:=0
def tw12805467287567328325:=0
def tw15867696428991763525:=0
def tw14384848704116092101:=0
def tw3993094544505228517:=0
def tw12788810425452859717:=0
def tw14341142934581770661:=0
def tw14995326724789849509:=0
def tw16647047408517218757:=0
def tw7104926937560183237:=0
def tw11954962124001091077:=0
def tw4362959630582347269:=0
def tw1190673340076549669:=0
def tw7090703369336808997:=0
def tw15875884072129553989:=0
def tw15454278795617926117:=0
def tw2732153365784803334:=0
def tw16673316459371685062:=0
def tw9257638970633659654:=0
def tw1173734413004818694:=0
def tw8433472562062675430:=0
def tw14285228289039795910:=0
def tw6083872121200713767:=0
def tw15241447703040479303:=0
def tw10583975829194965095:=0
def tw6646008500982214759:=0
def tw18070649113626206471:=0
def tw14598354379002396039:=0
def tw18239552915895191015:=0
def tw149004034794680839:=0
def tw9849931436801190471:=0
def tw3395307706266179303:=0
def tw188041303682424679:=0
def tw15356156816267531111:=0
def tw471876414646828104:=0
def tw11979437649030389928:=0
def tw1619292447941115080:=0
def tw15543142789668019624:=0
def tw6025925323563369960:=0
def tw17018213671032749544:=0
def tw4888264083822634504:=0
def tw3853057130980469416:=0
def tw9884544345496545992:=0
def tw3417842568376396648:=0
def tw13196083628810957736:=0
def tw11417972682587845576:=0
def tw9004798922838403081:=0
def tw14116150904055065609:=0
def tw11736766276513072137:=0
def tw15352936117160199273:=0
def tw17974562502851761353:=0
def tw18034600262470522281:=0
def tw16489368049155109353:=0
def tw8257860349493966409:=0
def tw12053118299089570441:=0
def tw9236565236412151561:=0
def tw14729243026125182825:=0
def tw13669304440812542857:=0
def tw8472735903209624618:=0
def tw17085927265599726666:=0
def tw7522822048233440394:=0
def tw10741620950818215402:=0
def tw10043080575809848842:=0
def tw6470078399350370826:=0
def tw12762062140829617866:=0
def tw5434081162582393674:=0
def tw18077590846955921483:=0
def tw10821531455723456587:=0
def tw3303239901425112203:=0
def tw17296915320488801643:=0
def tw13656260745571268075:=0
def tw9517889463324801579:=0
def tw5434621339262889579:=0
def tw3141176826731531947:=0
def tw11220751719930017451:=0
def tw11321311326290732779:=0
def tw12483846051340604235:=0
def tw14669491001189690251:=0
def tw2854974765656745004:=0
def tw9363566626049091628:=0
def tw15535699126002650220:=0
def tw13991487511120712812:=0
def tw4459611325953106092:=0
def tw15497664018495112428:=0
def tw17091419265971567884:=0
def tw9879153841024919820:=0
def tw294167374689150284:=0
def tw10169551004757401004:=0
def tw12064362374818887116:=0
def tw1872304463269923308:=0
def tw13758901711615388140:=0
def tw2746639236494062060:=0
def tw6649108456708460044:=0
def tw17706374709955335884:=0
def tw5218754881888431820:=0
def tw5695203367000251180:=0
def tw15989123992368347948:=0
def tw11517732322797961261:=0
def tw13708481996614803565:=0
def tw13515882214735315149:=0
def tw17948947878214680845:=0
def tw8806727059675079149:=0
def tw8296831116444428909:=0
def tw3195635266247487117:=0
def tw7012066320725253805:=0
def tw9846536979492548269:=0
def tw849545607333823181:=0
def tw6262928690986795917:=0
def tw4880501778860725165:=0
def tw9532670313550919629:=0
def tw9936394257934673901:=0
def tw14846881485943410798:=0
def tw11820310684656883886:=0
def tw8699354532355670318:=0
def tw8150063793976144718:=0
def tw2969452763738891118:=0
def tw8151600094793592686:=0
def tw6666643542562174095:=0
def tw10069671928503138703:=0
def tw208871889677233583:=0
def tw1313686853961771503:=0
def tw5419660953188854511:=0
def tw15409911602404824847:=0
def tw13695108216480408367:=0
def tw3336536642000861039:=0
def tw3984079587083194287:=0
def tw16586303461079444431:=0
def tw11166441249028338704:=0
def tw3556262622260662384:=0
def tw15541557777229428912:=0
def tw10217579456080998576:=0
def tw17535062971579041168:=0
def tw2780709639856804240:=0
def tw11434521751755499056:=0
def tw8240447757946534448:=0
def tw6169545544828942992:=0
def tw7279416700835757744:=0
def tw13140324869917466320:=0
def tw6505578630379276048:=0
def tw8634588405771769808:=0
def tw3420423298932169745:=0
def tw5392697084777715825:=0
def tw8285759396939289745:=0
def tw13204821866490370257:=0
def tw10032540052040366321:=0
def tw3419175322136753553:=0
def tw5714741748948195729:=0
def tw13257043548503192017:=0
def tw6187748118140372433:=0
def tw3953963647491098129:=0
def tw2132340644255613521:=0
def tw1560088275587522161:=0
def tw4799857434448745201:=0
def tw11596678848595314545:=0
def tw581109518586305489:=0
def tw3677379402490575890:=0
def tw8181283724935392370:=0
def tw13067495223447038130:=0
def tw1350384287314568402:=0
def tw7668513064254738642:=0
def tw16616091014321890514:=0
def tw8286864318073984242:=0
def tw4657272408117316978:=0
def tw7037574309226070418:=0
def tw642006079291412018:=0
def tw12821250068821192306:=0
def tw13817726491904225266:=0
def tw15146070301729325235:=0
def tw4862223195855241651:=0
def tw13624671848213101171:=0
def tw7018182459394376339:=0
def tw13711312533656299187:=0
def tw5402407625254072019:=0
def tw889632974174047059:=0
def tw2572045493919675347:=0
def tw4829797502586356723:=0
def tw3389442760798561364:=0
def tw6439327972246462644:=0
def tw7882557693221568724:=0
def tw7626476907577069876:=0
def tw511762240824595988:=0
def tw10181567286592086580:=0
def tw13487092421764786740:=0
def tw17554309125852079700:=0
def tw1566532631027093236:=0
def tw13690657481698764532:=0
def tw12195352857232423700:=0
def tw72442401625707316:=0
def tw13080089622474166100:=0
def tw6663897836529532756:=0
def tw13351380173416754036:=0
def tw5156158304714654773:=0
def tw15688150145400421429:=0
def tw17539700392189202677:=0
def tw7340164376230590773:=0
def tw2161652380197964117:=0
def tw1938449033434261877:=0
def tw15951989750114904501:=0
def tw2845234929786794549:=0
def tw3461803454618994357:=0
def tw13355918179722171093:=0
def tw676545702483890933:=0
def tw15782438687088680693:=0
def tw14237627031451082517:=0
def tw10120253716422778741:=0
def tw3156773853052868565:=0
def tw13703569234003044438:=0
def tw9251863357972128854:=0
def tw18198310517454010550:=0
def tw9783314262015108278:=0
def tw1612010660228588726:=0
def tw9852131857081492726:=0
def tw11971705167393029430:=0
def tw11228728182602599734:=0
def tw2502150637604626934:=0
def tw13927832379671009846:=0
def tw13429744230359306870:=0
def tw9691761248116031094:=0
def tw2489318452353050326:=0
def tw7469408362286290870:=0
def tw8101067942265746455:=0
def tw4455242044799709335:=0
def tw10706587717208272055:=0
def tw13887982234188014775:=0
def tw5765171309463631127:=0
def tw18204305396984343959:=0
def tw2540132321217847831:=0
def tw2034417093883388471:=0
def tw5133345228870597271:=0
def tw9573466754434151095:=0
def tw10607222694652538551:=0
def tw9962712275703221975:=0
def tw14290962516034274135:=0
def tw6913204180694971223:=0
def tw12747339049321050071:=0
def tw13077848484399592439:=0
def tw4957882521046098968:=0
def tw5317910779935103032:=0
def tw18329111476890233912:=0
def tw7254139783847199800:=0
def tw15554803162184758360:=0
def tw8072701971454735544:=0
def tw11461744665186964760:=0
def tw7382353045378116920:=0
def tw2981298635061752152:=0
def tw6938150306604966264:=0
def tw4120931797285662200:=0
def tw488336795467158008:=0
def tw9013529593375574552:=0
def tw12721021963991323224:=0
def tw6230310431151252088:=0
def tw1303764599497924216:=0
def tw17416012894547595992:=0
def tw13807631933800671960:=0
def tw17194576656576826104:=0
def tw14657773720086550328:=0
def tw9137723990749529944:=0
def tw10712556003042578328:=0
def tw1935658063968726105:=0
def tw801247167320332473:=0
def tw12741122756001616441:=0
def tw11689894328141340249:=0
def tw13738318669886653177:=0
def tw10797564367446323001:=0
def tw8115476684871170905:=0
def tw14187315517966742361:=0
def tw9496759411776115802:=0
def tw11057805857607818458:=0
def tw15262351090165283098:=0
def tw2206838392919905754:=0
def tw7268741817047099962:=0
def tw2489045630368038490:=0
def tw10368774081541023386:=0
def tw8415096637755254554:=0
def tw11137676400991152922:=0
def tw6519501805648518235:=0
def tw2667549916117020859:=0
def tw14999394123838674267:=0
def tw11789783510848528827:=0
def tw90316697137488347:=0
def tw1224449727105466843:=0
def tw5446632410796410363:=0
def tw2872328298743123451:=0
def tw1245643370758046363:=0
def tw6501338475996652187:=0
def tw6535376834966343419:=0
def tw6372341840489514811:=0
def tw7110102400607107035:=0
def tw17716119842169289691:=0
def tw16745513542985449660:=0
def tw13155045939369099516:=0
def tw9211090523652789532:=0
def tw11438837241520647484:=0
def tw4215664853389947196:=0
def tw2757878580496760316:=0
def tw481868709381402108:=0
def tw17456164692807153500:=0
def tw14220030312666185564:=0
def tw7004249603179373564:=0
def tw13696665261874297949:=0
def tw6696968699343641789:=0
def tw12216777791171286333:=0
def tw15744725371254699357:=0
def tw6903382158436902301:=0
def tw7986848836334806429:=0
def tw15971728457818881469:=0
def tw375001208049032637:=0
def tw4386284025107480221:=0
def tw2203201193532414781:=0
def tw9101587464021987197:=0
def tw12544940800085157757:=0
def tw1849445048347072477:=0
def tw2732058834648742174:=0
def tw3320045944823209406:=0
def tw644318002283634110:=0
def tw9163384089303965182:=0
def tw12073221146592355870:=0
def tw4220107143596621342:=0
def tw12435409062626257438:=0
def tw797547090413872702:=0
def tw238381971111726782:=0
def tw4134670271828185790:=0
def tw13072152918654441182:=0
def tw12360797059674256126:=0
def tw16247825508738844446:=0
def tw2280809077853834078:=0
def tw1709349438687429502:=0
def tw18095628126929870750:=0
def tw10480048040748793951:=0
def tw10947415288017155231:=0
def tw15877547544828769439:=0
def tw14037958846921798847:=0
def tw17493871400746428927:=0
def tw9865221942904147551:=0
def tw182017544812497759:=0
def tw4619876396011465417:=0
end PySem.W.Fast
open PySem.W (Frag nsIn keepIn fnOf codeIn mg_of findIn)
set_option compiler.extract_closed false
set_option Elab.async false
set_option linter.all false
set_option maxRecDepth 100000
namespace L2
open PySem PySem.Spec PyProof.Rows
noncomputable abbrev Key:=Sum Int Str
noncomputable def keyIs:Key -> Value -> Bool
 | .inl k,v=>Value.isInt k v
 | .inr x,v=>Value.isStrOf x v
noncomputable def keyH (w:World):Key -> Int
 | .inl k=>hashInt k
 | .inr x=>hashStr w x
theorem keyIs_shape:∀ {k:Key} {v:Value},keyIs k v = true -> (∃ i t,k = Sum.inl i /\ v = Value.int i t) \/ (∃ x t,k = Sum.inr x /\ v = Value.str x t)
 | .inl i,v,h=>by
  obtain ⟨t,e⟩:=Value.isInt_shape (k:=i) (v:=v) h
  exact .inl ⟨i,t,rfl,e⟩
 | .inr x,v,h=>by
  obtain ⟨t,e⟩:=Value.isStrOf_shape (x:=x) (v:=v) h
  exact .inr ⟨x,t,rfl,e⟩
theorem keyIs_int (i:Int) (t:Tok):keyIs (.inl i) (.int i t) = true:=by simp [keyIs,Value.isInt]
theorem keyIs_str (x:Str) (t:Tok):keyIs (.inr x) (.str x t) = true:=by simp [keyIs,Value.isStrOf]
theorem key_ll (a b:Int):decide ((Sum.inl a:Key) = Sum.inl b) = (a == b):=by
 by_cases e:a = b
 ·subst e; simp
 ·have h:¬ (Sum.inl a:Key) = Sum.inl b:=fun q=>e (Sum.inl.inj q)
  rw [decide_eq_false h]
  exact (beq_eq_false_iff_ne.mpr e).symm
theorem key_rr (a b:Str):decide ((Sum.inr a:Key) = Sum.inr b) = decide (a = b):=by
 by_cases e:a = b
 ·subst e; simp
 ·have h:¬ (Sum.inr a:Key) = Sum.inr b:=fun q=>e (Sum.inr.inj q)
  rw [decide_eq_false h,decide_eq_false e]
theorem key_lr (a:Int) (b:Str):decide ((Sum.inl a:Key) = Sum.inr b) = false:=decide_eq_false (fun q=>nomatch q)
theorem key_rl (a:Str) (b:Int):decide ((Sum.inr a:Key) = Sum.inl b) = false:=decide_eq_false (fun q=>nomatch q)
noncomputable def mixKind (prog:Program) (w:World):PySem.KeyKind prog w Key where
 is:=keyIs
 hash:=keyH w
 inj:=fun v a b ha hb=>by
  rcases keyIs_shape ha with ⟨i,t,rfl,rfl⟩ | ⟨x,t,rfl,rfl⟩
  ·rcases keyIs_shape hb with ⟨j,u,rfl,e⟩ | ⟨y,u,rfl,e⟩
   ·injection e with e1 _; rw [e1]
   ·exact nomatch e
  ·rcases keyIs_shape hb with ⟨j,u,rfl,e⟩ | ⟨y,u,rfl,e⟩
   ·exact nomatch e
   ·injection e with e1 _; rw [e1]
 byValue:=fun k v h=>by
  rcases keyIs_shape h with ⟨i,t,rfl,rfl⟩ | ⟨x,t,rfl,rfl⟩ <;> rfl
 pyHash:=fun hv h=>by
  rcases keyIs_shape hv with ⟨i,t,rfl,rfl⟩ | ⟨x,t,rfl,rfl⟩
  ·exact wpAny_pyHash_int h
  ·exact wpAny_pyHash_str h
 eqBool:=fun hu hv h=>by
  rcases keyIs_shape hu with ⟨i,t,rfl,rfl⟩ | ⟨x,t,rfl,rfl⟩
  ·rcases keyIs_shape hv with ⟨j,u,rfl,rfl⟩ | ⟨y,u,rfl,rfl⟩
   ·rw [key_ll] at h; exact wpAny_eqBool_int h
   ·rw [key_lr] at h; exact SeqAt.EqAt.int_str i t y u _ _ _ _ h
  ·rcases keyIs_shape hv with ⟨j,u,rfl,rfl⟩ | ⟨y,u,rfl,rfl⟩
   ·rw [key_rl] at h; exact SeqAt.EqAt.str_int x t j u _ _ _ _ h
   ·rw [key_rr] at h; exact wpAny_eqBool_str h
 «strs»:=fun k x t v h=>by
  rcases keyIs_shape h with ⟨i,u,rfl,e⟩ | ⟨y,u,rfl,e⟩
  ·exact nomatch e
  ·injection e with e1 _
   subst e1
   cases v <;> rfl
theorem mixKind_int (prog:Program) (w:World) (i:Int) (t:Tok):(mixKind prog w).is (.inl i) (.int i t) = true:=keyIs_int i t
theorem mixKind_str (prog:Program) (w:World) (x:Str) (t:Tok):(mixKind prog w).is (.inr x) (.str x t) = true:=keyIs_str x t
inductive V where
 | non | bl (b:Bool) | int (i:Int) | str (x:Str) | byt (b:Array UInt8) | flt (b:UInt64) | ref (a:Addr) | ty (n:String)
 deriving DecidableEq
noncomputable def RelV:V -> Value -> Prop
 | .non,u=>u = Value.none
 | .bl b,u=>u = Value.bool b
 | .int i,u=>∃ t,u = Value.int i t
 | .str x,u=>∃ t,u = Value.str x t
 | .byt b,u=>∃ t,u = Value.bytes b t
 | .flt b,u=>∃ t,u = Value.float b t
 | .ref a,u=>u = Value.ref a
 | .ty n,u=>u = Value.type n
noncomputable abbrev Vals:List V -> List Value -> Prop:=Paired RelV
theorem Vals.length {xs:List V} {us:List Value} (r:Vals xs us):xs.length = us.length:=Paired.length r
theorem Vals.get:∀ {xs:List V} {us:List Value} {i:Nat} {x:V},Vals xs us -> xs[i]? = some x -> ∃ u,us[i]? = some u /\ RelV x u
 | _,_,_,_,.nil,e=>by simp at e
 | _,_,0,_,.cons r _,e=>by simp at e; subst e; exact ⟨_,rfl,r⟩
 | _,_,i + 1,x,.cons _ t,e=>by
  obtain ⟨u,h1,h2⟩:=Vals.get (i:=i) (x:=x) t (by simpa using e)
  exact ⟨u,by simpa using h1,h2⟩
theorem Vals.set {x:V} {u:Value} (r:RelV x u):∀ {xs:List V} {us:List Value} (i:Nat),Vals xs us -> Vals (xs.set i x) (us.set i u)
 | _,_,_,.nil=>.nil
 | _,_,0,.cons _ t=>.cons r t
 | _,_,i + 1,.cons q t=>.cons q (Vals.set r i t)
theorem Vals.append:∀ {xs ys:List V} {us ws:List Value},Vals xs us -> Vals ys ws -> Vals (xs ++ ys) (us ++ ws)
 | _,_,_,_,.nil,s=>s
 | _,_,_,_,.cons r t,s=>.cons r (Vals.append t s)
theorem Vals.take:∀ {xs:List V} {us:List Value} (n:Nat),Vals xs us -> Vals (xs.take n) (us.take n)
 | _,_,0,_=>.nil
 | _,_,_ + 1,.nil=>.nil
 | _,_,n + 1,.cons r t=>.cons r (Vals.take n t)
theorem Vals.drop:∀ {xs:List V} {us:List Value} (n:Nat),Vals xs us -> Vals (xs.drop n) (us.drop n)
 | _,_,0,r=>r
 | _,_,_ + 1,.nil=>.nil
 | _,_,n + 1,.cons _ t=>Vals.drop n t
noncomputable def RelO:Option V -> Option Value -> Prop
 | some v,some u=>RelV v u
 | none,none=>True
 | _,_=>False
noncomputable def KV {κ:Type}:List (κ × V) -> List (κ × Value) -> Prop:=Paired fun (p:κ × V) (q:κ × Value)=>p.1 = q.1 /\ RelV p.2 q.2
noncomputable def kV:Key -> V
 | .inl i=>.int i
 | .inr x=>.str x
inductive HO where
 | lst (xs:List V)
 | tup (xs:List V)
 | dK (kvs:List (Key × V)) | dT (kvs:List (List Key × V))
 | set (S:Int -> Bool) (n:Nat)
 | ins (C dx:Addr) (fs:List (Str × V))
 | own (x:Addr)
 | xd (fs:List (Str × V))
 | met (f x:Addr)
 | rng (lo hi:Int)
 | frz (o:Obj) (u:HO)
 | tbl (ps:Array Value)
 | ext (φ:Heap -> Prop)
noncomputable abbrev Hp:=Addr -> Option HO
noncomputable def upd (H:Hp) (a:Addr) (o:HO):Hp:=fun b=>if b = a then some o else H b
theorem upd_same {H:Hp} {a:Addr} {o:HO}:upd H a o a = some o:=by unfold upd; rw [if_pos rfl]
theorem upd_ne {H:Hp} {a b:Addr} {o:HO} (h:b ≠ a):upd H a o b = H b:=by unfold upd; rw [if_neg h]
theorem ne_of {H:Hp} {a b:Addr} {o u:HO} (h:H a = some o) (h':H b = some u) (d:o ≠ u):a ≠ b:=by
 intro e; subst e; rw [h] at h'; exact d (Option.some.inj h')
theorem ne_of_none {H:Hp} {a b:Addr} {o:HO} (h:H a = some o) (h':H b = none):a ≠ b:=by
 intro e; subst e; rw [h] at h'; cases h'
section
variable (P:Program) (w:World)
noncomputable def ObjOk (H:Hp) (h:Heap) (a:Addr):HO -> Prop
 | .lst xs=>xs.length <= sizeLine /\ ∃ (its:List Value) (n:Nat),Vals xs its /\ h.get? a = some { cls:=.type "list",data:=.seq its.toArray n }
 | .tup xs=>xs.length <= sizeLine /\ ∃ its:List Value,Vals xs its /\ IsTup h a its.toArray
 | .dK kvs=>kvs.length <= sizeLine /\ (a == sysModules) = false /\ ∃ vs,KV kvs vs /\ h.DictOf (mixKind P w) a vs
 | .dT kvs=>kvs.length <= sizeLine /\ (a == sysModules) = false /\ ∃ xs:List (List Key × Addr × Value),
   Paired (fun (p:List Key × V) (q:List Key × Addr × Value)=>p.1 = q.1 /\ H q.2.1 = some (.tup (p.1.map kV)) /\ RelV p.2 q.2.2) kvs xs /\
   ∃ o es ep,h.get? a = some o /\ o.ExactDict /\ o.data = .dict es ep /\ es.toList = xs.map (entryOfKey (tupleKind (mixKind P w))) /\ (xs.map (·.1)).Nodup
 | .set S n=>h.SetOf (intKind P w) a S n
 | .ins C dx fs=>H dx = some (.own a) /\ fs.length <= 1000 /\ dx ≠ a /\ h.get? a = some (PySem.W.instObj C dx) /\
   ∃ mA,h.Ns1 dx mA /\ (∀ f,RelO (fs.lookup f) (mA f)) /\ PySem.Within mA (fs.map (·.1))
 | .own _=>∃ o,h.get? a = some o
 | .xd fs=>∃ mA,h.Ns1 a mA /\ ∀ f,RelO (fs.lookup f) (mA f)
 | .rng lo hi=>∃ t u v,h.get? a = some { cls:=.type "range",data:=.fields #[.int lo t,.int hi u,.int 1 v] }
 | .frz o u=>h.get? a = some o /\ ObjOk H h a u
 | .tbl ps=>h.get? a = some { cls:=.none,data:=.fields ps }
 | .met f x=>h.get? a = some (PySem.W.methodObj (.ref f) (.ref x))
 | .ext φ=>φ h /\ (∃ o,h.get? a = some o) /\ ∀ h1 h2:Heap,φ h1 -> (∀ o,h1.get? a = some o -> h2.get? a = some o) -> φ h2
def HOk (H:Hp) (h:Heap):Prop:=∀ a o,H a = some o -> ObjOk P w H h a o
end
section
variable {P:Program} {w:World} {H H':Hp} {h h':Heap} {a:Addr} {o:HO}
theorem ObjOk.lt (x:ObjOk P w H h a o):a < h.objs.size:=by
 cases o with
 | lst xs=>obtain ⟨_,_,_,_,e⟩:=x; exact Heap.lt_size e
 | tup xs=>obtain ⟨_,_,_,p⟩:=x; exact p.lt
 | dK kvs=>obtain ⟨_,_,_,_,o,_,_,e,_⟩:=x; exact Heap.lt_size e
 | dT kvs=>obtain ⟨_,_,_,_,o,_,_,e,_⟩:=x; exact Heap.lt_size e
 | set S n=>obtain ⟨o,_,_,_,e,_⟩:=x; exact Heap.lt_size e
 | ins C dx fs=>obtain ⟨_,_,_,e,_⟩:=x; exact Heap.lt_size e
 | own y=>obtain ⟨_,e⟩:=x; exact Heap.lt_size e
 | xd fs=>obtain ⟨_,⟨_,_,_,e,_⟩,_⟩:=x; exact Heap.lt_size e
 | rng lo hi=>obtain ⟨_,_,_,e⟩:=x; exact Heap.lt_size e
 | frz ob u=>obtain ⟨e,_⟩:=x; exact Heap.lt_size e
 | tbl ps=>exact Heap.lt_size (show h.get? a = some _ from x)
 | met f y=>exact Heap.lt_size (show h.get? a = some _ from x)
 | ext φ=>obtain ⟨_,⟨_,e⟩,_⟩:=x; exact Heap.lt_size e
theorem Paired.mapP {α β:Type} {F G:α -> β -> Prop}:∀ {l₁:List α} {l₂:List β},Paired F l₁ l₂ -> (∀ a b,F a b -> G a b) -> Paired G l₁ l₂
 | _,_,.nil,_=>.nil
 | _,_,.cons r t,f=>.cons (f _ _ r) (Paired.mapP t f)
theorem Paired.imp' {α β:Type} {F G:α -> β -> Prop} (f:∀ a b,F a b -> G a b) {l₁:List α} {l₂:List β} (r:Paired F l₁ l₂):Paired G l₁ l₂:=Paired.mapP r f
theorem ObjOk.stay (x:ObjOk P w H h a o) (k:∀ b u,(b = a \/ H b = some (.own a)) -> h.get? b = some u -> h'.get? b = some u)
  (ho:∀ b,H b = some (.own a) -> H' b = some (.own a)) (ht:∀ b xs,H b = some (.tup xs) -> H' b = some (.tup xs)):ObjOk P w H' h' a o:=by
 induction o with
 | lst xs=>obtain ⟨z,its,n,r,e⟩:=x; exact ⟨z,its,n,r,k _ _ (.inl rfl) e⟩
 | tup xs=>obtain ⟨z,its,r,ob,e,c⟩:=x; exact ⟨z,its,r,ob,k _ _ (.inl rfl) e,c⟩
 | dK kvs=>obtain ⟨z,y,vs,r,ob,es,ep,e,c⟩:=x; exact ⟨z,y,vs,r,ob,es,ep,k _ _ (.inl rfl) e,c⟩
 | dT kvs=>
  obtain ⟨z,y,xs,r,ob,es,ep,e,c⟩:=x
  exact ⟨z,y,xs,Paired.mapP r fun p q z=>⟨z.1,ht _ _ z.2.1,z.2.2⟩,ob,es,ep,k _ _ (.inl rfl) e,c⟩
 | set S n=>obtain ⟨ob,es,ep,t,e,c⟩:=x; exact ⟨ob,es,ep,t,k _ _ (.inl rfl) e,c⟩
 | ins C dx fs=>
  obtain ⟨d,z,ne,e,mA,⟨od,es,ep,e2,c⟩,r⟩:=x
  exact ⟨ho _ d,z,ne,k _ _ (.inl rfl) e,mA,⟨od,es,ep,k _ _ (.inr d) e2,c⟩,r⟩
 | own y=>obtain ⟨ob,e⟩:=x; exact ⟨ob,k _ _ (.inl rfl) e⟩
 | xd fs=>obtain ⟨mA,⟨od,es,ep,e,c⟩,r⟩:=x; exact ⟨mA,⟨od,es,ep,k _ _ (.inl rfl) e,c⟩,r⟩
 | rng lo hi=>obtain ⟨t,u,v,e⟩:=x; exact ⟨t,u,v,k _ _ (.inl rfl) e⟩
 | frz ob u ih=>obtain ⟨e,q⟩:=x; exact ⟨k _ _ (.inl rfl) e,ih q⟩
 | tbl ps=>
  have e:h.get? a = some { cls:=.none,data:=.fields ps }:=x
  show h'.get? a = some { cls:=.none,data:=.fields ps }
  exact k a _ (.inl rfl) e
 | met f y=>
  have e:h.get? a = some (PySem.W.methodObj (.ref f) (.ref y)):=x
  show h'.get? a = some (PySem.W.methodObj (.ref f) (.ref y))
  exact k a _ (.inl rfl) e
 | ext φ=>obtain ⟨p,⟨o,e⟩,st⟩:=x; exact ⟨st _ _ p fun o q=>k _ _ (.inl rfl) q,⟨o,k _ _ (.inl rfl) e⟩,st⟩
theorem HOk.lt (x:HOk P w H h) (e:H a = some o):a < h.objs.size:=(x a o e).lt
theorem HOk.fresh (x:HOk P w H h) (e:h.objs.size <= a):H a = none:=by
 cases q:H a with
 | none=>rfl
 | some u=>exact absurd (Nat.lt_of_lt_of_le (x.lt q) e) (Nat.lt_irrefl _)
theorem HOk.kept (x:HOk P w H h) (k:∀ b u,h.get? b = some u -> h'.get? b = some u):HOk P w H h':=fun a o e=>
 (x a o e).stay (fun b u _ q=>k b u q) (fun _ q=>q) fun _ _ q=>q
theorem HOk.laid (x:HOk P w H h) (k:∀ b u,h.get? b = some u -> h'.get? b = some u) (hp:h.objs.size <= a) (new:ObjOk P w (upd H a o) h' a o):HOk P w (upd H a o) h':=fun b u e=>by
 have hn:=x.fresh hp
 by_cases hb:b = a
 ·subst hb; rw [upd_same] at e; cases e; exact new
 ·rw [upd_ne hb] at e
  exact (x b u e).stay (fun c v _ q=>k c v q) (fun c q=>by rw [upd_ne (ne_of_none q hn)]; exact q) fun c xs q=>by rw [upd_ne (ne_of_none q hn)]; exact q
end
def Rd (H:Hp) (a:Addr) (u:HO):Prop:=H a = some u \/ ∃ o,H a = some (.frz o u)
theorem Rd.of {H:Hp} {a:Addr} {u:HO} (h:H a = some u):Rd H a u:=.inl h
theorem Rd.ok {P:Program} {w:World} {H:Hp} {h:Heap} {a:Addr} {u:HO} (r:Rd H a u) (x:HOk P w H h):ObjOk P w H h a u:=by
 rcases r with r | ⟨o,r⟩
 ·exact x a u r
 ·obtain ⟨_,q⟩:=x a _ r
  exact q
noncomputable def Mut:Option HO -> Prop
 | some (.lst _)=>True
 | some (.dK _)=>True
 | some (.dT _)=>True
 | some (.set _ _)=>True
 | some (.ins _ _ _)=>True
 | some (.ext _)=>True
 | _=>False
section
variable {P:Program} {w:World} {H:Hp} {h h':Heap} {x e:Addr} {o':HO}
theorem HOk.write (ok:HOk P w H h) (mu:Mut (H x)) (he:e = x \/ H e = some (.own x)) (k:∀ b u,b ≠ e -> h.get? b = some u -> h'.get? b = some u) (heo:∃ u,h'.get? e = some u)
  (new:ObjOk P w (upd H x o') h' x o'):HOk P w (upd H x o') h':=fun b u q=>by
 have nown:∀ c y,H c = some (.own y) -> c ≠ x:=fun c y r z=>by subst z; rw [r] at mu; exact mu
 have ntup:∀ c xs,H c = some (.tup xs) -> c ≠ x:=fun c xs r z=>by subst z; rw [r] at mu; exact mu
 by_cases hb:b = x
 ·subst hb; rw [upd_same] at q; cases q; exact new
 ·rw [upd_ne hb] at q
  by_cases hbe:b = e
  ·have q':H b = some (.own x):=by
    rcases he with z | z
    ·exact absurd (hbe.trans z) hb
    ·rw [hbe]; exact z
   rw [q] at q'; cases q'
   obtain ⟨v,hv⟩:=heo
   exact ⟨v,by rw [hbe]; exact hv⟩
  ·refine (ok b u q).stay (fun c v hc r=>k c v ?_ r) (fun c r=>by rw [upd_ne (nown c b r)]; exact r) fun c xs r=>by rw [upd_ne (ntup c xs r)]; exact r
   rcases hc with rfl | hc
   ·exact hbe
   ·rintro rfl
    rcases he with z | z
    ·exact nown c b hc z
    ·rw [hc] at z; cases z; exact hb rfl
end
structure Un (fs ex:List Addr) (H H':Hp) (h h':Heap):Prop where
 keep:∀ b o,h.get? b = some o -> H b = none -> b ∉ fs -> b ∉ ex -> h'.get? b = some o
 slot:∀ b o,h.get? b = some o -> H b = none -> b ∈ fs -> b ∉ ex -> ∃ sl,h'.get? b = some { o with slots:=sl }
 free:∀ b o,h.get? b = some o -> H b = none -> b ∉ ex -> H' b = none
 there:∀ b o,h.get? b = some o -> b ∉ ex -> ∃ o',h'.get? b = some o'
 tups:∀ b xs,H b = some (.tup xs) -> H' b = some (.tup xs)
 frzs:∀ b o xs,H b = some (.frz o (.lst xs)) -> H' b = some (.frz o (.lst xs))
 tbls:∀ b ps,H b = some (.tbl ps) -> ∃ more,H' b = some (.tbl (ps ++ more))
section
variable {fs fs' ex ex':List Addr} {H H1 H2:Hp} {h h1 h2 h':Heap} {a x e:Addr} {o:HO}
theorem Un.any (u:Un fs ex H H1 h h1) {b:Addr} {ob:Obj} (q:h.get? b = some ob) (n:H b = none) (hx:b ∉ ex):∃ sl,h1.get? b = some { ob with slots:=sl }:=by
 by_cases hb:b ∈ fs
 ·exact u.slot b ob q n hb hx
 ·exact ⟨ob.slots,u.keep b ob q n hb hx⟩
theorem Un.trans (a:Un fs ex H H1 h h1) (b:Un fs ex H1 H2 h1 h2):Un fs ex H H2 h h2 where
 keep:=fun c ob q n hc hx=>b.keep c ob (a.keep c ob q n hc hx) (a.free c ob q n hx) hc hx
 slot:=fun c ob q n hc hx=>by
  obtain ⟨sl,e1⟩:=a.slot c ob q n hc hx
  obtain ⟨sl',e2⟩:=b.slot c _ e1 (a.free c ob q n hx) hc hx
  exact ⟨sl',e2⟩
 free:=fun c ob q n hx=>by
  obtain ⟨o',e1⟩:=a.there c ob q hx
  exact b.free c o' e1 (a.free c ob q n hx) hx
 there:=fun c ob q hx=>by
  obtain ⟨o',e1⟩:=a.there c ob q hx
  exact b.there c o' e1 hx
 tups:=fun c xs q=>b.tups c xs (a.tups c xs q)
 frzs:=fun c ob xs q=>b.frzs c ob xs (a.frzs c ob xs q)
 tbls:=fun c ps q=>by
  obtain ⟨m1,e1⟩:=a.tbls c ps q
  obtain ⟨m2,e2⟩:=b.tbls c _ e1
  exact ⟨m1 ++ m2,by rw [e2,Array.append_assoc]⟩
theorem Un.kept (k:∀ b u,h.get? b = some u -> h'.get? b = some u):Un fs ex H H h h':=
 ⟨fun b ob q _ _ _=>k b ob q,fun b ob q _ _ _=>⟨ob.slots,k b ob q⟩,fun _ _ _ n _=>n,fun b ob q _=>⟨ob,k b ob q⟩,fun _ _ q=>q,fun _ _ _ q=>q,fun _ ps q=>⟨#[],by rw [q]; simp⟩⟩
theorem Un.refl:Un fs ex H H h h:=Un.kept fun _ _ q=>q
theorem Un.laid (k:∀ b u,h.get? b = some u -> h'.get? b = some u) (hp:h.objs.size <= a) (hn:H a = none):Un fs ex H (upd H a o) h h' where
 keep:=fun b u q _ _ _=>k b u q
 slot:=fun b u q _ _ _=>⟨u.slots,k b u q⟩
 free:=fun b u q n _=>by rw [upd_ne (Nat.ne_of_lt (Nat.lt_of_lt_of_le (Heap.lt_size q) hp))]; exact n
 there:=fun b u q _=>⟨u,k b u q⟩
 tups:=fun b xs q=>by rw [upd_ne (ne_of_none q hn)]; exact q
 frzs:=fun b u xs q=>by rw [upd_ne (ne_of_none q hn)]; exact q
 tbls:=fun b ps q=>⟨#[],by rw [upd_ne (ne_of_none q hn),q]; simp⟩
theorem Un.write (mu:Mut (H x)) (he:e = x \/ H e = some (.own x)) (k:∀ b u,b ≠ e -> h.get? b = some u -> h'.get? b = some u) (heo:∃ u,h'.get? e = some u):Un fs ex H (upd H x o) h h':=by
 have hx:∀ b,H b = none -> b ≠ x:=fun b n z=>by subst z; rw [n] at mu; exact mu
 have hb:∀ b,H b = none -> b ≠ e:=fun b n z=>by
  subst z
  rcases he with r | r
  ·exact hx b n r
  ·rw [n] at r; cases r
 have hm:∀ b u,H b = some u -> ¬ Mut (some u) -> b ≠ x:=fun b u q nm z=>by subst z; rw [q] at mu; exact nm mu
 refine ⟨fun b u q n _ _=>k b u (hb b n) q,fun b u q n _ _=>⟨u.slots,k b u (hb b n) q⟩,fun b u q n _=>by rw [upd_ne (hx b n)]; exact n,fun b u q _=>?_,
  fun b xs q=>by rw [upd_ne (hm b _ q fun z=>z)]; exact q,fun b u xs q=>by rw [upd_ne (hm b _ q fun z=>z)]; exact q,fun b ps q=>⟨#[],by rw [upd_ne (hm b _ q fun z=>z),q]; simp⟩⟩
 by_cases hbe:b = e
 ·subst hbe; exact heo
 ·exact ⟨u,k b u hbe q⟩
theorem Un.mono (u:Un fs ex H H1 h h1) (hs:∀ b ∈ fs,b ∈ fs') (hx:∀ b ∈ ex,b ∈ ex'):Un fs' ex' H H1 h h1:=
 ⟨fun b ob q n hb he=>u.keep b ob q n (fun z=>hb (hs b z)) fun z=>he (hx b z),fun _ _ q n _ he=>u.any q n fun z=>he (hx _ z),fun b ob q n he=>u.free b ob q n fun z=>he (hx b z),fun b ob q he=>u.there b ob q fun z=>he (hx b z),u.tups,u.frzs,u.tbls⟩
end
noncomputable def trk (h:Heap) (H:Hp):List Addr:=(List.range h.objs.size).filter fun a=>(H a).isSome
noncomputable def hidT (h:Heap) (H:Hp):Heap:=PySem.W.hideAll h (trk h H)
theorem hidT_size (h:Heap) (H:Hp):(hidT h H).objs.size = h.objs.size:=PySem.W.hideAll_size _ _
theorem hidT_get {h:Heap} {H:Hp} {b:Addr} {o:Obj} (e:h.get? b = some o) (n:H b = none):(hidT h H).get? b = some o:=
 PySem.W.hideAll_get _ e fun hm=>by
  have q:(H b).isSome = true:=(List.mem_filter.mp hm).2
  rw [n] at q; simp at q
theorem of_hidT {h:Heap} {H:Hp} {b:Addr} {o:Obj} (e:(hidT h H).get? b = some o):h.get? b = some o /\ H b = none:=by
 have e':h.get? b = some o:=PySem.W.of_hideAll (trk h H) e
 refine ⟨e',?_⟩
 cases q:H b with
 | none=>rfl
 | some x=>
  have hm:b ∈ trk h H:=List.mem_filter.mpr ⟨List.mem_range.mpr (Heap.lt_size e'),by simp [q]⟩
  have z:(hidT h H).get? b = none:=PySem.W.hideAll_none (trk h H) hm
  rw [z] at e; cases e
noncomputable def allNews (g h:Heap) (L:Addr):List (Addr × Obj):=(List.range h.objs.size).filterMap fun a=>if a = L \/ (g.get? a).isSome = true then none else (h.get? a).map fun o=>(a,o)
noncomputable def rest (g h:Heap) (L d:Addr):List (Addr × Obj):=(allNews g h L).filter fun p=>decide (p.1 ≠ d)
structure Mod (K:Frag) (mg:Str -> Option Value) (base:Heap):Prop where
 kin:K.In base
 glob:base.Ns mainGlobals mg
 blt:∃ mb,base.Ns builtinsNs mb /\ ∀ x:Str,x ≠ "__name__" -> mb x = bootBuiltins x
 nolimit:base.NoLimit
structure Cx where
 prog:Program
 w:World
 K:Frag
 mg:Str -> Option Value
 base:Heap
 A:Around
 N:List Str
 s₀:Shared
 H₀:Hp
 env:Env
 outer:List Env
 stack:List Env
 ex:List Addr
 fn:Str -> Bool
 calm:Bool
 pn:List (Addr × Obj)
 xe:Value -> Shared -> Prop
noncomputable def frs (l:List Env):List Addr:=l.filterMap (·.frame)
noncomputable abbrev Cx.fs (X:Cx):List Addr:=frs X.outer
def Vis (sc:Scope) (x:Str):Prop:=sc.names.lookup x = some .local \/ sc.names.lookup x = some .cell \/ sc.names.lookup x = some .free
def Loc (sc:Scope) (x:Str):Prop:=sc.names.lookup x = some .local \/ sc.names.lookup x = some .cell
def Look (env:Env) (h:Heap) (m:Str -> Option Value) (x:Str) (u:Value):Prop:=
 (env.kindOf x = some .local /\ m x = some u) \/ ((env.kindOf x = some .cell \/ env.kindOf x = some .free) /\ ∃ c,env.cells.lookup x = some c /\ h.IsCell c (some u))
structure Cx.Ok (X:Cx):Prop where
 mod:Mod X.K X.mg X.base
 kind:X.env.scope.kind = .function
 glob:X.env.globals = mainGlobals
 blt:X.env.builtins = builtinsNs
 above:X.s₀.heap.objs.size <= X.env.locals
 inj:∀ x y c,X.env.cells.lookup x = some c -> X.env.cells.lookup y = some c -> x = y
 has:∀ x,(X.env.kindOf x = some .cell \/ X.env.kindOf x = some .free) -> ∃ c,X.env.cells.lookup x = some c
 cab:∀ x c,X.fn x = true -> X.env.cells.lookup x = some c -> X.s₀.heap.objs.size <= c
 hd:X.calm = true -> X.A.handled = none
 frames:X.A.frames = some X.stack
 stk:X.stack = X.outer \/ (X.stack = X.env :: X.outer /\ X.env.frame = some X.env.locals)
 exf:∀ b ∈ X.ex,b ≠ X.env.locals /\ ∀ x c,X.env.cells.lookup x = some c -> c ≠ b
 bs:∀ b o,X.base.get? b = some o -> X.s₀.heap.get? b = some o /\ X.H₀ b = none
 bsz:X.base.objs.size <= X.s₀.heap.objs.size
 noex:∀ b o,X.base.get? b = some o -> b ∉ X.ex
 exfs:∀ b ∈ X.ex,b ∉ X.fs
 funs:X.s₀.heap.FunFrames X.base X.outer
 frf:∀ b ∈ X.fs,X.H₀ b = none
structure Inv (X:Cx) (pins:List (Addr × Obj)) (σ:List (Option V)) (H:Hp) (s:Shared):Prop where
 ok:X.Ok
 os:s.os = X.s₀.os
 bare:AllBare s.gens
 base:Un X.fs X.ex X.H₀ H X.s₀.heap s.heap
 loc:∃ m,s.heap.Ns X.env.locals m /\ ∀ (i:Nat) (x:Str) (v:V),X.N[i]? = some x -> σ[i]? = some (some v) -> Vis X.env.scope x -> ∃ u,RelV v u /\ Look X.env s.heap m x u
 cell:∀ x c,X.env.cells.lookup x = some c -> ∃ v,s.heap.IsCell c v
 free:H X.env.locals = none
 freeC:∀ x c,X.env.cells.lookup x = some c -> H c = none
 pin:∀ p ∈ X.pn ++ pins,s.heap.get? p.1 = some p.2 /\ H p.1 = none /\ p.1 ≠ X.env.locals /\ p.1 ∉ X.fs /\ ∀ v,p.2.data ≠ .cell v
 hok:HOk X.prog X.w H s.heap
 len:σ.length = X.N.length
 tk:0 < s.toks
section
variable {X:Cx} {pins:List (Addr × Obj)} {σ:List (Option V)} {H H':Hp} {s:Shared} {h':Heap}
theorem Cx.Ok.nofr (ok:X.Ok) {b:Addr} {o:Obj} (e:X.base.get? b = some o):b ∉ X.fs:=fun hb=>by
 have:=(ok.funs.mem hb).1
 rw [e] at this; cases this
theorem Inv.bs (I:Inv X pins σ H s):∀ b o,X.base.get? b = some o -> s.heap.get? b = some o /\ H b = none:=fun b o e=>
 ⟨I.base.keep b o (I.ok.bs b o e).1 (I.ok.bs b o e).2 (I.ok.nofr e) (I.ok.noex b o e),I.base.free b o (I.ok.bs b o e).1 (I.ok.bs b o e).2 (I.ok.noex b o e)⟩
theorem Inv.bk (I:Inv X pins σ H s):∀ b o,X.base.get? b = some o -> s.heap.get? b = some o:=fun b o e=>(I.bs b o e).1
theorem Inv.mod (I:Inv X pins σ H s):Mod X.K X.mg X.base:=I.ok.mod
theorem Inv.kIn (I:Inv X pins σ H s):X.K.In s.heap:=I.ok.mod.kin.keeps I.bk
theorem Inv.nolimit (I:Inv X pins σ H s):s.heap.NoLimit:=I.ok.mod.nolimit.keeps I.bk
theorem Inv.fr (I:Inv X pins σ H s):∃ m,Fr X.base X.env.locals s.heap m:=
 let ⟨m,hn,_⟩:=I.loc
 ⟨m,hn,I.bk,Nat.le_trans I.ok.bsz I.ok.above⟩
theorem Inv.lt (I:Inv X pins σ H s):X.env.locals < s.heap.objs.size:=let ⟨_,hn,_⟩:=I.loc; hn.lt
theorem Inv.sz (I:Inv X pins σ H s):X.s₀.heap.objs.size <= s.heap.objs.size:=Nat.le_trans I.ok.above (Nat.le_of_lt I.lt)
theorem Inv.nofs (I:Inv X pins σ H s) {a:Addr} (h:s.heap.objs.size <= a):a ∉ X.fs:=fun hb=>by
 obtain ⟨_,o,ho,_⟩:=I.ok.funs.mem hb
 exact absurd (Nat.lt_of_lt_of_le (Heap.lt_size ho) (Nat.le_trans I.sz h)) (Nat.lt_irrefl _)
theorem Inv.cne (I:Inv X pins σ H s):∀ x c,X.env.cells.lookup x = some c -> c ≠ X.env.locals:=fun x c e z=>by
 obtain ⟨v,o,ho,hd⟩:=I.cell x c e
 obtain ⟨m,⟨o',es,ep,ho',hd',_⟩,_⟩:=I.loc
 rw [z,ho'] at ho; cases ho; rw [hd'] at hd; cases hd
theorem Inv.funs (I:Inv X pins σ H s):s.heap.FunFrames X.base X.outer:=by
 have all:∀ (l:List Env),(∀ b ∈ frs l,b ∈ X.fs) -> X.s₀.heap.FunFrames X.base l -> s.heap.FunFrames X.base l:=by
  intro l
  induction l with
  | nil=>intro _ _; trivial
  | cons env r ih=>
   intro hs hl
   obtain ⟨hk,⟨L,o,hf,hn,ho,hd⟩,hr⟩:=hl
   have hL:L ∈ X.fs:=hs L (by unfold frs; rw [List.filterMap_cons,hf]; exact List.mem_cons_self)
   obtain ⟨sl,e⟩:=I.base.slot L o ho (I.ok.frf L hL) hL fun z=>I.ok.exfs L z hL
   exact ⟨hk,⟨L,_,hf,hn,e,hd⟩,ih (fun b hb=>hs b (by unfold frs; rw [List.filterMap_cons,hf]; exact List.mem_cons_of_mem _ hb)) hr⟩
 exact all X.outer (fun _ hb=>hb) I.ok.funs
theorem Inv.stack (I:Inv X pins σ H s):s.heap.FunFrames X.base X.stack:=by
 rcases I.ok.stk with e | ⟨e,hf⟩
 ·rw [e]; exact I.funs
 ·rw [e]
  obtain ⟨m,hn,_⟩:=I.loc
  refine .cons (by rw [I.ok.kind]; decide) hf hn ?_ I.funs
  exact Heap.get?_none_of_le (Nat.le_trans I.ok.bsz I.ok.above)
theorem Inv.stkSub (I:Inv X pins σ H s):∀ b ∈ frs X.stack,b ∈ X.env.locals :: X.fs:=fun b hb=>by
 rcases I.ok.stk with e | ⟨e,hf⟩
 ·rw [e] at hb; exact List.mem_cons_of_mem _ hb
 ·rw [e] at hb
  unfold frs at hb
  rw [List.filterMap_cons,hf] at hb
  exact hb
theorem Inv.stkFree (I:Inv X pins σ H s):∀ b ∈ frs X.stack,H b = none:=fun b hb=>by
 rcases List.mem_cons.mp (I.stkSub b hb) with e | hb
 ·rw [e]; exact I.free
 ·obtain ⟨_,o,ho,_⟩:=I.ok.funs.mem hb
  exact I.base.free b o ho (I.ok.frf b hb) fun z=>I.ok.exfs b z hb
theorem Inv.step {g':Array GenState} {t':Nat} {d':Drawn} {ch:List Addr} (I:Inv X pins σ H s)
  (hch:∀ b ∈ ch,(b ∈ X.ex \/ X.s₀.heap.objs.size <= b) /\ b ≠ X.env.locals /\ (∀ x c,X.env.cells.lookup x = some c -> c ≠ b) /\ ∀ p ∈ X.pn ++ pins,p.1 ≠ b)
  (keep:∀ b o,b ≠ X.env.locals -> b ∉ X.fs -> b ∉ ch -> s.heap.get? b = some o -> H b = none -> h'.get? b = some o)
  (slot:∀ b o,b ≠ X.env.locals -> b ∈ X.fs -> b ∉ ch -> s.heap.get? b = some o -> H b = none -> ∃ sl,h'.get? b = some { o with slots:=sl }) (free:∀ b o,b ∉ ch -> s.heap.get? b = some o -> H b = none -> H' b = none)
  (there:∀ b o,b ∉ ch -> s.heap.get? b = some o -> ∃ o',h'.get? b = some o')
  (tups:∀ b xs,H b = some (.tup xs) -> H' b = some (.tup xs)) (frzs:∀ b o xs,H b = some (.frz o (.lst xs)) -> H' b = some (.frz o (.lst xs))) (tbls:∀ b ps,H b = some (.tbl ps) -> ∃ more,H' b = some (.tbl (ps ++ more)))
  (ns:∀ m,s.heap.Ns X.env.locals m -> h'.Ns X.env.locals m) (hok:HOk X.prog X.w H' h') (hg:AllBare g') (ht:0 < t':=by first | assumption | exact Nat.succ_pos _ | (apply Inv.tk; assumption) | omega):
  Inv X pins σ H' { s with heap:=h',gens:=g',drawn:=d',toks:=t' }:=by
 have neL:∀ b o,X.s₀.heap.get? b = some o -> b ≠ X.env.locals:=fun b o e=>Nat.ne_of_lt (Nat.lt_of_lt_of_le (Heap.lt_size e) I.ok.above)
 have neC:∀ b o,X.s₀.heap.get? b = some o -> b ∉ X.ex -> b ∉ ch:=fun b o e hx hb=>by
  rcases (hch b hb).1 with z | z
  ·exact hx z
  ·exact absurd (Nat.lt_of_lt_of_le (Heap.lt_size e) z) (Nat.lt_irrefl _)
 have cellK:∀ x c,X.env.cells.lookup x = some c -> ∀ v,s.heap.IsCell c v -> h'.IsCell c v:=fun x c e v ⟨o,ho,hd⟩=>by
  have nch:c ∉ ch:=fun z=>(hch c z).2.2.1 x c e rfl
  by_cases hc:c ∈ X.fs
  ·obtain ⟨sl,q⟩:=slot c o (I.cne x c e) hc nch ho (I.freeC x c e)
   exact ⟨_,q,hd⟩
  ·exact ⟨o,keep c o (I.cne x c e) hc nch ho (I.freeC x c e),hd⟩
 refine ⟨I.ok,I.os,hg,⟨fun b o e n hb hx=>?_,fun b o e n hb hx=>?_,fun b o e n hx=>?_,fun b o e hx=>?_,fun b xs e=>tups b xs (I.base.tups b xs e),fun b o xs e=>frzs b o xs (I.base.frzs b o xs e),fun b ps e=>?_⟩,?_,fun x c e=>?_,?_,fun x c e=>?_,fun p hp=>?_,hok,I.len,ht⟩
 ·exact keep b o (neL b o e) hb (neC b o e hx) (I.base.keep b o e n hb hx) (I.base.free b o e n hx)
 ·obtain ⟨sl,e1⟩:=I.base.slot b o e n hb hx
  obtain ⟨sl',e2⟩:=slot b _ (neL b o e) hb (neC b o e hx) e1 (I.base.free b o e n hx)
  exact ⟨sl',e2⟩
 ·obtain ⟨o',e1⟩:=I.base.there b o e hx
  exact free b o' (neC b o e hx) e1 (I.base.free b o e n hx)
 ·obtain ⟨o',e1⟩:=I.base.there b o e hx
  exact there b o' (neC b o e hx) e1
 ·obtain ⟨m1,e1⟩:=I.base.tbls b ps e
  obtain ⟨m2,e2⟩:=tbls b _ e1
  exact ⟨m1 ++ m2,by rw [e2,Array.append_assoc]⟩
 ·obtain ⟨m,hn,hl⟩:=I.loc
  refine ⟨m,ns m hn,fun i x v e1 e2 e3=>?_⟩
  obtain ⟨u,r,l⟩:=hl i x v e1 e2 e3
  refine ⟨u,r,?_⟩
  rcases l with l | ⟨k,c,e,z⟩
  ·exact .inl l
  ·exact .inr ⟨k,c,e,cellK x c e _ z⟩
 ·obtain ⟨v,z⟩:=I.cell x c e
  exact ⟨v,cellK x c e v z⟩
 ·obtain ⟨m,⟨o,_,_,ho,_⟩,_⟩:=I.loc
  exact free _ o (fun z=>(hch _ z).2.1 rfl) ho I.free
 ·obtain ⟨v,o,ho,hd⟩:=I.cell x c e
  exact free c o (fun z=>(hch c z).2.2.1 x c e rfl) ho (I.freeC x c e)
 ·obtain ⟨e,n,ne,nf,d⟩:=I.pin p hp
  have nch:p.1 ∉ ch:=fun z=>(hch p.1 z).2.2.2 p hp rfl
  exact ⟨keep p.1 p.2 ne nf nch e n,free p.1 p.2 nch e n,ne,nf,d⟩
theorem Inv.un {t':Nat} (I:Inv X pins σ H s) (u:Un X.fs [] H H' s.heap h') (hok:HOk X.prog X.w H' h') (ht:0 < t':=by first | assumption | exact Nat.succ_pos _ | (apply Inv.tk; assumption) | omega):Inv X pins σ H' { s with heap:=h',toks:=t' }:=by
 obtain ⟨m,⟨o,es,ep,ho,r⟩,_⟩:=id I.loc
 obtain ⟨sl,hL⟩:=u.any ho I.free (by simp)
 exact I.step (g':=s.gens) (d':=s.drawn) (ch:=[]) (fun _ z=>nomatch z) (fun b o _ hb _ e n=>u.keep b o e n hb (by simp)) (fun b o _ hb _ e n=>u.slot b o e n hb (by simp)) (fun b o _ e n=>u.free b o e n (by simp)) (fun b o _ e=>u.there b o e (by simp)) u.tups u.frzs u.tbls (fun m' hm=>by
  obtain ⟨o',es',ep',ho',r'⟩:=hm
  rw [ho] at ho'; cases ho'
  exact ⟨_,es',ep',hL,r'⟩) hok I.bare ht
theorem Inv.call {g':Array GenState} {t':Nat} {d':Drawn} {ch:List Addr} (I:Inv X pins σ H s) (u:Un (frs X.stack) ch H H' s.heap h') (hok:HOk X.prog X.w H' h') (hg:AllBare g')
  (hch:∀ b ∈ ch,(b ∈ X.ex \/ X.s₀.heap.objs.size <= b) /\ b ≠ X.env.locals /\ (∀ x c,X.env.cells.lookup x = some c -> c ≠ b) /\ ∀ p ∈ X.pn ++ pins,p.1 ≠ b) (ht:0 < t':=by first | assumption | exact Nat.succ_pos _ | (apply Inv.tk; assumption) | omega):
  Inv X pins σ H' { s with heap:=h',gens:=g',drawn:=d',toks:=t' }:=by
 obtain ⟨m,⟨o,es,ep,ho,r⟩,_⟩:=id I.loc
 obtain ⟨sl,hL⟩:=u.any ho I.free fun z=>(hch _ z).2.1 rfl
 exact I.step (ch:=ch) hch (fun b o hL hb hc e n=>u.keep b o e n (fun z=>(List.mem_cons.mp (I.stkSub b z)).elim hL hb) hc) (fun b o _ _ hc e n=>u.any e n hc) (fun b o hc e n=>u.free b o e n hc) (fun b o hc e=>u.there b o e hc) u.tups u.frzs u.tbls (fun m' hm=>by
  obtain ⟨o',es',ep',ho',r'⟩:=hm
  rw [ho] at ho'; cases ho'
  exact ⟨_,es',ep',hL,r'⟩) hok hg ht
theorem Inv.turned {t':Nat} {it:Addr} (I:Inv X pins σ H s) (k:∀ b o,b ≠ it -> s.heap.get? b = some o -> h'.get? b = some o) (hn:H it = none) (hL:it ≠ X.env.locals)
  (h1:it ∈ X.ex \/ X.s₀.heap.objs.size <= it) (h2:∀ x c,X.env.cells.lookup x = some c -> c ≠ it) (h3:∀ p ∈ X.pn ++ pins,p.1 ≠ it) (ht:0 < t':=by first | assumption | exact Nat.succ_pos _ | (apply Inv.tk; assumption) | omega):Inv X pins σ H { s with heap:=h',toks:=t' }:=by
 have nit:∀ b u,H b = some u -> b ≠ it:=fun b u e z=>by rw [z,hn] at e; cases e
 refine I.step (g':=s.gens) (d':=s.drawn) (ch:=[it]) (fun b hb=>?_) (fun b o _ _ hc e _=>k b o (fun z=>hc (by simp [z])) e) (fun b o _ _ hc e _=>⟨o.slots,k b o (fun z=>hc (by simp [z])) e⟩) (fun _ _ _ _ n=>n)
  (fun b o hc e=>⟨o,k b o (fun z=>hc (by simp [z])) e⟩) (fun _ _ e=>e) (fun _ _ _ e=>e) (fun b ps e=>⟨#[],by rw [e]; simp⟩) (fun m hm=>?_) (fun b u e=>?_) I.bare
 ·have e:b = it:=by simpa using hb
  subst e
  exact ⟨h1,hL,h2,h3⟩
 ·obtain ⟨o,es,ep,ho,r⟩:=hm
  exact ⟨o,es,ep,k _ o (Ne.symm hL) ho,r⟩
 ·refine (I.hok b u e).stay (fun c v hc q=>k c v ?_ q) (fun _ q=>q) fun _ _ q=>q
  rcases hc with z | z
  ·rw [z]; exact nit b u e
  ·exact nit c _ z
theorem Inv.tok (I:Inv X pins σ H s) (t:Nat) (ht:0 < t:=by first | assumption | exact Nat.succ_pos _ | (apply Inv.tk; assumption) | omega):Inv X pins σ H { s with toks:=t }:=I.un (h':=s.heap) (t':=t) Un.refl I.hok ht
theorem Inv.kept {t':Nat} (I:Inv X pins σ H s) (k:∀ b u,s.heap.get? b = some u -> h'.get? b = some u) (ht:0 < t':=by first | assumption | exact Nat.succ_pos _ | (apply Inv.tk; assumption) | omega):Inv X pins σ H { s with heap:=h',toks:=t' }:=I.un (Un.kept k) (I.hok.kept k) ht
theorem Inv.laid {a:Addr} {o:HO} {t':Nat} (I:Inv X pins σ H s) (k:∀ b u,s.heap.get? b = some u -> h'.get? b = some u) (hp:s.heap.objs.size <= a) (new:ObjOk X.prog X.w (upd H a o) h' a o) (ht:0 < t':=by first | assumption | exact Nat.succ_pos _ | (apply Inv.tk; assumption) | omega):
  Inv X pins σ (upd H a o) { s with heap:=h',toks:=t' }:=I.un (Un.laid k hp (I.hok.fresh hp)) (I.hok.laid k hp new) ht
theorem Inv.write {x e:Addr} {o:HO} {t':Nat} (I:Inv X pins σ H s) (mu:Mut (H x)) (he:e = x \/ H e = some (.own x)) (k:∀ b u,b ≠ e -> s.heap.get? b = some u -> h'.get? b = some u) (heo:∃ u,h'.get? e = some u)
  (new:ObjOk X.prog X.w (upd H x o) h' x o) (ht:0 < t':=by first | assumption | exact Nat.succ_pos _ | (apply Inv.tk; assumption) | omega):Inv X pins σ (upd H x o) { s with heap:=h',toks:=t' }:=I.un (Un.write mu he k heo) (I.hok.write mu he k heo new) ht
theorem Inv.weak {σ':List (Option V)} (I:Inv X pins σ H s) (hl:σ'.length = σ.length) (w:∀ (i:Nat) v,σ'[i]? = some (some v) -> σ[i]? = some (some v)):Inv X pins σ' H s:=
 ⟨I.ok,I.os,I.bare,I.base,let ⟨m,hn,hl'⟩:=I.loc; ⟨m,hn,fun i x v e1 e2 e3=>hl' i x v e1 (w i v e2) e3⟩,I.cell,I.free,I.freeC,I.pin,I.hok,hl.trans I.len,I.tk⟩
theorem Inv.pins_of {pins':List (Addr × Obj)} (I:Inv X pins σ H s) (h:∀ p ∈ pins',s.heap.get? p.1 = some p.2 /\ H p.1 = none /\ p.1 ≠ X.env.locals /\ p.1 ∉ X.fs /\ ∀ v,p.2.data ≠ .cell v):Inv X pins' σ H s:=
 ⟨I.ok,I.os,I.bare,I.base,I.loc,I.cell,I.free,I.freeC,fun p hp=>(List.mem_append.mp hp).elim (fun z=>I.pin p (List.mem_append_left _ z)) (h p),I.hok,I.len,I.tk⟩
theorem nodup_ix {N:List Str} (hN:N.Nodup) {i j:Nat} {x:Str} (a:N[i]? = some x) (b:N[j]? = some x):i = j:=by
 obtain ⟨h1,e1⟩:=List.getElem?_eq_some_iff.mp a
 obtain ⟨h2,e2⟩:=List.getElem?_eq_some_iff.mp b
 exact (List.getElem_inj hN).mp (e1.trans e2.symm)
theorem store_ok2 {M:Model} {A:Around} {E:Value -> Shared -> Prop} {i:Nat} {x:Str} {v:V} {u:Value} {Q:Unit -> Shared -> Prop} (I:Inv X pins σ H s) (hN:X.N.Nodup) (hi:X.N[i]? = some x) (hx:Loc X.env.scope x) (r:RelV v u)
  (h:∀ s',Inv X pins (σ.set i (some v)) H s' -> (∃ a,Heap.SameBut a s.heap s'.heap /\ (a = X.env.locals \/ X.env.cells.lookup x = some a)) -> Q () s') (hf:X.fn x = true \/ X.env.scope.names.lookup x = some .local:=by first | exact .inl rfl | exact .inr rfl | assumption):wpAny M A (storeName X.env x u) Q E s:=by
 obtain ⟨m,hn,hl⟩:=id I.loc
 have hcls:(X.env.scope.kind == .class || (X.env.scope.kind == .module && X.env.locals != X.env.globals)) = false:=by rw [I.ok.kind]; rfl
 have hiσ:i < σ.length:=by rw [I.len]; exact (List.getElem?_eq_some_iff.mp hi).1
 have cne:=I.cne
 have tracked:∀ {a:Addr} {h':Heap},(∃ o,s.heap.get? a = some o /\ H a = none) -> Heap.SameBut a s.heap h' -> HOk X.prog X.w H h':=fun {a h'} ha hs b ob e=>by
  obtain ⟨_,_,hfree⟩:=ha
  refine (I.hok b ob e).stay (fun c w' hc q=>(hs.2 c ?_).trans q) (fun _ q=>q) fun _ _ q=>q
  rintro rfl
  rcases hc with rfl | hc
  ·rw [hfree] at e; cases e
  ·rw [hfree] at hc; cases hc
 rcases hx with hk | hk
 ·refine wpAny_storeName_local hk hn (fun h' hn' hs=>?_) hcls
  obtain ⟨oL,_,_,hoL,_⟩:=id hn
  refine h _ ⟨I.ok,I.os,I.bare,⟨fun b o e n hb hx=>?_,fun b o e n hb hx=>?_,I.base.free,fun b o e hx=>?_,I.base.tups,I.base.frzs,I.base.tbls⟩,⟨_,hn',fun j y v' e1 e2 e3=>?_⟩,fun y c e=>?_,I.free,I.freeC,fun p hp=>?_,tracked ⟨oL,hoL,I.free⟩ hs,by simpa using I.len,(by first | exact Nat.succ_pos _ | exact I.tk)⟩ ⟨_,hs,.inl rfl⟩
  ·exact (hs.2 b (Nat.ne_of_lt (Nat.lt_of_lt_of_le (Heap.lt_size e) I.ok.above))).trans (I.base.keep b o e n hb hx)
  ·obtain ⟨sl,e1⟩:=I.base.slot b o e n hb hx
   exact ⟨sl,(hs.2 b (Nat.ne_of_lt (Nat.lt_of_lt_of_le (Heap.lt_size e) I.ok.above))).trans e1⟩
  ·obtain ⟨o',e1⟩:=I.base.there b o e hx
   exact ⟨o',(hs.2 b (Nat.ne_of_lt (Nat.lt_of_lt_of_le (Heap.lt_size e) I.ok.above))).trans e1⟩
  ·by_cases hj:j = i
   ·subst hj
    rw [hi] at e1; cases e1
    rw [List.getElem?_set_self hiσ] at e2
    cases e2
    exact ⟨u,r,.inl ⟨hk,by simp⟩⟩
   ·rw [List.getElem?_set_ne (Ne.symm hj)] at e2
    obtain ⟨u',r',q⟩:=hl j y v' e1 e2 e3
    refine ⟨u',r',?_⟩
    rcases q with ⟨k,e⟩ | ⟨k,c,e,z⟩
    ·refine .inl ⟨k,?_⟩
     have:y ≠ x:=fun e=>hj (nodup_ix hN e1 (e ▸ hi))
     simp [this,e]
    ·exact .inr ⟨k,c,e,z.sameBut hs (cne y c e)⟩
  ·obtain ⟨w',z⟩:=I.cell y c e
   exact ⟨w',z.sameBut hs (cne y c e)⟩
  ·obtain ⟨e,n,ne,nf,d⟩:=I.pin p hp
   exact ⟨(hs.2 p.1 ne).trans e,n,ne,nf,d⟩
 ·have hfn:X.fn x = true:=by
   rcases hf with z | z
   ·exact z
   ·rw [z] at hk; cases hk
  obtain ⟨c,hc⟩:=I.ok.has x (.inl hk)
  obtain ⟨w',z⟩:=I.cell x c hc
  refine wpAny_storeName_cell I.ok.kind hk hc z (fun h' hc' hs=>?_)
  obtain ⟨oc,hoc,hocd⟩:=id z
  refine h { s with heap:=h' } ⟨I.ok,I.os,I.bare,⟨fun b o e n hb hx=>?_,fun b o e n hb hx=>?_,I.base.free,fun b o e hx=>?_,I.base.tups,I.base.frzs,I.base.tbls⟩,⟨m,hn.sameBut hs (Ne.symm (cne x c hc)),fun j y v' e1 e2 e3=>?_⟩,fun y c' e=>?_,I.free,I.freeC,fun p hp=>?_,tracked ⟨oc,hoc,I.freeC x c hc⟩ hs,by simpa using I.len,I.tk⟩ ⟨c,hs,.inr hc⟩
  ·exact (hs.2 b (Nat.ne_of_lt (Nat.lt_of_lt_of_le (Heap.lt_size e) (I.ok.cab x c hfn hc)))).trans (I.base.keep b o e n hb hx)
  ·obtain ⟨sl,e1⟩:=I.base.slot b o e n hb hx
   exact ⟨sl,(hs.2 b (Nat.ne_of_lt (Nat.lt_of_lt_of_le (Heap.lt_size e) (I.ok.cab x c hfn hc)))).trans e1⟩
  ·obtain ⟨o',e1⟩:=I.base.there b o e hx
   exact ⟨o',(hs.2 b (Nat.ne_of_lt (Nat.lt_of_lt_of_le (Heap.lt_size e) (I.ok.cab x c hfn hc)))).trans e1⟩
  ·by_cases hj:j = i
   ·subst hj
    rw [hi] at e1; cases e1
    rw [List.getElem?_set_self hiσ] at e2
    cases e2
    exact ⟨u,r,.inr ⟨.inl hk,c,hc,hc'⟩⟩
   ·rw [List.getElem?_set_ne (Ne.symm hj)] at e2
    obtain ⟨u',r',q⟩:=hl j y v' e1 e2 e3
    refine ⟨u',r',?_⟩
    rcases q with q | ⟨k,c',e,z'⟩
    ·exact .inl q
    ·refine .inr ⟨k,c',e,z'.sameBut hs ?_⟩
     rintro rfl
     exact hj (nodup_ix hN e1 (I.ok.inj _ _ _ e hc ▸ hi))
  ·by_cases hcc:c' = c
   ·subst hcc; exact ⟨_,hc'⟩
   ·obtain ⟨w2,z2⟩:=I.cell y c' e
    exact ⟨w2,z2.sameBut hs hcc⟩
  ·obtain ⟨e,n,ne,nf,d⟩:=I.pin p hp
   refine ⟨(hs.2 p.1 ?_).trans e,n,ne,nf,d⟩
   intro q
   rw [q,hoc] at e
   have q':oc = p.2:=Option.some.inj e
   exact d w' (by rw [<- q']; exact hocd)
theorem store_ok {M:Model} {A:Around} {E:Value -> Shared -> Prop} {i:Nat} {x:Str} {v:V} {u:Value} {Q:Unit -> Shared -> Prop} (I:Inv X pins σ H s) (hN:X.N.Nodup) (hi:X.N[i]? = some x) (hx:Loc X.env.scope x) (r:RelV v u)
  (h:∀ s',Inv X pins (σ.set i (some v)) H s' -> Q () s') (hf:X.fn x = true \/ X.env.scope.names.lookup x = some .local:=by first | exact .inl rfl | exact .inr rfl | assumption):wpAny M A (storeName X.env x u) Q E s:=
 store_ok2 I hN hi hx r (fun s' I' _=>h s' I') hf
theorem Inv.call' {s':Shared} {ch:List Addr} (I:Inv X pins σ H s) (ho:s'.os = s.os) (u:Un (frs X.stack) ch H H' s.heap s'.heap) (hok:HOk X.prog X.w H' s'.heap) (hg:AllBare s'.gens)
  (hch:∀ b ∈ ch,(b ∈ X.ex \/ X.s₀.heap.objs.size <= b) /\ b ≠ X.env.locals /\ (∀ x c,X.env.cells.lookup x = some c -> c ≠ b) /\ ∀ p ∈ X.pn ++ pins,p.1 ≠ b) (ht:0 < s'.toks:=by first | assumption | exact Nat.succ_pos _ | (apply Inv.tk; assumption) | omega):Inv X pins σ H' s':=by
 obtain ⟨h',g',d',t',o'⟩:=s'
 have e:o' = s.os:=ho
 subst e
 exact I.call (g':=g') (t':=t') (d':=d') u hok hg hch ht
end
noncomputable abbrev XK:=Value -> Option Addr -> Hp -> Prop
noncomputable abbrev St:=List (Option V)
noncomputable abbrev VK:=V -> Hp -> Prop
noncomputable abbrev TE:=St -> Hp -> VK -> Prop
noncomputable abbrev TT:=St -> Hp -> (Bool -> Hp -> Prop) -> Prop
noncomputable abbrev TA:=St -> Hp -> (List V -> Hp -> Prop) -> Prop
structure Ends where
 nx:St -> Hp -> Prop
 rt:VK
 bk:St -> Hp -> Prop:=fun _ _=>False
 ct:St -> Hp -> Prop:=fun _ _=>False
noncomputable abbrev TS:=Ends -> St -> Hp -> Prop
def EP (X:Cx) (pins:List (Addr × Obj)) (σ:St) (Q:VK) (u:Value) (s':Shared):Prop:=∃ v H',Inv X pins σ H' s' /\ RelV v u /\ Q v H'
def TP (X:Cx) (pins:List (Addr × Obj)) (σ:St) (Q:Bool -> Hp -> Prop) (b:Bool) (s':Shared):Prop:=∃ H',Inv X pins σ H' s' /\ Q b H'
def AP (X:Cx) (pins:List (Addr × Obj)) (σ:St) (Q:List V -> Hp -> Prop) (us:List Value) (s':Shared):Prop:=∃ vs H',Inv X pins σ H' s' /\ Vals vs us /\ Q vs H'
def SP (X:Cx) (pins:List (Addr × Obj)) (D:Ends) (f:Flow) (s':Shared):Prop:=
 match f with
 | .next=>∃ σ' H',Inv X pins σ' H' s' /\ D.nx σ' H'
 | .brk=>∃ σ' H',Inv X pins σ' H' s' /\ D.bk σ' H'
 | .cont=>∃ σ' H',Inv X pins σ' H' s' /\ D.ct σ' H'
 | .ret u=>∃ v σ' H',Inv X pins σ' H' s' /\ RelV v u /\ D.rt v H'
def PE (X:Cx) (e:Expr) (t:TE):Prop:=
 ∀ (pins:List (Addr × Obj)) (s:Shared) (σ:St) (H:Hp) (Q:VK),Inv X pins σ H s -> t σ H Q -> wpAny (model X.prog X.w) X.A (eval e X.env) (EP X pins σ Q) X.xe s
def PT (X:Cx) (e:Expr) (t:TT):Prop:=
 ∀ (pins:List (Addr × Obj)) (s:Shared) (σ:St) (H:Hp) (Q:Bool -> Hp -> Prop),Inv X pins σ H s -> t σ H Q -> wpAny (model X.prog X.w) X.A (isTrue e X.env (eval e X.env)) (TP X pins σ Q) X.xe s
def PW (X:Cx) (e:Expr) (t:TT):Prop:=
 ∀ (whole:Sem Value) (pins:List (Addr × Obj)) (s:Shared) (σ:St) (H:Hp) (Q:Bool -> Hp -> Prop),Inv X pins σ H s -> t σ H Q -> wpAny (model X.prog X.w) X.A (isTrue e X.env whole) (TP X pins σ Q) X.xe s
theorem PW.pt {X:Cx} {e:Expr} {t:TT} (h:PW X e t):PT X e t:=h _
def PA (X:Cx) (es:List Expr) (t:TA):Prop:=
 ∀ (pos:Pos) (pins:List (Addr × Obj)) (s:Shared) (σ:St) (H:Hp) (Q:List V -> Hp -> Prop),Inv X pins σ H s -> t σ H Q -> wpAny (model X.prog X.w) X.A (spliced (backTo pos (starEach es X.env))) (AP X pins σ Q) X.xe s
def PS (X:Cx) (st:Stmt) (t:TS):Prop:=
 ∀ (pins:List (Addr × Obj)) (s:Shared) (σ:St) (H:Hp) (D:Ends),Inv X pins σ H s -> t D σ H -> wpAny (model X.prog X.w) X.A (exec st X.env) (SP X pins D) X.xe s
def PSs (X:Cx) (st:List Stmt) (t:TS):Prop:=
 ∀ (pins:List (Addr × Obj)) (s:Shared) (σ:St) (H:Hp) (D:Ends),Inv X pins σ H s -> t D σ H -> wpAny (model X.prog X.w) X.A (execs st X.env) (SP X pins D) X.xe s
theorem thn {α:Type} {t:Sem α} {Q Q':α -> Shared -> Prop} {M:Model} {A:Around} {E:Value -> Shared -> Prop} {s:Shared} (h:wpAny M A t Q E s) (hQ:∀ a s,Q a s -> Q' a s):wpAny M A t Q' E s:=wpAny_mono h hQ fun _ _ x=>x
theorem tokQ {α:Type} {t:Sem α} {Q:α -> Shared -> Prop} {M:Model} {A:Around} {E:Value -> Shared -> Prop} {s:Shared} (h0:0 < s.toks) (h:wpAny M A t (fun a s'=>0 < s'.toks -> Q a s') E s):wpAny M A t Q E s:=
 wpAny_mono (wpAny_toks_of (n:=1) h0 h) (fun _ _ z=>z.2 z.1) fun _ _ z=>z.2
section
variable {X:Cx}
noncomputable def tVar (i:Nat):TE:=fun σ H Q=>∃ v,σ[i]? = some (some v) /\ Q v H
noncomputable def tC (v:V):TE:=fun _ H Q=>Q v H
theorem pe_var {i:Nat} {x:Str} {pos:Pos} (hN:X.N[i]? = some x) (hv:Vis X.env.scope x) (hd:(x == ("__debug__" : Str)) = false:=by decide) (hcd:(x == ("__classdict__" : Str)) = false:=by decide):PE X (.Name x pos) (tVar i):=by
 intro pins s σ H Q I h
 obtain ⟨v,e,h⟩:=h
 obtain ⟨m,hn,hl⟩:=I.loc
 obtain ⟨u,r,l⟩:=hl i x v hN e hv
 have fin:EP X pins σ Q u s:=⟨v,H,I,r,h⟩
 rcases l with ⟨hk,hm⟩ | ⟨hk,c,hc,hcell⟩
 ·exact wpAny_Name (wpAny_loadName_local I.ok.kind hk hn hm fin) hd
 ·rcases hk with hk | hk
  ·exact wpAny_Name (wpAny_loadName_cell I.ok.kind hk hc hcell fin) hd
  ·exact wpAny_Name (wpAny_loadName_free I.ok.kind hk hc hcell fin hcd) hd
theorem pe_int {i j pos}:PE X (.Constant (.int i) j pos) (tC (.int i)):=fun _ _ _ H _ I h=>wpAny_Constant_int ⟨.int i,H,I.tok _,⟨_,rfl⟩,h⟩
theorem pe_bl {b j pos}:PE X (.Constant (.bool b) j pos) (tC (.bl b)):=fun _ _ _ H _ I h=>Constant_bool ⟨.bl b,H,I,rfl,h⟩
theorem pe_non {j pos}:PE X (.Constant .none j pos) (tC .non):=fun _ _ _ H _ I h=>Constant_none ⟨.non,H,I,rfl,h⟩
theorem pe_str {x j pos}:PE X (.Constant (.str x) j pos) (tC (.str x)):=fun _ _ _ H _ I h=>Calls.Constant_str ⟨.str x,H,I.tok _,⟨_,rfl⟩,h⟩
def Gl (X:Cx) (x:Str):Prop:=X.env.kindOf x = some .globalImplicit
theorem ld_glob {E:Value -> Shared -> Prop} {pins:List (Addr × Obj)} {s:Shared} {σ:St} {H:Hp} {x:Str} {u:Value} {pos:Pos} {Q:Value -> Shared -> Prop} (I:Inv X pins σ H s) (hg:Gl X x) (hm:X.mg x = some u) (h:Q u s)
  (hd:(x == ("__debug__" : Str)) = false:=by decide):wpAny (model X.prog X.w) X.A (eval (.Name x pos) X.env) Q E s:=
 Calls.Name_function_global I.ok.kind hg (Calls.loadGlobal_global (by rw [I.ok.glob]; exact I.mod.glob.keeps I.bk) hm h) hd
theorem ld_blt {E:Value -> Shared -> Prop} {pins:List (Addr × Obj)} {s:Shared} {σ:St} {H:Hp} {x:Str} {u:Value} {pos:Pos} {Q:Value -> Shared -> Prop} (I:Inv X pins σ H s) (hg:Gl X x) (hm:X.mg x = none) (hv:bootBuiltins x = some u) (h:Q u s)
  (hn:x ≠ "__name__" := by decide) (hd:(x == ("__debug__" : Str)) = false:=by decide):wpAny (model X.prog X.w) X.A (eval (.Name x pos) X.env) Q E s:=by
 obtain ⟨mb,h1,h2⟩:=I.mod.blt
 exact Calls.Name_function_global I.ok.kind hg (Calls.loadGlobal_builtin (by rw [I.ok.glob]; exact I.mod.glob.keeps I.bk) hm (by rw [I.ok.blt]; exact h1.keeps I.bk) ((h2 x hn).trans hv) h) hd
theorem pe_glob {x:Str} {v:V} {u:Value} {pos:Pos} (hg:Gl X x) (hm:X.mg x = some u) (r:RelV v u) (hd:(x == ("__debug__" : Str)) = false:=by decide):PE X (.Name x pos) (tC v):=
 fun _ _ _ H _ I h=>ld_glob I hg hm ⟨v,H,I,r,h⟩ hd
theorem pe_bltn {x:Str} {v:V} {u:Value} {pos:Pos} (hg:Gl X x) (hm:X.mg x = none) (hv:bootBuiltins x = some u) (r:RelV v u) (hn:x ≠ "__name__" := by decide) (hd:(x == ("__debug__" : Str)) = false:=by decide):PE X (.Name x pos) (tC v):=
 fun _ _ _ H _ I h=>ld_blt I hg hm hv ⟨v,H,I,r,h⟩ hn hd
variable {a b:Expr} {ta tb:TE} {pos:Pos}
def PC (X:Cx) (op:CmpOp) (a b:Expr) (t:TE):Prop:=
 ∀ (pins:List (Addr × Obj)) (s:Shared) (σ:St) (H:Hp) (Q:VK),Inv X pins σ H s -> t σ H Q ->
  wpAny (model X.prog X.w) X.A (eval a X.env) (fun v s₁=>wpAny (model X.prog X.w) X.A (eval b X.env) (fun u s₂=>wpAny (model X.prog X.w) X.A (compareOp op v u) (EP X pins σ Q) X.xe s₂) X.xe s₁) X.xe s
theorem nobehind (b:Expr) {op:CmpOp} (h:op ≠ .In) (h2:op ≠ .NotIn):behindInMarks op b = false:=by
 have e1:(op == CmpOp.In) = false:=by cases op <;> first | rfl | exact absurd rfl h
 have e2:(op == CmpOp.NotIn) = false:=by cases op <;> first | rfl | exact absurd rfl h2
 cases b <;> simp [behindInMarks,e1,e2]
noncomputable def tB (t:TE):TT:=fun σ H Q=>t σ H fun x H1=>∃ c,x = .bl c /\ Q c H1
theorem pt_cmp {op:CmpOp} {t:TE} (h:PC X op a b t) (h1:behindInMarks op b = false:=by first | exact nobehind _ (by decide) (by decide) | rfl):PT X (.Compare a [op] [b] pos) (tB t):=by
 intro pins s σ H Q I hw
 refine wpAny_isTrue_Compare1 (thn (h pins s σ H _ I hw) fun v s1 h1=>thn h1 fun u s2 h2=>thn h2 fun c s3 ⟨x,H1,I1,r1,q1⟩=>?_) h1
 obtain ⟨d,rfl,q⟩:=q1
 cases r1
 exact wpAny_truthy_bool ⟨H1,I1,q⟩
theorem pt_val {e:Expr} {t:TE} (h:PE X e t) (he:∀ whole,isTrue e X.env whole = (do let v <- whole; standAt e.pos; holding [v] (truthy v)):=by intro _; rfl):PT X e (tB t):=by
 intro pins s σ H Q I hw
 refine isTrue_plain (thn (h pins s σ H _ I hw) fun v s1 ⟨x,H1,I1,r1,q1⟩=>?_) (he _)
 obtain ⟨d,rfl,q⟩:=q1
 cases r1
 exact wpAny_truthy_bool ⟨H1,I1,q⟩
variable {tA tB':TT} {rest:List Expr}
noncomputable def tAnd (t u:TT):TT:=fun σ H Q=>t σ H fun c H1=>if c = true then u σ H1 Q else Q false H1
noncomputable def tOr (t u:TT):TT:=fun σ H Q=>t σ H fun c H1=>if c = true then Q true H1 else u σ H1 Q
noncomputable def tNot (t:TT):TT:=fun σ H Q=>t σ H fun c H1=>Q (!c) H1
theorem pw_and1 (ha:PT X a tA):PW X (.BoolOp .And [a] pos) tA:=by
 intro wh pins s σ H Q I h
 refine isTrue_and (thn (ha pins s σ H Q I h) fun c s1 e=>?_)
 cases c with
 | true=>exact isTrue_and_nil e
 | false=>exact e
theorem pw_or1 (ha:PT X a tA):PW X (.BoolOp .Or [a] pos) tA:=by
 intro wh pins s σ H Q I h
 refine isTrue_or (thn (ha pins s σ H Q I h) fun c s1 e=>?_)
 cases c with
 | false=>exact isTrue_or_nil e
 | true=>exact e
theorem pw_and (ha:PT X a tA) (hb:PW X (.BoolOp .And (b :: rest) pos) tB'):PW X (.BoolOp .And (a :: b :: rest) pos) (tAnd tA tB'):=by
 intro wh pins s σ H Q I h
 refine isTrue_and (thn (ha pins s σ H _ I h) fun c s1 ⟨H1,I1,q1⟩=>?_)
 cases c with
 | true=>exact hb wh pins s1 σ H1 Q I1 q1
 | false=>exact ⟨H1,I1,q1⟩
theorem pw_or (ha:PT X a tA) (hb:PW X (.BoolOp .Or (b :: rest) pos) tB'):PW X (.BoolOp .Or (a :: b :: rest) pos) (tOr tA tB'):=by
 intro wh pins s σ H Q I h
 refine isTrue_or (thn (ha pins s σ H _ I h) fun c s1 ⟨H1,I1,q1⟩=>?_)
 cases c with
 | true=>exact ⟨H1,I1,q1⟩
 | false=>exact hb wh pins s1 σ H1 Q I1 q1
theorem pt_not (ha:PT X a tA):PT X (.UnaryOp .Not a pos) (tNot tA):=by
 intro pins s σ H Q I h
 exact isTrue_not (ha pins s σ H (fun c H1=>Q (!c) H1) I h)
noncomputable def tAndV (ta tb:TE):TE:=fun σ H Q=>ta σ H fun x H1=>∃ c,x = .bl c /\ if c = true then tb σ H1 Q else Q (.bl false) H1
theorem pe_one {op} {t:TE} (h:PE X a t):PE X (.BoolOp op [a] pos) t:=fun pins s σ H Q I hw=>BoolOp_one (h pins s σ H Q I hw)
theorem pe_and (ha:PE X a ta) (hb:PE X (.BoolOp .And (b :: rest) pos) tb):PE X (.BoolOp .And (a :: b :: rest) pos) (tAndV ta tb):=by
 intro pins s σ H Q I h
 refine BoolOp_and (thn (ha pins s σ H _ I h) fun v s1 ⟨x,H1,I1,r1,q1⟩=>?_)
 obtain ⟨c,rfl,q1⟩:=q1
 cases r1
 refine wpAny_truthy_bool ?_
 cases c with
 | true=>exact hb pins s1 σ H1 Q I1 q1
 | false=>exact ⟨.bl false,H1,I1,rfl,q1⟩
end
def SqL (K:Frag) (H:Hp) (a:Addr) (xs:List V):Prop:=
 Rd H a (.lst xs) \/
  ∃ (o:Obj) (its:Array Value) (n:Nat),K.lookup a = some o /\ o.cls = .type "list" /\ o.dict = none /\ o.data = .seq its n /\ its.size <= sizeLine /\ Vals xs its.toList
def SqT (K:Frag) (H:Hp) (a:Addr) (xs:List V):Prop:=
 Rd H a (.tup xs) \/
  ∃ (o:Obj) (its:Array Value) (n:Nat),K.lookup a = some o /\ o.cls = .type "tuple" /\ o.data = .seq its n /\ its.size <= sizeLine /\ Vals xs its.toList
noncomputable def absV:Value -> Option V
 | .none=>some .non
 | .bool b=>some (.bl b)
 | .int i _=>some (.int i)
 | .str x _=>some (.str x)
 | .bytes b _=>some (.byt b)
 | .float b _=>some (.flt b)
 | .ref a=>some (.ref a)
 | .type n=>some (.ty n)
 | _=>none
theorem RelV.abs {x:V} {u:Value} (r:RelV x u):absV u = some x:=by
 cases x with
 | non=>cases r; rfl
 | bl _=>cases r; rfl
 | int _=>obtain ⟨t,rfl⟩:=r; rfl
 | str _=>obtain ⟨t,rfl⟩:=r; rfl
 | byt _=>obtain ⟨t,rfl⟩:=r; rfl
 | flt _=>obtain ⟨t,rfl⟩:=r; rfl
 | ref _=>cases r; rfl
 | ty _=>cases r; rfl
theorem RelV.inj {x y:V} {u:Value} (r:RelV x u) (q:RelV y u):x = y:=Option.some.inj (r.abs.symm.trans q.abs)
theorem Vals.inj:∀ {xs ys:List V} {us:List Value},Vals xs us -> Vals ys us -> xs = ys
 | _,_,_,.nil,.nil=>rfl
 | _,_,_,.cons r t,.cons r' t'=>by rw [r.inj r',Vals.inj t t']
section
variable {X:Cx} {pins:List (Addr × Obj)} {σ:St} {H:Hp} {s:Shared} {a:Addr} {xs ys:List V}
theorem SqL.of {K:Frag} (h:H a = some (.lst xs)):SqL K H a xs:=.inl (.inl h)
theorem SqT.of {K:Frag} (h:H a = some (.tup xs)):SqT K H a xs:=.inl (.inl h)
theorem Inv.list (I:Inv X pins σ H s) (h:SqL X.K H a xs):∃ its:List Value,Vals xs its /\ PlainL s.heap a its.toArray /\ xs.length <= sizeLine:=by
 rcases h with h | ⟨o,its,n,hk,hc,hd,hs,hz,r⟩
 ·obtain ⟨z,its,n,r,e⟩:=h.ok I.hok
  exact ⟨its,r,⟨_,n,e,rfl,rfl,rfl⟩,z⟩
 ·refine ⟨its.toList,r,⟨o,n,I.kIn a o hk,hc,hd,by simpa using hs⟩,?_⟩
  have e:=r.length
  simp only [Array.length_toList] at e
  omega
theorem Inv.tuple (I:Inv X pins σ H s) (h:SqT X.K H a xs):∃ its:List Value,Vals xs its /\ IsTup s.heap a its.toArray /\ xs.length <= sizeLine:=by
 rcases h with h | ⟨o,its,n,hk,hc,hs,hz,r⟩
 ·obtain ⟨z,its,r,p⟩:=h.ok I.hok
  exact ⟨its,r,p,z⟩
 ·refine ⟨its.toList,r,⟨o,I.kIn a o hk,hc,n,by simpa using hs⟩,?_⟩
  have e:=r.length
  simp only [Array.length_toList] at e
  omega
theorem Inv.list_inj (I:Inv X pins σ H s) (h:SqL X.K H a xs) (h':SqL X.K H a ys):xs = ys:=by
 obtain ⟨its,r,⟨o,n,e,_,_,d⟩,_⟩:=I.list h
 obtain ⟨its',r',⟨o',n',e',_,_,d'⟩,_⟩:=I.list h'
 rw [e] at e'; cases e'
 rw [d] at d'
 injection d' with d1 _
 have:its = its':=by simpa using congrArg Array.toList d1
 subst this
 exact r.inj r'
theorem Inv.tuple_inj (I:Inv X pins σ H s) (h:SqT X.K H a xs) (h':SqT X.K H a ys):xs = ys:=by
 obtain ⟨its,r,⟨o,e,_,n,d⟩,_⟩:=I.tuple h
 obtain ⟨its',r',⟨o',e',_,n',d'⟩,_⟩:=I.tuple h'
 rw [e] at e'; cases e'
 rw [d] at d'
 injection d' with d1 _
 have:its = its':=by simpa using congrArg Array.toList d1
 subst this
 exact r.inj r'
end
noncomputable abbrev Cx.wish (X:Cx) (E:Value -> Shared -> Prop):Cx:={ X with xe:=E }
noncomputable abbrev Cx.nox (X:Cx):Cx:=X.wish fun _ _=>False
theorem Cx.Ok.wish {X:Cx} (ok:X.Ok) (E:Value -> Shared -> Prop):(X.wish E).Ok:=
 ⟨ok.mod,ok.kind,ok.glob,ok.blt,ok.above,ok.inj,ok.has,ok.cab,ok.hd,ok.frames,ok.stk,ok.exf,ok.bs,ok.bsz,ok.noex,ok.exfs,ok.funs,ok.frf⟩
theorem Cx.Ok.unwish {X:Cx} {E:Value -> Shared -> Prop} (ok:(X.wish E).Ok):X.Ok:=
 ⟨ok.mod,ok.kind,ok.glob,ok.blt,ok.above,ok.inj,ok.has,ok.cab,ok.hd,ok.frames,ok.stk,ok.exf,ok.bs,ok.bsz,ok.noex,ok.exfs,ok.funs,ok.frf⟩
section
variable {X:Cx} {pins:List (Addr × Obj)} {σ:St} {H:Hp} {s:Shared} {E:Value -> Shared -> Prop}
theorem Inv.wish (I:Inv X pins σ H s) (E:Value -> Shared -> Prop):Inv (X.wish E) pins σ H s:=⟨I.ok.wish E,I.os,I.bare,I.base,I.loc,I.cell,I.free,I.freeC,I.pin,I.hok,I.len,I.tk⟩
theorem Inv.unwish (I:Inv (X.wish E) pins σ H s):Inv X pins σ H s:=⟨I.ok.unwish,I.os,I.bare,I.base,I.loc,I.cell,I.free,I.freeC,I.pin,I.hok,I.len,I.tk⟩
theorem SP.unwish {D:Ends} {f:Flow} {s':Shared} (h:SP (X.wish E) pins D f s'):SP X pins D f s':=by
 cases f with
 | next=>obtain ⟨σ',H',I,q⟩:=h; exact ⟨σ',H',I.unwish,q⟩
 | brk=>obtain ⟨σ',H',I,q⟩:=h; exact ⟨σ',H',I.unwish,q⟩
 | cont=>obtain ⟨σ',H',I,q⟩:=h; exact ⟨σ',H',I.unwish,q⟩
 | ret u=>obtain ⟨v,σ',H',I,r,q⟩:=h; exact ⟨v,σ',H',I.unwish,r,q⟩
theorem PE.nox {e:Expr} {t:TE} (h:PE X.nox e t):PE X e t:=fun pins s σ H Q I hw=>
 wpAny_mono (h pins s σ H Q (I.wish _) hw) (fun _ _ ⟨v,H',I',r,q⟩=>⟨v,H',I'.unwish,r,q⟩) fun _ _ z=>False.elim z
theorem PT.nox {e:Expr} {t:TT} (h:PT X.nox e t):PT X e t:=fun pins s σ H Q I hw=>
 wpAny_mono (h pins s σ H Q (I.wish _) hw) (fun _ _ ⟨H',I',q⟩=>⟨H',I'.unwish,q⟩) fun _ _ z=>False.elim z
theorem PSs.nox {st:List Stmt} {t:TS} (h:PSs X.nox st t):PSs X st t:=fun pins s σ H D I hw=>
 wpAny_mono (h pins s σ H D (I.wish _) hw) (fun _ _ q=>q.unwish) fun _ _ z=>False.elim z
end
section
variable {X:Cx} {st:Stmt} {rest:List Stmt} {t u:TS} {e:Expr} {te:TE} {pos:Pos}
noncomputable def tNext:TS:=fun D σ H=>D.nx σ H
noncomputable def tSeq (t u:TS):TS:=fun D σ H=>t { D with nx:=u D } σ H
theorem pss_nil:PSs X [] tNext:=fun _ _ σ H _ I h=>wpAny_execs_nil ⟨σ,H,I,h⟩
theorem pss_cons (h1:PS X st t) (h2:PSs X rest u):PSs X (st :: rest) (tSeq t u):=by
 intro pins s σ H D I h
 refine wpAny_execs_cons (thn (h1 pins s σ H { D with nx:=u D } I h) fun f s1 q=>?_)
 cases f with
 | next=>
  obtain ⟨σ',H',I',q⟩:=q
  exact h2 pins s1 σ' H' D I' q
 | ret v=>exact q
 | brk=>exact q
 | cont=>exact q
theorem pss_one (h1:PS X st t):PSs X [st] t:=by
 intro pins s σ H D I h
 refine wpAny_execs_cons (thn (h1 pins s σ H D I h) fun f s1 q=>?_)
 cases f with
 | next=>exact wpAny_execs_nil q
 | ret v=>exact q
 | brk=>exact q
 | cont=>exact q
theorem Inv.quiet {pins:List (Addr × Obj)} {σ:St} {H:Hp} {s:Shared} (I:Inv X pins σ H s):interactive X.env = false:=by simp [interactive,I.ok.kind]
noncomputable def tDrop (te:TE):TS:=fun D σ H=>te σ H fun _ H1=>D.nx σ H1
theorem ps_expr (he:PE X e te) (hs:swapsWith e none pos.line X.env = pure false:=by rfl):PS X (.Expr e pos) (tDrop te):=by
 intro pins s σ H D I h
 exact wpAny_Expr_any (thn (he pins s σ H _ I h) fun v s1 ⟨x,H1,I1,r1,q1⟩=>⟨σ,H1,I1,q1⟩) I.quiet hs
noncomputable def tRet (te:TE):TS:=fun D σ H=>te σ H D.rt
theorem ps_ret (he:PE X e te):PS X (.Return (some e) pos) (tRet te):=by
 intro pins s σ H D I h
 exact wpAny_Return_some (thn (he pins s σ H _ I h) fun v s1 ⟨x,H1,I1,r1,q1⟩=>⟨x,σ,H1,I1,r1,q1⟩)
noncomputable def tIfS (c:TT) (t u:TS):TS:=fun D σ H=>c σ H fun b H1=>if b = true then t D σ H1 else u D σ H1
theorem ps_if {c:Expr} {a b:List Stmt} {tc:TT} (hc:PT X c tc) (ha:PSs X a t) (hb:PSs X b u):PS X (.If c a b pos) (tIfS tc t u):=by
 intro pins s σ H D I h
 refine wpAny_If (thn (hc pins s σ H _ I h) fun d s1 ⟨H1,I1,q1⟩=>?_)
 cases d with
 | true=>exact ha pins s1 σ H1 D I1 q1
 | false=>exact hb pins s1 σ H1 D I1 q1
end
noncomputable abbrev TG:=V -> St -> Hp -> (St -> Hp -> Prop) -> Prop
noncomputable abbrev TGs:=List V -> St -> Hp -> (St -> Hp -> Prop) -> Prop
def PG (X:Cx) (target:Expr) (t:TG):Prop:=
 ∀ (pins:List (Addr × Obj)) (s:Shared) (σ:St) (H:Hp) (v:V) (u:Value) (Q:St -> Hp -> Prop),Inv X pins σ H s -> RelV v u -> t v σ H Q ->
  wpAny (model X.prog X.w) X.A (assign target X.env u) (fun _ s'=>∃ σ' H',Inv X pins σ' H' s' /\ Q σ' H') X.xe s
def PGs (X:Cx) (ts:List Expr) (t:TGs):Prop:=
 ∀ (pins:List (Addr × Obj)) (s:Shared) (σ:St) (H:Hp) (vs:List V) (us:List Value) (Q:St -> Hp -> Prop),Inv X pins σ H s -> Vals vs us -> t vs σ H Q ->
  wpAny (model X.prog X.w) X.A (assignInOrder ((assignEach ts X.env).map (·.2)) us) (fun _ s'=>∃ σ' H',Inv X pins σ' H' s' /\ Q σ' H') X.xe s
noncomputable abbrev TSet:=V -> V -> V -> Hp -> (Hp -> Prop) -> Prop
def PSet (X:Cx) (t:TSet):Prop:=
 ∀ (pins:List (Addr × Obj)) (s:Shared) (σ:St) (H:Hp) (o i v:V) (ov iv u:Value) (Q:Hp -> Prop),Inv X pins σ H s -> RelV o ov -> RelV i iv -> RelV v u -> t o i v H Q ->
  wpAny (model X.prog X.w) X.A (setItem ov iv u) (fun _ s'=>∃ H',Inv X pins σ H' s' /\ Q H') X.xe s
section
variable {X:Cx} {pos:Pos}
noncomputable def gName (i:Nat):TG:=fun v σ H Q=>Q (σ.set i (some v)) H
theorem pg_name {i:Nat} {x:Str} (hN:X.N.Nodup) (hi:X.N[i]? = some x) (hx:Loc X.env.scope x) (hf:X.fn x = true \/ X.env.scope.names.lookup x = some .local:=by first | exact .inl rfl | exact .inr rfl | assumption):PG X (.Name x pos) (gName i):=by
 intro pins s σ H v u Q I r h
 exact wpAny_assign_Name (store_ok I hN hi hx r (fun s' I'=>⟨_,H,I',h⟩) hf)
noncomputable def gNil:TGs:=fun vs σ H Q=>vs = [] /\ Q σ H
noncomputable def gCons (t:TG) (u:TGs):TGs:=fun vs σ H Q=>∃ v r,vs = v :: r /\ t v σ H fun σ' H'=>u r σ' H' Q
theorem pgs_nil:PGs X [] gNil:=by
 intro pins s σ H vs us Q I r h
 obtain ⟨e,h⟩:=h
 subst e
 cases r
 exact assignInOrder_nil ⟨σ,H,I,h⟩
theorem pgs_cons {e:Expr} {es:List Expr} {t:TG} {u:TGs} (h1:PG X e t) (h2:PGs X es u)
  (hs:(assignEach (e :: es) X.env).map (·.2) = assign e X.env :: (assignEach es X.env).map (·.2):=by rfl):PGs X (e :: es) (gCons t u):=by
 intro pins s σ H vs us Q I r h
 obtain ⟨v,vr,e1,h⟩:=h
 subst e1
 cases r with
 | cons r rr=>
  rw [hs]
  refine assignInOrder_cons (thn (h1 pins s σ H _ _ _ I r h) fun _ s1 ⟨σ1,H1,I1,q1⟩=>?_)
  exact h2 pins s1 σ1 H1 _ _ Q I1 rr q1
noncomputable def gTup (K:Frag) (n:Nat) (t:TGs):TG:=fun v σ H Q=>∃ a xs,v = .ref a /\ SqT K H a xs /\ xs.length = n /\ t xs σ H Q
theorem pg_tup {es:List Expr} {k:Nat} {t:TGs} {n:Nat} (hc:X.calm = true) (h:PGs X es t)
  (hn:(assignEach es X.env).length = n:=by rfl) (hst:(assignEach es X.env).findIdx? (·.1) = none:=by rfl):PG X (.Tuple es k pos) (gTup X.K n t):=by
 intro pins s σ H v u Q I r hw
 obtain ⟨a,xs,e1,hq,hl,hw⟩:=hw
 subst e1
 cases r
 obtain ⟨its,rv,ht,hz⟩:=I.tuple hq
 refine assign_Tuple_tuple (I.ok.hd hc) ht (by simp [hn,<- hl,rv.length]) hst fun h' hx=>?_
 have I1:Inv X pins σ H { s with heap:=h' }:=I.kept (t':=s.toks) fun b o e=>hx b o (Nat.ne_of_lt (Heap.lt_size e)) e
 exact h pins _ σ H xs _ Q I1 (by simpa using rv) hw
noncomputable def gSub (to ti:TE) (t:TSet):TG:=fun v σ H Q=>to σ H fun o H1=>ti σ H1 fun i H2=>t o i v H2 fun H3=>Q σ H3
theorem pg_sub {o i:Expr} {to ti:TE} {t:TSet} (ho:PE X o to) (hi:PE X i ti) (hs:PSet X t)
  (ha:∀ v,assign (.Subscript o i pos) X.env v = (do
   let ov <- holding [v] (eval o X.env)
   let iv <- holding [v,ov] (eval i X.env)
   standAt pos
   holding [v,ov,iv] (setItem ov iv v)
   release [v,ov,iv] []):=by intro _; rfl):PG X (.Subscript o i pos) (gSub to ti t):=by
 intro pins s σ H v u Q I r h
 rw [ha]
 refine wpAny_bind (wpAny_holding (thn (ho pins s σ H _ I h) fun ov s1 ⟨x,H1,I1,r1,q1⟩=>?_))
 refine wpAny_bind (wpAny_holding (thn (hi pins s1 σ H1 _ I1 q1) fun iv s2 ⟨y,H2,I2,r2,q2⟩=>?_))
 refine wpAny_bind (wpAny_standAt (wpAny_bind (wpAny_holding (thn (hs pins s2 σ H2 x y v ov iv u _ I2 r1 r2 r q2) fun _ s3 ⟨H3,I3,q3⟩=>?_))))
 exact wpAny_release ⟨σ,H3,I3,q3⟩
noncomputable def tAsg (te:TE) (g:TG):TS:=fun D σ H=>te σ H fun x H1=>g x σ H1 D.nx
theorem ps_asg {tg e:Expr} {te:TE} {g:TG} (he:PE X e te) (hg:PG X tg g) (hs:swapsWithSole [tg] e pos.line X.env = pure false:=by rfl) (hw:swappedStores [tg] e X.env = pure none:=by rfl)
  (h1:(assignEach [tg] X.env).map (·.2) = [assign tg X.env]:=by rfl):PS X (.Assign [tg] e pos) (tAsg te g):=by
 intro pins s σ H D I h
 refine wpAny_Assign_stores (thn (he pins s σ H _ I h) fun v s1 ⟨x,H1,I1,r1,q1⟩=>?_) hs hw
 rw [h1]
 exact thn (hg pins s1 σ H1 x v _ I1 r1 q1) fun _ s2 q=>q
theorem ps_set {i:Nat} {x:Str} {e:Expr} {te:TE} {pos':Pos} (hN:X.N.Nodup) (hi:X.N[i]? = some x) (hx:Loc X.env.scope x) (he:PE X e te) (hs:swapsWith e (some (.Name x pos')) pos.line X.env = pure false:=by rfl) (hf:X.fn x = true \/ X.env.scope.names.lookup x = some .local:=by first | exact .inl rfl | exact .inr rfl | assumption):
  PS X (.Assign [.Name x pos'] e pos) (tAsg te (gName i)):=by
 intro pins s σ H D I h
 refine wpAny_Assign_Name (thn (he pins s σ H _ I h) fun v s1 ⟨y,H1,I1,r1,q1⟩=>?_) hs
 exact store_ok I1 hN hi hx r1 (fun s2 I2=>⟨_,H1,I2,q1⟩) hf
end
section
variable {X:Cx} {pos:Pos}
noncomputable def tWhile (c:TT) (tb:TS):TS:=fun D σ H=>∃ W:Nat -> St -> Hp -> Prop,(∃ m,W m σ H) /\ ∀ m σ H,W m σ H ->
 c σ H fun b H1=>if b = true then ∃ N:St -> Hp -> Prop,(∀ σ' H',N σ' H' -> ∃ m',m' < m /\ W m' σ' H') /\ tb { D with nx:=N,ct:=N,bk:=D.nx } σ H1 else D.nx σ H1
theorem ps_while {c:Expr} {body:List Stmt} {tc:TT} {tb:TS} (hp:PassesOwn (model X.prog X.w) X.A X.env X.xe) (hc:PT X c tc) (hb:PSs X body tb):PS X (.While c body [] pos) (tWhile tc tb):=by
 intro pins s σ H D I h
 obtain ⟨W,⟨m0,w0⟩,turn⟩:=h
 refine wpAny_While (codeAny_whileLoop (fun n s'=>∃ σ' H',Inv X pins σ' H' s' /\ W n σ' H') ?_ m0 ⟨σ,H,I,w0⟩)
 rintro n s1 ⟨σ1,H1,I1,w1⟩
 refine wpAny_passesOwn hp (thn (hc pins s1 σ1 H1 _ I1 (turn n σ1 H1 w1)) fun b s2 ⟨H2,I2,q2⟩=>?_)
 cases b with
 | true=>
  obtain ⟨N,hN,q2⟩:=q2
  rw [if_pos rfl]
  refine wpAny_passesOwn hp (thn (hb pins s2 σ1 H2 _ I2 q2) fun f s3 q3=>?_)
  cases f with
  | next=>
   obtain ⟨σ3,H3,I3,n3⟩:=q3
   obtain ⟨m',hm,w3⟩:=hN σ3 H3 n3
   exact ⟨m',hm,σ3,H3,I3,w3⟩
  | cont=>
   obtain ⟨σ3,H3,I3,n3⟩:=q3
   obtain ⟨m',hm,w3⟩:=hN σ3 H3 n3
   exact ⟨m',hm,σ3,H3,I3,w3⟩
  | brk=>exact q3
  | ret v=>exact q3
 | false=>
  rw [if_neg Bool.false_ne_true]
  exact wpAny_execs_nil ⟨σ1,H2,I2,q2⟩
end
structure It where
 go:Nat -> Hp -> Prop
 yld:Nat -> Hp -> V -> Hp -> Prop
 stop:Nat -> Hp -> Prop
def FpOk (X:Cx) (pins:List (Addr × Obj)) (H:Hp) (b:Addr):Prop:=
 H b = none /\ b ≠ X.env.locals /\ b ∉ X.fs /\ (b ∈ X.ex \/ X.s₀.heap.objs.size <= b) /\ (∀ x c,X.env.cells.lookup x = some c -> c ≠ b) /\ ∀ p ∈ X.pn ++ pins,p.1 ≠ b
theorem Inv.fpOk {X:Cx} {pins:List (Addr × Obj)} {σ:St} {H H':Hp} {s:Shared} {b:Addr} (I:Inv X pins σ H s) (hb:s.heap.objs.size <= b) (hn:H' b = none):FpOk X pins H' b:=by
 refine ⟨hn,Nat.ne_of_gt (Nat.lt_of_lt_of_le I.lt hb),I.nofs hb,.inr (Nat.le_trans I.sz hb),fun x c e z=>?_,fun p hp z=>?_⟩
 ·obtain ⟨v,q⟩:=I.cell x c e
  exact absurd (Nat.lt_of_lt_of_le q.lt (by rw [z]; exact hb)) (Nat.lt_irrefl _)
 ·exact absurd (Nat.lt_of_lt_of_le (Heap.lt_size (I.pin p hp).1) (by rw [z]; exact hb)) (Nat.lt_irrefl _)
structure Turn (P:Program) (w:World) (K:Frag) (tg:Expr) (J:It) (fp:List Addr) (it:Addr) (tn:Nat -> Heap -> Prop):Prop where
 mem:it ∈ fp
 obj:∀ i h,tn i h -> ∀ b ∈ fp,∃ o,h.get? b = some o /\ ∀ v,o.data ≠ .cell v
 keep:∀ i h h',tn i h -> (∀ b ∈ fp,∀ o,h.get? b = some o -> h'.get? b = some o) -> tn i h'
 item:∀ (X:Cx),X.prog = P -> X.w = w -> X.K = K -> X.calm = true -> ∀ (i:Nat) (pins:List (Addr × Obj)) (s:Shared) (σ:St) (H:Hp) (E:Value -> Shared -> Prop),Inv X pins σ H s -> (∀ b ∈ fp,FpOk X pins H b) -> tn i s.heap -> J.go i H ->
  wpAny (model P w) X.A (pyNext (.ref it)) (fun r s1=>∃ u,r = some u /\
   wpAny (model P w) X.A (letOwnedTupleGo tg (.ref it) u) (fun _ s2=>∃ x H',Inv X pins σ H' s2 /\ RelV x u /\ J.yld i H x H' /\ tn (i + 1) s2.heap /\ ∀ b ∈ fp,H' b = none) E s1) E s
 done:∀ (X:Cx),X.prog = P -> X.w = w -> X.K = K -> X.calm = true -> ∀ (i:Nat) (pins:List (Addr × Obj)) (s:Shared) (σ:St) (H:Hp) (E:Value -> Shared -> Prop),Inv X pins σ H s -> (∀ b ∈ fp,FpOk X pins H b) -> tn i s.heap -> J.stop i H ->
  wpAny (model P w) X.A (pyNext (.ref it)) (fun r s1=>r = none /\ Inv X pins σ H s1) E s
 self:∀ (A:Around) (i:Nat) (s:Shared) (Q:Value -> Shared -> Prop) (E:Value -> Shared -> Prop),tn i s.heap -> Q (.ref it) s -> wpAny (model P w) A (pyIter (.ref it)) Q E s
noncomputable abbrev TI:=St -> Hp -> (It -> Hp -> Prop) -> Prop
def PIE (X:Cx) (pins:List (Addr × Obj)) (σ:St) (tg:Expr) (R:It -> Hp -> Prop) (itv:Value) (s2:Shared):Prop:=
 ∃ (it:Addr) (fp:List Addr) (tn:Nat -> Heap -> Prop) (J:It) (H':Hp),itv = .ref it /\ Inv X pins σ H' s2 /\ Turn X.prog X.w X.K tg J fp it tn /\ tn 0 s2.heap /\ (∀ b ∈ fp,FpOk X pins H' b) /\ R J H'
def PI (X:Cx) (tg iter:Expr) (wi:TI):Prop:=
 ∀ (pins:List (Addr × Obj)) (s:Shared) (σ:St) (H:Hp) (R:It -> Hp -> Prop),Inv X pins σ H s -> wi σ H R ->
  wpAny (model X.prog X.w) X.A (eval iter X.env) (fun v s1=>wpAny (model X.prog X.w) X.A (pyIter v) (PIE X pins σ tg R) X.xe s1) X.xe s
theorem go_of {M:Model} {A:Around} {E:Value -> Shared -> Prop} {s:Shared} {tg:Expr} {it:Addr} {u:Value} {o:Obj} {n:String} {vs:Array Value} {Q:Unit -> Shared -> Prop} (ho:s.heap.get? it = some o) (hc:o.cls = .type n) (hd:o.data = .fields vs)
  (hn:["enumerate", "zip", "dict_itemiterator", "dict_reverseitemiterator", "odict_iterator", "itertools.zip_longest", "itertools.pairwise"].contains n = false) (hQ:Q () s):wpAny M A (letOwnedTupleGo tg (.ref it) u) Q E s:=by
 unfold letOwnedTupleGo
 cases tg <;> first
  | exact wpAny_pure hQ
  | (cases u <;> first
    | exact wpAny_pure hQ
    | (refine wpAny_bind (wpAny_load ho ?_); rw [hc,hd]; show wpAny M A (if (["enumerate", "zip", "dict_itemiterator", "dict_reverseitemiterator", "odict_iterator", "itertools.zip_longest", "itertools.pairwise"].contains n && vs[0]? == some (rawInt _)) = true then _ else _) Q E s; rw [if_neg (by intro h; rw [hn,Bool.false_and] at h; cases h)]; exact wpAny_pure hQ))
noncomputable def Itl (K:Frag) (a:Addr):It:=
 ⟨fun i H=>∃ xs x,SqL K H a xs /\ xs[i]? = some x,fun i H x H'=>H' = H /\ ∀ xs,SqL K H a xs -> xs[i]? = some x,fun i H=>∃ xs,SqL K H a xs /\ xs.length <= i⟩
noncomputable def Itt (K:Frag) (a:Addr):It:=
 ⟨fun i H=>∃ xs x,SqT K H a xs /\ xs[i]? = some x,fun i H x H'=>H' = H /\ ∀ xs,SqT K H a xs -> xs[i]? = some x,fun i H=>∃ xs,SqT K H a xs /\ xs.length <= i⟩
noncomputable def Itr (lo:Int) (n:Nat):It:=⟨fun i _=>i < n,fun i H x H'=>H' = H /\ x = .int (lo + i),fun i _=>n <= i⟩
theorem turn_list {P:Program} {w:World} {K:Frag} {tg:Expr} (a it:Addr):Turn P w K tg (Itl K a) [it] it (fun i h=>h.IsListIter it a i) where
 mem:=by simp
 obj:=fun i h st b hb=>by
  have e:b = it:=by simpa using hb
  subst e
  obtain ⟨o,e,c,d⟩:=st
  exact ⟨o,e,fun v z=>by rw [d] at z; cases z⟩
 keep:=fun i h h' st k=>st.at fun o e=>k it (by simp) o e
 item:=by
  intro X hP hw hK hc i pins s σ H E I hf st hg
  subst hP hw hK
  obtain ⟨xs,x,hq,hx⟩:=hg
  obtain ⟨its,rv,p,hz⟩:=I.list hq
  obtain ⟨u,hu,ru⟩:=rv.get hx
  obtain ⟨f0,f1,f2,f3,f4,f5⟩:=hf it (by simp)
  refine wpAny_pyNext_list_item st p.isList (x:=u) (by simpa using hu) fun h' st' sb=>?_
  have I1:Inv X pins σ H { s with heap:=h' }:=I.turned (t':=s.toks) (fun b o hb e=>(sb.2 b hb).trans e) f0 f1 f3 f4 f5
  obtain ⟨o,e,c,d⟩:=id st'
  exact ⟨u,rfl,go_of (s:={ s with heap:=h' }) e c d (by decide) ⟨x,H,I1,ru,⟨rfl,fun ys hy=>by rw [I.list_inj hy hq]; exact hx⟩,st',fun b hb=>(hf b hb).1⟩⟩
 done:=by
  intro X hP hw hK hc i pins s σ H E I hf st hg
  subst hP hw hK
  obtain ⟨xs,hq,hx⟩:=hg
  obtain ⟨its,rv,p,hz⟩:=I.list hq
  obtain ⟨f0,f1,f2,f3,f4,f5⟩:=hf it (by simp)
  have hl:=rv.length
  exact wpAny_pyNext_list_end (I.ok.hd hc) st p.isList (by simp; omega) fun h' eb=>⟨rfl,I.turned (t':=s.toks) (fun b o hb e=>eb b o hb e) f0 f1 f3 f4 f5⟩
 self:=fun _ _ _ _ _ st h=>wpAny_pyIter_listiter st h
theorem turn_tuple {P:Program} {w:World} {K:Frag} {tg:Expr} (a it:Addr):Turn P w K tg (Itt K a) [it] it (fun i h=>h.IsTupleIter it a i) where
 mem:=by simp
 obj:=fun i h st b hb=>by
  have e:b = it:=by simpa using hb
  subst e
  obtain ⟨o,e,c,d⟩:=st
  exact ⟨o,e,fun v z=>by rw [d] at z; cases z⟩
 keep:=fun i h h' st k=>st.at fun o e=>k it (by simp) o e
 item:=by
  intro X hP hw hK hc i pins s σ H E I hf st hg
  subst hP hw hK
  obtain ⟨xs,x,hq,hx⟩:=hg
  obtain ⟨its,rv,p,hz⟩:=I.tuple hq
  obtain ⟨u,hu,ru⟩:=rv.get hx
  obtain ⟨f0,f1,f2,f3,f4,f5⟩:=hf it (by simp)
  refine wpAny_pyNext_tuple_item st (show s.heap.IsTuple a its.toArray from p) (x:=u) (by simpa using hu) fun h' st' sb=>?_
  have I1:Inv X pins σ H { s with heap:=h' }:=I.turned (t':=s.toks) (fun b o hb e=>(sb.2 b hb).trans e) f0 f1 f3 f4 f5
  obtain ⟨o,e,c,d⟩:=id st'
  exact ⟨u,rfl,go_of (s:={ s with heap:=h' }) e c d (by decide) ⟨x,H,I1,ru,⟨rfl,fun ys hy=>by rw [I.tuple_inj hy hq]; exact hx⟩,st',fun b hb=>(hf b hb).1⟩⟩
 done:=by
  intro X hP hw hK hc i pins s σ H E I hf st hg
  subst hP hw hK
  obtain ⟨xs,hq,hx⟩:=hg
  obtain ⟨its,rv,p,hz⟩:=I.tuple hq
  obtain ⟨f0,f1,f2,f3,f4,f5⟩:=hf it (by simp)
  have hl:=rv.length
  exact wpAny_pyNext_tuple_end (I.ok.hd hc) st (show s.heap.IsTuple a its.toArray from p) (by simp; omega) fun h' eb=>⟨rfl,I.turned (t':=s.toks) (fun b o hb e=>eb b o hb e) f0 f1 f3 f4 f5⟩
 self:=fun _ _ _ _ _ st h=>wpAny_pyIter_tupleiter st h
theorem turn_range {P:Program} {w:World} {K:Frag} {tg:Expr} (it:Addr) (lo:Int) (n:Nat):Turn P w K tg (Itr lo n) [it] it (fun i h=>IsRangeIter h it (lo + (i:Nat) * 1) ((n:Int) - (i:Nat)) 1) where
 mem:=by simp
 obj:=fun i h st b hb=>by
  have e:b = it:=by simpa using hb
  subst e
  exact ⟨_,st,fun v z=>by
   have z':Data.fields _ = Data.cell v:=z
   cases z'⟩
 keep:=fun i h h' st k=>k it (by simp) _ st
 item:=by
  intro X hP hw hK hc i pins s σ H E I hf st hg
  subst hP hw hK
  obtain ⟨f0,f1,f2,f3,f4,f5⟩:=hf it (by simp)
  have W:=Walks.range (prog:=X.prog) (w:=X.w) (I.ok.hd hc) it lo 1 n
  refine tokQ I.tk (W.item i s _ _ hg st fun v h' tk hv st' kk (htk:0 < tk)=>?_)
  obtain ⟨t,rfl⟩:=hv
  have I1:Inv X pins σ H { s with heap:=h',toks:=tk }:=I.turned (fun b o hb e=>kk b o (by simpa using hb) e) f0 f1 f3 f4 f5
  refine ⟨_,rfl,go_of (s:={ s with heap:=h',toks:=tk }) (n := "range_iterator") st' rfl rfl (by decide) ⟨.int (lo + i),H,I1,⟨t,?_⟩,⟨rfl,rfl⟩,st',fun b hb=>(hf b hb).1⟩⟩
  rw [Int.mul_one]
 done:=by
  intro X hP hw hK hc i pins s σ H E I hf st hg
  subst hP hw hK
  obtain ⟨f0,f1,f2,f3,f4,f5⟩:=hf it (by simp)
  exact wpAny_pyNext_range_end (I.ok.hd hc) st (by have:n <= i:=hg; omega) fun h' eb=>⟨rfl,I.turned (t':=s.toks) (fun b o hb e=>eb b o hb e) f0 f1 f3 f4 f5⟩
 self:=fun _ _ _ _ _ st h=>wpAny_pyIter_rangeiter st h
section
variable {X:Cx} {tg:Expr}
theorem range_it {pins:List (Addr × Obj)} {σ:St} {H:Hp} {s:Shared} {R:It -> Hp -> Prop} {E:Value -> Shared -> Prop} {lo hi:Int} {t u v:Tok} {tk:Nat} (I:Inv X pins σ H s) (h1:-(2 ^ 62) <= lo) (h2:lo < 2 ^ 62) (h3:-(2 ^ 62) <= hi) (h4:hi < 2 ^ 62)
  (q:R (Itr lo (hi - lo).toNat) H) (htk:0 < tk:=by first | assumption | exact Nat.succ_pos _ | (apply Inv.tk; assumption) | omega):wpAny (model X.prog X.w) X.A (pyIter (.ref s.heap.objs.size)) (PIE X pins σ tg R) E { s with heap:=s.heap.push { cls:=.type "range",data:=.fields #[.int lo t,.int hi u,.int 1 v] },toks:=tk }:=by
 refine wpAny_pyIter_range (IsRange.new ..) (small_one h1 h2 h3 h4) ?_
 have I1:Inv X pins σ H { s with heap:=s.heap.push { cls:=.type "range",data:=.fields #[.int lo t,.int hi u,.int 1 v] },toks:=tk }:=I.kept fun b o e=>Heap.get?_push_of_some _ e
 refine ⟨(s.heap.push { cls:=.type "range",data:=.fields #[.int lo t,.int hi u,.int 1 v] }).objs.size,[(s.heap.push { cls:=.type "range",data:=.fields #[.int lo t,.int hi u,.int 1 v] }).objs.size],_,_,H,rfl,
  I1.kept (t':=tk) fun b o e=>Heap.get?_push_of_some _ e,turn_range _ lo (hi - lo).toNat,?_,fun b hb=>?_,q⟩
 ·have e1:lo + ((0:Nat):Int) * 1 = lo:=by simp
  have e2:(((hi - lo).toNat:Nat):Int) - ((0:Nat):Int) = Builtin.Range.rangeSize lo hi 1:=by rw [rangeSize_one]; split <;> omega
  show IsRangeIter _ _ (lo + ((0:Nat):Int) * 1) ((((hi - lo).toNat:Nat):Int) - ((0:Nat):Int)) 1
  rw [e1,e2]
  exact Heap.get?_push_size _ rfl
 ·have e:b = (s.heap.push { cls:=.type "range",data:=.fields #[.int lo t,.int hi u,.int 1 v] }).objs.size:=by simpa using hb
  subst e
  exact I1.fpOk (Nat.le_refl _) (I1.hok.fresh (Nat.le_refl _))
noncomputable def iRng1 (ta:TA):TI:=fun σ H R=>ta σ H fun vs H1=>∃ j:Int,vs = [.int j] /\ -(2 ^ 62) <= j /\ j < 2 ^ 62 /\ R (Itr 0 j.toNat) H1
theorem pi_range1 {a:Expr} {ta:TA} {p pos:Pos} (hg:Gl X "range") (hm:X.mg "range" = none) (ha:PA X [a] ta) (hs:starEach [a] X.env = [(false,eval a X.env)]:=by rfl):PI X tg (.Call (.Name "range" p) [a] [] pos) (iRng1 ta):=by
 intro pins s σ H R I h
 refine Call_ (ld_blt I hg hm boot_range (PyProof.Rows.callWith_type1 (thn (ha pos pins s σ H _ I h) fun us s1 ⟨vs,H1,I1,r1,q1⟩=>?_) hs rfl))
 obtain ⟨j,e,q1,q2,q⟩:=q1
 subst e
 cases r1 with
 | cons r rr=>
  cases rr
  obtain ⟨t,rfl⟩:=r
  exact call_range_1 (range_it I1 (by omega) (by omega) q1 q2 (by simpa using q))
noncomputable def tFor (wi:TI) (g:TG) (tb:TS):TS:=fun D σ H=>wi σ H fun J H1=>∃ W:Nat -> Nat -> St -> Hp -> Prop,(∃ m,W 0 m σ H1) /\ ∀ i m σ H,W i m σ H ->
 (J.stop i H /\ D.nx σ H) \/ (J.go i H /\ ∃ N:St -> Hp -> Prop,(∀ σ' H',N σ' H' -> ∃ m',m' < m /\ W (i + 1) m' σ' H') /\ ∀ x H',J.yld i H x H' -> g x σ H' fun σ2 H2=>tb { D with nx:=N,ct:=N,bk:=D.nx } σ2 H2)
noncomputable def pinsAt (fp:List Addr) (h:Heap):List (Addr × Obj):=fp.filterMap fun b=>(h.get? b).map fun o=>(b,o)
theorem mem_pinsAt {fp:List Addr} {h:Heap} {b:Addr} {o:Obj} (hb:b ∈ fp) (e:h.get? b = some o):(b,o) ∈ pinsAt fp h:=List.mem_filterMap.mpr ⟨b,hb,by rw [e]; rfl⟩
theorem of_pinsAt {fp:List Addr} {h:Heap} {p:Addr × Obj} (hp:p ∈ pinsAt fp h):p.1 ∈ fp /\ h.get? p.1 = some p.2:=by
 obtain ⟨b,hb,e⟩:=List.mem_filterMap.mp hp
 cases q:h.get? b with
 | none=>rw [q] at e; cases e
 | some o=>
  rw [q] at e
  have e':(b,o) = p:=Option.some.inj e
  subst e'
  exact ⟨hb,q⟩
theorem Inv.pinned {pins:List (Addr × Obj)} {σ:St} {H:Hp} {s:Shared} {fp:List Addr} (I:Inv X pins σ H s) (hf:∀ b ∈ fp,FpOk X pins H b) (ho:∀ b ∈ fp,∃ o,s.heap.get? b = some o /\ ∀ v,o.data ≠ .cell v):Inv X (pins ++ pinsAt fp s.heap) σ H s:=
 I.pins_of fun p hp=>(List.mem_append.mp hp).elim (fun z=>I.pin p (List.mem_append_right _ z)) fun z=>by
  obtain ⟨hb,e⟩:=of_pinsAt z
  obtain ⟨f0,f1,f2,_⟩:=hf p.1 hb
  obtain ⟨o,e',d⟩:=ho p.1 hb
  rw [e] at e'; cases e'
  exact ⟨e,f0,f1,f2,d⟩
theorem Inv.unpinned {pins pl:List (Addr × Obj)} {σ:St} {H:Hp} {s:Shared} (I:Inv X (pins ++ pl) σ H s):Inv X pins σ H s:=I.pins_of fun p hp=>I.pin p (List.mem_append_right _ (List.mem_append_left _ hp))
theorem ps_for {iter:Expr} {body:List Stmt} {wi:TI} {g:TG} {tb:TS} {pos:Pos} (hp:PassesOwn (model X.prog X.w) X.A X.env X.xe) (hc:X.calm = true) (hi:PI X tg iter wi) (hg:PG X tg g) (hb:PSs X body tb)
  (hs:∀ x,foldedSetIterable iter X.env x = pure x:=by intro _; rfl):PS X (.For tg iter body [] pos) (tFor wi g tb):=by
 intro pins s σ H D I h
 refine wpAny_For (thn (hi pins s σ H _ I h) fun v s1 h1=>thn h1 fun itv s2 h2=>?_) hs
 obtain ⟨it,fp,tn,J,H2,e,I2,T,st2,f2,W,⟨m0,w0⟩,turn⟩:=h2
 subst e
 have stat:∀ {H':Hp},(∀ b ∈ fp,H' b = none) -> ∀ b ∈ fp,FpOk X pins H' b:=fun hn b hb=>⟨hn b hb,(f2 b hb).2⟩
 refine codeAny_forLoop_any (fun n s'=>∃ i σ' H',Inv X pins σ' H' s' /\ tn i s'.heap /\ (∀ b ∈ fp,H' b = none) /\ W i n σ' H') ?_ m0 ⟨0,σ,H2,I2,st2,fun b hb=>(f2 b hb).1,w0⟩
 rintro n s3 ⟨i,σ3,H3,I3,st3,fr3,w3⟩
 rcases turn i n σ3 H3 w3 with ⟨stop,qn⟩ | ⟨go,N,hN,step⟩
 ·refine wpAny_passesOwn hp (thn (T.done X rfl rfl rfl hc i pins s3 σ3 H3 X.xe I3 (stat fr3) st3 stop) fun r s4 ⟨hr,I4⟩=>?_)
  subst hr
  exact wpAny_execs_nil ⟨σ3,H3,I4,qn⟩
 ·refine wpAny_passesOwn hp (thn (T.item X rfl rfl rfl hc i pins s3 σ3 H3 X.xe I3 (stat fr3) st3 go) fun r s4 ⟨u,hr,h4⟩=>?_)
  subst hr
  refine wpAny_passesOwn hp (thn h4 fun _ s5 ⟨x,H5,I5,r5,y5,st5,fr5⟩=>?_)
  have I5':=I5.pinned (stat fr5) (T.obj _ _ st5)
  refine wpAny_passesOwn hp (thn (hg _ s5 σ3 H5 x u _ I5' r5 (step x H5 y5)) fun _ s6 ⟨σ6,H6,I6,q6⟩=>?_)
  refine wpAny_passesOwn hp (thn (hb _ s6 σ6 H6 _ I6 q6) fun f s7 q7=>?_)
  have again:∀ {σ7:St} {H7:Hp},Inv X (pins ++ pinsAt fp s5.heap) σ7 H7 s7 -> N σ7 H7 -> ∃ m,m < n /\ ∃ i σ' H',Inv X pins σ' H' s7 /\ tn i s7.heap /\ (∀ b ∈ fp,H' b = none) /\ W i m σ' H':=fun {σ7 H7} I7 n7=>by
   obtain ⟨m',hm,w7⟩:=hN σ7 H7 n7
   refine ⟨m',hm,i + 1,σ7,H7,I7.unpinned,T.keep _ _ _ st5 fun b hb o e=>(I7.pin (b,o) (List.mem_append_right _ (List.mem_append_right _ (mem_pinsAt hb e)))).1,fun b hb=>?_,w7⟩
   obtain ⟨o,e,d⟩:=T.obj _ _ st5 b hb
   exact (I7.pin (b,o) (List.mem_append_right _ (List.mem_append_right _ (mem_pinsAt hb e)))).2.1
  cases f with
  | next=>obtain ⟨σ7,H7,I7,n7⟩:=q7; exact again I7 n7
  | cont=>obtain ⟨σ7,H7,I7,n7⟩:=q7; exact again I7 n7
  | brk=>obtain ⟨σ7,H7,I7,q7⟩:=q7; exact ⟨σ7,H7,I7.unpinned,q7⟩
  | ret v=>obtain ⟨x7,σ7,H7,I7,r7,q7⟩:=q7; exact ⟨x7,σ7,H7,I7.unpinned,r7,q7⟩
end
theorem for_list {K:Frag} {a:Addr} {xs:List V} {g:TG} {tb:TS} {D:Ends} {σ:St} {H:Hp} (Pv:Nat -> St -> Hp -> Prop) (h0:Pv 0 σ H) (hl:∀ i σ H,i <= xs.length -> Pv i σ H -> SqL K H a xs)
  (hs:∀ i x σ H,xs[i]? = some x -> Pv i σ H -> g x σ H fun σ2 H2=>tb { D with nx:=Pv (i + 1),ct:=Pv (i + 1),bk:=D.nx } σ2 H2) (hd:∀ σ H,Pv xs.length σ H -> D.nx σ H):
  ∃ W:Nat -> Nat -> St -> Hp -> Prop,(∃ m,W 0 m σ H) /\ ∀ i m σ H,W i m σ H ->
   ((Itl K a).stop i H /\ D.nx σ H) \/ ((Itl K a).go i H /\ ∃ N:St -> Hp -> Prop,(∀ σ' H',N σ' H' -> ∃ m',m' < m /\ W (i + 1) m' σ' H') /\ ∀ x H',(Itl K a).yld i H x H' -> g x σ H' fun σ2 H2=>tb { D with nx:=N,ct:=N,bk:=D.nx } σ2 H2):=by
 refine ⟨fun i m σ H=>m = xs.length - i /\ i <= xs.length /\ Pv i σ H,⟨xs.length,by simp,Nat.zero_le _,h0⟩,?_⟩
 rintro i m σ H ⟨rfl,hi,p⟩
 have q:=hl i σ H hi p
 by_cases hlt:i < xs.length
 ·refine .inr ⟨⟨xs,xs[i],q,by simp [hlt]⟩,Pv (i + 1),fun σ' H' p'=>⟨xs.length - (i + 1),by omega,rfl,hlt,p'⟩,fun x H' y=>?_⟩
  obtain ⟨e,y⟩:=y
  subst e
  exact hs i x σ _ (y xs q) p
 ·have e:i = xs.length:=by omega
  subst e
  exact .inl ⟨⟨xs,q,Nat.le_refl _⟩,hd σ H p⟩
theorem for_range {lo:Int} {n:Nat} {g:TG} {tb:TS} {D:Ends} {σ:St} {H:Hp} (Pv:Nat -> St -> Hp -> Prop) (h0:Pv 0 σ H)
  (hs:∀ i σ H,i < n -> Pv i σ H -> g (.int (lo + i)) σ H fun σ2 H2=>tb { D with nx:=Pv (i + 1),ct:=Pv (i + 1),bk:=D.nx } σ2 H2) (hd:∀ σ H,Pv n σ H -> D.nx σ H):
  ∃ W:Nat -> Nat -> St -> Hp -> Prop,(∃ m,W 0 m σ H) /\ ∀ i m σ H,W i m σ H ->
   ((Itr lo n).stop i H /\ D.nx σ H) \/ ((Itr lo n).go i H /\ ∃ N:St -> Hp -> Prop,(∀ σ' H',N σ' H' -> ∃ m',m' < m /\ W (i + 1) m' σ' H') /\ ∀ x H',(Itr lo n).yld i H x H' -> g x σ H' fun σ2 H2=>tb { D with nx:=N,ct:=N,bk:=D.nx } σ2 H2):=by
 refine ⟨fun i m σ H=>m = n - i /\ i <= n /\ Pv i σ H,⟨n,by simp,Nat.zero_le _,h0⟩,?_⟩
 rintro i m σ H ⟨rfl,hi,p⟩
 by_cases hlt:i < n
 ·refine .inr ⟨hlt,Pv (i + 1),fun σ' H' p'=>⟨n - (i + 1),by omega,rfl,hlt,p'⟩,fun x H' y=>?_⟩
  obtain ⟨e,y⟩:=y
  subst e y
  exact hs i σ _ hlt p
 ·have e:i = n:=by omega
  subst e
  exact .inl ⟨Nat.le_refl _,hd σ H p⟩
noncomputable abbrev R2:=V -> V -> Hp -> VK -> Prop
def OpR (X:Cx) (f:Value -> Value -> Sem Value) (r:R2):Prop:=
 ∀ (pins:List (Addr × Obj)) (s:Shared) (σ:St) (H:Hp) (x y:V) (v u:Value) (Q:VK),Inv X pins σ H s -> RelV x v -> RelV y u -> r x y H Q ->
  wpAny (model X.prog X.w) X.A (f v u) (EP X pins σ Q) X.xe s
def CallR (X:Cx) (f:Value) (r:List V -> Hp -> VK -> Prop):Prop:=
 ∀ (pins:List (Addr × Obj)) (s:Shared) (σ:St) (H:Hp) (xs:List V) (us:List Value) (Q:VK),Inv X pins σ H s -> Vals xs us -> r xs H Q ->
  wpAny (model X.prog X.w) X.A (call f us) (EP X pins σ Q) X.xe s
noncomputable def tOp (r:R2) (ta tb:TE):TE:=fun σ H Q=>ta σ H fun x H1=>tb σ H1 fun y H2=>r x y H2 Q
noncomputable def rI (C:Int -> Int -> Prop) (g:Int -> Int -> V):R2:=fun x y H Q=>∃ i j,x = .int i /\ y = .int j /\ C i j /\ Q (g i j) H
noncomputable def rI0 (g:Int -> Int -> V):R2:=fun x y H Q=>∃ i j,x = .int i /\ y = .int j /\ Q (g i j) H
section
variable {X:Cx} {a b c:Expr} {ta tb tc:TE} {pos:Pos}
theorem binT (ha:PE X a ta) (hb:PE X b tb) {pins:List (Addr × Obj)} {s:Shared} {σ:St} {H:Hp} {R:V -> V -> Hp -> Prop} (I:Inv X pins σ H s)
  (h:ta σ H fun x H1=>tb σ H1 fun y H2=>R x y H2) {Q:Value -> Shared -> Prop} {f:Value -> Value -> Sem Value}
  (hf:∀ v u s2 x y H2,Inv X pins σ H2 s2 -> RelV x v -> RelV y u -> R x y H2 -> wpAny (model X.prog X.w) X.A (f v u) Q X.xe s2):
  wpAny (model X.prog X.w) X.A (eval a X.env) (fun v s₁=>wpAny (model X.prog X.w) X.A (eval b X.env) (fun u s₂=>wpAny (model X.prog X.w) X.A (f v u) Q X.xe s₂) X.xe s₁) X.xe s:=by
 refine thn (ha pins s σ H _ I h) fun v s1 ⟨x,H1,I1,r1,q1⟩=>?_
 refine thn (hb pins s1 σ H1 _ I1 q1) fun u s2 ⟨y,H2,I2,r2,q2⟩=>?_
 exact hf v u s2 x y H2 I2 r1 r2 q2
theorem pe_op {op:Operator} {r:R2} (ho:OpR X (binaryOp op) r) (ha:PE X a ta) (hb:PE X b tb):PE X (.BinOp a op b pos) (tOp r ta tb):=by
 intro pins s σ H Q I h
 exact wpAny_BinOp (binT ha hb I h fun v u s2 x y H2 I2 rx ry q=>ho pins s2 σ H2 x y v u Q I2 rx ry q)
theorem opI {f:Value -> Value -> Sem Value} {C:Int -> Int -> Prop} {g:Int -> Int -> Int}
  (rule:∀ (i j:Int) (t u:Tok) (s:Shared) (Q:Value -> Shared -> Prop) (E:Value -> Shared -> Prop),C i j -> Q (.int (g i j) s.toks) { s with toks:=s.toks + 1 } -> wpAny (model X.prog X.w) X.A (f (.int i t) (.int j u)) Q E s):
  OpR X f (rI C fun i j=>.int (g i j)):=by
 intro pins s σ H x y v u Q I rx ry h
 obtain ⟨i,j,rfl,rfl,hc,q⟩:=h
 obtain ⟨t,rfl⟩:=rx
 obtain ⟨t',rfl⟩:=ry
 exact rule i j t t' s _ _ hc ⟨.int (g i j),H,I.tok _,⟨_,rfl⟩,q⟩
theorem opI0 {f:Value -> Value -> Sem Value} {g:Int -> Int -> Int}
  (rule:∀ (i j:Int) (t u:Tok) (s:Shared) (Q:Value -> Shared -> Prop) (E:Value -> Shared -> Prop),Q (.int (g i j) s.toks) { s with toks:=s.toks + 1 } -> wpAny (model X.prog X.w) X.A (f (.int i t) (.int j u)) Q E s):
  OpR X f (rI0 fun i j=>.int (g i j)):=by
 intro pins s σ H x y v u Q I rx ry h
 obtain ⟨i,j,rfl,rfl,q⟩:=h
 obtain ⟨t,rfl⟩:=rx
 obtain ⟨t',rfl⟩:=ry
 exact rule i j t t' s _ _ ⟨.int (g i j),H,I.tok _,⟨_,rfl⟩,q⟩
theorem opB0 {f:Value -> Value -> Sem Value} {g:Int -> Int -> Bool}
  (rule:∀ (i j:Int) (t u:Tok) (s:Shared) (Q:Value -> Shared -> Prop) (E:Value -> Shared -> Prop),Q (.bool (g i j)) s -> wpAny (model X.prog X.w) X.A (f (.int i t) (.int j u)) Q E s):
  OpR X f (rI0 fun i j=>.bl (g i j)):=by
 intro pins s σ H x y v u Q I rx ry h
 obtain ⟨i,j,rfl,rfl,q⟩:=h
 obtain ⟨t,rfl⟩:=rx
 obtain ⟨t',rfl⟩:=ry
 exact rule i j t t' s _ _ ⟨.bl (g i j),H,I,rfl,q⟩
def CDiv (i j:Int):Prop:=0 < j /\ j < 1073741824
def CPow (i j:Int):Prop:=0 <= j /\ j <= 1000000 /\ i.natAbs < 2 ^ 64
def CMul (i j:Int):Prop:=(-(2 ^ 64) < i /\ i < 2 ^ 64) \/ (-(2 ^ 64) < j /\ j < 2 ^ 64)
theorem CMul.ok {i j:Int} (h:CMul i j):IntMulOk i j:=by
 rcases h with ⟨h1,h2⟩ | ⟨h1,h2⟩
 ·exact .of_left (intBits_le_64 h1 h2)
 ·exact .of_right (intBits_le_64 h1 h2)
theorem op_add:OpR X (binaryOp .Add) (rI0 fun i j=>.int (i + j)):=opI0 fun _ _ _ _ _ _ _ q=>add_int q
theorem op_sub:OpR X (binaryOp .Sub) (rI0 fun i j=>.int (i - j)):=opI0 fun _ _ _ _ _ _ _ q=>sub_int q
theorem op_mul:OpR X (binaryOp .Mult) (rI CMul fun i j=>.int (i * j)):=opI fun _ _ _ _ _ _ _ hc q=>mul_int q hc.ok
theorem op_fdiv:OpR X (binaryOp .FloorDiv) (rI CDiv fun i j=>.int (i / j)):=opI fun i j _ _ _ _ _ hc q=>by
 have h1:(0:Int) < j:=hc.1
 have h2:j < 1073741824:=hc.2
 exact floordiv_int (by omega) (by rw [Int.fdiv_eq_ediv_of_nonneg i (by omega)]; exact q) (.inl (PyProof.noPylong_small (by omega)))
theorem op_mod:OpR X (binaryOp .Mod) (rI (fun _ j=>0 < j) fun i j=>.int (i % j)):=opI fun i j _ _ _ _ _ hc q=>by
 have h1:(0:Int) < j:=hc
 exact mod_int' (by omega) (by rw [Int.fmod_eq_emod_of_nonneg i (by omega)]; exact q)
end
noncomputable def scal:V -> V -> Bool
 | .non,.non=>true | .non,.int _=>true | .int _,.non=>true | .non,.bl _=>true | .bl _,.non=>true | .non,.str _=>true | .str _,.non=>true
 | .int _,.int _=>true | .bl _,.bl _=>true | .str _,.str _=>true | .byt _,.byt _=>true
 | .int _,.str _=>true | .str _,.int _=>true | .bl _,.str _=>true | .str _,.bl _=>true
 | _,_=>false
noncomputable def rEq:R2:=fun x y H Q=>scal x y = true /\ Q (.bl (decide (x = y))) H
noncomputable def rNe:R2:=fun x y H Q=>scal x y = true /\ Q (.bl (!decide (x = y))) H
theorem dec_int {i j:Int}:decide (V.int i = V.int j) = (i == j):=by
 rw [Bool.eq_iff_iff]
 simp
theorem dec_bl {i j:Bool}:decide (V.bl i = V.bl j) = (i == j):=by
 rw [Bool.eq_iff_iff]
 simp
theorem dec_str {i j:Str}:decide (V.str i = V.str j) = (i == j):=by
 rw [Bool.eq_iff_iff]
 simp
theorem dec_byt {i j:Array UInt8}:decide (V.byt i = V.byt j) = (i.toList == j.toList):=by
 rw [Bool.eq_iff_iff]
 cases i
 cases j
 simp
section
variable {X:Cx} {a b c:Expr} {ta tb tc:TE} {pos:Pos}
theorem fin_bl {pins:List (Addr × Obj)} {σ:St} {H:Hp} {s:Shared} {Q:VK} {k k':Bool} (I:Inv X pins σ H s) (q:Q (.bl k) H) (e:k = k'):EP X pins σ Q (.bool k') s:=by
 subst e
 exact ⟨.bl k,H,I,rfl,q⟩
theorem op_eq:OpR X (compareOp .Eq) rEq:=by
 intro pins s σ H x y v u Q I rx ry h
 obtain ⟨hs,q⟩:=h
 cases x with
 | non=>
  cases rx
  cases y with
  | non=>cases ry; exact PySem.EqNone.eq_none_none (fin_bl I q (by simp))
  | bl j=>cases ry; exact PySem.EqNone.eq_none_bool (fin_bl I q (by simp))
  | int j=>obtain ⟨t',rfl⟩:=ry; exact PySem.EqNone.eq_none_int (fin_bl I q (by simp))
  | str j=>obtain ⟨t',rfl⟩:=ry; exact PySem.EqNone.eq_none_str (fin_bl I q (by simp))
  | _=>exact absurd (show false = true from hs) Bool.false_ne_true
 | bl i=>
  cases rx
  cases y with
  | non=>cases ry; exact PySem.EqNone.eq_bool_none (fin_bl I q (by simp))
  | bl j=>cases ry; exact eq_bool (fin_bl I q dec_bl)
  | str j=>obtain ⟨t',rfl⟩:=ry; exact PySem.EqMixed.eq_bool_str (fin_bl I q (by simp))
  | _=>exact absurd (show false = true from hs) Bool.false_ne_true
 | int i=>
  obtain ⟨t,rfl⟩:=rx
  cases y with
  | non=>cases ry; exact PySem.EqNone.eq_int_none (fin_bl I q (by simp))
  | int j=>obtain ⟨t',rfl⟩:=ry; exact eq_int (fin_bl I q dec_int)
  | str j=>obtain ⟨t',rfl⟩:=ry; exact PySem.EqMixed.eq_int_str (fin_bl I q (by simp))
  | _=>exact absurd (show false = true from hs) Bool.false_ne_true
 | str i=>
  obtain ⟨t,rfl⟩:=rx
  cases y with
  | non=>cases ry; exact PySem.EqNone.eq_str_none (fin_bl I q (by simp))
  | bl j=>cases ry; exact PySem.EqMixed.eq_str_bool (fin_bl I q (by simp))
  | int j=>obtain ⟨t',rfl⟩:=ry; exact PySem.EqMixed.eq_str_int (fin_bl I q (by simp))
  | str j=>obtain ⟨t',rfl⟩:=ry; exact eq_str (fin_bl I q dec_str)
  | _=>exact absurd (show false = true from hs) Bool.false_ne_true
 | byt i=>
  obtain ⟨t,rfl⟩:=rx
  cases y with
  | byt j=>obtain ⟨t',rfl⟩:=ry; exact PySem.W.eq_bytes (fin_bl I q dec_byt)
  | _=>exact absurd (show false = true from hs) Bool.false_ne_true
 | _=>cases y <;> exact absurd (show false = true from hs) Bool.false_ne_true
theorem op_ne:OpR X (compareOp .NotEq) rNe:=by
 intro pins s σ H x y v u Q I rx ry h
 obtain ⟨hs,q⟩:=h
 cases x with
 | non=>
  cases rx
  cases y with
  | non=>cases ry; exact PySem.EqNone.ne_none_none (fin_bl I q (by simp))
  | bl j=>cases ry; exact PySem.EqNone.ne_none_bool (fin_bl I q (by simp))
  | int j=>obtain ⟨t',rfl⟩:=ry; exact PySem.EqNone.ne_none_int (fin_bl I q (by simp))
  | str j=>obtain ⟨t',rfl⟩:=ry; exact PySem.EqNone.ne_none_str (fin_bl I q (by simp))
  | _=>exact absurd (show false = true from hs) Bool.false_ne_true
 | bl i=>
  cases rx
  cases y with
  | non=>cases ry; exact PySem.EqNone.ne_bool_none (fin_bl I q (by simp))
  | bl j=>cases ry; exact ne_bool (fin_bl I q (congrArg not dec_bl))
  | str j=>obtain ⟨t',rfl⟩:=ry; exact PySem.EqMixed.ne_bool_str (fin_bl I q (by simp))
  | _=>exact absurd (show false = true from hs) Bool.false_ne_true
 | int i=>
  obtain ⟨t,rfl⟩:=rx
  cases y with
  | non=>cases ry; exact PySem.EqNone.ne_int_none (fin_bl I q (by simp))
  | int j=>obtain ⟨t',rfl⟩:=ry; exact ne_int (fin_bl I q (congrArg not dec_int))
  | str j=>obtain ⟨t',rfl⟩:=ry; exact PySem.EqMixed.ne_int_str (fin_bl I q (by simp))
  | _=>exact absurd (show false = true from hs) Bool.false_ne_true
 | str i=>
  obtain ⟨t,rfl⟩:=rx
  cases y with
  | non=>cases ry; exact PySem.EqNone.ne_str_none (fin_bl I q (by simp))
  | bl j=>cases ry; exact PySem.EqMixed.ne_str_bool (fin_bl I q (by simp))
  | int j=>obtain ⟨t',rfl⟩:=ry; exact PySem.EqMixed.ne_str_int (fin_bl I q (by simp))
  | str j=>obtain ⟨t',rfl⟩:=ry; exact ne_str (fin_bl I q (congrArg not dec_str))
  | _=>exact absurd (show false = true from hs) Bool.false_ne_true
 | byt i=>
  obtain ⟨t,rfl⟩:=rx
  cases y with
  | byt j=>obtain ⟨t',rfl⟩:=ry; exact PySem.W.ne_bytes (fin_bl I q (congrArg not dec_byt))
  | _=>exact absurd (show false = true from hs) Bool.false_ne_true
 | _=>cases y <;> exact absurd (show false = true from hs) Bool.false_ne_true
theorem op_le:OpR X (compareOp .LtE) (rI0 fun i j=>.bl (decide (i <= j))):=opB0 fun _ _ _ _ _ _ _ q=>le_int q
theorem op_gt:OpR X (compareOp .Gt) (rI0 fun i j=>.bl (decide (j < i))):=opB0 fun _ _ _ _ _ _ _ q=>gt_int q
theorem op_isN:OpR X (compareOp .Is) (fun x y H Q=>y = .non /\ Q (.bl (decide (x = .non))) H):=by
 intro pins s σ H x y v u Q I rx ry h
 obtain ⟨rfl,q⟩:=h
 cases ry
 refine is_none_gen (fin_bl I q ?_)
 cases x <;> first
  | (cases rx; rfl)
  | (obtain ⟨t,rfl⟩:=rx; rfl)
theorem op_notin_str:OpR X (compareOp .NotIn) (fun x y H Q=>∃ i j,x = .str i /\ y = .str j /\ Q (.bl (!(!(Builtin.Str.occurrences j i 0 j.length 1).isEmpty))) H):=by
 intro pins s σ H x y v u Q I rx ry h
 obtain ⟨i,j,rfl,rfl,q⟩:=h
 obtain ⟨t,rfl⟩:=rx
 obtain ⟨t',rfl⟩:=ry
 exact notIn_str (fin_bl I q rfl)
theorem OpR.or {f:Value -> Value -> Sem Value} {r r':R2} (h:OpR X f r) (h':OpR X f r'):OpR X f (fun x y H Q=>r x y H Q \/ r' x y H Q):=by
 intro pins s σ H x y v u Q I rx ry q
 rcases q with q | q
 ·exact h pins s σ H x y v u Q I rx ry q
 ·exact h' pins s σ H x y v u Q I rx ry q
theorem nomark (b:Expr) {op:CmpOp} (h:op ≠ .In:=by decide) (h2:op ≠ .NotIn:=by decide):behindInMarks op b = false:=by
 have e1:(op == CmpOp.In) = false:=by cases op <;> first | rfl | exact absurd rfl h
 have e2:(op == CmpOp.NotIn) = false:=by cases op <;> first | rfl | exact absurd rfl h2
 cases b <;> simp [behindInMarks,e1,e2]
theorem pe_cmpR {op:CmpOp} {r:R2} (ho:OpR X (compareOp op) r) (ha:PE X a ta) (hb:PE X b tb) (hm:behindInMarks op b = false):PE X (.Compare a [op] [b] pos) (tOp r ta tb):=by
 intro pins s σ H Q I h
 exact wpAny_Compare1 (binT ha hb I h fun v u s2 x y H2 I2 rx ry q=>ho pins s2 σ H2 x y v u Q I2 rx ry q) hm
noncomputable def tTest (t:TE):TT:=fun σ H Q=>t σ H fun x H'=>∃ k,x = .bl k /\ Q k H'
theorem pt_cmpR {op:CmpOp} {r:R2} (ho:OpR X (compareOp op) r) (ha:PE X a ta) (hb:PE X b tb) (hm:behindInMarks op b = false):PT X (.Compare a [op] [b] pos) (tTest (tOp r ta tb)):=by
 intro pins s σ H Q I h
 refine wpAny_isTrue_Compare1 (thn (ha pins s σ H _ I h) fun v s1 ⟨x,H1,I1,r1,q1⟩=>thn (hb pins s1 σ H1 _ I1 q1) fun u s2 ⟨y,H2,I2,r2,q2⟩=>
  thn (ho pins s2 σ H2 x y v u _ I2 r1 r2 q2) fun c s3 ⟨z,H3,I3,r3,k,e,q3⟩=>?_) hm
 subst e
 cases r3
 exact wpAny_truthy_bool ⟨H3,I3,q3⟩
theorem line63:(sizeLine:Nat) < 2 ^ 63:=by rw [sizeLine_eq]; decide
theorem op_add_str:OpR X (binaryOp .Add) (fun x y H Q=>∃ i j,x = .str i /\ y = .str j /\ i.length + j.length <= sizeLine /\ Q (.str (i ++ j)) H):=by
 intro pins s σ H x y v u Q I rx ry h
 obtain ⟨i,j,rfl,rfl,hz,q⟩:=h
 obtain ⟨t,rfl⟩:=rx
 obtain ⟨t',rfl⟩:=ry
 exact tokQ I.tk (add_str (fun t' tk (htk:0 < tk)=>⟨.str (i ++ j),H,I.tok _,⟨_,rfl⟩,q⟩) hz)
theorem vals1 {x:V} {us:List Value} (r:Vals [x] us):∃ u,us = [u] /\ RelV x u:=by
 cases r with
 | cons r1 r2=>cases r2; exact ⟨_,rfl,r1⟩
theorem vals2 {x y:V} {us:List Value} (r:Vals [x,y] us):∃ u w',us = [u,w'] /\ RelV x u /\ RelV y w':=by
 cases r with
 | cons r1 r2=>
  cases r2 with
  | cons r3 r4=>cases r4; exact ⟨_,_,rfl,r1,r3⟩
theorem call_max2 (hc:X.calm = true):CallR X (.builtin "max") (fun xs H Q=>∃ i j,xs = [.int i,.int j] /\ Q (.int (if j > i then j else i)) H):=by
 intro pins s σ H xs us Q I r h
 obtain ⟨i,j,rfl,q⟩:=h
 obtain ⟨u,w',rfl,⟨t,rfl⟩,⟨t',rfl⟩⟩:=vals2 r
 refine tokQ I.tk (max_two_ints (I.ok.hd hc) fun h' tk k (htk:0 < tk)=>⟨_,H,I.kept k,?_,q⟩)
 by_cases hj:j > i
 ·rw [if_pos hj,if_pos hj]; exact ⟨_,rfl⟩
 ·rw [if_neg hj,if_neg hj]; exact ⟨_,rfl⟩
theorem call_min2 (hc:X.calm = true):CallR X (.builtin "min") (fun xs H Q=>∃ i j,xs = [.int i,.int j] /\ Q (.int (if j < i then j else i)) H):=by
 intro pins s σ H xs us Q I r h
 obtain ⟨i,j,rfl,q⟩:=h
 obtain ⟨u,w',rfl,⟨t,rfl⟩,⟨t',rfl⟩⟩:=vals2 r
 refine tokQ I.tk (min_two_ints (I.ok.hd hc) fun h' tk k (htk:0 < tk)=>⟨_,H,I.kept k,?_,q⟩)
 by_cases hj:j < i
 ·rw [if_pos hj,if_pos hj]; exact ⟨_,rfl⟩
 ·rw [if_neg hj,if_neg hj]; exact ⟨_,rfl⟩
end
structure ObjM (h:Heap) (x dx C:Addr) (mA:Str -> Option Value):Prop where
 obj:h.get? x = some (PySem.W.instObj C dx)
 ns:h.Ns1 dx mA
 ne:dx ≠ x
theorem lookIn_ns {h:Heap} {dx:Addr} {mA:Str -> Option Value} (n:h.Ns1 dx mA):∃ od,h.get? dx = some od /\ ∀ name,PySem.W.lookIn name od = some (mA name):=by
 obtain ⟨o,es,ep,ho,hd,hk,_,hm⟩:=n
 refine ⟨o,ho,fun name=>?_⟩
 have e:=hm name
 unfold nsFind findBy at e
 rw [<- Array.find?_toList] at e
 unfold PySem.W.lookIn
 rw [hd]
 dsimp only
 split
 ·rename_i y q
  rw [q] at e
  exact congrArg some e
 ·rename_i q
  rw [q] at e
  have a:es.toList.any (·.refKey) = false:=by
   rw [List.any_eq_false]
   intro y hy
   obtain ⟨z,t,hkey⟩:=hk y (Array.mem_toList_iff.mp hy)
   simp [DictEntry.refKey,hkey]
  have a':¬ es.toList.any (·.refKey) = true:=by rw [a]; exact Bool.false_ne_true
  rw [if_neg a']
  exact congrArg some e
theorem ObjM.look {h:Heap} {x dx C:Addr} {mA:Str -> Option Value} (I:ObjM h x dx C mA):∃ od,PySem.W.InstAt h x (PySem.W.instObj C dx) C (some od) /\ ∀ name,PySem.W.lookIn name od = some (mA name):=
 let ⟨od,ho,hl⟩:=lookIn_ns I.ns
 ⟨od,⟨I.obj,rfl,rfl,ho⟩,hl⟩
section
variable {prog:Program} {w:World} {A:Around} {E:Value -> Shared -> Prop} {s:Shared} {K:Frag} {x dx C f:Addr} {mA:Str -> Option Value} {name:Str} {v:Value}
end
section
variable {P:Program} {w:World} {H H':Hp} {h h':Heap} {a C dx:Addr} {fs fs':List (Str × V)}
theorem ins_get (hok:HOk P w H h) (e:H a = some (.ins C dx fs)):∃ mA,ObjM h a dx C mA /\ (∀ f,RelO (fs.lookup f) (mA f)) /\ PySem.Within mA (fs.map (·.1)) /\ fs.length <= 1000 /\ H dx = some (.own a):=by
 obtain ⟨d,z,ne,ob,mA,n,r,q⟩:=(show ObjOk P w H h a (.ins C dx fs) from hok a _ e)
 exact ⟨mA,⟨ob,n,ne⟩,r,q,z,d⟩
end
structure Cls (K:Frag) (C:Addr):Prop where
 pg:PySem.W.plainGet K C Str.empty = true
 hd:PySem.W.hasDictIn K C = true
 po:PySem.W.plainOver K C = true
 sa:findIn K (.ref C) "__setattr__" = some (some (.builtin "object.__setattr__"))
theorem Cls.get {K:Frag} {C:Addr} (c:Cls K C) (f:Str):PySem.W.plainGet K C f = true:=c.pg
structure Con (K:Frag) (C:Addr) (f:Str) (v:V) (u:Value):Prop where
 at_:findIn K (.ref C) f = some (some u)
 rel:RelV v u
 get:PySem.W.specialIn K u "__get__" = some none
 cp:PySem.W.copiedNames.contains f = false
structure Meth (K:Frag) (C:Addr) (m:Str) (f:Addr):Prop where
 at_:findIn K (.ref C) m = some (some (.ref f))
 fn:PySem.W.isFn K (.ref f) = true
 kp:keepIn K (.ref f) = true
section
variable {X:Cx} {pins:List (Addr × Obj)} {σ:St} {H:Hp} {s:Shared} {a C dx:Addr} {fs:List (Str × V)} {f:Str} {v:V} {A:Around} {E:Value -> Shared -> Prop}
theorem Inv.made (I:Inv X pins σ H s):Inv X pins σ (upd (upd H s.heap.objs.size (.own (s.heap.objs.size + 1))) (s.heap.objs.size + 1) (.ins C s.heap.objs.size []))
  { s with heap:=(s.heap.push PySem.W.emptyDict).push (PySem.W.instObj C s.heap.objs.size) }:=by
 have e1:(s.heap.push PySem.W.emptyDict).get? s.heap.objs.size = some PySem.W.emptyDict:=Heap.get?_push_size s.heap rfl
 have e2:((s.heap.push PySem.W.emptyDict).push (PySem.W.instObj C s.heap.objs.size)).get? (s.heap.objs.size + 1) = some (PySem.W.instObj C s.heap.objs.size):=by
  have:=Heap.get?_push_size (s.heap.push PySem.W.emptyDict) (o:=PySem.W.instObj C s.heap.objs.size) rfl
  rwa [Heap.size_push] at this
 have e3:(s.heap.push PySem.W.emptyDict).Ns s.heap.objs.size (fun _=>none):=⟨PySem.W.emptyDict,#[],_,e1,rfl,(fun e he=>absurd he (by simp)),fun _=>rfl⟩
 have I1:=I.laid (a:=s.heap.objs.size) (o:=.own (s.heap.objs.size + 1)) (h':=s.heap.push PySem.W.emptyDict) (t':=s.toks) (fun b u q=>Heap.get?_push_of_some _ q) (Nat.le_refl _) ⟨_,e1⟩
 refine I1.laid (a:=s.heap.objs.size + 1) (o:=.ins C s.heap.objs.size []) (t':=s.toks) (fun b u q=>Heap.get?_push_of_some _ q) (Nat.le_of_eq (Heap.size_push _ _)) ?_
 have ne:s.heap.objs.size ≠ s.heap.objs.size + 1:=Nat.ne_of_lt (Nat.lt_succ_self _)
 refine ⟨by rw [upd_ne ne,upd_same],Nat.zero_le _,ne,e2,fun _=>none,(Heap.Ns1.of_empty e3).at fun o q=>Heap.get?_push_of_some _ q,fun _=>True.intro,fun y hy=>absurd rfl hy⟩
end
section
variable {X:Cx} {o e value:Expr} {f:Str} {pos pos' tpos:Pos} {ta tv:TE}
end
section
variable {X:Cx} {pins:List (Addr × Obj)} {σ:St} {H:Hp} {s:Shared} {A:Around} {E:Value -> Shared -> Prop} {Q:Value -> Shared -> Prop} {c:Value} {b:Bool}
inductive TyOf (K:Frag) (H:Hp):V -> Value -> Prop where
 | non:TyOf K H .non (.type "NoneType")
 | bl (x:Bool):TyOf K H (.bl x) (.type "bool")
 | int (i:Int):TyOf K H (.int i) (.type "int")
 | str (x:Str):TyOf K H (.str x) (.type "str")
 | flt (x:UInt64):TyOf K H (.flt x) (.type "float")
 | lst {a:Addr} {xs:List V} (e:H a = some (.lst xs)):TyOf K H (.ref a) (.type "list")
 | frz {a:Addr} {o:Obj} {xs:List V} (e:H a = some (.frz o (.lst xs))):TyOf K H (.ref a) (.type "list")
 | tup {a:Addr} {xs:List V} (e:H a = some (.tup xs)):TyOf K H (.ref a) (.type "tuple")
 | dK {a:Addr} {kvs:List (Key × V)} (e:H a = some (.dK kvs)):TyOf K H (.ref a) (.type "dict")
 | dT {a:Addr} {kvs:List (List Key × V)} (e:H a = some (.dT kvs)):TyOf K H (.ref a) (.type "dict")
 | ins {a C dx:Addr} {fs:List (Str × V)} (e:H a = some (.ins C dx fs)) (cl:Cls K C) (ha:findIn K (.ref C) "__class__" = some (some (.builtin "object.__class__")))
   (hn:PySem.W.specialIn K (.builtin "object.__class__") "__get__" = some (some (.builtin "getset_descriptor.__get__"))) (htk:PySem.W.takesIn K (.builtin "object.__class__") = some true)
   (hm:PySem.W.mroIn K C (.type "object") = some true):TyOf K H (.ref a) (.ref C)
theorem isinst_ok {x:V} {u t:Value} (I:Inv X pins σ H s) (rx:RelV x u) (ty:TyOf X.K H x t) (e:PySem.W.kitOne X.K t c = some b) (h:∀ tk,Q (.bool b) { s with toks:=tk }):
  wpAny (model X.prog X.w) A (call (.builtin "isinstance") [u,c]) Q E s:=by
 cases ty with
 | non=>cases (show u = Value.none from rx); exact PySem.W.kia_one PySem.W.kitx_none I.kIn True.intro e (fun z=>nomatch z) h
 | bl y=>cases (show u = Value.bool y from rx); exact PySem.W.kia_one PySem.W.kitx_bool I.kIn True.intro e (fun z=>nomatch z) h
 | int i=>obtain ⟨t,q⟩:=(show ∃ t,u = Value.int i t from rx); cases q; exact PySem.W.kia_one PySem.W.kitx_int I.kIn True.intro e (fun z=>nomatch z) h
 | str y=>obtain ⟨t,q⟩:=(show ∃ t,u = Value.str y t from rx); cases q; exact PySem.W.kia_one PySem.W.kitx_str I.kIn True.intro e (fun z=>nomatch z) h
 | flt y=>obtain ⟨t,q⟩:=(show ∃ t,u = Value.float y t from rx); cases q; exact PySem.W.kia_one PySem.W.kitx_float I.kIn True.intro e (fun z=>nomatch z) h
 | @lst a xs ea=>
  cases (show u = Value.ref a from rx)
  obtain ⟨_,_,n,_,h1⟩:=(show ObjOk X.prog X.w H s.heap a (.lst xs) from I.hok a _ ea)
  exact PySem.W.kia_one PySem.W.kitx_list I.kIn ⟨_,h1,rfl⟩ e (fun z=>nomatch z) h
 | @frz a ob xs ea=>
  cases (show u = Value.ref a from rx)
  obtain ⟨_,_,_,n,_,h1⟩:=(show ObjOk X.prog X.w H s.heap a (.frz ob (.lst xs)) from I.hok a _ ea)
  exact PySem.W.kia_one PySem.W.kitx_list I.kIn ⟨_,h1,rfl⟩ e (fun z=>nomatch z) h
 | @tup a xs ea=>
  cases (show u = Value.ref a from rx)
  obtain ⟨_,_,_,p⟩:=(show ObjOk X.prog X.w H s.heap a (.tup xs) from I.hok a _ ea)
  obtain ⟨o,h1,h2,_⟩:=p
  exact PySem.W.kia_one PySem.W.kitx_tuple I.kIn ⟨o,h1,h2⟩ e (fun z=>nomatch z) h
 | @dK a kvs ea=>
  cases (show u = Value.ref a from rx)
  obtain ⟨_,_,vs,_,p⟩:=(show ObjOk X.prog X.w H s.heap a (.dK kvs) from I.hok a _ ea)
  obtain ⟨o,es,ep,h1,h2,_⟩:=p
  exact PySem.W.kia_one PySem.W.kitx_dict I.kIn ⟨o,h1,h2.1⟩ e (fun z=>nomatch z) h
 | @dT a kvs ea=>
  cases (show u = Value.ref a from rx)
  obtain ⟨_,_,xs,_,o,es,ep,h1,h2,_⟩:=(show ObjOk X.prog X.w H s.heap a (.dT kvs) from I.hok a _ ea)
  exact PySem.W.kia_one PySem.W.kitx_dict I.kIn ⟨o,h1,h2.1⟩ e (fun z=>nomatch z) h
 | @ins a C dx fs ea cl ha hn htk hm=>
  cases (show u = Value.ref a from rx)
  obtain ⟨mA,O,_⟩:=ins_get I.hok ea
  obtain ⟨od,J,_⟩:=O.look
  exact PySem.W.kia_one (PySem.W.kitx_own (cl.get _) cl.hd ha hn htk hm) I.kIn J e (fun z=>nomatch z) h
end
structure Room (k:Nat) (A:Around):Prop where
 hd:A.handled = none
 dp:A.depth + 3 * k + 5 < recursionLimit
 un:A.units + 16 * k + 200 < cLine
 gd:A.guards = some []
theorem Room.mono {j k:Nat} {A:Around} (r:Room k A) (h:j <= k):Room j A:=⟨r.hd,by have:=r.dp; omega,by have:=r.un; omega,r.gd⟩
theorem Room.deeper {k:Nat} {A:Around} (r:Room (k + 1) A) (env:Env):Room k (A.deeper env):=
 ⟨r.hd,by have:=r.dp; show A.depth + 1 + 3 * k + 5 < _; omega,by have:=r.un; show A.units + 3 + 16 * k + 200 < _; omega,r.gd⟩
theorem Room.in1 {k:Nat} {A:Around} (r:Room (k + 1) A):Room k A.in1:=
 ⟨r.hd,by have:=r.dp; show A.depth + 3 * k + 5 < _; omega,by have:=r.un; show A.units + 1 + 16 * k + 200 < _; omega,r.gd⟩
theorem Room.depth {k:Nat} {A:Around} (r:Room k A):A.depth < recursionLimit:=by have:=r.dp; omega
theorem Room.units {k:Nat} {A:Around} (r:Room k A):A.units + 64 < cLine:=by have:=r.un; omega
theorem Room.units0 {k:Nat} {A:Around} (r:Room k A):A.units < cLine:=by have:=r.un; omega
noncomputable def tNil:TA:=fun _ H Q=>Q [] H
noncomputable def tCons (ta:TE) (tr:TA):TA:=fun σ H Q=>ta σ H fun x H1=>tr σ H1 fun xs H2=>Q (x :: xs) H2
section
variable {X:Cx} {e:Expr} {es:List Expr} {te:TE} {t:TA} {pos:Pos}
theorem pa_nil:PA X [] tNil:=fun _ _ _ _ H Q I h=>Calls.spliced_nil ⟨[],H,I,.nil,h⟩
theorem pa_cons (ha:PE X e te) (hr:PA X es t) (hs:starEach (e :: es) X.env = (false,eval e X.env) :: starEach es X.env:=by rfl):PA X (e :: es) (tCons te t):=by
 intro pos pins s σ H Q I h
 rw [hs]
 show wpAny _ _ (spliced ((false,eval e X.env) :: backTo pos (starEach es X.env))) _ _ s
 refine Calls.spliced_cons (thn (ha pins s σ H _ I h) fun u s1 ⟨x,H1,I1,r1,q1⟩=>?_)
 exact thn (hr pos pins s1 σ H1 _ I1 q1) fun us s2 ⟨xs,H2,I2,r2,q2⟩=>⟨x :: xs,H2,I2,.cons r1 r2,q2⟩
noncomputable def tTup (t:TA):TE:=fun σ H Q=>t σ H fun xs H1=>xs.length <= sizeLine /\ ∀ p,H1 p = none -> Q (.ref p) (upd H1 p (.tup xs))
noncomputable def tLst (t:TA):TE:=fun σ H Q=>t σ H fun xs H1=>xs.length <= sizeLine /\ ∀ p,H1 p = none -> Q (.ref p) (upd H1 p (.lst xs))
theorem pe_tup {x1} (h:PA X es t):PE X (.Tuple es x1 pos) (tTup t):=by
 intro pins s σ H Q I hq
 refine wpAny_Tuple_spliced (thn (h pos pins s σ H _ I hq) fun us s1 ⟨xs,H1,I1,r,z,q⟩=>⟨by rw [<- r.length]; exact z,?_⟩)
 have hf:H1 s1.heap.objs.size = none:=I1.hok.fresh (Nat.le_refl _)
 refine ⟨.ref s1.heap.objs.size,upd H1 s1.heap.objs.size (.tup xs),I1.laid (t':=s1.toks) (fun b u e=>Heap.get?_push_of_some _ e) (Nat.le_refl _) ?_,rfl,q _ hf⟩
 exact ⟨z,us,r,⟨_,Heap.get?_push_size _ rfl,rfl,_,rfl⟩⟩
theorem pe_lst (h:PA X es t):PE X (.List es pos) (tLst t):=by
 intro pins s σ H Q I hq
 refine wpAny_List_spliced (thn (h pos pins s σ H _ I hq) fun us s1 ⟨xs,H1,I1,r,z,q⟩=>⟨by rw [<- r.length]; exact z,?_⟩)
 have hf:H1 s1.heap.objs.size = none:=I1.hok.fresh (Nat.le_refl _)
 refine ⟨.ref s1.heap.objs.size,upd H1 s1.heap.objs.size (.lst xs),I1.laid (t':=s1.toks) (fun b u e=>Heap.get?_push_of_some _ e) (Nat.le_refl _) ?_,rfl,q _ hf⟩
 exact ⟨z,us,0,r,Heap.get?_push_size _ rfl⟩
end
noncomputable abbrev Sp:=List V -> Hp -> VK -> XK -> Prop
noncomputable abbrev CXT:=List Env -> Hp -> Shared -> XK -> Value -> Shared -> Prop
structure Env0 (P:Program) (w:World) (K:Frag) (mg:Str -> Option Value) (base:Heap) (A:Around) (outer:List Env) (s:Shared) (H:Hp):Prop where
 frames:A.frames = some outer
 mod:Mod K mg base
 bs:∀ b o,base.get? b = some o -> s.heap.get? b = some o /\ H b = none
 bsz:base.objs.size <= s.heap.objs.size
 funs:s.heap.FunFrames base outer
 frf:∀ b ∈ frs outer,H b = none
 hok:HOk P w H s.heap
 bare:AllBare s.gens
 tk:0 < s.toks
def CE (outer:List Env) (P:Program) (w:World) (H:Hp) (s:Shared) (Q:VK) (u:Value) (s':Shared):Prop:=
 ∃ v H',0 < s'.toks /\ s'.os = s.os /\ AllBare s'.gens /\ Un (frs outer) [] H H' s.heap s'.heap /\ HOk P w H' s'.heap /\ RelV v u /\ Q v H'
def CR (CX:CXT) (outer:List Env) (P:Program) (w:World) (H:Hp) (s:Shared) (Q:VK) (E:XK) (r:Result) (s':Shared):Prop:=
 match r with
 | .ok (.ret u)=>CE outer P w H s Q u s'
 | .ok _=>False
 | .error e=>CX outer H s E e s'
structure FnOk (P:Program) (w:World) (K:Frag) (mg:Str -> Option Value) (base:Heap) (CX:CXT) (k:Nat) (f:Addr) (fd:FuncData) (ps:List Str) (sp:Sp):Prop where
 len:∀ vs H Q E,sp vs H Q E -> vs.length = ps.length
 run:∀ (A:Around) (outer:List Env) (s:Shared) (H:Hp) (args:Args) (us:List Value) (vs:List V) (Q:VK) (E:XK),Room k A -> Env0 P w K mg base A outer s H -> BindsTo s fd args (ps.zip us) -> Vals vs us -> sp vs H Q E ->
  codeAny (model P w) A (.call (.ref f) args) (CR CX outer P w H s Q E) s
theorem FnOk.mono {P:Program} {w:World} {K:Frag} {mg:Str -> Option Value} {base:Heap} {CX:CXT} {j k:Nat} {f:Addr} {fd:FuncData} {ps:List Str} {sp:Sp} (F:FnOk P w K mg base CX j f fd ps sp) (h:j <= k):
  FnOk P w K mg base CX k f fd ps sp:=⟨F.len,fun A outer s H args us vs Q E hr=>F.run A outer s H args us vs Q E (hr.mono h)⟩
theorem FnOk.imp {P:Program} {w:World} {K:Frag} {mg:Str -> Option Value} {base:Heap} {CX:CXT} {k:Nat} {f:Addr} {fd:FuncData} {ps:List Str} {sp sp':Sp} (F:FnOk P w K mg base CX k f fd ps sp)
  (h:∀ vs H Q E,sp' vs H Q E -> sp vs H Q E):FnOk P w K mg base CX k f fd ps sp':=
 ⟨fun vs H Q E q=>F.len vs H Q E (h _ _ _ _ q),fun A outer s H args us vs Q E hr he hb hv hs=>F.run A outer s H args us vs Q E hr he hb hv (h _ _ _ _ hs)⟩
theorem Env0.in1 {P:Program} {w:World} {K:Frag} {mg:Str -> Option Value} {base:Heap} {A:Around} {outer:List Env} {s:Shared} {H:Hp} (e:Env0 P w K mg base A outer s H):
  Env0 P w K mg base A.in1 outer s H:=⟨e.frames,e.mod,e.bs,e.bsz,e.funs,e.frf,e.hok,e.bare,e.tk⟩
section
variable {X:Cx} {pins:List (Addr × Obj)} {σ:St} {H:Hp} {s s':Shared}
theorem Inv.env0 (I:Inv X pins σ H s):Env0 X.prog X.w X.K X.mg X.base X.A X.stack s H:=
 ⟨I.ok.frames,I.ok.mod,I.bs,Nat.le_trans I.ok.bsz I.sz,I.stack,I.stkFree,I.hok,I.bare,I.tk⟩
theorem Inv.after {Q:VK} {u:Value} (I:Inv X pins σ H s) (h:CE X.stack X.prog X.w H s Q u s'):EP X pins σ Q u s':=by
 obtain ⟨v,H',ht,os,bare,un,hok,r,q⟩:=h
 obtain ⟨hh,g,d,t,os'⟩:=s'
 obtain rfl:os' = s.os:=os
 exact ⟨v,H',I.call (h':=hh) (g':=g) (d':=d) (t':=t) (ch:=[]) un hok bare (fun b z=>absurd z (by simp)) ht,r,q⟩
end
noncomputable def tCall (sp:Sp) (dvs:List V) (E:XK) (t:TA):TE:=fun σ H Q=>t σ H fun vs H1=>sp (vs ++ dvs) H1 Q E
def Binds (K:Frag) (fd:FuncData) (ps:List Str) (ds:List Value):Prop:=
 ∀ (s:Shared) (us:List Value),K.In s.heap -> (us ++ ds).length = ps.length -> BindsTo s fd ⟨us,[]⟩ (ps.zip (us ++ ds))
theorem Binds.all {K:Frag} {fd:FuncData} {ps:List Str} (h:∀ us:List Value,us.length = ps.length -> bindArgs fd ⟨us,[]⟩ = pure (ps.zip us)):Binds K fd ps []:=fun s us _ hl=>by
 rw [List.append_nil] at hl ⊢
 exact .of_eq (h us hl)
def Passes (CX:CXT) (X:Cx) (E:XK):Prop:=∀ (pins:List (Addr × Obj)) (σ:St) (H:Hp) (s:Shared) (e:Value) (s':Shared),Inv X pins σ H s -> CX X.stack H s E e s' -> X.xe e s'
section
variable {X:Cx} {CX:CXT} {k:Nat} {f C:Addr} {fd:FuncData} {ps:List Str} {sp:Sp} {dvs:List V} {ds:List Value} {E:XK} {x m:Str} {p pos apos:Pos} {e o:Expr} {es:List Expr} {ta:TE} {t:TA}
theorem run_fn {pins:List (Addr × Obj)} {σ:St} {H:Hp} {s:Shared} {Q:VK} {us:List Value} {vs:List V} (F:FnOk X.prog X.w X.K X.mg X.base CX k f fd ps sp) (hr:Room k X.A) (hb:Binds X.K fd ps ds) (hd:Vals dvs ds) (hx:Passes CX X E)
  (I:Inv X pins σ H s) (r:Vals vs us) (h:sp (vs ++ dvs) H Q E):wpAny (model X.prog X.w) X.A (call (.ref f) us) (EP X pins σ Q) X.xe s:=by
 have r2:Vals (vs ++ dvs) (us ++ ds):=r.append hd
 have hl:(us ++ ds).length = ps.length:=by rw [<- r2.length]; exact F.len _ _ _ _ h
 refine wpAny_call (codeAny_mono (F.run X.A X.stack s H ⟨us,[]⟩ (us ++ ds) (vs ++ dvs) Q E hr I.env0 (hb s us I.kIn hl) r2 h) fun r s' hq=>?_)
 cases r with
 | error e=>exact hx pins σ H s e s' I hq
 | ok fl=>
  cases fl with
  | ret u=>exact I.after hq
  | next=>exact False.elim hq
  | brk=>exact False.elim hq
  | cont=>exact False.elim hq
theorem pe_call (F:FnOk X.prog X.w X.K X.mg X.base CX k f fd ps sp) (hr:Room k X.A) (hg:Gl X x) (hm:X.mg x = some (.ref f)) (hk:keepIn X.K (.ref f) = true) (hb:Binds X.K fd ps ds) (hd:Vals dvs ds) (hx:Passes CX X E)
  (ha:PA X (e :: es) t) (hdb:(x == ("__debug__" : Str)) = false:=by decide) (he:starEach (e :: es) X.env = (false,eval e X.env) :: starEach es X.env:=by rfl) (hpl:(backTo pos (starEach es X.env)).any (·.1) = false:=by rfl):
  PE X (.Call (.Name x p) (e :: es) [] pos) (tCall sp dvs E t):=by
 intro pins s σ H Q I h
 refine wpAny_Call_Name_kw (ld_glob I hg hm ?_ hdb)
 refine PySem.W.callWith_K (h₀:=X.base) I.ok.mod.kin hk (thn (ha pos pins s σ H _ I h) fun us s1 ⟨vs,H1,I1,r,q⟩=>⟨I1.kIn,?_⟩) he hpl
 exact run_fn F hr hb hd hx I1 r q
structure Mk (K:Frag) (C f:Addr):Prop where
 makes:PySem.W.makesIn K C = true
 init:findIn K (.ref C) "__init__" = some (some (.ref f))
 fn:PySem.W.isFn K (.ref f) = true
 kp:keepIn K (.ref C) = true
end
section
variable {X:Cx} {CX:CXT} {k:Nat} {f C:Addr} {fd:FuncData} {ps ks:List Str} {sp:Sp} {E:XK} {x m:Str} {p pos apos kpos:Pos} {e o:Expr} {es:List Expr} {kws:List Keyword} {te ta:TE} {t tk:TA} {nm:Option Str}
structure KBinds (K:Frag) (fd:FuncData) (ps ks:List Str) (g:List Value -> List Value -> List Value) (gV:List V -> List V -> List V):Prop where
 to:∀ (s:Shared) (us ws:List Value),K.In s.heap -> (g us ws).length = ps.length -> BindsTo s fd ⟨us,ks.zip ws⟩ (ps.zip (g us ws))
 rel:∀ {vs:List V} {us:List Value} {zs:List V} {ws:List Value},Vals vs us -> Vals zs ws -> Vals (gV vs zs) (g us ws)
variable {g:List Value -> List Value -> List Value} {gV:List V -> List V -> List V}
end
structure FnScope (N P:List Str) (sc:Scope):Prop where
 kind:sc.kind = .function
 co:sc.isCoroutine = false
 gen:sc.isGenerator = false
 nd:N.Nodup
 pre:N.take P.length = P
 par:∀ x ∈ P,sc.names.lookup x = some .local \/ sc.names.lookup x = some .cell
 nofree:∀ y ∈ sc.names,y.2 ≠ .free
theorem bindL_out {kindOf:Str -> Option NameKind} {x:Str}:∀ {binds:List (Str × Value)} {m:Str -> Option Value},(∀ v,(x,v) ∉ binds) -> bindL kindOf binds m x = m x
 | [],_,_=>rfl
 | (n,v) :: r,m,h=>by
  unfold bindL
  rw [bindL_out fun w hw=>h w (List.mem_cons_of_mem _ hw)]
  split
  ·have:x ≠ n:=by rintro rfl; exact h v List.mem_cons_self
   simp [this]
  ·rfl
theorem bindC_out {kindOf:Str -> Option NameKind} {x:Str}:∀ {binds:List (Str × Value)} {m:Str -> Option Value},(∀ v,(x,v) ∉ binds) -> bindC kindOf binds m x = m x
 | [],_,_=>rfl
 | (n,v) :: r,m,h=>by
  unfold bindC
  rw [bindC_out fun w hw=>h w (List.mem_cons_of_mem _ hw)]
  split
  ·rfl
  ·have:x ≠ n:=by rintro rfl; exact h v List.mem_cons_self
   simp [this]
theorem bindL_get {kindOf:Str -> Option NameKind} {x:Str} {v:Value}:∀ {P:List Str} {vs:List Value} {i:Nat} {m:Str -> Option Value},P.Nodup -> P[i]? = some x -> vs[i]? = some v -> kindOf x = some .local ->
  bindL kindOf (P.zip vs) m x = some v
 | [],_,_,_,_,h,_,_=>by simp at h
 | _ :: _,[],_,_,_,_,h,_=>by simp at h
 | p :: P,w :: vs,0,m,nd,h1,h2,hk=>by
  simp at h1 h2; subst h1; subst h2
  show bindL kindOf ((p,w) :: P.zip vs) m p = _
  unfold bindL
  rw [bindL_out fun v hv=>(List.nodup_cons.mp nd).1 (List.of_mem_zip hv).1,if_pos hk]
  simp
 | p :: P,w :: vs,i + 1,m,nd,h1,h2,hk=>by
  show bindL kindOf ((p,w) :: P.zip vs) m x = _
  unfold bindL
  exact bindL_get (i:=i) (List.nodup_cons.mp nd).2 (by simpa using h1) (by simpa using h2) hk
theorem bindC_get {kindOf:Str -> Option NameKind} {x:Str} {v:Value}:∀ {P:List Str} {vs:List Value} {i:Nat} {m:Str -> Option Value},P.Nodup -> P[i]? = some x -> vs[i]? = some v -> kindOf x ≠ some .local ->
  bindC kindOf (P.zip vs) m x = some v
 | [],_,_,_,_,h,_,_=>by simp at h
 | _ :: _,[],_,_,_,_,h,_=>by simp at h
 | p :: P,w :: vs,0,m,nd,h1,h2,hk=>by
  simp at h1 h2; subst h1; subst h2
  show bindC kindOf ((p,w) :: P.zip vs) m p = _
  unfold bindC
  rw [bindC_out fun v hv=>(List.nodup_cons.mp nd).1 (List.of_mem_zip hv).1,if_neg hk]
  simp
 | p :: P,w :: vs,i + 1,m,nd,h1,h2,hk=>by
  show bindC kindOf ((p,w) :: P.zip vs) m x = _
  unfold bindC
  exact bindC_get (i:=i) (List.nodup_cons.mp nd).2 (by simpa using h1) (by simpa using h2) hk
noncomputable def start (N:List Str) (vs:List V):St:=vs.map some ++ List.replicate (N.length - vs.length) none
noncomputable def cxOf (CX:CXT) (P:Program) (w:World) (K:Frag) (mg:Str -> Option Value) (base:Heap) (N:List Str) (qual:Str) (scope:Scope) (f:Addr) (cd:Value) (A:Around) (outer:List Env) (s:Shared) (H:Hp) (E:XK):Cx where
 prog:=P
 w:=w
 K:=K
 mg:=mg
 base:=base
 A:=A.deeper (envOfC qual scope s.heap.objs.size f cd)
 N:=N
 s₀:=s
 H₀:=H
 env:=envOfC qual scope s.heap.objs.size f cd
 outer:=outer
 stack:=envOfC qual scope s.heap.objs.size f cd :: outer
 ex:=[]
 calm:=true
 fn:=fun _=>true
 pn:=[]
 xe:=fun e s'=>wpAny (model P w) (A.deeper (envOfC qual scope s.heap.objs.size f cd)) (leaving (envOfC qual scope s.heap.objs.size f cd) e) (fun _ s''=>CX outer H s E e s'') (fun e' s''=>CX outer H s E e' s'') s'
theorem cell_has {sc:Scope} {n:Nat} {x:Str} (h:sc.names.lookup x = some .cell):∃ c,(cellsFrom n sc.names []).lookup x = some c:=by
 have q:=PySem.W.cellsFrom_some sc.names n [] (.inl h)
 exact Option.isSome_iff_exists.mp q
theorem inv_start {CX:CXT} {P:Program} {w:World} {K:Frag} {mg:Str -> Option Value} {base:Heap} {N ps:List Str} {qual:Str} {scope:Scope} {f:Addr} {cd:Value} {A:Around} {outer:List Env} {s s1:Shared} {H:Hp} {E:XK} {us:List Value} {vs:List V}
  (S:FnScope N ps scope) (hd:A.handled = none) (e0:Env0 P w K mg base A outer s H) (hl:vs.length = ps.length) (r:Vals vs us)
  (x:InCallC s s.heap.objs.size (bindL (envOfC qual scope s.heap.objs.size f cd).kindOf (ps.zip us) fun _=>none) (cellsFrom (s.heap.objs.size + 1) scope.names []) (bindC (envOfC qual scope s.heap.objs.size f cd).kindOf (ps.zip us) fun _=>none) s1) (htk:0 < s1.toks):
  Inv (cxOf CX P w K mg base N qual scope f cd A outer s H E) [] (start N vs) H s1:=by
 have hpl:ps.length <= N.length:=by have:=congrArg List.length S.pre; rw [List.length_take] at this; omega
 obtain ⟨h1,tk,rfl,hk⟩:=x.done
 have noA:∀ b:Addr,b ∉ (cxOf CX P w K mg base N qual scope f cd A outer s H E).ex:=fun b z=>absurd (show b ∈ ([]:List Addr) from z) (by simp)
 refine ⟨⟨e0.mod,S.kind,rfl,rfl,Nat.le_refl _,fun y z c h1 h2=>?_,fun y hy=>?_,fun y c _ h=>?_,fun _=>hd,Around.frames_deeper e0.frames,.inr ⟨rfl,rfl⟩,fun b z=>absurd z (noA b),e0.bs,e0.bsz,fun b _ _=>noA b,fun b z=>absurd z (noA b),e0.funs,e0.frf⟩,
  rfl,e0.bare,Un.kept hk,⟨_,x.toInCall.ns,fun i y v h1 h2 h3=>?_⟩,fun y c h=>⟨_,x.cell y c h⟩,e0.hok.fresh (Nat.le_refl _),fun y c h=>?_,fun p hp=>absurd (show p ∈ ([]:List (Addr × Obj)) from hp) (by simp),e0.hok.kept hk,?_,htk⟩
 ·exact name_of_addr x.apart (PySem.mem_of_lookup h1) (PySem.mem_of_lookup h2)
 ·have hy:scope.names.lookup y = some .cell \/ scope.names.lookup y = some .free:=hy
  rcases hy with hy | hy
  ·exact cell_has hy
  ·exact absurd rfl (S.nofree _ (PySem.mem_of_lookup hy))
 ·exact Nat.le_of_lt (x.above y c (PySem.mem_of_lookup h))
 ·have hi:i < vs.length:=by
   unfold start at h2
   by_cases hi:i < vs.length
   ·exact hi
   ·rw [List.getElem?_append_right (by simpa using hi)] at h2
    rw [List.getElem?_replicate] at h2
    split at h2 <;> cases h2
  have ha:vs[i]? = some v:=by
   unfold start at h2
   rw [List.getElem?_append_left (by simpa using hi),List.getElem?_map] at h2
   cases e:vs[i]? with
   | none=>rw [e] at h2; cases h2
   | some a=>rw [e] at h2; cases h2; rfl
  obtain ⟨u,hu,rv⟩:=r.get ha
  have hp:ps[i]? = some y:=by
   rw [<- S.pre,List.getElem?_take_of_lt (by omega)]; exact h1
  have ndP:ps.Nodup:=by rw [<- S.pre]; exact S.nd.sublist (List.take_sublist _ _)
  refine ⟨u,rv,?_⟩
  rcases S.par y (List.mem_of_getElem? hp) with k | k
  ·exact .inl ⟨k,bindL_get ndP hp hu k⟩
  ·obtain ⟨c,e⟩:=cell_has (n:=s.heap.objs.size + 1) k
   refine .inr ⟨.inl k,c,e,?_⟩
   have q:=x.cell y c e
   rw [bindC_get ndP hp hu (by show scope.names.lookup y ≠ _; rw [k]; decide)] at q
   exact q
 ·exact e0.hok.fresh (Nat.le_of_lt (x.above y c (PySem.mem_of_lookup h)))
 ·unfold start
  show _ = N.length
  rw [List.length_append,List.length_map,List.length_replicate]
  omega
theorem fn_of {CX:CXT} {P:Program} {w:World} {K:Frag} {mg:Str -> Option Value} {base:Heap} {k:Nat} {f:Addr} {name qual:Str} {params:Arguments} {body:List Stmt} {scope:Scope} {dV kV doc pm cdv ct oc:Value} {an od:Option Addr}
  {osl:Array (Option Value)} {N ps:List Str} {sp:Sp} (lk:K.lookup f = some ⟨oc,od,.func (fnOf name qual params body scope dV kV doc pm an cdv ct),osl⟩) (hcd:codeIn K cdv qual = true) (S:FnScope N ps scope)
  (len:∀ vs H Q E,sp vs H Q E -> vs.length = ps.length)
  (hbody:∀ (A:Around) (outer:List Env) (s:Shared) (H:Hp) (vs:List V) (Q:VK) (E:XK),Room k (A.deeper (envOfC qual scope s.heap.objs.size f cdv)) -> sp vs H Q E ->
   ∃ t,PSs (cxOf CX P w K mg base N qual scope f cdv A outer s H E) body t /\ t { nx:=fun _ H'=>Q .non H',rt:=Q } (start N vs) H):
  FnOk P w K mg base CX (k + 1) f (fnOf name qual params body scope dV kV doc pm an cdv ct) ps sp:=by
 refine ⟨len,fun A outer s H args us vs Q E hr e0 hb r hsp=>?_⟩
 have hl:=len _ _ _ _ hsp
 have KX:K.In s.heap:=e0.mod.kin.keeps fun b o e=>(e0.bs b o e).1
 have lim:s.heap.NoLimit:=e0.mod.nolimit.keeps fun b o e=>(e0.bs b o e).1
 have hkind:∀ y ∈ ps.zip us,scope.names.lookup y.1 = some .local \/ (scope.names.lookup y.1 = some .cell /\ ((cellsFrom (s.heap.objs.size + 1) scope.names []).lookup y.1).isSome = true):=fun ⟨n,v⟩ hy=>by
  rcases S.par n (List.of_mem_zip hy).1 with q | q
  ·exact .inl q
  ·exact .inr ⟨q,PySem.W.cellsFrom_some _ _ _ (.inl q)⟩
 refine codeAny_call_function hr.depth (KX _ _ lk) rfl S.co S.gen rfl (PySem.W.codeRec_of KX hcd) (hb _ _ _ _ ?_)
 refine tokQ e0.tk (wpAny_newFunctionEnv_cells S.kind hkind fun env he s1 x htk=>?_)
 subst he
 refine ⟨lim.keeps x.toInCall.keep,codeAny_func ?_⟩
 obtain ⟨t,ht,hq⟩:=hbody A outer s H vs Q E (hr.deeper _) hsp
 have I:Inv (cxOf CX P w K mg base N qual scope f cdv A outer s H E) [] (start N vs) H s1:=inv_start S hr.hd e0 hl r x htk
 refine wpAny_mono (ht [] s1 (start N vs) H _ I hq) (fun fl s' hs=>?_) fun e s' hs=>hs
 have fin:∀ {σ':St} {H':Hp} {v:V} {u:Value},Inv (cxOf CX P w K mg base N qual scope f cdv A outer s H E) [] σ' H' s' -> RelV v u -> Q v H' -> CE outer P w H s Q u s':=
  fun {σ' H' v u} J rv q=>⟨v,H',J.tk,J.os,J.bare,J.base,J.hok,rv,q⟩
 cases fl with
 | ret u=>
  obtain ⟨v,σ',H',J,rv,q⟩:=hs
  exact fin J rv q
 | next=>
  obtain ⟨σ',H',J,q⟩:=hs
  exact fin (v:=V.non) (u:=Value.none) J rfl q
 | brk=>
  obtain ⟨_,_,_,q⟩:=hs
  exact False.elim q
 | cont=>
  obtain ⟨_,_,_,q⟩:=hs
  exact False.elim q
section
variable {X:Cx} {x:Str} {p pos:Pos} {e:Expr} {es:List Expr} {t:TA} {id T:String} {r:List V -> Hp -> VK -> Prop}
noncomputable def tCB (r:List V -> Hp -> VK -> Prop) (t:TA):TE:=fun σ H Q=>t σ H fun vs H1=>r vs H1 Q
theorem pe_callB (hc:CallR X (.builtin id) r) (hg:Gl X x) (hm:X.mg x = none) (hv:bootBuiltins x = some (.builtin id)) (ha:PA X (e :: es) t) (hn:x ≠ "__name__" := by decide) (hdb:(x == ("__debug__" : Str)) = false:=by decide)
  (he:starEach (e :: es) X.env = (false,eval e X.env) :: starEach es X.env:=by rfl) (hpl:(backTo pos (starEach es X.env)).any (·.1) = false:=by rfl):PE X (.Call (.Name x p) (e :: es) [] pos) (tCB r t):=by
 intro pins s σ H Q I h
 refine wpAny_Call_Name_kw (ld_blt I hg hm hv ?_ hn hdb)
 exact PyProof.Rows.callWith_builtin1 (thn (ha pos pins s σ H _ I h) fun us s1 ⟨vs,H1,I1,r1,q1⟩=>hc pins s1 σ H1 vs us Q I1 r1 q1) he hpl
theorem pe_callTy (hc:CallR X (.type T) r) (hg:Gl X x) (hm:X.mg x = none) (hv:bootBuiltins x = some (.type T)) (ha:PA X (e :: es) t) (hn:x ≠ "__name__" := by decide) (hdb:(x == ("__debug__" : Str)) = false:=by decide)
  (he:starEach (e :: es) X.env = (false,eval e X.env) :: starEach es X.env:=by rfl) (hpl:(backTo pos (starEach es X.env)).any (·.1) = false:=by rfl):PE X (.Call (.Name x p) (e :: es) [] pos) (tCB r t):=by
 intro pins s σ H Q I h
 refine wpAny_Call_Name_kw (ld_blt I hg hm hv ?_ hn hdb)
 exact PyProof.Rows.callWith_type1 (thn (ha pos pins s σ H _ I h) fun us s1 ⟨vs,H1,I1,r1,q1⟩=>hc pins s1 σ H1 vs us Q I1 r1 q1) he hpl
end
end L2
namespace HT
open PySem PyProof.Rows
section
open PySem.SeqAt
open PySem.AutoSeq1 (wpAny_loadPart')
open PySem.MeetsSeq PySem.MeetsSeq2 PySem.MeetsSeq3
end
section
variable {prog:Program} {w:World} {A:Around} {E:Value -> Shared -> Prop} {s:Shared}
noncomputable def sIx (n d:Nat):Option Int -> Nat
 | none=>d
 | some v=>if v < 0 then (v + (n:Int)).toNat else min v.toNat n
end
end HT
namespace L2
open PySem PySem.Spec PyProof.Rows
noncomputable abbrev TO:=St -> Hp -> (Option Int -> Hp -> Prop) -> Prop
def PO (X:Cx) (e:Option Expr) (t:TO):Prop:=
 ∀ (pins:List (Addr × Obj)) (s:Shared) (σ:St) (H:Hp) (Q:Option Int -> Hp -> Prop),Inv X pins σ H s -> t σ H Q ->
  wpAny (model X.prog X.w) X.A (evalPart e X.env) (fun u s'=>∃ o H',Inv X pins σ H' s' /\ IsPart u o /\ Q o H') X.xe s
noncomputable def tNoPart:TO:=fun _ H Q=>Q none H
noncomputable def tPart (t:TE):TO:=fun σ H Q=>t σ H fun x H1=>∃ i,x = .int i /\ Q (some i) H1
theorem intsAre_of {ns:List Int}:∀ {us:List Value},Vals (ns.map V.int) us -> IntsAre us ns:=by
 induction ns with
 | nil=>intro us r; rw [List.map_nil] at r; cases r; exact .nil
 | cons n ns ih=>
  intro us r
  rw [List.map_cons] at r
  cases r with
  | cons r1 r2=>
   obtain ⟨t,e⟩:=r1
   subst e
   exact .cons n t (ih r2)
section
variable {X:Cx} {e:Expr} {te:TE} {lo hi:Option Expr} {tl th:TO} {pos p2:Pos}
theorem po_none:PO X none tNoPart:=by
 intro pins s σ H Q I h
 rw [evalPart_none]
 exact wpAny_pure ⟨none,H,I,.none,h⟩
theorem po_some (h:PE X e te):PO X (some e) (tPart te):=by
 intro pins s σ H Q I hw
 rw [evalPart_some]
 refine thn (h pins s σ H _ I hw) fun u s1 ⟨x,H1,I1,r1,q1⟩=>?_
 obtain ⟨i,rfl,q⟩:=q1
 obtain ⟨t,rfl⟩:=r1
 exact ⟨some i,H1,I1,.int i t,q⟩
def SlR (X:Cx) (r:V -> Option Int -> Option Int -> Hp -> VK -> Prop):Prop:=
 ∀ (pins:List (Addr × Obj)) (s:Shared) (σ:St) (H:Hp) (x:V) (v vl vu:Value) (lo hi:Option Int) (sl:Addr) (Q:VK),Inv X pins σ H s -> RelV x v -> s.heap.IsSliceOf sl vl vu .none -> IsPart vl lo -> IsPart vu hi -> r x lo hi H Q ->
  ∃ T id,typeLookup (.type T) "__getitem__" = pure (some (.builtin id)) /\ s.TypeIs v T /\ wpAny (model X.prog X.w) X.A (getItem v (.ref sl)) (EP X pins σ Q) X.xe s
theorem SlR.or {r r':V -> Option Int -> Option Int -> Hp -> VK -> Prop} (h:SlR X r) (h':SlR X r'):SlR X (fun x lo hi H Q=>r x lo hi H Q \/ r' x lo hi H Q):=by
 intro pins s σ H x v vl vu lo hi sl Q I rx hs pl pu q
 rcases q with q | q
 ·exact h pins s σ H x v vl vu lo hi sl Q I rx hs pl pu q
 ·exact h' pins s σ H x v vl vu lo hi sl Q I rx hs pl pu q
noncomputable def tSl (r:V -> Option Int -> Option Int -> Hp -> VK -> Prop) (te:TE) (tl th:TO):TE:=fun σ H Q=>te σ H fun x H1=>tl σ H1 fun l H2=>th σ H2 fun u H3=>r x l u H3 Q
theorem pe_slice {r:V -> Option Int -> Option Int -> Hp -> VK -> Prop} (hr:SlR X r) (he:PE X e te) (hl:PO X lo tl) (hu:PO X hi th):PE X (.Subscript e (.Slice lo hi none p2) pos) (tSl r te tl th):=by
 intro pins s σ H Q I h
 refine Subscript_ (thn (he pins s σ H _ I h) fun v s1 ⟨x,H1,I1,r1,q1⟩=>?_)
 refine wpAny_Slice (thn (hl pins s1 σ H1 _ I1 q1) fun vl s2 ⟨l,H2,I2,pl,q2⟩=>thn (hu pins s2 σ H2 _ I2 q2) fun vu s3 ⟨u,H3,I3,pu,q3⟩=>?_)
 rw [evalPart_none]
 refine wpAny_pure ?_
 have I4:Inv X pins σ H3 { s3 with heap:=s3.heap.push { cls:=.type "slice",data:=.fields #[vl,vu,.none] } }:=I3.kept (t':=s3.toks) fun b ob q=>Heap.get?_push_of_some _ q
 obtain ⟨T,id,hT,ht,hg⟩:=hr pins { s3 with heap:=s3.heap.push { cls:=.type "slice",data:=.fields #[vl,vu,.none] } } σ H3 x v vl vu l u s3.heap.objs.size Q I4 r1 (Heap.IsSliceOf.new ..) pl pu q3
 show wpAny (model X.prog X.w) X.A (subscriptTail e (.Slice lo hi none p2) v (.ref s3.heap.objs.size)) (EP X pins σ Q) X.xe { s3 with heap:=s3.heap.push { cls:=.type "slice",data:=.fields #[vl,vu,.none] } }
 exact tail_any (ops:=[.ref s3.heap.objs.size,v]) ht hT hg (by with_unfolding_all rfl)
noncomputable def cutV (xs:List V) (lo hi:Option Int):List V:=(xs.drop (HT.sIx xs.length 0 lo)).take (HT.sIx xs.length xs.length hi - HT.sIx xs.length 0 lo)
theorem cutV_length (xs:List V) (lo hi:Option Int):(cutV xs lo hi).length <= xs.length:=by
 unfold cutV
 rw [List.length_take,List.length_drop]
 omega
end
noncomputable def ixN (n:Nat) (i:Int):Option Nat:=if 0 <= i then (if i < n then some i.toNat else none) else if -(n:Int) <= i then some (i + n).toNat else none
noncomputable def atI {α:Type} (xs:List α) (i:Int):Option α:=(ixN xs.length i).bind fun j=>xs[j]?
theorem ixN_seq {n:Nat} {i:Int} {j:Nat} (h:ixN n i = some j):seqIndex? i n = some j /\ j < n /\ -(n:Int) <= i /\ i < n:=by
 unfold ixN at h
 by_cases h0:0 <= i
 ·rw [if_pos h0] at h
  by_cases h1:i < n
  ·rw [if_pos h1] at h
   have e:i.toNat = j:=Option.some.inj h
   exact ⟨by rw [seqIndex_of h0 h1,e],by omega,by omega,h1⟩
  ·rw [if_neg h1] at h; cases h
 ·rw [if_neg h0] at h
  by_cases h1:-(n:Int) <= i
  ·rw [if_pos h1] at h
   have e:(i + n).toNat = j:=Option.some.inj h
   exact ⟨by rw [seqIndex_neg (by omega) h1,e],by omega,h1,by omega⟩
  ·rw [if_neg h1] at h; cases h
theorem atI_get {α:Type} {xs:List α} {i:Int} {v:α} (h:atI xs i = some v):∃ j,seqIndex? i xs.length = some j /\ xs[j]? = some v /\ j < xs.length /\ -(xs.length:Int) <= i /\ i < xs.length:=by
 unfold atI at h
 cases e:ixN xs.length i with
 | none=>rw [e] at h; cases h
 | some j=>
  rw [e] at h
  obtain ⟨h1,h2,h3,h4⟩:=ixN_seq e
  exact ⟨j,h1,h,h2,h3,h4⟩
theorem atI_nat {α:Type} {xs:List α} {j:Nat} {v:α} (h:xs[j]? = some v):atI xs (j:Int) = some v:=by
 have hj:j < xs.length:=(List.getElem?_eq_some_iff.mp h).1
 have e:ixN xs.length (j:Int) = some j:=by
  unfold ixN
  rw [if_pos (by omega),if_pos (by omega)]; simp
 unfold atI; rw [e]; exact h
def PlainIx (b:Expr):Prop:=∀ o i,subscripted b false o i = operate [o,i] (getItem o i)
def IxR (X:Cx) (r:R2):Prop:=
 ∀ (value slice:Expr) (pins:List (Addr × Obj)) (s:Shared) (σ:St) (H:Hp) (x y:V) (v u:Value) (Q:VK),Inv X pins σ H s -> RelV x v -> RelV y u -> r x y H Q ->
  subscripted slice false v u = operate [v,u] (getItem v u) -> wpAny (model X.prog X.w) X.A (subscriptTail value slice v u) (EP X pins σ Q) X.xe s
def MtR (X:Cx) (id:String) (r:V -> List V -> Hp -> VK -> Prop):Prop:=
 ∀ (pins:List (Addr × Obj)) (s:Shared) (σ:St) (H:Hp) (x:V) (xs:List V) (v:Value) (us:List Value) (Q:VK),Inv X pins σ H s -> RelV x v -> Vals xs us -> r x xs H Q ->
  wpAny (model X.prog X.w) X.A (call (.builtin id) (v :: us)) (EP X pins σ Q) X.xe s
section
variable {X:Cx} {a b:Expr} {ta tb:TE} {pos:Pos}
theorem IxR.or {r r':R2} (h:IxR X r) (h':IxR X r'):IxR X (fun x y H Q=>r x y H Q \/ r' x y H Q):=by
 intro value slice pins s σ H x y v u Q I rx ry q hs
 rcases q with q | q
 ·exact h value slice pins s σ H x y v u Q I rx ry q hs
 ·exact h' value slice pins s σ H x y v u Q I rx ry q hs
theorem MtR.or {id:String} {r r':V -> List V -> Hp -> VK -> Prop} (h:MtR X id r) (h':MtR X id r'):MtR X id (fun x xs H Q=>r x xs H Q \/ r' x xs H Q):=by
 intro pins s σ H x xs v us Q I rx rs q
 rcases q with q | q
 ·exact h pins s σ H x xs v us Q I rx rs q
 ·exact h' pins s σ H x xs v us Q I rx rs q
theorem pe_ix {r:R2} (hr:IxR X r) (ha:PE X a ta) (hb:PE X b tb) (hs:PlainIx b):PE X (.Subscript a b pos) (tOp r ta tb):=by
 intro pins s σ H Q I h
 exact Subscript_ (binT ha hb I h fun v u s2 x y H2 I2 rx ry q=>hr a b pins s2 σ H2 x y v u Q I2 rx ry q (hs _ _))
noncomputable def rIxL (K:Frag):R2:=fun x y H Q=>∃ p xs i v,x = .ref p /\ y = .int i /\ SqL K H p xs /\ atI xs i = some v /\ Q v H
noncomputable def rIxT (K:Frag):R2:=fun x y H Q=>∃ p xs i v,x = .ref p /\ y = .int i /\ SqT K H p xs /\ atI xs i = some v /\ Q v H
noncomputable def rIxS:R2:=fun x y H Q=>∃ z i c,x = .str z /\ y = .int i /\ z.length <= sizeLine /\ atI z.cps.toList i = some c /\ Q (.str ⟨#[c]⟩) H
theorem ix_list:IxR X (rIxL X.K):=by
 intro value slice pins s σ H x y v u Q I rx ry h hs
 obtain ⟨p,xs,i,z,rfl,rfl,hq,he,q⟩:=h
 cases rx
 obtain ⟨t,rfl⟩:=ry
 obtain ⟨its,r,pl,hz⟩:=I.list hq
 obtain ⟨j,h1,h2,h3,h4,h5⟩:=atI_get he
 obtain ⟨w,ew,rw'⟩:=r.get h2
 have hl:=r.length
 have hn:=line63
 have fin:EP X pins σ Q w s:=⟨z,H,I,rw',q⟩
 by_cases h0:0 <= i
 ·have hj:i.toNat = j:=by
   rw [seqIndex_of h0 h5] at h1
   exact Option.some.inj h1
  exact item_listR pl.isList h0 (by omega) (by rw [hj]; simpa using ew) fin hs
 ·have hj:(i + (its.toArray.size:Int)).toNat = j:=by
   rw [seqIndex_neg (by omega) h4] at h1
   rw [List.size_toArray,<- hl]
   exact Option.some.inj h1
  exact subscriptTail_builtinR (x:=w) pl.isList.typeIs slot_list_getitem.lookup
   (wpAny_getItem_list_neg (Q:=fun r s'=>r = w /\ EP X pins σ Q r s') pl.isList (by omega) (by rw [List.size_toArray] <;> omega) (by omega) (by rw [hj]; simpa using ew) ⟨rfl,fin⟩) hs
theorem ix_tup:IxR X (rIxT X.K):=by
 intro value slice pins s σ H x y v u Q I rx ry h hs
 obtain ⟨p,xs,i,z,rfl,rfl,hq,he,q⟩:=h
 cases rx
 obtain ⟨t,rfl⟩:=ry
 obtain ⟨its,r,pl,hz⟩:=I.tuple hq
 obtain ⟨j,h1,h2,h3,h4,h5⟩:=atI_get he
 obtain ⟨w,ew,rw'⟩:=r.get h2
 have hl:=r.length
 have hn:=line63
 have fin:EP X pins σ Q w s:=⟨z,H,I,rw',q⟩
 exact subscriptTail_builtinR (x:=w) pl.typeIs slot_tuple_getitem.lookup
  (getItem_tuple (j:=j) (Q:=fun r s'=>r = w /\ EP X pins σ Q r s') pl (by omega) (by omega) (by rw [List.size_toArray,<- hl]; exact h1) (by simpa using ew) ⟨rfl,fin⟩) hs
theorem ix_str:IxR X rIxS:=by
 intro value slice pins s σ H x y v u Q I rx ry h hs
 obtain ⟨z,i,c,rfl,rfl,hz,he,q⟩:=h
 obtain ⟨t,rfl⟩:=rx
 obtain ⟨t',rfl⟩:=ry
 obtain ⟨j,h1,h2,h3,h4,h5⟩:=atI_get he
 have hl:z.cps.toList.length = z.length:=by simp [Str.length]
 rw [hl] at h1 h4 h5
 have hn:=line63
 exact tail_any (typeIs_str s z t) slot_str_getitem.lookup (getItem_str (c:=c) (by
  have e1:decide (i < -(2 ^ 63:Int)) = false:=decide_eq_false (by omega)
  have e2:decide (i >= 2 ^ 63) = false:=decide_eq_false (by omega)
  rw [e1,e2,Bool.or_false]) (by rw [h1]; simpa using h2) ⟨.str ⟨#[c]⟩,H,I.tok _,⟨_,rfl⟩,q⟩) hs
noncomputable def rIx (K:Frag):R2:=fun x y H Q=>rIxL K x y H Q \/ rIxT K x y H Q \/ rIxS x y H Q
theorem ix_seq:IxR X (rIx X.K):=ix_list.or (ix_tup.or ix_str)
theorem mapSeq_set (its:List Value) (n j:Nat) (u:Value):Obj.mapSeq (·.setIfInBounds j u) { cls:=.type "list",data:=.seq its.toArray n } = { cls:=.type "list",data:=.seq (its.set j u).toArray n }:=by
 simp [Obj.mapSeq]
theorem Inv.lst {pins:List (Addr × Obj)} {σ:St} {H:Hp} {s:Shared} {p:Addr} {xs:List V} (I:Inv X pins σ H s) (h:H p = some (.lst xs)):
  ∃ (its:List Value) (n:Nat),Vals xs its /\ s.heap.get? p = some { cls:=.type "list",data:=.seq its.toArray n } /\ xs.length <= sizeLine:=by
 obtain ⟨z,its,n,r,e⟩:=I.hok p _ h
 exact ⟨its,n,r,e,z⟩
theorem Inv.lstUpd {pins:List (Addr × Obj)} {σ:St} {H:Hp} {s:Shared} {p:Addr} {xs ys:List V} {its its':List Value} {n n':Nat} {f:Obj -> Obj} (I:Inv X pins σ H s) (h:H p = some (.lst xs))
  (ho:s.heap.get? p = some { cls:=.type "list",data:=.seq its.toArray n }) (hf:f { cls:=.type "list",data:=.seq its.toArray n } = { cls:=.type "list",data:=.seq its'.toArray n' }) (r:Vals ys its') (hz:ys.length <= sizeLine) (t:Nat) (ht:0 < t:=by first | assumption | exact Nat.succ_pos _ | (apply Inv.tk; assumption) | omega):
  Inv X pins σ (upd H p (.lst ys)) { s with heap:=s.heap.update p f,toks:=t }:=by
 have e:(s.heap.update p f).get? p = some { cls:=.type "list",data:=.seq its'.toArray n' }:=by
  rw [Heap.get?_update_self f ho (by rw [hf] <;> rfl),hf]
 refine I.write (x:=p) (e:=p) (by rw [h]; trivial) (.inl rfl) (fun b u hb q=>(Heap.get?_update_other _ _ (Ne.symm hb)).trans q) ⟨_,e⟩ ?_
 exact ⟨hz,its',n',r,e⟩
noncomputable def rSetL:V -> V -> V -> Hp -> (Hp -> Prop) -> Prop:=fun o i v H Q=>∃ p xs k j,o = .ref p /\ i = .int k /\ H p = some (.lst xs) /\ ixN xs.length k = some j /\ Q (upd H p (.lst (xs.set j v)))
theorem set_list:PSet X rSetL:=by
 intro pins s σ H o i v ov iv u Q I ro ri rv h
 obtain ⟨p,xs,k,j,rfl,rfl,hp,hj,q⟩:=h
 cases ro
 obtain ⟨t,rfl⟩:=ri
 obtain ⟨its,n,r,ho,hz⟩:=I.lst hp
 obtain ⟨h1,h2,h3,h4⟩:=ixN_seq hj
 have hl:=r.length
 have hn:=line63
 have I':Inv X pins σ (upd H p (.lst (xs.set j v))) { s with heap:=s.heap.update p (Obj.mapSeq (·.setIfInBounds j u)) }:=
  I.lstUpd hp ho (mapSeq_set its n j u) (r.set rv j) (by rw [List.length_set]; exact hz) s.toks
 by_cases h0:0 <= k
 ·have hk:k.toNat = j:=by
   rw [seqIndex_of h0 h4] at h1
   exact Option.some.inj h1
  exact PySem.W.ki_setAt ho h0 (by omega) (by rw [List.size_toArray,<- hl]; exact h4) (by rw [hk]; exact ⟨_,I',q⟩)
 ·have hk:(k + (its.toArray.size:Int)).toNat = j:=by
   rw [seqIndex_neg (by omega) h3] at h1
   rw [List.size_toArray,<- hl]
   exact Option.some.inj h1
  exact PySem.W.ki_setBack ho (by omega) (by rw [List.size_toArray,<- hl]; exact h3) (by omega) (by rw [hk]; exact ⟨_,I',q⟩)
theorem slice_bounds (lo hi:Option Int) (n:Nat):(sliceBounds lo hi none n).1 = ((HT.sIx n 0 lo:Nat):Int) /\ (sliceBounds lo hi none n).2.1 = ((HT.sIx n n hi:Nat):Int) /\ (sliceBounds lo hi none n).2.2 = 1:=by
 refine ⟨?_,?_,rfl⟩
 ·cases lo with
  | none=>simp [sliceBounds,HT.sIx]
  | some i=>
   simp only [sliceBounds,HT.sIx,Option.getD_none,show (1:Int) > 0 by decide,if_true]
   by_cases h:i < 0
   ·simp only [h,if_true] <;> omega
   ·simp only [h,if_false] <;> omega
 ·cases hi with
  | none=>simp [sliceBounds,HT.sIx]
  | some i=>
   simp only [sliceBounds,HT.sIx,Option.getD_none,show (1:Int) > 0 by decide,if_true]
   by_cases h:i < 0
   ·simp only [h,if_true] <;> omega
   ·simp only [h,if_false] <;> omega
theorem slicePick_cut (its:List Value) (lo hi:Option Int):slicePick its.toArray lo hi none = ((its.drop (HT.sIx its.length 0 lo)).take (HT.sIx its.length its.length hi - HT.sIx its.length 0 lo)).toArray:=by
 obtain ⟨h1,h2,h3⟩:=slice_bounds lo hi its.toArray.size
 unfold slicePick
 rw [h1,h2,h3]
 simp only [sliceRange_one,pick_run,List.size_toArray] <;> rfl
noncomputable def rSlL (K:Frag):V -> Option Int -> Option Int -> Hp -> VK -> Prop:=fun x lo hi H Q=>∃ a xs,x = .ref a /\ SqL K H a xs /\ ∀ p,H p = none -> Q (.ref p) (upd H p (.lst (cutV xs lo hi)))
theorem sl_list:SlR X (rSlL X.K):=by
 intro pins s σ H x v vl vu lo hi sl Q I rx hs pl pu h
 obtain ⟨a,xs,rfl,hx,q⟩:=h
 cases rx
 obtain ⟨its,r,ht,hz⟩:=I.list hx
 have hlen:=r.length
 refine ⟨"list",_,slot_list_getitem.lookup,ht.isList.typeIs,?_⟩
 refine wpAny_getItem_list_slice ht.isList hs pl pu .none (by simp) ?_ (by rw [List.size_toArray] <;> omega)
 rw [slicePick_cut,<- hlen]
 refine ⟨.ref s.heap.objs.size,_,I.laid (t':=s.toks) (o:=.lst (cutV xs lo hi)) (fun b ob q=>Heap.get?_push_of_some _ q) (Nat.le_refl _) ?_,rfl,q _ (I.hok.fresh (Nat.le_refl _))⟩
 exact ⟨Nat.le_trans (cutV_length xs lo hi) hz,_,0,(r.drop (HT.sIx xs.length 0 lo)).take (HT.sIx xs.length xs.length hi - HT.sIx xs.length 0 lo),Heap.get?_push_size _ rfl⟩
noncomputable def flatV:V -> Bool
 | .non=>true
 | .bl _=>true
 | .int _=>true
 | .str _=>true
 | _=>false
noncomputable def eqV:V -> V -> Bool
 | .non,.non=>true
 | .bl a,.bl b=>a == b
 | .bl a,.int b=>(if a then 1 else 0) == b
 | .int a,.bl b=>a == (if b then 1 else 0)
 | .int a,.int b=>a == b
 | .str a,.str b=>a == b
 | _,_=>false
theorem eqAt_V {A:Around} {s:Shared} {y x:V} {u v:Value} (ry:RelV y u) (rx:RelV x v) (fy:flatV y = true) (fx:flatV x = true):SeqAt.EqAt A s u v (eqV y x):=by
 cases y with
 | non=>
  cases ry
  cases x with
  | non=>cases rx; exact SeqAt.EqAt.same _
  | bl b=>cases rx; exact SeqAt.EqAt.none_bool b
  | int b=>obtain ⟨t,rfl⟩:=rx; exact SeqAt.EqAt.none_int b t
  | str b=>obtain ⟨t,rfl⟩:=rx; exact SeqAt.EqAt.none_str b t
  | _=>exact absurd (show false = true from fx) Bool.false_ne_true
 | bl a=>
  cases ry
  cases x with
  | non=>cases rx; exact SeqAt.EqAt.bool_none a
  | bl b=>cases rx; exact SeqAt.EqAt.bool_bool a b
  | int b=>obtain ⟨t,rfl⟩:=rx; exact SeqAt.EqAt.bool_int a b t
  | str b=>obtain ⟨t,rfl⟩:=rx; exact SeqAt.EqAt.bool_str a b t
  | _=>exact absurd (show false = true from fx) Bool.false_ne_true
 | int a=>
  obtain ⟨t',rfl⟩:=ry
  cases x with
  | non=>cases rx; exact SeqAt.EqAt.int_none a t'
  | bl b=>cases rx; exact SeqAt.EqAt.int_bool a t' b
  | int b=>obtain ⟨t,rfl⟩:=rx; exact SeqAt.EqAt.int_int a t' b t
  | str b=>obtain ⟨t,rfl⟩:=rx; exact SeqAt.EqAt.int_str a t' b t
  | _=>exact absurd (show false = true from fx) Bool.false_ne_true
 | str a=>
  obtain ⟨t',rfl⟩:=ry
  cases x with
  | non=>cases rx; exact SeqAt.EqAt.str_none a t'
  | bl b=>cases rx; exact SeqAt.EqAt.str_bool a t' b
  | int b=>obtain ⟨t,rfl⟩:=rx; exact SeqAt.EqAt.str_int a t' b t
  | str b=>obtain ⟨t,rfl⟩:=rx; exact SeqAt.EqAt.str_str a t' b t
  | _=>exact absurd (show false = true from fx) Bool.false_ne_true
 | _=>exact absurd (show false = true from fy) Bool.false_ne_true
noncomputable def eqU (x:V) (u:Value):Bool:=match u with
 | .none=>eqV .non x
 | .bool b=>eqV (.bl b) x
 | .int i _=>eqV (.int i) x
 | .str z _=>eqV (.str z) x
 | _=>false
theorem eqU_of {x y:V} {u:Value} (r:RelV y u) (f:flatV y = true):eqU x u = eqV y x:=by
 cases y with
 | non=>cases r; rfl
 | bl b=>cases r; rfl
 | int i=>obtain ⟨t,rfl⟩:=r; rfl
 | str z=>obtain ⟨t,rfl⟩:=r; rfl
 | _=>exact absurd (show false = true from f) Bool.false_ne_true
theorem any_eqU {x:V}:∀ {xs:List V} {us:List Value},Vals xs us -> xs.all flatV = true -> us.any (eqU x) = xs.any fun y=>eqV y x
 | _,_,.nil,_=>rfl
 | y :: xs,u :: us,.cons r t,f=>by
  rw [List.all_cons,Bool.and_eq_true] at f
  rw [List.any_cons,List.any_cons,eqU_of r f.1,any_eqU t f.2]
theorem mem_eqAt {A:Around} {s:Shared} {x:V} {v:Value} (rx:RelV x v) (fx:flatV x = true):∀ {xs:List V} {us:List Value},Vals xs us -> xs.all flatV = true -> ∀ u ∈ us,SeqAt.EqAt A s u v (eqU x u)
 | _,_,.nil,_=>fun u hu=>by cases hu
 | y :: xs,u :: us,.cons r t,f=>fun u' hu=>by
  rw [List.all_cons,Bool.and_eq_true] at f
  rcases List.mem_cons.mp hu with rfl | hu
  ·rw [eqU_of r f.1]; exact eqAt_V r rx f.1 fx
  ·exact mem_eqAt rx fx t f.2 u' hu
noncomputable def inV (x:V) (xs:List V):Bool:=xs.any fun y=>eqV y x
noncomputable def rIn (K:Frag) (neg:Bool):R2:=fun x y H Q=>∃ p xs,y = .ref p /\ (SqL K H p xs \/ SqT K H p xs) /\ flatV x = true /\ xs.all flatV = true /\ Q (.bl (if neg then !inV x xs else inV x xs)) H
theorem op_notIn_seq:OpR X (compareOp .NotIn) (rIn X.K true):=by
 intro pins s σ H x y v u Q I rx ry h
 obtain ⟨p,xs,rfl,hq,fx,fs,q⟩:=h
 cases ry
 rcases hq with hq | hq
 ·obtain ⟨its,r,pl,hz⟩:=I.list hq
  refine SeqAt.notIn_listAt (eqU x) pl.isList (fun w hw=>mem_eqAt rx fx r fs w (by simpa using hw)) ⟨.bl _,H,I,rfl,?_⟩
  rw [show its.toArray.any (eqU x) = its.any (eqU x) by simp,any_eqU r fs]
  exact q
 ·obtain ⟨its,r,pl,hz⟩:=I.tuple hq
  refine SeqAt.notIn_tupleAt (eqU x) pl (fun w hw=>mem_eqAt rx fx r fs w (by simpa using hw)) ⟨.bl _,H,I,rfl,?_⟩
  rw [show its.toArray.any (eqU x) = its.any (eqU x) by simp,any_eqU r fs]
  exact q
theorem call_len_seq:CallR X (.builtin "len") (fun xs H Q=>∃ p ys,xs = [.ref p] /\ (SqL X.K H p ys \/ SqT X.K H p ys) /\ Q (.int ys.length) H):=by
 intro pins s σ H xs us Q I r h
 obtain ⟨p,ys,rfl,hq,q⟩:=h
 obtain ⟨u,rfl,rx⟩:=vals1 r
 cases rx
 have hn:=line63
 rcases hq with hq | hq
 ·obtain ⟨its,r',pl,hz⟩:=I.list hq
  have hlen:=r'.length
  exact Calls.call_len_list pl.isList (by simp only [List.size_toArray] <;> omega) ⟨.int ys.length,H,I.tok _,⟨s.toks + 1,by rw [List.size_toArray,hlen]⟩,q⟩
 ·obtain ⟨its,r',pl,hz⟩:=I.tuple hq
  have hlen:=r'.length
  exact len_tuple pl (by simp only [List.size_toArray] <;> omega) ⟨.int ys.length,H,I.tok _,⟨s.toks + 1,by rw [List.size_toArray,hlen]⟩,q⟩
theorem call_len_str:CallR X (.builtin "len") (fun xs H Q=>∃ z,xs = [.str z] /\ z.length <= sizeLine /\ Q (.int z.length) H):=by
 intro pins s σ H xs us Q I r h
 obtain ⟨z,rfl,hz,q⟩:=h
 obtain ⟨u,rfl,t,rfl⟩:=vals1 r
 have hn:=line63
 exact len_str (by omega) ⟨.int z.length,H,I.tok _,⟨_,rfl⟩,q⟩
theorem CallR.or {f:Value} {r r':List V -> Hp -> VK -> Prop} (h:CallR X f r) (h':CallR X f r'):CallR X f (fun xs H Q=>r xs H Q \/ r' xs H Q):=by
 intro pins s σ H xs us Q I rs q
 rcases q with q | q
 ·exact h pins s σ H xs us Q I rs q
 ·exact h' pins s σ H xs us Q I rs q
theorem call_list_of:CallR X (.type "list") (fun xs H Q=>∃ p ys,xs = [.ref p] /\ (SqL X.K H p ys \/ SqT X.K H p ys) /\ ∀ l,H l = none -> Q (.ref l) (upd H l (.lst ys))):=by
 intro pins s σ H xs us Q I r h
 obtain ⟨p,ys,rfl,hq,q⟩:=h
 obtain ⟨u,rfl,rx⟩:=vals1 r
 cases rx
 have fin:∀ (its:List Value),Vals ys its -> ys.length <= sizeLine -> ∀ (h':Heap) (c':Nat),(∀ b o',s.heap.get? b = some o' -> h'.get? b = some o') ->
   h'.get? s.heap.objs.size = some { cls:=.type "list",dict:=none,data:=.seq its.toArray c',slots:=#[] } -> EP X pins σ Q (.ref s.heap.objs.size) { s with heap:=h' }:=fun its r' hz h' c' kp e=>
  ⟨.ref s.heap.objs.size,_,I.laid (t':=s.toks) kp (Nat.le_refl _) (show ObjOk X.prog X.w _ h' _ (.lst ys) from ⟨hz,its,c',r',e⟩),rfl,q _ (I.hok.fresh (Nat.le_refl _))⟩
 rcases hq with hq | hq
 ·obtain ⟨its,r',pl,hz⟩:=I.list hq
  have hlen:=r'.length
  obtain ⟨o,ho,hc,n,hd⟩:=pl.isList
  exact call_list_seq p (.inl rfl) ho hc hd (fun h' c' kp e=>fin its r' hz h' c' kp e) (by simp only [List.size_toArray] <;> omega)
 ·obtain ⟨its,r',pl,hz⟩:=I.tuple hq
  have hlen:=r'.length
  obtain ⟨o,ho,hc,n,hd⟩:=pl
  exact call_list_seq p (.inr rfl) ho hc hd (fun h' c' kp e=>fin its r' hz h' c' kp e) (by simp only [List.size_toArray] <;> omega)
theorem call_tuple_of:CallR X (.type "tuple") (fun xs H Q=>∃ p ys,xs = [.ref p] /\ ((SqL X.K H p ys /\ ∀ l,H l = none -> Q (.ref l) (upd H l (.tup ys))) \/ (SqT X.K H p ys /\ Q (.ref p) H))):=by
 intro pins s σ H xs us Q I r h
 obtain ⟨p,ys,rfl,h⟩:=h
 obtain ⟨u,rfl,rx⟩:=vals1 r
 cases rx
 rcases h with ⟨hq,q⟩ | ⟨hq,q⟩
 ·obtain ⟨its,r',pl,hz⟩:=I.list hq
  have hlen:=r'.length
  refine call_tuple_list pl.isList (fun h' kp=>?_) (by simp only [List.size_toArray] <;> omega)
  have I1:Inv X pins σ H { s with heap:=h' }:=I.kept (t':=s.toks) kp
  have I2:Inv X pins σ (upd H h'.objs.size (.tup ys)) { s with heap:=h'.push { cls:=.type "tuple",data:=.seq its.toArray } }:=
   I1.laid (t':=s.toks) (fun b o e=>Heap.get?_push_of_some _ e) (Nat.le_refl _) (show ObjOk X.prog X.w _ _ _ (.tup ys) from ⟨hz,its,r',IsTup.new _ _⟩)
  exact ⟨.ref h'.objs.size,_,I2,rfl,q _ (I1.hok.fresh (Nat.le_refl _))⟩
 ·obtain ⟨its,r',pl,hz⟩:=I.tuple hq
  exact call_tuple_same pl ⟨.ref p,H,I,rfl,q⟩
def tyV (K:Frag) (T:String) (x:V) (H:Hp):Prop:=match x with
 | .str _=>T = "str"
 | .int _=>T = "int"
 | .ref p=>(T = "list" /\ ∃ xs,SqL K H p xs) \/ (T = "tuple" /\ ∃ o,K.lookup p = some o /\ o.cls = .type "tuple" /\ o.dict = none) \/
   (T = "dict" /\ ((∃ kvs,H p = some (.dK kvs)) \/ ∃ kvs,H p = some (.dT kvs))) \/ (T = "set" /\ ∃ S n,H p = some (.set S n))
 | _=>False
theorem tyV_is {pins:List (Addr × Obj)} {σ:St} {H:Hp} {s:Shared} {T:String} {x:V} {v:Value} (I:Inv X pins σ H s) (r:RelV x v) (ty:tyV X.K T x H):
  s.TypeIs v T /\ ∀ a,v = .ref a -> ∃ ob,s.heap.get? a = some ob /\ ob.dict = none:=by
 cases x with
 | str z=>
  obtain ⟨t,rfl⟩:=r
  cases (show T = "str" from ty)
  exact ⟨typeIs_str s z t,fun _ e=>nomatch e⟩
 | int i=>
  obtain ⟨t,rfl⟩:=r
  cases (show T = "int" from ty)
  exact ⟨typeIs_int s i t,fun _ e=>nomatch e⟩
 | ref p=>
  cases r
  rcases ty with ⟨rfl,xs,hq⟩ | ⟨rfl,o,hk,hc,hd⟩ | ⟨rfl,hk⟩ | ⟨rfl,S,n,hk⟩
  ·obtain ⟨its,_,pl,_⟩:=I.list hq
   refine ⟨pl.isList.typeIs,fun a e=>?_⟩
   cases e
   obtain ⟨o,n,e,c,hd,_⟩:=pl
   exact ⟨o,e,hd⟩
  ·refine ⟨⟨o,I.kIn p o hk,hc⟩,fun a e=>?_⟩
   cases e
   exact ⟨o,I.kIn _ o hk,hd⟩
  ·have z:∃ o,s.heap.get? p = some o /\ o.ExactDict:=by
    rcases hk with ⟨kvs,hk⟩ | ⟨kvs,hk⟩
    ·obtain ⟨_,_,_,_,o,_,_,e,ex,_⟩:=I.hok p _ hk
     exact ⟨o,e,ex⟩
    ·obtain ⟨_,_,_,_,o,_,_,e,ex,_⟩:=I.hok p _ hk
     exact ⟨o,e,ex⟩
   obtain ⟨o,e,ex⟩:=z
   refine ⟨⟨o,e,ex.1⟩,fun a e2=>?_⟩
   cases e2
   exact ⟨o,e,ex.2.1⟩
  ·obtain ⟨o,_,_,_,e,ex,_⟩:=I.hok p _ hk
   refine ⟨⟨o,e,ex.1⟩,fun a e2=>?_⟩
   cases e2
   exact ⟨o,e,ex.2.1⟩
 | _=>exact False.elim ty
noncomputable def tBM (K:Frag) (T:String) (r:V -> List V -> Hp -> VK -> Prop) (to:TE) (t:TA):TE:=fun σ H Q=>to σ H fun x H1=>tyV K T x H1 /\ t σ H1 fun xs H2=>r x xs H2 Q
variable {o e:Expr} {es:List Expr} {to:TE} {t:TA} {name:Str} {apos cpos:Pos} {T id:String} {r:V -> List V -> Hp -> VK -> Prop}
theorem pe_bm (pa:PlainAttrs T) (slot:Slot T name id) (hty:typeOf (.builtin id) = pure (.type "method_descriptor")) (hm:MtR X id r) (ho:PE X o to) (ha:PA X (e :: es) t)
  (hbase:attributeBase o name X.env (eval o X.env) = eval o X.env:=by rfl)
  (hfew:((backTo cpos (starEach (e :: es) X.env)).all (fun x=>!x.1) && (backToKw cpos (keywordEach [] X.env)).all (fun x=>x.1.isSome)
   && decide ((e :: es).length + ([]:List Keyword).length + (if ([]:List Keyword).isEmpty then 0 else 1) < 30)) = true:=by rfl)
  (hline:(apos.endLine == cpos.line) = true:=by rfl) (hs:starEach (e :: es) X.env = (false,eval e X.env) :: starEach es X.env:=by rfl) (hplain:(backTo cpos (starEach es X.env)).any (·.1) = false:=by rfl):
  PE X (.Call (.Attribute o name apos) (e :: es) [] cpos) (tBM X.K T r to t):=by
 intro pins s σ H Q I h
 refine wpAny_Call_method_late hbase hfew hline rfl (thn (ho pins s σ H _ I h) fun v s1 ⟨x,H1,I1,r1,ty,q1⟩=>?_)
 obtain ⟨h1,h2⟩:=tyV_is I1 r1 ty
 refine ⟨T,id,pa,slot,hty,h1,h2,?_⟩
 have hA:=ha cpos pins s1 σ H1 _ I1 q1
 rw [hs] at hA ⊢
 refine Calls.callWith_builtin (by show (false || (backTo cpos (starEach es X.env)).any (·.1)) = false; rw [hplain] <;> rfl) (Calls.evalArgs_plain ?_)
 exact thn hA fun us s2 ⟨vs,H2,I2,r2,q2⟩=>hm pins s2 σ H2 x vs v us Q I2 r1 r2 q2
end
def MtM (X:Cx) (id:String) (r:V -> List V -> Hp -> VK -> Prop):Prop:=
 ∀ (pins:List (Addr × Obj)) (s:Shared) (σ:St) (H:Hp) (x:V) (xs:List V) (v:Value) (us:List Value) (Q:VK),Inv X pins σ H s -> RelV x v -> Vals xs us -> r x xs H Q ->
  wpAny (model X.prog X.w) X.A (call (.builtin id) (v :: us)) (EP X pins σ Q) X.xe s
theorem Vals.one:∀ {x:V} {us:List Value},Vals [x] us -> ∃ u,us = [u] /\ RelV x u
 | _,_,.cons r .nil=>⟨_,rfl,r⟩
theorem Vals.two:∀ {x y:V} {us:List Value},Vals [x,y] us -> ∃ u v,us = [u,v] /\ RelV x u /\ RelV y v
 | _,_,_,.cons r (.cons q .nil)=>⟨_,_,rfl,r,q⟩
theorem Vals.zero:∀ {us:List Value},Vals [] us -> us = []
 | _,.nil=>rfl
theorem Vals.eraseIdx:∀ {xs:List V} {us:List Value} (i:Nat),Vals xs us -> Vals (xs.eraseIdx i) (us.eraseIdx i)
 | _,_,_,.nil=>.nil
 | _,_,0,.cons _ t=>t
 | _,_,i + 1,.cons r t=>.cons r (Vals.eraseIdx i t)
theorem Vals.reverse {xs:List V} {us:List Value} (h:Vals xs us):Vals xs.reverse us.reverse:=by
 induction h with
 | nil=>exact .nil
 | cons r t ih=>rw [List.reverse_cons,List.reverse_cons]; exact Vals.append ih (.cons r .nil)
theorem Vals.rep {xs:List V} {us:List Value} (h:Vals xs us):∀ k:Nat,Vals (List.replicate k xs).flatten (List.replicate k us).flatten
 | 0=>.nil
 | k + 1=>by
  rw [List.replicate_succ,List.replicate_succ,List.flatten_cons,List.flatten_cons]
  exact Vals.append h (Vals.rep h k)
theorem len_erase {α:Type}:∀ (l:List α) (i:Nat),(l.eraseIdx i).length <= l.length
 | [],_=>Nat.le_refl _
 | _ :: _,0=>Nat.le_succ _
 | _ :: r,i + 1=>Nat.succ_le_succ (len_erase r i)
theorem foldl_rep (its:List Value):∀ (k:Nat) (acc:List Value),
  List.foldl (fun x1 x2=>x1 ++ x2) acc.toArray (List.replicate k its.toArray) = (acc ++ (List.replicate k its).flatten).toArray
 | 0,acc=>by simp
 | k + 1,acc=>by
  have e:acc.toArray ++ its.toArray = (acc ++ its).toArray:=by simp
  have e2:(acc ++ its) ++ (List.replicate k its).flatten = acc ++ (List.replicate (k + 1) its).flatten:=by
   rw [List.replicate_succ,List.flatten_cons,List.append_assoc]
  rw [<- e2,<- foldl_rep its k (acc ++ its),<- e,List.replicate_succ,List.foldl_cons]
section
variable {X:Cx} {pins:List (Addr × Obj)} {σ:St} {H:Hp} {s:Shared} {l b:Addr} {xs ys zs:List V}
theorem Inv.lset {its its':List Value} {n:Nat} {f:Array Value -> Array Value} {t':Nat} (I:Inv X pins σ H s) (hH:H l = some (.lst xs))
  (e:s.heap.get? l = some { cls:=.type "list",data:=.seq its.toArray n }) (hf:f its.toArray = its'.toArray) (hv:Vals ys its') (hz:ys.length <= sizeLine) (ht:0 < t':=by first | assumption | exact Nat.succ_pos _ | (apply Inv.tk; assumption) | omega):
  Inv X pins σ (upd H l (.lst ys)) { s with heap:=s.heap.update l (Obj.mapSeq f),toks:=t' }:=by
 have q:=PySem.IsL.update e f
 rw [hf] at q
 refine I.write (x:=l) (e:=l) (by rw [hH]; exact trivial) (.inl rfl) (fun b' u hb hu=>(Heap.get?_update_other s.heap (Obj.mapSeq f) (Ne.symm hb)).trans hu) ⟨_,q⟩ ?_
 exact ⟨hz,its',_,hv,q⟩
theorem Inv.lnew {its:List Value} {t':Nat} (I:Inv X pins σ H s) (hv:Vals ys its) (hz:ys.length <= sizeLine) (ht:0 < t':=by first | assumption | exact Nat.succ_pos _ | (apply Inv.tk; assumption) | omega):
  Inv X pins σ (upd H s.heap.objs.size (.lst ys)) { s with heap:=s.heap.push { cls:=.type "list",data:=.seq its.toArray },toks:=t' }:=
 I.laid (fun _ _ q=>Heap.get?_push_of_some _ q) (Nat.le_refl _) ⟨hz,its,0,hv,Heap.get?_push_size _ rfl⟩
theorem Inv.fresh (I:Inv X pins σ H s):H s.heap.objs.size = none:=I.hok.fresh (Nat.le_refl _)
theorem Inv.lstM (I:Inv X pins σ H s) (hH:H l = some (.lst xs)):xs.length <= sizeLine /\ ∃ (its:List Value) (n:Nat),Vals xs its /\ xs.length = its.length /\ s.heap.get? l = some { cls:=.type "list",data:=.seq its.toArray n }:=by
 obtain ⟨z,its,n,r,e⟩:=I.hok l _ hH
 exact ⟨z,its,n,r,r.length,e⟩
theorem notLongL {n:Nat} (h:n <= sizeLine):Builtin.List.listTooLong n = false:=by
 unfold Builtin.List.listTooLong
 exact decide_eq_false (by omega)
end
section
variable {X:Cx}
noncomputable def rAppend:V -> List V -> Hp -> VK -> Prop:=fun x vs H Q=>∃ l xs y,x = .ref l /\ vs = [y] /\ H l = some (.lst xs) /\ xs.length < sizeLine /\ Q .non (upd H l (.lst (xs ++ [y])))
theorem mt_append:MtM X "list.append" rAppend:=by
 intro pins s σ H x vs v us Q I rx rv h
 obtain ⟨l,xs,y,rfl,rfl,hH,hz,q⟩:=h
 cases rx
 obtain ⟨u,rfl,ru⟩:=rv.one
 obtain ⟨z,its,n,r,hl,e⟩:=I.lstM hH
 refine call_meets F.slot_list_append ⟨_,e,rfl⟩ F.entry_list_append (F.args_list_append_2 _ _) (PySem.list_append l its.toArray n u (by rw [List.size_toArray]; omega)) ⟨e,?_⟩
 refine ⟨.non,_,I.lset (its':=its ++ [u]) hH e (by simp) (r.append (.cons ru .nil)) ?_,rfl,q⟩
 rw [List.length_append,List.length_singleton]
 omega
noncomputable def rExtend:V -> List V -> Hp -> VK -> Prop:=fun x vs H Q=>∃ l b xs zs,x = .ref l /\ vs = [.ref b] /\ H l = some (.lst xs) /\ H b = some (.lst zs) /\ xs.length + zs.length <= sizeLine /\ Q .non (upd H l (.lst (xs ++ zs)))
theorem mt_extend:MtM X "list.extend" rExtend:=by
 intro pins s σ H x vs v us Q I rx rv h
 obtain ⟨l,b,xs,zs,rfl,rfl,hH,hB,hz,q⟩:=h
 cases rx
 obtain ⟨u,rfl,ru⟩:=rv.one
 cases ru
 obtain ⟨z,its,n,r,hl,e⟩:=I.lstM hH
 obtain ⟨z2,its2,n2,r2,hl2,e2⟩:=I.lstM hB
 have hsz:its.toArray.size + its2.toArray.size <= sizeLine:=by rw [List.size_toArray,List.size_toArray]; omega
 have hlong:¬ (!its.toArray.isEmpty && Builtin.List.listTooLong (its.toArray.size + its2.toArray.size)) = true:=by
  rw [notLongL hsz,Bool.and_false]
  exact Bool.false_ne_true
 refine call_meets F.slot_list_extend ⟨_,e,rfl⟩ F.entry_list_extend (F.args_list_extend_2 _ _)
  (AutoSeq1.list_extend_list_list_0 l its.toArray n b its2.toArray n2 hlong (by rw [List.size_toArray]; omega) (by omega)) ⟨e,e2,?_⟩
 refine ⟨.non,_,I.lset (its':=its ++ its2) hH e (by simp) (r.append r2) ?_,rfl,q⟩
 rw [List.length_append]
 omega
noncomputable def rPopAt:V -> List V -> Hp -> VK -> Prop:=fun x vs H Q=>∃ l xs i k y,x = .ref l /\ vs = [.int i] /\ H l = some (.lst xs) /\ -(2 ^ 63) <= i /\ i < 2 ^ 63 /\ seqIndex? i xs.length = some k /\ xs[k]? = some y /\ Q y (upd H l (.lst (xs.eraseIdx k)))
theorem mt_popAt:MtM X "list.pop" rPopAt:=by
 intro pins s σ H x vs v us Q I rx rv h
 obtain ⟨l,xs,i,k,y,rfl,rfl,hH,h1,h2,hk,hy,q⟩:=h
 cases rx
 obtain ⟨u,rfl,ru⟩:=rv.one
 obtain ⟨t,rfl⟩:=ru
 obtain ⟨z,its,n,r,hl,e⟩:=I.lstM hH
 obtain ⟨w,hw,rw'⟩:=r.get hy
 refine call_meets F.slot_list_pop ⟨_,e,rfl⟩ F.entry_list_pop (F.args_list_pop_2 _ _)
  (MeetsSeq.list_pop_at l its.toArray n i t k w (fitsIndex_both h1 h2) (by rw [List.size_toArray,<- hl]; exact hk) (by rw [<- Array.getElem?_toList]; exact hw) (by rw [List.size_toArray]; omega)) ⟨e,?_⟩
 refine ⟨y,_,I.lset (its':=its.eraseIdx k) hH e ?_ (r.eraseIdx k) ?_,rw',q⟩
 ·show its.toArray.eraseIdxIfInBounds k = (its.eraseIdx k).toArray
  rw [List.eraseIdxIfInBounds_toArray]
 ·have:=len_erase xs k
  omega
noncomputable def rCat:R2:=fun x y H Q=>∃ l b xs zs,x = .ref l /\ y = .ref b /\ H l = some (.lst xs) /\ H b = some (.lst zs) /\ xs.length + zs.length <= sizeLine /\ ∀ p,H p = none -> Q (.ref p) (upd H p (.lst (xs ++ zs)))
theorem op_cat:OpR X (binaryOp .Add) rCat:=by
 intro pins s σ H x y v u Q I rx ry h
 obtain ⟨l,b,xs,zs,rfl,rfl,hH,hB,hz,q⟩:=h
 cases rx
 cases ry
 obtain ⟨z,its,n,r,hl,e⟩:=I.lstM hH
 obtain ⟨z2,its2,n2,r2,hl2,e2⟩:=I.lstM hB
 refine PySem.P.add_list e e2 ?_ (by rw [List.size_toArray,List.size_toArray]; omega)
 have ea:its.toArray ++ its2.toArray = (its ++ its2).toArray:=by simp
 rw [ea]
 exact ⟨.ref _,_,I.lnew (t':=s.toks) (r.append r2) (by rw [List.length_append]; omega),rfl,q _ I.fresh⟩
noncomputable def rRep:R2:=fun x y H Q=>∃ l k xs,x = .ref l /\ y = .int k /\ H l = some (.lst xs) /\ -(2 ^ 63) <= k /\ k < 2 ^ 63 /\ xs.length * k.toNat <= sizeLine /\
 ∀ p,H p = none -> Q (.ref p) (upd H p (.lst (List.replicate k.toNat xs).flatten))
theorem len_rep {α:Type} (xs:List α) (k:Nat):(List.replicate k xs).flatten.length = k * xs.length:=by
 induction k with
 | zero=>simp
 | succ k ih=>rw [List.replicate_succ,List.flatten_cons,List.length_append,ih,Nat.succ_mul,Nat.add_comm]
theorem op_rep:OpR X (binaryOp .Mult) rRep:=by
 intro pins s σ H x y v u Q I rx ry h
 obtain ⟨l,k,xs,rfl,rfl,hH,h1,h2,hz,q⟩:=h
 cases rx
 obtain ⟨t,rfl⟩:=ry
 obtain ⟨z,its,n,r,hl,e⟩:=I.lstM hH
 have hlen:its.toArray.size * k.toNat <= sizeLine:=by rw [List.size_toArray,<- hl]; exact hz
 have hcap:¬ its.toArray.size * k.toNat > (2 ^ 63 - 1) / 8:=by
  have:(sizeLine:Nat) <= (2 ^ 63 - 1) / 8:=by decide
  omega
 have hfit:¬ (!Builtin.List.listFitsIndex k) = true:=by
  rw [fitsIndex_both h1 h2]
  exact Bool.false_ne_true
 have hlong:¬ Builtin.List.listTooLong (its.toArray.size * k.toNat) = true:=by
  rw [notLongL hlen]
  exact Bool.false_ne_true
 have hnew:List.foldl (fun x1 x2=>x1 ++ x2) #[] (List.replicate (if its.toArray.isEmpty = true then 0 else k.toNat) its.toArray) = (List.replicate k.toNat its).flatten.toArray:=by
  have f0:∀ m:Nat,List.foldl (fun x1 x2=>x1 ++ x2) #[] (List.replicate m its.toArray) = (List.replicate m its).flatten.toArray:=fun m=>by
   have:=foldl_rep its m []
   rw [List.nil_append] at this
   exact this
  rw [f0]
  cases its with
  | nil=>simp
  | cons a r'=>rw [if_neg (by simp)]
 refine wpAny_binaryOp_repeat_ref (T := "list") (U := "int") (by decide) ⟨_,e,rfl⟩ (fun s'=>typeIs_int s' k t) noFill_list_mul F.fills_int_mul F.slot_int_rmul repeat_list F.slot_int_index.lookup
  (call_meets F.slot_int_rmul (typeIs_int s k t) F.entry_int_rmul (F.args_int_rmul_2 _ _) (int___rmul___int_list k t l its.toArray n)
   ⟨e,rfl,⟨_,e,rfl⟩,call_meets F.slot_list_mul ⟨_,e,rfl⟩ F.entry_list_mul (F.args_list_mul_2 _ _) (AutoListH.list___mul___list_int_3 l its.toArray n k t hfit hcap hlong) ⟨e,?_⟩⟩)
 rw [hnew]
 exact ⟨.ref _,_,I.lnew (t':=s.toks) (r.rep k.toNat) (by rw [len_rep,Nat.mul_comm]; exact hz),rfl,q _ I.fresh⟩
end
section
variable {prog:Program} {w:World} {A:Around} {E:Value -> Shared -> Prop} {s:Shared}
end
section
variable {X:Cx}
end
end L2
namespace Att
open PySem PySem.W PySem.Calls PyProof.Rows
theorem ints_of_wellAll {P:Params} {h:Heap}:∀ (ns:List Int) (vs:List Value),WellAll P h vs (ns.map WData.int) -> IntsAre vs ns:=by
 intro ns
 induction ns with
 | nil=>
  intro vs w
  rw [List.map_nil] at w
  cases w
  exact .nil
 | cons n ns ih=>
  intro vs w
  rw [List.map_cons] at w
  cases w with
  | cons a b=>
   cases a
   exact .cons _ _ (ih _ b)
theorem script_of {l:OpenLaw} {n:Nat} (hn:l.most = some n) {P:Params} {h:Heap} {args:List WData} {vals:List Value}
  (hpre:l.row.toRowW.claim.pre args = true) (hwl:WellAll P h vals args):
  ∃ a vs ns,vals = [Value.ref a] /\ args = [WData.list (ns.map WData.int)] /\ h.get? a = some { cls:=.type "list",data:=.seq vs.toArray } /\ IntsAre vs ns /\ ns.length <= n:=by
 have hsh:WShape.hasAll [] args [.list .int] = true:=(pre_splitW hpre).1
 have hc:l.pre.holds [] { args:=args } = true:=(pre_splitW hpre).2
 obtain ⟨d,r,rfl,h1,h2⟩:=hasAllW_cons hsh
 obtain rfl:=hasAllW_nil h2
 obtain ⟨xs,rfl,h3⟩:=hasW_list h1
 obtain ⟨ns,rfl⟩:=items_int h3
 have hlen:ns.length <= n:=by
  unfold OpenLaw.pre at hc
  have h4:(WTm.not (.lt (.lit (.int (n:Int))) (.len (.arg 0)))).holds [] { args:=[.list (ns.map .int)] } = true:=by
   have h4:=(holds_andW hc).1
   rw [hn] at h4
   exact h4
  have h5:=condW_of h4 (w_not (w_lt w_lit (w_len_list (w_arg rfl))))
  rw [List.length_map] at h5
  refine Nat.le_of_not_lt fun q=>?_
  have q':(n:Int) < ((ns.length:Nat):Int):=by omega
  first
   | (rw [decide_eq_true q'] at h5; exact absurd h5 (by decide))
   | (simp at h5; omega)
 cases hwl with
 | cons w1 w2=>
  cases w2
  cases w1 with
  | list ho hall=>exact ⟨_,_,ns,rfl,rfl,ho,ints_of_wellAll ns _ hall,hlen⟩
theorem post_true (l:OpenLaw) (args:List WData):l.row.toRowW.claim.post args (.bool true) args = true:=
 postW_of (r:=l.row.toRowW) (X:=(true == true))
  (show WShape.has [] (.bool true) .bool = true by first | rfl | decide | simp [WShape.has,WShape.arms,WShape.armsAll])
  (show (WTm.eq .res (.lit (.bool true))).value [] { args:=args,res:=some (.bool true),after:=args } = some (.bool (true == true)) from w_eq_bool (w_res rfl) w_lit) rfl
section
variable {prog:Program} {w:World} {A:Around} {E:Value -> Shared -> Prop} {s:Shared} {K:Frag}
noncomputable def ledger (h:Heap) (L d:Addr):List (Addr × Obj):=(List.range h.objs.size).filterMap fun a=>if a = L \/ a = d then none else (h.get? a).map fun o=>(a,o)
end
end Att
namespace L2
open PySem PySem.Spec PyProof.Rows
theorem vals_ints:∀ {vs:List Value} {ns:List Int},IntsAre vs ns -> Vals (ns.map V.int) vs
 | _,_,.nil=>.nil
 | _,_,.cons n t h=>.cons ⟨t,rfl⟩ (vals_ints h)
def Only (H:Hp):Prop:=∀ b,H b = none \/ ∃ o xs,H b = some (.frz o (.lst xs))
theorem law_call {P:Program} {w:World} {K:Frag} {mg mb:Str -> Option Value} {CX:CXT} {k:Nat} {fa a:Addr} {fd:FuncData} {x:Str} {sp:Sp} {s₁:Shared} {vs:List Value} {ns:List Int}
  (KX:K.In s₁.heap) (hns:s₁.heap.Ns mainGlobals mg) (hb:s₁.heap.Ns builtinsNs mb) (hbb:∀ x:Str,x ≠ "__name__" -> mb x = bootBuiltins x) (hlim:s₁.heap.NoLimit) (hg:s₁.gens = #[]) (htk:0 < s₁.toks)
  (ha:s₁.heap.get? a = some { cls:=.type "list",data:=.seq vs.toArray }) (hi:IntsAre vs ns) (hl:ns.length <= sizeLine) (hr:Room k callerA)
  (F:∀ base:Heap,K.In base -> base.Ns mainGlobals mg -> FnOk P w K mg base CX k fa fd [x] sp) (hbind:∀ (s:Shared) (u:Value),BindsTo s fd ⟨[u],[]⟩ [(x,u)])
  (hsp:∀ H:Hp,Only H -> SqL K H a (ns.map V.int) -> sp [.ref a] H (fun v _=>v = .bl true) fun _ _ _=>False)
  (hCX:∀ H e s',CX [] H s₁ (fun _ _ _=>False) e s' -> False):
  codeAny (model P w) callerA (.call (.ref fa) ⟨[.ref a],[]⟩) (fun r s'=>r = .ok (.ret (.bool true)) /\ OldK s₁.heap s'.heap /\ s'.os = s₁.os /\ AllBare s'.gens) s₁:=by
 have rv:=vals_ints hi
 have lenV:=hi.length
 have core:∀ H:Hp,Only H -> SqL K H a (ns.map V.int) -> HOk P w H s₁.heap -> (∀ b,H b ≠ none -> b = a) -> (H a ≠ none -> K.lookup a = none) ->
   codeAny (model P w) callerA (.call (.ref fa) ⟨[.ref a],[]⟩) (fun r s'=>r = .ok (.ret (.bool true)) /\ OldK s₁.heap s'.heap /\ s'.os = s₁.os /\ AllBare s'.gens) s₁:=by
  intro H hO hS hok hA hK
  have base_of:∀ {b:Addr} {o:Obj},s₁.heap.get? b = some o -> H b = none -> (hidT s₁.heap H).get? b = some o:=fun e n=>hidT_get e n
  have noA:∀ {b:Addr} {o:Obj} {es:Array DictEntry} {ep:Nat},s₁.heap.get? b = some o -> o.data = .dict es ep -> H b = none:=fun {b o es ep} e d=>by
   cases q:H b with
   | none=>rfl
   | some u=>
    have e':b = a:=hA b (by rw [q]; simp)
    subst e'
    rw [ha] at e; cases e
    have d':Data.seq vs.toArray _ = Data.dict es ep:=d
    cases d'
  have nsK:∀ {b:Addr} {m:Str -> Option Value},s₁.heap.Ns b m -> (hidT s₁.heap H).Ns b m:=fun {b m} ⟨o,es,ep,e,d,r⟩=>⟨o,es,ep,base_of e (noA e d),d,r⟩
  have hKb:K.In (hidT s₁.heap H):=fun b o e=>base_of (KX b o e) (by
   cases q:H b with
   | none=>rfl
   | some u=>
    have e':b = a:=hA b (by rw [q]; simp)
    subst e'
    rw [hK (by rw [q]; simp)] at e; cases e)
  have hM:Mod K mg (hidT s₁.heap H):=⟨hKb,nsK hns,⟨mb,nsK hb,hbb⟩,let ⟨mc,h1,h2⟩:=hlim; ⟨mc,nsK h1,h2⟩⟩
  have e0:Env0 P w K mg (hidT s₁.heap H) callerA [] s₁ H:=⟨rfl,hM,fun b o e=>of_hidT e,Nat.le_of_eq (hidT_size _ _),trivial,fun b hb=>absurd (show b ∈ ([]:List Addr) from hb) (by simp),hok,.of_eq hg,htk⟩
  refine codeAny_mono ((F _ hKb (nsK hns)).run callerA [] s₁ H ⟨[.ref a],[]⟩ [.ref a] [.ref a] _ _ hr e0 (hbind s₁ (.ref a)) (.cons rfl .nil) (hsp H hO hS)) fun r s' h=>?_
  cases r with
  | error e=>exact (hCX H e s' h).elim
  | ok fl=>
   cases fl with
   | next=>exact False.elim h
   | brk=>exact False.elim h
   | cont=>exact False.elim h
   | ret u=>
    obtain ⟨v,H',_,os,bare,un,hok',r',q⟩:=h
    have q':v = .bl true:=q
    subst q'
    obtain rfl:u = Value.bool true:=r'
    refine ⟨rfl,OldK.of_keep fun b o e=>?_,os,bare⟩
    cases q:H b with
    | none=>exact un.keep b o e q (by intro z; exact absurd (show b ∈ ([]:List Addr) from z) (by simp)) (by simp)
    | some u=>
     rcases hO b with z | ⟨ob,xs,z⟩
     ·rw [q] at z; cases z
     ·have z2:=un.frzs b ob _ z
      obtain ⟨e1,_⟩:=hok b _ z
      obtain ⟨e2,_⟩:=hok' b _ z2
      rw [e] at e1; cases e1
      exact e2
 cases hk:K.lookup a with
 | some o=>
  have e:=KX a o hk
  rw [ha] at e
  cases e
  refine core (fun _=>none) (fun _=>.inl rfl) (.inr ⟨_,vs.toArray,_,hk,rfl,rfl,rfl,by rw [List.size_toArray,lenV]; exact hl,by simpa using rv⟩) (fun b u z=>by have z':(none:Option HO) = some u:=z; cases z') (fun b z=>absurd rfl z) fun z=>absurd rfl z
 | none=>
  refine core (fun b=>if b = a then some (.frz { cls:=.type "list",data:=.seq vs.toArray } (.lst (ns.map V.int))) else none) (fun b=>?_) (.inl (.inr ⟨{ cls:=.type "list",data:=.seq vs.toArray },if_pos rfl⟩)) (fun b u z=>?_) (fun b z=>?_) fun _=>hk
  ·by_cases hb:b = a
   ·exact .inr ⟨_,_,if_pos hb⟩
   ·exact .inl (if_neg hb)
  ·by_cases hb:b = a
   ·have z':=(if_pos hb).symm.trans z
    cases z'
    subst hb
    exact ⟨ha,by rw [List.length_map]; exact hl,vs,_,rv,ha⟩
   ·have z':=(if_neg hb).symm.trans z
    cases z'
  ·by_cases hb:b = a
   ·exact hb
   ·exact absurd (if_neg hb) z
noncomputable abbrev KOf {K:Frag} {h:Heap} (_:K.In h):Frag:=K
theorem attach_callX {l:PySem.W.OpenLaw} {n:Nat} {q:Program} {loose:List Str} {XP:(Str -> Option Value) -> Heap -> Prop} {α:Type} {Yf:Shared -> α} {Ya:World -> α} {d:DefRec}
  (hn:l.most = some n) (hdf:d.params.defaults = [])
  (call:∀ (w:World) (s₀ s₁:Shared) (mg mb:Str -> Option Value) (fa a:Addr) (vs:List Value) (ns:List Int),
   PySem.W.Ground q loose [] XP w s₀ mg mb s₁.heap -> Yf s₀ = Ya w -> (∀ b o,s₀.heap.get? b = some o -> s₁.heap.get? b = some o) -> s₀.toks <= s₁.toks -> mg d.name = some (.ref fa) ->
   s₁.heap.get? a = some { cls:=.type "list",data:=.seq vs.toArray } -> IntsAre vs ns -> ns.length <= n -> s₁.gens = #[] ->
   codeAny (model l.prog w) callerA (.call (.ref fa) ⟨[.ref a],[]⟩) (fun r s'=>r = .ok (.ret (.bool true)) /\ OldK s₁.heap s'.heap /\ s'.os = s₁.os /\ AllBare s'.gens) s₁):
  PySem.W.WalkX q loose XP Yf Ya l.row.toRowW d [] (fun f vs=>PySem.call f vs):=by
 intro w s₀ s₁ mg mb G Y fa o pm cd doc dV kV ho hd hcd hD hmg hg args vals as L hpre hlay hrd hwl hlo
 obtain ⟨a,vs,ns,rfl,rfl,hobj,hints,hlen⟩:=Att.script_of hn hpre hwl
 have ht:s₀.toks <= s₁.toks:=by
  obtain ⟨ord,_,e⟩:=L.laid
  exact (PySem.W.layAllW_grows _ _ _ e).toks
 refine PySem.W.enter_call (codeAny_mono (call w s₀ s₁ mg mb fa a vs ns G Y L.keeps ht hmg hobj hints hlen hg) fun r s' hq=>?_)
 obtain ⟨rfl,h2,h3,h4⟩:=hq
 exact ⟨.inl ⟨.bool true,.bool true,[],rfl,fun _=>rfl,.bool true,Att.post_true l _,fun _=>⟨List.Pairwise.nil,fun _ hm=>(nomatch hm)⟩⟩,h2,h3,h4⟩
theorem walk_ofX {l:PySem.W.OpenLaw} {n k:Nat} {q:Program} {loose:List Str} {XP:(Str -> Option Value) -> Heap -> Prop} {α:Type} {Yf:Shared -> α} {Ya:World -> α} {d:DefRec} {K:Params -> Frag} {CX:World -> CXT} {sp:World -> Sp} {x:Str}
  (hn:l.most = some n) (hn2:n <= sizeLine) (hdf:d.params.defaults = []) (hr:Room k callerA)
  (hY:∀ (w:World) (s:Shared),Yf s = Ya w -> (K w.params).In s.heap /\ 0 < s.toks)
  (F:∀ (w:World) (mg:Str -> Option Value) (fa:Addr) (h:Heap),(K w.params).In h -> h.Ns mainGlobals mg -> mg d.name = some (.ref fa) ->
   ∃ fd:FuncData,(∀ (s:Shared) (u:Value),BindsTo s fd ⟨[u],[]⟩ [(x,u)]) /\
    ∀ base:Heap,(K w.params).In base -> base.Ns mainGlobals mg -> FnOk l.prog w (K w.params) mg base (CX w) k fa fd [x] (sp w))
  (hsp:∀ (w:World) (H:Hp) (a:Addr) (ns:List Int),ns.length <= n -> Only H -> SqL (K w.params) H a (ns.map V.int) -> sp w [.ref a] H (fun v _=>v = .bl true) fun _ _ _=>False)
  (hCX:∀ (w:World) (H:Hp) (s:Shared) (e:Value) (s':Shared),CX w [] H s (fun _ _ _=>False) e s' -> False):
  PySem.W.WalkX q loose XP Yf Ya l.row.toRowW d [] (fun f vs=>PySem.call f vs):=by
 refine attach_callX hn hdf fun w s₀ s₁ mg mb fa a vs ns G Y kp ht hmg hobj hints hlen hg=>?_
 obtain ⟨K0,t0⟩:=hY w s₀ Y
 have KX:(K w.params).In s₁.heap:=fun b o e=>kp b o (K0 b o e)
 obtain ⟨fd,hb,hF⟩:=F w mg fa _ KX G.T.g hmg
 exact law_call KX G.T.g G.T.b G.T.builtins G.T.nolimit hg (Nat.lt_of_lt_of_le t0 ht) hobj hints (Nat.le_trans hlen hn2) hr hF hb (fun H hO hS=>hsp w H a ns hlen hO hS) fun H e s'=>hCX w H s₁ e s'
noncomputable def defArgs (s:Stmt):Arguments:=match s with
 | .FunctionDef _ a _ _ _ _ _ _ _ _=>a
 | _=>{ posonlyargs:=[],args:=[],vararg:=none,kwonlyargs:=[],kw_defaults:=[],kwarg:=none,defaults:=[] }
noncomputable def defBody (s:Stmt):List Stmt:=match s with
 | .FunctionDef _ _ b _ _ _ _ _ _ _=>b
 | _=>[]
noncomputable def defScope (s:Stmt):Scope:=match s with
 | .FunctionDef _ _ _ _ _ _ sc _ _ _=>sc
 | _=>{ kind:=.function,names:=[],isGenerator:=false,isCoroutine:=false }
noncomputable abbrev CX0:CXT:=fun _ _ _ _ _ _=>False
noncomputable abbrev E0:XK:=fun _ _ _=>False
theorem pass0 {X:Cx}:Passes CX0 X E0:=fun _ _ _ _ _ _ _ h=>h.elim
structure Fun (K:Frag) (x qual:Str) (st:Stmt) (f:Addr) (fd:FuncData):Prop where
 ex:∃ (oc:Value) (od:Option Addr) (kV doc pm:Value) (an:Option Addr) (cdv ct:Value) (osl:Array (Option Value)),
  fd = fnOf x qual (defArgs st) (defBody st) (defScope st) .none kV doc pm an cdv ct /\ K.lookup f = some ⟨oc,od,.func fd,osl⟩ /\ codeIn K cdv qual = true
 kp:keepIn K (.ref f) = true
section
variable {P:Program} {w:World} {K:Frag} {mg:Str -> Option Value} {base:Heap}
theorem Fun.ok {x qual:Str} {st:Stmt} {f:Addr} {fd:FuncData} {N ps:List Str} {k:Nat} {sp:Sp} (F:Fun K x qual st f fd) (S:FnScope N ps (defScope st)) (len:∀ vs H Q E,sp vs H Q E -> vs.length = ps.length)
  (hbody:∀ (cdv:Value) (A:Around) (outer:List Env) (s:Shared) (H:Hp) (vs:List V) (Q:VK) (E:XK),Room k (A.deeper (envOfC qual (defScope st) s.heap.objs.size f cdv)) -> sp vs H Q E ->
   ∃ t,PSs (cxOf CX0 P w K mg base N qual (defScope st) f cdv A outer s H E).nox (defBody st) t /\ t { nx:=fun _ H'=>Q .non H',rt:=Q } (start N vs) H):FnOk P w K mg base CX0 (k + 1) f fd ps sp:=by
 obtain ⟨oc,od,kV,doc,pm,an,cdv,ct,osl,rfl,lk,hcd⟩:=F.ex
 refine fn_of lk hcd S len fun A outer s H vs Q E hr hsp=>?_
 obtain ⟨t,h,q⟩:=hbody cdv A outer s H vs Q E hr hsp
 exact ⟨t,h.nox,q⟩
theorem Fun.binds {x qual:Str} {st:Stmt} {f:Addr} {fd:FuncData} {ps:List Str} (F:Fun K x qual st f fd)
  (h:∀ (kV doc pm:Value) (an:Option Addr) (cdv ct:Value) (us:List Value),us.length = ps.length -> bindArgs (fnOf x qual (defArgs st) (defBody st) (defScope st) .none kV doc pm an cdv ct) ⟨us,[]⟩ = pure (ps.zip us)):Binds K fd ps []:=by
 obtain ⟨oc,od,kV,doc,pm,an,cdv,ct,osl,rfl,lk,hcd⟩:=F.ex
 exact .all (h kV doc pm an cdv ct)
theorem fun_mk {x qual:Str} {st:Stmt} {f:Addr} {oc:Value} {od an:Option Addr} {osl:Array (Option Value)} {kV doc pm cdv ct:Value} (l:K.lookup f = some ⟨oc,od,.func (fnOf x qual (defArgs st) (defBody st) (defScope st) .none kV doc pm an cdv ct),osl⟩)
  (c:codeIn K cdv qual = true) (k:keepIn K (.ref f) = true):Fun K x qual st f (fnOf x qual (defArgs st) (defBody st) (defScope st) .none kV doc pm an cdv ct):=⟨⟨oc,od,kV,doc,pm,an,cdv,ct,osl,rfl,l,c⟩,k⟩
end
theorem hu_of {A:Around} {k:Nat} (hr:Room k A):A.units + 1 < cLine:=Nat.lt_of_le_of_lt (Nat.add_le_add_left (by decide:1 <= 64) _) hr.units
section
variable {X:Cx}
theorem pv (i:Nat) {x:Str} {pos:Pos} (hN:X.N[i]? = some x:=by rfl) (hv:Vis X.env.scope x:=by first | exact Or.inl rfl | exact Or.inr (Or.inl rfl) | exact Or.inr (Or.inr rfl)) (hd:(x == ("__debug__" : Str)) = false:=by decide)
  (hcd:(x == ("__classdict__" : Str)) = false:=by decide):PE X (.Name x pos) (tVar i):=pe_var hN hv hd hcd
end
theorem ite2 {c A B:Prop} [Decidable c] (h1:c -> A) (h2:¬ c -> B):if c then A else B:=by
 by_cases h:c
 ·rw [if_pos h]
  exact h1 h
 ·rw [if_neg h]
  exact h2 h
def Same (H H':Hp):Prop:=∀ b o,H b = some o -> H' b = some o
theorem Same.refl (H:Hp):Same H H:=fun _ _ h=>h
theorem Same.trans {H H1 H2:Hp} (a:Same H H1) (b:Same H1 H2):Same H H2:=fun c o h=>b c o (a c o h)
theorem Same.free {H H':Hp} (e:Same H H') {l:Addr} (h:H' l = Option.none):H l = Option.none:=by
 cases q:H l with
 | none=>rfl
 | some o=>
  rw [e l o q] at h
  cases h
theorem Same.seq {K:Frag} {H H':Hp} {a:Addr} {xs:List V} (e:Same H H') (h:SqL K H a xs):SqL K H' a xs:=by
 rcases h with (h | ⟨o,h⟩) | h
 ·exact .inl (.inl (e _ _ h))
 ·exact .inl (.inr ⟨o,e _ _ h⟩)
 ·exact .inr h
section
variable {X:Cx} {pins:List (Addr × Obj)} {σ:St} {H H':Hp} {s:Shared} {h':Heap}
theorem Inv.turnedL {t':Nat} {its:List Addr} (I:Inv X pins σ H s) (k:∀ b o,b ∉ its -> s.heap.get? b = some o -> h'.get? b = some o) (hf:∀ b ∈ its,FpOk X pins H b) (ht:0 < t':=by first | assumption | exact Nat.succ_pos _ | (apply Inv.tk; assumption) | omega):Inv X pins σ H { s with heap:=h',toks:=t' }:=by
 have nit:∀ b u,H b = some u -> b ∉ its:=fun b u e z=>by
  have q:=(hf b z).1
  rw [q] at e
  cases e
 refine I.step (g':=s.gens) (d':=s.drawn) (ch:=its) (fun b hb=>?_) (fun b o _ _ hc e _=>k b o hc e) (fun b o _ _ hc e _=>⟨o.slots,k b o hc e⟩) (fun _ _ _ _ n=>n)
  (fun b o hc e=>⟨o,k b o hc e⟩) (fun _ _ e=>e) (fun _ _ _ e=>e) (fun b ps e=>⟨#[],by rw [e]; simp⟩) (fun m hm=>?_) (fun b u e=>?_) I.bare
 ·obtain ⟨f0,f1,f2,f3,f4,f5⟩:=hf b hb
  exact ⟨f3,f1,f4,f5⟩
 ·obtain ⟨o,es,ep,ho,r⟩:=hm
  exact ⟨o,es,ep,k _ o (fun z=>(hf _ z).2.1 rfl) ho,r⟩
 ·refine (I.hok b u e).stay (fun c v hc q=>k c v ?_ q) (fun _ q=>q) fun _ _ q=>q
  rcases hc with z | z
  ·rw [z]; exact nit b u e
  ·exact nit c _ z
end
theorem strIter_no (x:Str):["enumerate", "zip", "dict_itemiterator", "dict_reverseitemiterator", "odict_iterator", "itertools.zip_longest", "itertools.pairwise"].contains (strIterType x) = false:=by
 unfold strIterType
 split <;> decide
section
variable {prog:Program} {w:World} {A:Around} {E:Value -> Shared -> Prop} {s:Shared}
theorem strIterType_cases (x:Str):strIterType x = "str_ascii_iterator" \/ strIterType x = "str_iterator" := by
 unfold strIterType
 split
 ·exact .inl rfl
 ·exact .inr rfl
theorem next_str_item {it:Addr} {x:Str} {t:Tok} {i c:Nat} {Q:Option Value -> Shared -> Prop} (hit:s.heap.IsStrIter it (strIterType x) x t i) (hx:x.cps[i]? = some c)
  (hQ:∀ h',h'.IsStrIter it (strIterType x) x t (i + 1) -> Heap.SameBut it s.heap h' -> Q (some (.str ⟨#[c]⟩ s.toks)) { s with heap:=h',toks:=s.toks + 1 }):
  wpAny (model prog w) A (pyNext (.ref it)) Q E s:=by
 rcases strIterType_cases x with e | e
 ·rw [e] at hit
  simp only [e] at hQ
  exact wpAny_pyNext_ascii_item hit hx hQ
 ·rw [e] at hit
  simp only [e] at hQ
  exact wpAny_pyNext_wide_item hit hx hQ
theorem next_str_end {it:Addr} {x:Str} {t:Tok} {i:Nat} {Q:Option Value -> Shared -> Prop} (hh:A.handled = none) (hit:s.heap.IsStrIter it (strIterType x) x t i) (hx:x.cps[i]? = none)
  (hQ:∀ h',Heap.ExtBut it s.heap h' -> Q none { s with heap:=h' }):wpAny (model prog w) A (pyNext (.ref it)) Q E s:=by
 rcases strIterType_cases x with e | e
 ·rw [e] at hit
  exact wpAny_pyNext_ascii_end hh hit hx hQ
 ·rw [e] at hit
  exact wpAny_pyNext_wide_end hh hit hx hQ
theorem iter_str_self {it:Addr} {x:Str} {t:Tok} {i:Nat} {Q:Value -> Shared -> Prop} (hit:s.heap.IsStrIter it (strIterType x) x t i) (h:Q (.ref it) s):wpAny (model prog w) A (pyIter (.ref it)) Q E s:=by
 rcases strIterType_cases x with e | e
 ·rw [e] at hit
  exact wpAny_pyIter_striter_ascii hit h
 ·rw [e] at hit
  exact wpAny_pyIter_striter_wide hit h
theorem nextOf_str_item {it:Addr} {x:Str} {t:Tok} {i c:Nat} {Q:Value -> Shared -> Prop} (hit:s.heap.IsStrIter it (strIterType x) x t i) (hx:x.cps[i]? = some c)
  (hQ:∀ h',h'.IsStrIter it (strIterType x) x t (i + 1) -> Heap.SameBut it s.heap h' -> Q (.str ⟨#[c]⟩ s.toks) { s with heap:=h',toks:=s.toks + 1 }):
  wpAny (model prog w) A (Builtin.SmallTypes.nextOf (.ref it)) Q E s:=by
 rcases strIterType_cases x with e | e
 ·rw [e] at hit
  simp only [e] at hQ
  exact wpAny_nextOf_ascii_item hit hx hQ
 ·rw [e] at hit
  simp only [e] at hQ
  exact wpAny_nextOf_wide_item hit hx hQ
theorem nextOf_str_end {it:Addr} {x:Str} {t:Tok} {i:Nat} {Q:Value -> Shared -> Prop} (hh:A.handled = none) (hit:s.heap.IsStrIter it (strIterType x) x t i) (hx:x.cps[i]? = none)
  (hE:∀ h' e,Heap.ExtBut it s.heap h' -> (∃ o,h'.get? e = some o /\ o.cls = .type "StopIteration") -> E (.ref e) { s with heap:=h' }):wpAny (model prog w) A (Builtin.SmallTypes.nextOf (.ref it)) Q E s:=by
 rcases strIterType_cases x with e | e
 ·rw [e] at hit
  exact wpAny_nextOf_ascii_end hh hit hx hE
 ·rw [e] at hit
  exact wpAny_nextOf_wide_end hh hit hx hE
end
noncomputable def Its (x:Str):It:=⟨fun i _=>i < x.cps.size,fun i H v H'=>H' = H /\ ∃ c,x.cps[i]? = some c /\ v = .str ⟨#[c]⟩,fun i _=>x.cps.size <= i⟩
theorem strIter_obj {h:Heap} {it:Addr} {ty:String} {x:Str} {t:Tok} {i:Nat} (st:h.IsStrIter it ty x t i):∃ o,h.get? it = some o /\ ∀ v,o.data ≠ .cell v:=by
 obtain ⟨o,e,c,d⟩:=st
 exact ⟨o,e,fun v z=>by rw [d] at z; cases z⟩
theorem turn_str {P:Program} {w:World} {K:Frag} {tg:Expr} (x:Str) (t:Tok) (it:Addr):Turn P w K tg (Its x) [it] it (fun i h=>h.IsStrIter it (strIterType x) x t i) where
 mem:=by simp
 obj:=fun i h st b hb=>by
  have e:b = it:=by simpa using hb
  subst e
  exact strIter_obj st
 keep:=fun i h h' st k=>by
  obtain ⟨o,e,r⟩:=st
  exact ⟨o,k it (by simp) o e,r⟩
 item:=by
  intro X hP hw hK hc i pins s σ H E I hf st hg
  subst hP hw hK
  have hi:i < x.cps.size:=hg
  refine next_str_item st (c:=x.cps[i]) (by simp [hi]) fun h' st' sb=>?_
  have I1:Inv X pins σ H { s with heap:=h',toks:=s.toks + 1 }:=I.turnedL (its:=[it]) (fun b o hb e=>(sb.2 b (by simpa using hb)).trans e) hf
  obtain ⟨o,e,c,d⟩:=id st'
  exact ⟨_,rfl,go_of (s:={ s with heap:=h',toks:=s.toks + 1 }) e c d (strIter_no x) ⟨.str ⟨#[x.cps[i]]⟩,H,I1,⟨_,rfl⟩,⟨rfl,_,by simp [hi],rfl⟩,st',fun b hb=>(hf b hb).1⟩⟩
 done:=by
  intro X hP hw hK hc i pins s σ H E I hf st hg
  subst hP hw hK
  have hi:x.cps.size <= i:=hg
  exact next_str_end (I.ok.hd hc) st (by simp [hi]) fun h' eb=>⟨rfl,I.turnedL (t':=s.toks) (its:=[it]) (fun b o hb e=>eb b o (by simpa using hb) e) hf⟩
 self:=fun _ _ _ _ _ st h=>iter_str_self st h
section
variable {X:Cx} {tg e:Expr} {te:TE}
end
structure Nx (prog:Program) (w:World) (A:Around) (it:Addr) (f:List Addr) (Sa Sb:Heap -> Prop) (P:Value -> Prop):Prop where
 fra:∀ h h',Sa h -> (∀ b ∈ f,∀ o,h.get? b = some o -> h'.get? b = some o) -> Sa h'
 frb:∀ h h',Sb h -> (∀ b ∈ f,∀ o,h.get? b = some o -> h'.get? b = some o) -> Sb h'
 step:∀ (s:Shared) (Q:Value -> Shared -> Prop) (E:Value -> Shared -> Prop),Sa s.heap -> (∀ x h' tk,P x -> Sb h' -> Heap.SameBut it s.heap h' -> Q x { s with heap:=h',toks:=tk }) -> wpAny (model prog w) A (Builtin.SmallTypes.nextOf (.ref it)) Q E s
structure Nd (prog:Program) (w:World) (A:Around) (it:Addr) (f:List Addr) (Sa:Heap -> Prop):Prop where
 fra:∀ h h',Sa h -> (∀ b ∈ f,∀ o,h.get? b = some o -> h'.get? b = some o) -> Sa h'
 step:∀ (s:Shared) (Q:Value -> Shared -> Prop) (E:Value -> Shared -> Prop),Sa s.heap -> (∀ h' e,Heap.ExtBut it s.heap h' -> (∃ o,h'.get? e = some o /\ o.cls = .type "StopIteration") -> E (.ref e) { s with heap:=h' }) -> wpAny (model prog w) A (Builtin.SmallTypes.nextOf (.ref it)) Q E s
structure ZAp (z TI TO i1 i2:Addr):Prop where
 TIz:TI ≠ z
 TOz:TO ≠ z
 i1z:i1 ≠ z
 i2z:i2 ≠ z
 TITO:TI ≠ TO
 TIi1:TI ≠ i1
 TIi2:TI ≠ i2
 TOi1:TO ≠ i1
 TOi2:TO ≠ i2
 i12:i1 ≠ i2
section
variable {prog:Program} {w:World} {A:Around} {E:Value -> Shared -> Prop} {s:Shared}
theorem zip_next_itemN {z TI TO i1 i2:Addr} {f1 f2:List Addr} {Sa Sb Sc Sd:Heap -> Prop} {P1 P2:Value -> Prop} {a b:Value} {Q:Value -> Shared -> Prop} (D:ZAp z TI TO i1 i2)
  (n1:Nx prog w A i1 f1 Sa Sb P1) (n2:Nx prog w A i2 f2 Sc Sd P2) (hf1:∀ c ∈ f1,c ≠ z /\ c ≠ TO /\ c ≠ i2) (hf2:∀ c ∈ f2,c ≠ z /\ c ≠ TO /\ c ≠ i1)
  (hz:IsZip s.heap z TI TO .none) (hTI:IsPair s.heap TI (.ref i1) (.ref i2)) (hTO:IsPair s.heap TO a b) (h1:Sa s.heap) (h2:Sc s.heap)
  (hQ:∀ x y h' tk,P1 x -> P2 y -> IsZip h' z TI TO (rawInt s.heap.objs.size) -> IsPair h' TO x y -> Sb h' -> Sd h' -> IsPair h' s.heap.objs.size x y -> h'.objs.size = s.heap.objs.size + 1 ->
   (∀ c o,c ≠ z -> c ≠ TO -> c ≠ i1 -> c ≠ i2 -> s.heap.get? c = some o -> h'.get? c = some o) -> Q (.ref s.heap.objs.size) { s with heap:=h',toks:=tk }):
  wpAny (model prog w) A (Builtin.«zip.__next__» ⟨[.ref z],[]⟩) (fun fin s'=>∃ v,fin = .done (.ret v) /\ Q v s') E s:=by
 obtain ⟨hp,gs,dr,k0,os⟩:=s
 refine wpAny_bind (m:=slotArgs "__next__" 0 _) (wpAny_of_eq (a:=(Value.ref _,[])) rfl ?_)
 refine wpAny_bind (m:=field _ 2) (wpAny_field hz rfl (x:=Value.bool false) rfl (wpAny_bind (m:=field _ 3) (wpAny_field hz rfl (x:=Value.ref TI) rfl (wpAny_bind (m:=seqItems? _) (wpAny_seqItems hTI rfl ?_)))))
 refine wpAny_bind (m:=Builtin.SmallTypes.ownedTupleIsFree _) (wpAny_bind (wpAny_field hz rfl (x:=Value.none) rfl (wpAny_pure ?_)))
 refine wpAny_bind (wpAny_rule (wpAny_bind (wpAny_field hz rfl (x:=Value.ref TO) rfl (wpAny_bind (wpAny_setField_rec hz (by simp) fun g1 zg sg=>wpAny_bind ?_)))))
 simp only [List.zipIdx_cons,List.zipIdx_nil,List.forIn_cons,List.forIn_nil]
 have zg:IsZip g1 z TI TO .ellipsis:=zg
 have sg:Heap.SameBut z hp g1:=sg
 refine wpAny_bind (wpAny_bind (wpAny_onRaise (wpAny_bind (m:=Builtin.SmallTypes.nextOf (.ref i1)) (n1.step _ _ _ (n1.fra hp g1 h1 fun c hc o=>sg.extBut _ _ (hf1 c hc).1) fun x g2 k1 p1 b2 t2=>wpAny_pure ?_))))
 have t2:Heap.SameBut i1 g1 g2:=t2
 have o2:IsPair g2 TO a b:=t2.extBut _ _ D.TOi1 (sg.extBut _ _ D.TOz hTO)
 refine wpAny_bind (wpAny_seqItems o2 rfl (wpAny_bind (wpAny_updateSeq_pair o2 fun g3 o3 t3=>wpAny_bind (wpAny_letGo (wpAny_pure ?_)))))
 have o3:IsPair g3 TO x b:=o3
 have t3:Heap.SameBut TO g2 g3:=t3
 have to3:∀ c o,c ≠ z -> c ≠ TO -> c ≠ i1 -> hp.get? c = some o -> g3.get? c = some o:=fun c o e1 e2 e3 q=>t3.extBut _ _ e2 (t2.extBut _ _ e3 (sg.extBut _ _ e1 q))
 refine wpAny_bind (wpAny_bind (wpAny_onRaise (wpAny_bind (m:=Builtin.SmallTypes.nextOf (.ref i2)) (n2.step _ _ _ (n2.fra hp g3 h2 fun c hc o=>to3 c o (hf2 c hc).1 (hf2 c hc).2.1 (hf2 c hc).2.2) fun y g4 k2 p2 b4 t4=>wpAny_pure ?_))))
 have t4:Heap.SameBut i2 g3 g4:=t4
 have o4:IsPair g4 TO x b:=t4.extBut _ _ D.TOi2 o3
 refine wpAny_bind (wpAny_seqItems o4 rfl (wpAny_bind (wpAny_updateSeq_pair o4 fun g5 o5 t5=>wpAny_bind (wpAny_letGo (wpAny_pure (wpAny_pure ?_))))))
 have o5:IsPair g5 TO x y:=o5
 have t5:Heap.SameBut TO g4 g5:=t5
 have size5:g5.objs.size = hp.objs.size:=t5.1.trans (t4.1.trans (t3.1.trans (t2.1.trans sg.1)))
 have z5:IsZip g5 z TI TO .ellipsis:=t5.extBut _ _ D.TOz.symm (t4.extBut _ _ D.i2z.symm (t3.extBut _ _ D.TOz.symm (t2.extBut _ _ D.i1z.symm zg)))
 have zlt:z < g5.objs.size:=Heap.lt_size z5
 refine wpAny_bind (wpAny_seqItems o5 rfl (wpAny_bind (wpAny_newTuple (wpAny_bind (m:=Builtin.SmallTypes.ownedTupleHandOut _ _) ?_))))
 refine wpAny_bind (wpAny_setField_rec (Heap.get?_push_of_some _ z5) (by simp) fun g6 z6 t6=>wpAny_setField_rec z6 (by simp) fun g7 z7 t7=>wpAny_pure ⟨_,rfl,?_⟩)
 have t6:Heap.SameBut z (g5.push { cls:=.type "tuple",data:=.seq #[x,y] }) g6:=t6
 have t7:Heap.SameBut z g6 g7:=t7
 have z7:IsZip g7 z TI TO (rawInt g5.objs.size):=z7
 have over:∀ c o,c ≠ z -> g5.get? c = some o -> g7.get? c = some o:=fun c o e q=>t7.extBut _ _ e (t6.extBut _ _ e (Heap.get?_push_of_some _ q))
 have pair7:IsPair g7 g5.objs.size x y:=t7.extBut _ _ (Nat.ne_of_gt zlt) (t6.extBut _ _ (Nat.ne_of_gt zlt) (Heap.get?_push_size _ rfl))
 have size7:g7.objs.size = g5.objs.size + 1:=t7.1.trans (t6.1.trans (Heap.size_push ..))
 show Q (.ref g5.objs.size) _
 rw [size5] at z7 pair7 size7 ⊢
 refine hQ x y g7 k2 p1 p2 z7 (over _ _ D.TOz o5) (n1.frb g2 g7 b2 fun c hc o q=>?_) (n2.frb g4 g7 b4 fun c hc o q=>?_) pair7 size7 fun c o e1 e2 e3 e4 q=>over c o e1 (t5.extBut _ _ e2 (t4.extBut _ _ e4 (to3 c o e1 e2 e3 q)))
 ·obtain ⟨e1,e2,e3⟩:=hf1 c hc
  exact over c o e1 (t5.extBut _ _ e2 (t4.extBut _ _ e3 (t3.extBut _ _ e2 q)))
 ·obtain ⟨e1,e2,_⟩:=hf2 c hc
  exact over c o e1 (t5.extBut _ _ e2 q)
theorem zip_next_end1 {z TI TO i1 i2:Addr} {f1:List Addr} {Sa:Heap -> Prop} {Q:Fin -> Shared -> Prop} (D:ZAp z TI TO i1 i2)
  (n1:Nd prog w A i1 f1 Sa) (hf1:∀ c ∈ f1,c ≠ z /\ c ≠ TO /\ c ≠ i2)
  (hz:IsZip s.heap z TI TO .none) (hTI:IsPair s.heap TI (.ref i1) (.ref i2)) (h1:Sa s.heap)
  (hE:∀ h' e tk,(∀ c o,c ≠ z -> c ≠ TO -> c ≠ i1 -> c ≠ i2 -> s.heap.get? c = some o -> h'.get? c = some o) -> (∃ o,h'.get? e = some o /\ o.cls = .type "StopIteration") -> E (.ref e) { s with heap:=h',toks:=tk }):
  wpAny (model prog w) A (Builtin.«zip.__next__» ⟨[.ref z],[]⟩) Q E s:=by
 obtain ⟨hp,gs,dr,k0,os⟩:=s
 refine wpAny_bind (m:=slotArgs "__next__" 0 _) (wpAny_of_eq (a:=(Value.ref _,[])) rfl ?_)
 refine wpAny_bind (m:=field _ 2) (wpAny_field hz rfl (x:=Value.bool false) rfl (wpAny_bind (m:=field _ 3) (wpAny_field hz rfl (x:=Value.ref TI) rfl (wpAny_bind (m:=seqItems? _) (wpAny_seqItems hTI rfl ?_)))))
 refine wpAny_bind (m:=Builtin.SmallTypes.ownedTupleIsFree _) (wpAny_bind (wpAny_field hz rfl (x:=Value.none) rfl (wpAny_pure ?_)))
 refine wpAny_bind (wpAny_rule (wpAny_bind (wpAny_field hz rfl (x:=Value.ref TO) rfl (wpAny_bind (wpAny_setField_rec hz (by simp) fun g1 zg sg=>wpAny_bind ?_)))))
 simp only [List.zipIdx_cons,List.zipIdx_nil,List.forIn_cons,List.forIn_nil]
 have zg:IsZip g1 z TI TO .ellipsis:=zg
 have sg:Heap.SameBut z hp g1:=sg
 refine wpAny_bind (wpAny_bind (wpAny_onRaise (wpAny_bind (m:=Builtin.SmallTypes.nextOf (.ref i1)) (n1.step _ _ _ (n1.fra hp g1 h1 fun c hc o=>sg.extBut _ _ (hf1 c hc).1) fun g2 e t2 ⟨oe,qe,ce⟩=>?_))))
 have t2:Heap.ExtBut i1 g1 g2:=t2
 have z2:IsZip g2 z TI TO .ellipsis:=t2 _ _ D.i1z.symm zg
 have ne:e ≠ z:=fun q=>by subst q; rw [z2] at qe; cases qe; simp at ce
 refine wpAny_setField_rec z2 (by simp) fun g3 _ t3=>?_
 have t3:Heap.SameBut z g2 g3:=t3
 exact hE g3 e k0 (fun c o e1 _ e3 _ q=>t3.extBut _ _ e1 (t2 _ _ e3 (sg.extBut _ _ e1 q))) ⟨oe,t3.extBut _ _ ne qe,ce⟩
theorem zip_next_end2 {z TI TO i1 i2:Addr} {f1 f2:List Addr} {Sa Sb Sc:Heap -> Prop} {P1:Value -> Prop} {a b:Value} {Q:Fin -> Shared -> Prop} (D:ZAp z TI TO i1 i2)
  (n1:Nx prog w A i1 f1 Sa Sb P1) (n2:Nd prog w A i2 f2 Sc) (hf1:∀ c ∈ f1,c ≠ z /\ c ≠ TO /\ c ≠ i2) (hf2:∀ c ∈ f2,c ≠ z /\ c ≠ TO /\ c ≠ i1)
  (hz:IsZip s.heap z TI TO .none) (hTI:IsPair s.heap TI (.ref i1) (.ref i2)) (hTO:IsPair s.heap TO a b) (h1:Sa s.heap) (h2:Sc s.heap)
  (hE:∀ h' e tk,(∀ c o,c ≠ z -> c ≠ TO -> c ≠ i1 -> c ≠ i2 -> s.heap.get? c = some o -> h'.get? c = some o) -> (∃ o,h'.get? e = some o /\ o.cls = .type "StopIteration") -> E (.ref e) { s with heap:=h',toks:=tk }):
  wpAny (model prog w) A (Builtin.«zip.__next__» ⟨[.ref z],[]⟩) Q E s:=by
 obtain ⟨hp,gs,dr,k0,os⟩:=s
 refine wpAny_bind (m:=slotArgs "__next__" 0 _) (wpAny_of_eq (a:=(Value.ref _,[])) rfl ?_)
 refine wpAny_bind (m:=field _ 2) (wpAny_field hz rfl (x:=Value.bool false) rfl (wpAny_bind (m:=field _ 3) (wpAny_field hz rfl (x:=Value.ref TI) rfl (wpAny_bind (m:=seqItems? _) (wpAny_seqItems hTI rfl ?_)))))
 refine wpAny_bind (m:=Builtin.SmallTypes.ownedTupleIsFree _) (wpAny_bind (wpAny_field hz rfl (x:=Value.none) rfl (wpAny_pure ?_)))
 refine wpAny_bind (wpAny_rule (wpAny_bind (wpAny_field hz rfl (x:=Value.ref TO) rfl (wpAny_bind (wpAny_setField_rec hz (by simp) fun g1 zg sg=>wpAny_bind ?_)))))
 simp only [List.zipIdx_cons,List.zipIdx_nil,List.forIn_cons,List.forIn_nil]
 have zg:IsZip g1 z TI TO .ellipsis:=zg
 have sg:Heap.SameBut z hp g1:=sg
 refine wpAny_bind (wpAny_bind (wpAny_onRaise (wpAny_bind (m:=Builtin.SmallTypes.nextOf (.ref i1)) (n1.step _ _ _ (n1.fra hp g1 h1 fun c hc o=>sg.extBut _ _ (hf1 c hc).1) fun x g2 k1 p1 b2 t2=>wpAny_pure ?_))))
 have t2:Heap.SameBut i1 g1 g2:=t2
 have o2:IsPair g2 TO a b:=t2.extBut _ _ D.TOi1 (sg.extBut _ _ D.TOz hTO)
 refine wpAny_bind (wpAny_seqItems o2 rfl (wpAny_bind (wpAny_updateSeq_pair o2 fun g3 _ t3=>wpAny_bind (wpAny_letGo (wpAny_pure ?_)))))
 have t3:Heap.SameBut TO g2 g3:=t3
 have to3:∀ c o,c ≠ z -> c ≠ TO -> c ≠ i1 -> hp.get? c = some o -> g3.get? c = some o:=fun c o e1 e2 e3 q=>t3.extBut _ _ e2 (t2.extBut _ _ e3 (sg.extBut _ _ e1 q))
 refine wpAny_bind (wpAny_bind (wpAny_onRaise (wpAny_bind (m:=Builtin.SmallTypes.nextOf (.ref i2)) (n2.step _ _ _ (n2.fra hp g3 h2 fun c hc o=>to3 c o (hf2 c hc).1 (hf2 c hc).2.1 (hf2 c hc).2.2) fun g4 e t4 ⟨oe,qe,ce⟩=>?_))))
 have t4:Heap.ExtBut i2 g3 g4:=t4
 have z4:IsZip g4 z TI TO .ellipsis:=t4 _ _ D.i2z.symm (t3.extBut _ _ D.TOz.symm (t2.extBut _ _ D.i1z.symm zg))
 have ne:e ≠ z:=fun q=>by subst q; rw [z4] at qe; cases qe; simp at ce
 refine wpAny_setField_rec z4 (by simp) fun g5 _ t5=>?_
 have t5:Heap.SameBut z g4 g5:=t5
 exact hE g5 e k1 (fun c o e1 e2 e3 e4 q=>t5.extBut _ _ e1 (t4 _ _ e4 (to3 c o e1 e2 e3 q))) ⟨oe,t5.extBut _ _ ne qe,ce⟩
theorem pyNext_zip_item {z:Addr} {o:Obj} {Q:Option Value -> Shared -> Prop} (hz:s.heap.get? z = some o) (hc:o.cls = .type "zip")
  (h:wpAny (model prog w) A.in1 (Builtin.«zip.__next__» ⟨[.ref z],[]⟩) (fun fin s'=>∃ v,fin = .done (.ret v) /\ Q (some v) s') (fun _ _=>False) s):wpAny (model prog w) A (pyNext (.ref z)) Q E s:=by
 have hT:s.TypeIs (.ref z) "zip" := ⟨_,hz,hc⟩
 unfold pyNext
 exact wpAny_bind (wpAny_attempt (wpAny_callSpecial?_slot (name:=Str.ofString "__next__") hT F.slot_zip_next
  (wpAny_call_entry F.slot_zip_next hT F.entry_zip_next (wpAny_mono h (fun fin s' ⟨v,e,q⟩=>⟨v,e,wpAny_pure q⟩) fun _ _ f=>f.elim) (F.args_zip_next_1 _))))
theorem pyNext_zip_end {z:Addr} {o:Obj} {Q:Option Value -> Shared -> Prop} (hz:s.heap.get? z = some o) (hc:o.cls = .type "zip")
  (h:wpAny (model prog w) A.in1 (Builtin.«zip.__next__» ⟨[.ref z],[]⟩) (fun _ _=>False) (fun e s'=>∃ a,e = .ref a /\ (∃ o,s'.heap.get? a = some o /\ o.cls = .type "StopIteration") /\ Q none s') s):wpAny (model prog w) A (pyNext (.ref z)) Q E s:=by
 have hT:s.TypeIs (.ref z) "zip" := ⟨_,hz,hc⟩
 unfold pyNext
 refine wpAny_bind (wpAny_attempt (wpAny_callSpecial?_slot (name:=Str.ofString "__next__") hT F.slot_zip_next
  (wpAny_call_entry F.slot_zip_next hT F.entry_zip_next (wpAny_mono h (fun _ _ f=>f.elim) fun e s' he=>?_) (F.args_zip_next_1 _))))
 obtain ⟨a,rfl,⟨o,ho,hc⟩,q⟩:=he
 refine wpAny_bind (wpAny_isInstance (T := "StopIteration") (b:=true) ⟨o,ho,hc⟩ isSubtype_stop ?_)
 exact wpAny_pure q
end
inductive Src where
 | str (x:Str) | lst (a:Addr)
noncomputable def SrcGo (K:Frag) (H:Hp):Src -> Nat -> Prop
 | .str x,i=>i < x.cps.size
 | .lst a,i=>∃ xs v,SqL K H a xs /\ xs[i]? = some v
noncomputable def SrcAt (K:Frag) (H:Hp):Src -> Nat -> V -> Prop
 | .str x,i,v=>∃ c,x.cps[i]? = some c /\ v = .str ⟨#[c]⟩
 | .lst a,i,v=>∀ xs,SqL K H a xs -> xs[i]? = some v
noncomputable def SrcEnd (K:Frag) (H:Hp):Src -> Nat -> Prop
 | .str x,i=>x.cps.size <= i
 | .lst a,i=>∃ xs,SqL K H a xs /\ xs.length <= i
noncomputable def SrcIt (h:Heap):Src -> Addr -> Nat -> Prop
 | .str x,it,i=>∃ t,h.IsStrIter it (strIterType x) x t i
 | .lst a,it,i=>h.IsListIter it a i
noncomputable def SrcOf (K:Frag) (H:Hp):Src -> V -> Prop
 | .str x,v=>v = .str x
 | .lst a,v=>v = .ref a /\ ∃ xs,SqL K H a xs
theorem SrcIt.obj {h:Heap} {S:Src} {it:Addr} {i:Nat} (st:SrcIt h S it i):∃ o,h.get? it = some o /\ (∀ v,o.data ≠ .cell v) /\ o.cls ≠ .type "list" /\ o.cls ≠ .type "zip" /\ o.cls ≠ .type "tuple" := by
 cases S with
 | str x=>
  obtain ⟨t,o,e,c,d⟩:=st
  refine ⟨o,e,(fun v z=>by rw [d] at z; cases z),?_⟩
  rw [c]
  rcases strIterType_cases x with q | q <;> rw [q] <;> decide
 | lst a=>
  obtain ⟨o,e,c,d⟩:=(show h.IsListIter it a i from st)
  refine ⟨o,e,(fun v z=>by rw [d] at z; cases z),?_⟩
  rw [c]
  decide
theorem SrcIt.keep {h h':Heap} {S:Src} {it:Addr} {i:Nat} (st:SrcIt h S it i) (k:∀ o,h.get? it = some o -> h'.get? it = some o):SrcIt h' S it i:=by
 cases S with
 | str x=>
  obtain ⟨t,o,e,r⟩:=st
  exact ⟨t,o,k o e,r⟩
 | lst a=>exact Heap.IsListIter.at (show h.IsListIter it a i from st) k
section
variable {X:Cx} {pins:List (Addr × Obj)} {σ:St} {H:Hp} {s:Shared} {A:Around}
theorem src_nx (I:Inv X pins σ H s) (S:Src) {it:Addr} {i:Nat} (st:SrcIt s.heap S it i) (go:SrcGo X.K H S i):
  ∃ (f:List Addr) (Sa Sb:Heap -> Prop) (P:Value -> Prop),Nx X.prog X.w A it f Sa Sb P /\ Sa s.heap /\ (∀ c ∈ f,c = it \/ ∃ o,s.heap.get? c = some o /\ o.cls = .type "list") /\ (∀ h,Sb h -> SrcIt h S it (i + 1)) /\ ∀ v,P v -> ∃ x,RelV x v /\ SrcAt X.K H S i x:=by
 cases S with
 | str x=>
  obtain ⟨t,st⟩:=st
  have hi:i < x.cps.size:=go
  refine ⟨[it],fun h=>h.IsStrIter it (strIterType x) x t i,fun h=>h.IsStrIter it (strIterType x) x t (i + 1),fun v=>∃ u,v = .str ⟨#[x.cps[i]]⟩ u,⟨?_,?_,?_⟩,st,fun c hc=>.inl (by simpa using hc),fun h q=>⟨t,q⟩,?_⟩
  ·rintro h h' ⟨o,e,r⟩ k
   exact ⟨o,k it (by simp) o e,r⟩
  ·rintro h h' ⟨o,e,r⟩ k
   exact ⟨o,k it (by simp) o e,r⟩
  ·intro s Q E st hQ
   exact nextOf_str_item st (c:=x.cps[i]) (by simp [hi]) fun h' st' sb=>hQ _ h' _ ⟨_,rfl⟩ st' sb
  ·rintro v ⟨u,rfl⟩
   exact ⟨.str ⟨#[x.cps[i]]⟩,⟨u,rfl⟩,_,by simp [hi],rfl⟩
 | lst a=>
  obtain ⟨xs,v,hq,hv⟩:=go
  obtain ⟨its,rv,pl,hz⟩:=I.list hq
  obtain ⟨u,hu,ru⟩:=rv.get hv
  have st':s.heap.IsListIter it a i:=st
  obtain ⟨o,e,c,n,hd⟩:=id pl.isList
  have hne:a ≠ it:=by
   rintro rfl
   obtain ⟨o',e',c',_⟩:=st'
   rw [e] at e'
   cases e'
   rw [c] at c'
   exact absurd c' (by decide)
  refine ⟨[it,a],fun h=>h.IsListIter it a i /\ h.IsList a its.toArray,fun h=>h.IsListIter it a (i + 1) /\ h.IsList a its.toArray,fun z=>z = u,⟨?_,?_,?_⟩,⟨st',pl.isList⟩,?_,fun h q=>q.1,?_⟩
  ·rintro h h' ⟨s1,s2⟩ k
   exact ⟨s1.at fun o e=>k it (by simp) o e,s2.at fun o e=>k a (by simp) o e⟩
  ·rintro h h' ⟨s1,s2⟩ k
   exact ⟨s1.at fun o e=>k it (by simp) o e,s2.at fun o e=>k a (by simp) o e⟩
  ·intro s Q E st hQ
   exact wpAny_nextOf_list_item st.1 st.2 (x:=u) (by simpa using hu) fun h' st' sb=>hQ _ h' s.toks rfl ⟨st',st.2.extBut sb.extBut hne⟩ sb
  ·intro c' hc
   rcases (by simpa using hc:c' = it \/ c' = a) with z | z
   ·exact .inl z
   ·subst z
    exact .inr ⟨o,e,c⟩
  ·rintro z rfl
   exact ⟨v,ru,fun ys hy=>by rw [I.list_inj hy hq]; exact hv⟩
theorem src_nd (I:Inv X pins σ H s) (hh:A.handled = none) (S:Src) {it:Addr} {i:Nat} (st:SrcIt s.heap S it i) (en:SrcEnd X.K H S i):
  ∃ (f:List Addr) (Sa:Heap -> Prop),Nd X.prog X.w A it f Sa /\ Sa s.heap /\ (∀ c ∈ f,c = it \/ ∃ o,s.heap.get? c = some o /\ o.cls = .type "list"):=by
 cases S with
 | str x=>
  obtain ⟨t,st⟩:=st
  have hi:x.cps.size <= i:=en
  refine ⟨[it],fun h=>h.IsStrIter it (strIterType x) x t i,⟨?_,?_⟩,st,fun c hc=>.inl (by simpa using hc)⟩
  ·rintro h h' ⟨o,e,r⟩ k
   exact ⟨o,k it (by simp) o e,r⟩
  ·intro s Q E st hE
   exact nextOf_str_end hh st (by simp [hi]) hE
 | lst a=>
  obtain ⟨xs,hq,hv⟩:=en
  obtain ⟨its,rv,pl,hz⟩:=I.list hq
  have st':s.heap.IsListIter it a i:=st
  obtain ⟨o,e,c,n,hd⟩:=id pl.isList
  have hl:=rv.length
  refine ⟨[it,a],fun h=>h.IsListIter it a i /\ h.IsList a its.toArray,⟨?_,?_⟩,⟨st',pl.isList⟩,?_⟩
  ·rintro h h' ⟨s1,s2⟩ k
   exact ⟨s1.at fun o e=>k it (by simp) o e,s2.at fun o e=>k a (by simp) o e⟩
  ·intro s Q E st hE
   exact wpAny_nextOf_list_end hh st.1 st.2 (by simp; omega) hE
  ·intro c' hc
   rcases (by simpa using hc:c' = it \/ c' = a) with z | z
   ·exact .inl z
   ·subst z
    exact .inr ⟨o,e,c⟩
theorem Inv.turnedLaid {t':Nat} {its:List Addr} {h':Heap} {a:Addr} {o:HO} (I:Inv X pins σ H s) (k:∀ b ob,b ∉ its -> s.heap.get? b = some ob -> h'.get? b = some ob) (hf:∀ b ∈ its,FpOk X pins H b) (hp:s.heap.objs.size <= a)
  (new:ObjOk X.prog X.w (upd H a o) h' a o) (ht:0 < t':=by first | assumption | exact Nat.succ_pos _ | (apply Inv.tk; assumption) | omega):Inv X pins σ (upd H a o) { s with heap:=h',toks:=t' }:=by
 have hn:H a = none:=I.hok.fresh hp
 have nit:∀ b u,H b = some u -> b ∉ its:=fun b u e z=>by
  have q:=(hf b z).1
  rw [q] at e
  cases e
 have nea:∀ b ob,s.heap.get? b = some ob -> b ≠ a:=fun b ob e=>Nat.ne_of_lt (Nat.lt_of_lt_of_le (Heap.lt_size e) hp)
 refine I.step (g':=s.gens) (d':=s.drawn) (ch:=its) (fun b hb=>?_) (fun b o _ _ hc e _=>k b o hc e) (fun b o _ _ hc e _=>⟨o.slots,k b o hc e⟩) (fun b ob _ e n=>by rw [upd_ne (nea b ob e)]; exact n)
  (fun b o hc e=>⟨o,k b o hc e⟩) (fun _ _ e=>by rw [upd_ne (ne_of_none e hn)]; exact e) (fun _ _ _ e=>by rw [upd_ne (ne_of_none e hn)]; exact e) (fun b ps e=>⟨#[],by rw [upd_ne (ne_of_none e hn),e]; simp⟩) (fun m hm=>?_) (fun b u e=>?_) I.bare
 ·obtain ⟨f0,f1,f2,f3,f4,f5⟩:=hf b hb
  exact ⟨f3,f1,f4,f5⟩
 ·obtain ⟨o,es,ep,ho,r⟩:=hm
  exact ⟨o,es,ep,k _ o (fun z=>(hf _ z).2.1 rfl) ho,r⟩
 ·by_cases hb:b = a
  ·subst hb
   rw [upd_same] at e
   cases e
   exact new
  ·rw [upd_ne hb] at e
   refine (I.hok b u e).stay (fun c v hc q=>k c v ?_ q) (fun c q=>by rw [upd_ne (ne_of_none q hn)]; exact q) fun c xs q=>by rw [upd_ne (ne_of_none q hn)]; exact q
   rcases hc with z | z
   ·rw [z]; exact nit b u e
   ·exact nit c _ z
end
noncomputable def Itz (K:Frag) (S1 S2:Src):It:=⟨fun i H=>SrcGo K H S1 i /\ SrcGo K H S2 i,fun i H v H'=>∃ T x y,v = .ref T /\ H T = none /\ H' = upd H T (.tup [x,y]) /\ SrcAt K H S1 i x /\ SrcAt K H S2 i y,
 fun i H=>SrcEnd K H S1 i \/ (SrcGo K H S1 i /\ SrcEnd K H S2 i)⟩
def ZipSt (z TI TO i1 i2:Addr) (S1 S2:Src) (i:Nat) (h:Heap):Prop:=∃ a b,IsZip h z TI TO .none /\ IsPair h TI (.ref i1) (.ref i2) /\ IsPair h TO a b /\ SrcIt h S1 i1 i /\ SrcIt h S2 i2 i
theorem off_of {h:Heap} {f:List Addr} {z TI TO i1 i2:Addr} {a b:Value} {S2:Src} {k:Nat} (hz:IsZip h z TI TO .none) (hTO:IsPair h TO a b) (h2:SrcIt h S2 i2 k) (n1:i1 ≠ z) (n2:i1 ≠ TO) (n3:i1 ≠ i2)
  (m:∀ c ∈ f,c = i1 \/ ∃ o,h.get? c = some o /\ o.cls = .type "list"):∀ c ∈ f,c ≠ z /\ c ≠ TO /\ c ≠ i2:=fun c hc=>by
 rcases m c hc with e | ⟨o,e,c1⟩
 ·subst e
  exact ⟨n1,n2,n3⟩
 ·refine ⟨?_,?_,?_⟩
  ·rintro rfl
   rw [hz] at e
   cases e
   exact absurd (show Value.type "zip" = Value.type "list" from c1) (by decide)
  ·rintro rfl
   rw [hTO] at e
   cases e
   exact absurd (show Value.type "tuple" = Value.type "list" from c1) (by decide)
  ·rintro rfl
   obtain ⟨o',e',_,q,_⟩:=h2.obj
   rw [e] at e'
   cases e'
   exact q c1
theorem turn_zip {P:Program} {w:World} {K:Frag} {elts:List Expr} {kk:Nat} {pos:Pos} {z TI TO i1 i2:Addr} (D:ZAp z TI TO i1 i2) (S1 S2:Src):
  Turn P w K (.Tuple elts kk pos) (Itz K S1 S2) [z,TI,TO,i1,i2] z (ZipSt z TI TO i1 i2 S1 S2) where
 mem:=by simp
 obj:=fun i h st b hb=>by
  obtain ⟨a,c,hz,hTI,hTO,h1,h2⟩:=st
  simp only [List.mem_cons,List.not_mem_nil,or_false] at hb
  rcases hb with rfl | rfl | rfl | rfl | rfl
  ·exact ⟨_,hz,fun v q=>by have q':Data.fields _ = Data.cell v:=q; cases q'⟩
  ·exact ⟨_,hTI,fun v q=>by have q':Data.seq _ _ = Data.cell v:=q; cases q'⟩
  ·exact ⟨_,hTO,fun v q=>by have q':Data.seq _ _ = Data.cell v:=q; cases q'⟩
  ·obtain ⟨o,e,q,_⟩:=h1.obj
   exact ⟨o,e,q⟩
  ·obtain ⟨o,e,q,_⟩:=h2.obj
   exact ⟨o,e,q⟩
 keep:=fun i h h' st k=>by
  obtain ⟨a,c,hz,hTI,hTO,h1,h2⟩:=st
  exact ⟨a,c,k z (by simp) _ hz,k TI (by simp) _ hTI,k TO (by simp) _ hTO,h1.keep fun o e=>k i1 (by simp) o e,h2.keep fun o e=>k i2 (by simp) o e⟩
 item:=by
  intro X hP hw hK hc i pins s σ H E I hf st hg
  subst hP hw hK
  obtain ⟨a,b,hz,hTI,hTO,h1,h2⟩:=st
  obtain ⟨g1,g2⟩:=hg
  obtain ⟨f1,Sa,Sb,P1,n1,a1,m1,b1,r1⟩:=src_nx (A:=X.A.in1) I S1 h1 g1
  obtain ⟨f2,Sc,Sd,P2,n2,a2,m2,b2,r2⟩:=src_nx (A:=X.A.in1) I S2 h2 g2
  refine tokQ I.tk (pyNext_zip_item hz rfl (zip_next_itemN D n1 n2 (off_of hz hTO h2 D.i1z D.TOi1.symm D.i12 m1) (off_of hz hTO h1 D.i2z D.TOi2.symm D.i12.symm m2) hz hTI hTO a1 a2 fun x y h' tk p1 p2 z1 z2 q1 q2 z3 z4 kp (htk:0 < tk)=>?_))
  obtain ⟨vx,rx,ax⟩:=r1 x p1
  obtain ⟨vy,ry,ay⟩:=r2 y p2
  have fresh:H s.heap.objs.size = none:=I.hok.fresh (Nat.le_refl _)
  have off:∀ {c o},s.heap.get? c = some o -> c ≠ s.heap.objs.size:=fun e=>Nat.ne_of_lt (Heap.lt_size e)
  refine ⟨_,rfl,wpAny_letOwnedTupleGo_zip z1 fun h'' z1' sb=>?_⟩
  replace sb:Heap.SameBut z h' h'':=sb
  have hT:IsPair h'' s.heap.objs.size x y:=sb.extBut _ _ (Ne.symm (off hz)) z3
  have I1:Inv X pins σ (upd H s.heap.objs.size (.tup [vx,vy])) { s with heap:=h'',toks:=tk }:=by
   refine I.turnedLaid (its:=[z,TO,i1,i2]) (fun c o hc' e=>?_) (fun c hc'=>hf c ?_) (Nat.le_refl _) ?_
   ·simp only [List.mem_cons,List.not_mem_nil,or_false,not_or] at hc'
    exact sb.extBut _ _ hc'.1 (kp c o hc'.1 hc'.2.1 hc'.2.2.1 hc'.2.2.2 e)
   ·simp only [List.mem_cons,List.not_mem_nil,or_false] at hc' ⊢
    rcases hc' with q | q | q | q
    ·exact .inl q
    ·exact .inr (.inr (.inl q))
    ·exact .inr (.inr (.inr (.inl q)))
    ·exact .inr (.inr (.inr (.inr q)))
   ·exact ⟨by show 2 <= sizeLine; decide,[x,y],.cons rx (.cons ry .nil),_,hT,rfl,_,rfl⟩
  refine ⟨.ref s.heap.objs.size,_,I1,rfl,⟨_,vx,vy,rfl,fresh,rfl,ax,ay⟩,⟨x,y,z1',?_,?_,?_,?_⟩,fun c hc'=>?_⟩
  ·exact sb.extBut _ _ D.TIz (kp _ _ D.TIz D.TITO D.TIi1 D.TIi2 hTI)
  ·exact sb.extBut _ _ D.TOz z2
  ·exact (b1 h' q1).keep fun o e=>sb.extBut _ _ D.i1z e
  ·exact (b2 h' q2).keep fun o e=>sb.extBut _ _ D.i2z e
  ·have ne:c ≠ s.heap.objs.size:=by
    simp only [List.mem_cons,List.not_mem_nil,or_false] at hc'
    rcases hc' with rfl | rfl | rfl | rfl | rfl
    ·exact off hz
    ·exact off hTI
    ·exact off hTO
    ·obtain ⟨o,e,_⟩:=h1.obj
     exact off e
    ·obtain ⟨o,e,_⟩:=h2.obj
     exact off e
   rw [upd_ne ne]
   exact (hf c hc').1
 done:=by
  intro X hP hw hK hc i pins s σ H E I hf st hg
  subst hP hw hK
  obtain ⟨a,b,hz,hTI,hTO,h1,h2⟩:=st
  have hh:X.A.in1.handled = none:=I.ok.hd hc
  have fin:∀ (h':Heap) (tk:Nat),0 < tk -> (∀ c o,c ≠ z -> c ≠ TO -> c ≠ i1 -> c ≠ i2 -> s.heap.get? c = some o -> h'.get? c = some o) -> Inv X pins σ H { s with heap:=h',toks:=tk }:=fun h' tk htk kp=>
   I.turnedL (its:=[z,TO,i1,i2]) (fun c o hc' e=>by
    simp only [List.mem_cons,List.not_mem_nil,or_false,not_or] at hc'
    exact kp c o hc'.1 hc'.2.1 hc'.2.2.1 hc'.2.2.2 e) (fun c hc'=>hf c (by
    simp only [List.mem_cons,List.not_mem_nil,or_false] at hc' ⊢
    rcases hc' with q | q | q | q
    ·exact .inl q
    ·exact .inr (.inr (.inl q))
    ·exact .inr (.inr (.inr (.inl q)))
    ·exact .inr (.inr (.inr (.inr q)))))
  rcases hg with e1 | ⟨g1,e2⟩
  ·obtain ⟨f1,Sa,n1,a1,m1⟩:=src_nd I hh S1 h1 e1
   exact tokQ I.tk (pyNext_zip_end hz rfl (zip_next_end1 D n1 (off_of hz hTO h2 D.i1z D.TOi1.symm D.i12 m1) hz hTI a1 fun h' e tk kp he=>⟨e,rfl,he,fun htk=>⟨rfl,fin h' tk htk kp⟩⟩))
  ·obtain ⟨f1,Sa,Sb,P1,n1,a1,m1,b1,r1⟩:=src_nx (A:=X.A.in1) I S1 h1 g1
   obtain ⟨f2,Sc,n2,a2,m2⟩:=src_nd I hh S2 h2 e2
   exact tokQ I.tk (pyNext_zip_end hz rfl (zip_next_end2 D n1 n2 (off_of hz hTO h2 D.i1z D.TOi1.symm D.i12 m1) (off_of hz hTO h1 D.i2z D.TOi2.symm D.i12.symm m2) hz hTI hTO a1 a2 fun h' e tk kp he=>⟨e,rfl,he,fun htk=>⟨rfl,fin h' tk htk kp⟩⟩))
 self:=fun _ _ _ _ _ st h=>by
  obtain ⟨a,b,hz,_⟩:=st
  exact wpAny_pyIter_zip hz h
noncomputable def srcVal:Src -> Tok -> Value
 | .str x,t=>.str x t
 | .lst a,_=>.ref a
noncomputable def srcObj:Src -> Tok -> Obj
 | .str x,t=>{ cls:=.type (strIterType x),data:=.fields #[.str x t,.int 0 0] }
 | .lst a,_=>{ cls:=.type "list_iterator",data:=.fields #[.ref a,.int 0 0] }
noncomputable def srcOk (h:Heap):Src -> Prop
 | .str _=>True
 | .lst a=>∃ its,h.IsList a its
theorem srcOk.push {h:Heap} {S:Src} (ok:srcOk h S) (o:Obj):srcOk (h.push o) S:=by
 cases S with
 | str x=>trivial
 | lst a=>
  obtain ⟨its,q⟩:=ok
  exact ⟨its,Heap.IsList.push q _⟩
theorem srcObj_freed (S:Src) (t:Tok):(srcObj S t).isFreed = false:=by cases S <;> rfl
theorem srcObj_it {h:Heap} {S:Src} {t:Tok} {it:Addr} (e:h.get? it = some (srcObj S t)):SrcIt h S it 0:=by
 cases S with
 | str x=>exact ⟨t,_,e,rfl,rfl⟩
 | lst a=>exact ⟨_,e,rfl,rfl⟩
section
variable {prog:Program} {w:World} {A:Around} {E:Value -> Shared -> Prop} {s:Shared}
theorem pyIter_src {S:Src} {t:Tok} {Q:Value -> Shared -> Prop} (ok:srcOk s.heap S) (hQ:Q (.ref s.heap.objs.size) { s with heap:=s.heap.push (srcObj S t) }):wpAny (model prog w) A (pyIter (srcVal S t)) Q E s:=by
 cases S with
 | str x=>exact wpAny_pyIter_strU hQ
 | lst a=>
  obtain ⟨its,q⟩:=ok
  exact wpAny_pyIter_list q hQ
end
noncomputable abbrev zH1 (h:Heap) (S1:Src) (t1:Tok):Heap:=h.push (srcObj S1 t1)
noncomputable abbrev zH2 (h:Heap) (S1 S2:Src) (t1 t2:Tok):Heap:=(zH1 h S1 t1).push (srcObj S2 t2)
noncomputable abbrev zH3 (h:Heap) (S1 S2:Src) (t1 t2:Tok):Heap:=(zH2 h S1 S2 t1 t2).push { cls:=.type "tuple",data:=.seq #[.ref h.objs.size,.ref (zH1 h S1 t1).objs.size] }
noncomputable abbrev zH4 (h:Heap) (S1 S2:Src) (t1 t2:Tok):Heap:=(zH3 h S1 S2 t1 t2).push { cls:=.type "tuple",data:=.seq #[.none,.none] }
noncomputable abbrev zH5 (h:Heap) (S1 S2:Src) (t1 t2:Tok):Heap:=(zH4 h S1 S2 t1 t2).push { cls:=.type "zip",data:=.fields #[.none,.bool false,.bool false,.ref (zH2 h S1 S2 t1 t2).objs.size,.ref (zH3 h S1 S2 t1 t2).objs.size] }
theorem meets_zip_newS (S1 S2:Src) (t1 t2:Tok):
  Meets (Builtin.«zip.__new__» ⟨[.type "zip",srcVal S1 t1,srcVal S2 t2],[]⟩) (fun _ R s=>srcOk s.heap S1 /\ srcOk s.heap S2 /\
   R (.ok (.ret (.ref (zH4 s.heap S1 S2 t1 t2).objs.size))) { s with heap:=zH5 s.heap S1 S2 t1 t2 }):=
 .of_wp fun prog w A R s h=>by
  obtain ⟨hp,g,d,tk,os⟩:=s; obtain ⟨hl1,hl2,h⟩:=h
  have hsub:=sub_zip
  have hL1:srcOk (Shared.heap ⟨hp,g,d,tk,os⟩) S1:=hl1
  have hL2:srcOk (Shared.heap ⟨hp.push (srcObj S1 t1),g,d,tk,os⟩) S2:=hl2.push _
  wp_walk using pyIter_src hL1,pyIter_src hL2
  exact ⟨_,rfl,h⟩
section
variable {prog:Program} {w:World} {A:Around} {E:Value -> Shared -> Prop} {s:Shared}
theorem call_zipS {S1 S2:Src} {t1 t2:Tok} {Q:Value -> Shared -> Prop} (hl1:srcOk s.heap S1) (hl2:srcOk s.heap S2)
  (h:∀ h',ZipSt (s.heap.objs.size + 4) (s.heap.objs.size + 2) (s.heap.objs.size + 3) s.heap.objs.size (s.heap.objs.size + 1) S1 S2 0 h' -> (∀ c o,s.heap.get? c = some o -> h'.get? c = some o) -> Q (.ref (s.heap.objs.size + 4)) { s with heap:=h' }):
  wpAny (model prog w) A (call (.type "zip") [srcVal S1 t1,srcVal S2 t2]) Q E s:=by
 refine callType_new F.called_zip (by decide) (F.typeCall_zip_2 _ _) (F.newCall_zip_2 _ _) (fun obj=>F.args_object_init_3 obj _ _) F.entry_zip_new
  (meets_zip_newS S1 S2 t1 t2) ⟨hl1,hl2,?_⟩
 have z1:(zH1 s.heap S1 t1).objs.size = s.heap.objs.size + 1:=Heap.size_push ..
 have z2:(zH2 s.heap S1 S2 t1 t2).objs.size = s.heap.objs.size + 2:=by rw [Heap.size_push,z1]
 have z3:(zH3 s.heap S1 S2 t1 t2).objs.size = s.heap.objs.size + 3:=by rw [Heap.size_push,z2]
 have z4:(zH4 s.heap S1 S2 t1 t2).objs.size = s.heap.objs.size + 4:=by rw [Heap.size_push,z3]
 have g5:(zH5 s.heap S1 S2 t1 t2).get? (zH4 s.heap S1 S2 t1 t2).objs.size = some _:=Heap.get?_push_size _ rfl
 have g4:(zH5 s.heap S1 S2 t1 t2).get? (zH3 s.heap S1 S2 t1 t2).objs.size = some _:=Heap.get?_push_of_some _ (Heap.get?_push_size _ rfl)
 have g3:(zH5 s.heap S1 S2 t1 t2).get? (zH2 s.heap S1 S2 t1 t2).objs.size = some _:=Heap.get?_push_of_some _ (Heap.get?_push_of_some _ (Heap.get?_push_size _ rfl))
 have g2:(zH5 s.heap S1 S2 t1 t2).get? (zH1 s.heap S1 t1).objs.size = some (srcObj S2 t2):=Heap.get?_push_of_some _ (Heap.get?_push_of_some _ (Heap.get?_push_of_some _ (Heap.get?_push_size _ (srcObj_freed _ _))))
 have g1:(zH5 s.heap S1 S2 t1 t2).get? s.heap.objs.size = some (srcObj S1 t1):=Heap.get?_push_of_some _ (Heap.get?_push_of_some _ (Heap.get?_push_of_some _ (Heap.get?_push_of_some _ (Heap.get?_push_size _ (srcObj_freed _ _)))))
 show _ /\ _
 rw [z2,z3,z4] at g5
 rw [z1,z2] at g3
 rw [z3] at g4
 rw [z1] at g2
 rw [z4]
 exact ⟨⟨_,g5,rfl⟩,h _ ⟨_,_,g5,g3,g4,srcObj_it g1,srcObj_it g2⟩ fun c o x=>
  Heap.get?_push_of_some _ (Heap.get?_push_of_some _ (Heap.get?_push_of_some _ (Heap.get?_push_of_some _ (Heap.get?_push_of_some _ x))))⟩
theorem zap_new (n:Nat):ZAp (n + 4) (n + 2) (n + 3) n (n + 1):=by
 constructor <;> exact fun h=>absurd (show (_:Nat) = _ from h) (by omega)
end
noncomputable def iZip (K:Frag) (ta:TA):TI:=fun σ H R=>ta σ H fun vs H1=>∃ S1 S2 v1 v2,vs = [v1,v2] /\ SrcOf K H1 S1 v1 /\ SrcOf K H1 S2 v2 /\ R (Itz K S1 S2) H1
section
variable {X:Cx}
theorem srcOf_val {pins:List (Addr × Obj)} {σ:St} {H:Hp} {s:Shared} {S:Src} {v:V} {u:Value} (I:Inv X pins σ H s) (h:SrcOf X.K H S v) (r:RelV v u):∃ t,u = srcVal S t /\ srcOk s.heap S:=by
 cases S with
 | str x=>
  have e:v = .str x:=h
  subst e
  obtain ⟨t,rfl⟩:=r
  exact ⟨t,rfl,trivial⟩
 | lst a=>
  obtain ⟨e,xs,hq⟩:=h
  subst e
  cases r
  obtain ⟨its,rv,pl,hz⟩:=I.list hq
  exact ⟨0,rfl,_,pl.isList⟩
theorem boot_zip:bootBuiltins "zip" = some (.type "zip"):=by decide +kernel
theorem pi_zip {a b:Expr} {ta:TA} {elts:List Expr} {kk:Nat} {tpos p pos:Pos} (hg:Gl X "zip") (hm:X.mg "zip" = none) (ha:PA X [a,b] ta) (hs:starEach [a,b] X.env = [(false,eval a X.env),(false,eval b X.env)]:=by rfl) (hs2:starEach [b] X.env = [(false,eval b X.env)]:=by rfl):
  PI X (.Tuple elts kk tpos) (.Call (.Name "zip" p) [a,b] [] pos) (iZip X.K ta):=by
 intro pins s σ H R I h
 refine Call_ (ld_blt I hg hm boot_zip (PyProof.Rows.callWith_type1 (thn (ha pos pins s σ H _ I h) fun us s1 ⟨vs,H1,I1,r1,q1⟩=>?_) (by rw [hs,hs2]) (by rw [hs2]; rfl)))
 obtain ⟨S1,S2,v1,v2,e,o1,o2,q⟩:=q1
 subst e
 cases r1 with
 | cons r rr=>
  cases rr with
  | cons r' rr=>
   cases rr
   obtain ⟨t1,rfl,k1⟩:=srcOf_val I1 o1 r
   obtain ⟨t2,rfl,k2⟩:=srcOf_val I1 o2 r'
   refine call_zipS k1 k2 fun h' st kp=>?_
   have I2:Inv X pins σ H1 { s1 with heap:=h' }:=I1.kept (t':=s1.toks) kp
   have st':=st
   obtain ⟨_,_,hz,_⟩:=st'
   refine wpAny_pyIter_zip hz ?_
   refine ⟨_,_,_,Itz X.K S1 S2,H1,rfl,I2,turn_zip (zap_new _) S1 S2,st,fun c hc=>?_,q⟩
   have hc':s1.heap.objs.size <= c:=by
    simp only [List.mem_cons,List.not_mem_nil,or_false] at hc
    rcases hc with rfl | rfl | rfl | rfl | rfl <;> omega
   exact I1.fpOk hc' (I1.hok.fresh hc')
end
noncomputable def clOf (cells:List (Str × Addr)):List (Str × NameKind) -> List (Str × Addr) -> List (Str × Addr)
 | [],cs=>cs
 | (n,k) :: r,cs=>clOf cells r (if (k == NameKind.free) = true then (n,(cells.lookup n).getD 0) :: cs else cs)
theorem closureFor_some {scope:Scope} {env:Env} (h:∀ y ∈ scope.names,y.2 = .free -> ∃ c,env.cells.lookup y.1 = some c):closureFor scope env = pure (clOf env.cells scope.names []):=by
 unfold closureFor
 have key:∀ (names:List (Str × NameKind)) (cs:List (Str × Addr)),(∀ y ∈ names,y.2 = .free -> ∃ c,env.cells.lookup y.1 = some c) ->
   (forIn names cs (fun x r=>match x with
    | (name,kind)=>if (kind == NameKind.free) = true then (do let __do_lift <- cellOf env name; pure (ForInStep.yield ((name,__do_lift) :: r))) else pure (ForInStep.yield r)):Sem (List (Str × Addr))) = pure (clOf env.cells names cs):=by
  intro names
  induction names with
  | nil=>intro cs _; rfl
  | cons y r ih=>
   intro cs hy
   obtain ⟨n,k⟩:=y
   rw [List.forIn_cons]
   have hr:∀ y ∈ r,y.2 = .free -> ∃ c,env.cells.lookup y.1 = some c:=fun y hm=>hy y (List.mem_cons_of_mem _ hm)
   cases hk:(k == NameKind.free) with
   | true=>
    have hk':k = .free:=by simpa using hk
    obtain ⟨c,hc⟩:=hy (n,k) List.mem_cons_self hk'
    have ec:cellOf env n = pure c:=by unfold cellOf; rw [hc]
    have e1:(clOf env.cells ((n,k) :: r) cs) = clOf env.cells r ((n,c) :: cs):=by
     show clOf env.cells r (if (k == NameKind.free) = true then (n,(env.cells.lookup n).getD 0) :: cs else cs) = _
     rw [hk,if_pos rfl,show env.cells.lookup n = some c from hc]
     rfl
    rw [e1,<- ih _ hr]
    simp only [ec,hk,if_true,pure_bind]
   | false=>
    have e1:(clOf env.cells ((n,k) :: r) cs) = clOf env.cells r cs:=by
     show clOf env.cells r (if (k == NameKind.free) = true then (n,(env.cells.lookup n).getD 0) :: cs else cs) = _
     rw [hk,if_neg Bool.false_ne_true]
    rw [e1,<- ih _ hr]
    simp only [hk,Bool.false_eq_true,if_false,pure_bind]
 have q:=key scope.names [] h
 first
  | exact q
  | (simp only [bind_pure]; exact q)
  | (rw [q]; rfl)
theorem clOf_sound {cells:List (Str × Addr)} {x:Str} {c:Addr}:∀ (names:List (Str × NameKind)) (cs:List (Str × Addr)),(∀ y ∈ names,y.2 = .free -> ∃ c,cells.lookup y.1 = some c) -> (∀ x c,cs.lookup x = some c -> cells.lookup x = some c) ->
  (clOf cells names cs).lookup x = some c -> cells.lookup x = some c
 | [],cs,_,h,e=>h x c e
 | (n,k) :: r,cs,hn,h,e=>by
  unfold clOf at e
  refine clOf_sound r _ (fun y hm=>hn y (List.mem_cons_of_mem _ hm)) (fun x c q=>?_) e
  split at q
  ·rename_i hk
   have hk':k = .free:=by simpa using hk
   obtain ⟨c',hc⟩:=hn (n,k) List.mem_cons_self hk'
   rw [List.lookup_cons] at q
   cases hx:(x == n) with
   | true=>
    rw [hx] at q
    have hx':x = n:=by simpa using hx
    subst hx'
    rw [hc] at q
    simp at q
    rw [hc,q]
   | false=>
    rw [hx] at q
    exact h x c q
  ·exact h x c q
theorem clOf_keeps {cells:List (Str × Addr)} {x:Str}:∀ (names:List (Str × NameKind)) (cs:List (Str × Addr)),(cs.lookup x).isSome = true -> ((clOf cells names cs).lookup x).isSome = true
 | [],cs,h=>h
 | (n,k) :: r,cs,h=>by
  unfold clOf
  refine clOf_keeps r _ ?_
  split
  ·rw [List.lookup_cons]
   split
   ·rfl
   ·exact h
  ·exact h
theorem clOf_has {cells:List (Str × Addr)} {x:Str}:∀ (names:List (Str × NameKind)) (cs:List (Str × Addr)),(x,NameKind.free) ∈ names -> ((clOf cells names cs).lookup x).isSome = true
 | [],_,h=>by cases h
 | (n,k) :: r,cs,h=>by
  unfold clOf
  rcases List.mem_cons.mp h with e | e
  ·cases e
   refine clOf_keeps r _ ?_
   simp
  ·exact clOf_has r _ e
theorem lookup_relabel (env:Env) (x:Str):∀ names:List (Str × NameKind),
  (names.map fun (n,k)=>if (k == NameKind.free && env.scope.kind == .function && env.kindOf n == some .cell) then (n,NameKind.cell) else (n,k)).lookup x =
   (names.lookup x).map fun k=>if (k == NameKind.free && env.scope.kind == .function && env.kindOf x == some .cell) = true then .cell else k
 | []=>rfl
 | (n,k) :: r=>by
  have ih:=lookup_relabel env x r
  simp only [List.map_cons]
  cases hx:(x == n) with
  | true=>
   have hx':x = n:=by simpa using hx
   subst hx'
   by_cases hc:(k == NameKind.free && env.scope.kind == .function && env.kindOf x == some .cell) = true
   ·rw [if_pos hc,List.lookup_cons,List.lookup_cons,hx]
    show some NameKind.cell = some (if (k == NameKind.free && env.scope.kind == .function && env.kindOf x == some .cell) = true then NameKind.cell else k)
    rw [if_pos hc]
   ·rw [if_neg hc,List.lookup_cons,List.lookup_cons,hx]
    show some k = some (if (k == NameKind.free && env.scope.kind == .function && env.kindOf x == some .cell) = true then NameKind.cell else k)
    rw [if_neg hc]
  | false=>
   by_cases hc:(k == NameKind.free && env.scope.kind == .function && env.kindOf n == some .cell) = true
   ·rw [if_pos hc]
    simp only [List.lookup_cons,hx]
    exact ih
   ·rw [if_neg hc]
    simp only [List.lookup_cons,hx]
    exact ih
structure CScope (scope:Scope):Prop where
 kind:scope.kind = .function
 nocell:∀ y ∈ scope.names,y.2 ≠ .cell
 loc:∀ y ∈ scope.names,y.2 = .local -> scope.names.lookup y.1 = some .local
noncomputable def cxC (X:Cx) (scope:Scope) (cl:List (Str × Addr)) (N':List Str) (C:Addr) (s:Shared) (H:Hp) (ex:List Addr):Cx:=
 { X with N:=N',s₀:=s,H₀:=H,env:=compEnvC scope cl C X.env,outer:=X.stack,ex:=ex,fn:=fun _=>false,pn:=[],xe:=fun _ _=>False }
noncomputable def compσ (nt:Nat) (fi:List Nat) (σ:St):St:=List.replicate nt none ++ fi.map fun j=>(σ[j]?).getD none
structure CNames (X:Cx) (scope:Scope) (nt:Nat) (fi:List Nat) (N':List Str):Prop where
 len:N'.length = nt + fi.length
 cap:∀ k j:Nat,fi[k]? = some j -> ∃ x,N'[nt + k]? = some x /\ X.N[j]? = some x /\ scope.names.lookup x = some .free
 fre:∀ y ∈ scope.names,y.2 = .free -> X.env.scope.names.lookup y.1 = some .cell \/ X.env.scope.names.lookup y.1 = some .free
def GK (nt:Nat) (g:TG):Prop:=∀ x σ H Q,g x σ H Q -> g x σ H fun σ' H'=>Q σ' H' /\ σ'.length = σ.length /\ σ'.drop nt = σ.drop nt
def PIf (X:Cx) (ifs:List Expr) (t:TT):Prop:=
 ∀ (pins:List (Addr × Obj)) (s:Shared) (σ:St) (H:Hp) (Q:Bool -> Hp -> Prop),Inv X pins σ H s -> t σ H Q ->
  wpAny (model X.prog X.w) X.A (forIn ifs true fun c r=>if r = true then do let ok <- isTrue c X.env (eval c X.env); pure (ForInStep.yield ok) else pure (ForInStep.yield r)) (TP X pins σ Q) X.xe s
noncomputable def tYes:TT:=fun _ H Q=>Q true H
theorem pif_nil {X:Cx}:PIf X [] tYes:=fun pins s σ H Q I h=>wpAny_tests_nil ⟨H,I,h⟩
theorem pif_one {X:Cx} {c:Expr} {t:TT} (h:PT X c t):PIf X [c] t:=fun pins s σ H Q I q=>wpAny_tests_one (h pins s σ H Q I q)
theorem gk_name {nt i:Nat} (hi:i < nt):GK nt (gName i):=fun x σ H Q h=>by
 refine ⟨h,?_,?_⟩
 ·rw [List.length_set]
 ·rw [List.drop_set_of_lt hi]
theorem gk_tup2 {K:Frag} {nt i j n:Nat} (hi:i < nt) (hj:j < nt):GK nt (gTup K n (gCons (gName i) (gCons (gName j) gNil))):=fun x σ H Q h=>by
 obtain ⟨a,xs,e,hq,hl,v,r,e1,v',r',e2,e3,q⟩:=h
 refine ⟨a,xs,e,hq,hl,v,r,e1,v',r',e2,e3,q,?_,?_⟩
 ·rw [List.length_set,List.length_set]
 ·rw [List.drop_set_of_lt hj,List.drop_set_of_lt hi]
section
variable {prog:Program} {w:World} {A:Around} {R:Result -> Shared -> Prop} {s:Shared}
theorem thnF {α:Type} {t:Sem α} {Q Q':α -> Shared -> Prop} {M:Model} {E:Value -> Shared -> Prop} (h:wpAny M A t Q (fun _ _=>False) s) (hQ:∀ a s,Q a s -> Q' a s):wpAny M A t Q' E s:=wpAny_mono h hQ fun _ _ f=>f.elim
theorem compLoop_any {elt target iter:Expr} {ifs:List Expr} {scope:Scope} {pos:Pos} {it acc:Value} {env:Env} (I:Nat -> Shared -> Prop)
  (turn:∀ n s,I n s -> wpAny (model prog w) A (pyNext it) (fun r s₁=>match r with
   | none=>R (.ok .next) s₁
   | some v=>wpAny (model prog w) A (letOwnedTupleGo target it v) (fun _ s₂=>wpAny (model prog w) A (assign target env v) (fun _ s₃=>
     wpAny (model prog w) A (forIn ifs true fun c r=>if r = true then do let ok <- isTrue c env (eval c env); pure (ForInStep.yield ok) else pure (ForInStep.yield r)) (fun ok s₄=>
      if ok = true then wpAny (model prog w) A (eval elt env) (fun x s₅=>wpAny (model prog w) A (call (.builtin "list.append") [acc,x]) (fun _ s₆=>∃ m,m < n /\ I m s₆) (fun _ _=>False) s₅) (fun _ _=>False) s₄
      else ∃ m,m < n /\ I m s₄) (fun _ _=>False) s₃) (fun _ _=>False) s₂) (fun _ _=>False) s₁) (fun _ _=>False) s)
  (n:Nat) (h:I n s):codeAny (model prog w) A (.compLoop (.ListComp elt [⟨target,iter,ifs,0⟩] scope pos) 0 it acc env) R s:=by
 refine codeAny_loop rfl I (fun n s hI=>?_) n h
 show wpAny _ A ((compTurn (.ListComp elt [⟨target,iter,ifs,0⟩] scope pos) 0 it acc env).onRaise (fun x=>do noteFrame x env; theTreesLotGoes x)) _ _ s
 refine wpAny_noted ?_
 rw [compTurn_list]
 refine wpAny_bind (wpAny_standAt (wpAny_bind (thnF (turn n s hI) fun r s₁ h₁=>?_)))
 cases r with
 | none=>exact wpAny_pure h₁
 | some v=>
  refine wpAny_bind (thnF h₁ fun _ s₂ h₂=>wpAny_bind (thnF h₂ fun _ s₃ h₃=>wpAny_bind (thnF h₃ fun ok s₄ h₄=>?_)))
  cases ok with
  | false=>exact wpAny_pure ⟨rfl,h₄⟩
  | true=>exact wpAny_bind (wpAny_bind (thnF h₄ fun x s₅ h₅=>wpAny_bind (thnF h₅ fun _ s₆ h₆=>wpAny_pure (wpAny_pure ⟨rfl,h₆⟩))))
end
noncomputable def tComp (nt:Nat) (fi:List Nat) (wi:TI) (g:TG) (tc:TT) (te:TE):TE:=fun σ H Q=>wi σ H fun J H1=>∀ D,H1 D = none ->
 ∃ W:Nat -> Nat -> List V -> Hp -> Prop,(∃ m,W 0 m [] (upd H1 D (.lst []))) /\ ∀ i m acc H2,W i m acc H2 ->
  (J.stop i H2 /\ Q (.ref D) H2) \/ (J.go i H2 /\ ∀ x H3,J.yld i H2 x H3 -> g x (compσ nt fi σ) H3 fun σ4 H4=>tc σ4 H4 fun b H5=>if b = true then
   te σ4 H5 fun v H6=>H6 D = some (.lst acc) /\ acc.length < sizeLine /\ ∃ m',m' < m /\ W (i + 1) m' (acc ++ [v]) (upd H6 D (.lst (acc ++ [v]))) else ∃ m',m' < m /\ W (i + 1) m' acc H5)
theorem compσ_weak {nt:Nat} {fi:List Nat} {σ σ':St} (hl:σ'.length = (compσ nt fi σ).length) (hd:σ'.drop nt = (compσ nt fi σ).drop nt):∀ (i:Nat) v,(compσ nt fi σ)[i]? = some (some v) -> σ'[i]? = some (some v):=fun i v e=>by
 by_cases hi:i < nt
 ·unfold compσ at e
  rw [List.getElem?_append_left (by simpa using hi),List.getElem?_replicate] at e
  split at e <;> cases e
 ·have ei:i = nt + (i - nt):=by omega
  have q:=congrArg (fun l=>l[i - nt]?) hd
  simp only [List.getElem?_drop] at q
  rw [<- ei] at q
  rw [q]
  exact e
section
variable {X:Cx}
theorem inv_comp {pins:List (Addr × Obj)} {σ:St} {H:Hp} {s:Shared} {scope:Scope} {nt:Nat} {fi:List Nat} {N':List Str} {fp:List Addr} {h₁:Heap} {m:Str -> Option Value} {tk:Nat}
  (I:Inv X pins σ H s) (S:CScope scope) (cn:CNames X scope nt fi N') (hf:∀ b ∈ fp,FpOk X pins H b) (ho:∀ b ∈ fp,∃ o,s.heap.get? b = some o)
  (hns:h₁.Ns s.heap.objs.size m) (kp:∀ b o,s.heap.get? b = some o -> h₁.get? b = some o) (htk:0 < tk):
  Inv (cxC X scope (clOf X.env.cells scope.names []) N' s.heap.objs.size s H fp) (X.pn ++ pins) (compσ nt fi σ) H { s with heap:=h₁,toks:=tk }:=by
 have hfr:∀ y ∈ scope.names,y.2 = .free -> ∃ c,X.env.cells.lookup y.1 = some c:=fun y hy e=>I.ok.has y.1 (cn.fre y hy e)
 have snd:∀ x c,(clOf X.env.cells scope.names []).lookup x = some c -> X.env.cells.lookup x = some c:=fun x c e=>clOf_sound scope.names [] hfr (fun _ _ q=>by simp at q) e
 have offstk:∀ b,b ≠ X.env.locals -> b ∉ X.fs -> b ∉ frs X.stack:=fun b h1 h2 h3=>by
  rcases List.mem_cons.mp (I.stkSub b h3) with e | e
  ·exact h1 e
  ·exact h2 e
 have lt:∀ {b o},s.heap.get? b = some o -> b ≠ s.heap.objs.size:=fun e=>Nat.ne_of_lt (Heap.lt_size e)
 have kinds:∀ x k,(relabel scope X.env).names.lookup x = some k -> (k = .cell \/ k = .free) -> (x,NameKind.free) ∈ scope.names:=fun x k e hk=>by
  have e':(scope.names.map fun (n,k)=>if (k == NameKind.free && X.env.scope.kind == .function && X.env.kindOf n == some .cell) then (n,NameKind.cell) else (n,k)).lookup x = some k:=e
  rw [lookup_relabel] at e'
  cases q:scope.names.lookup x with
  | none=>rw [q] at e'; cases e'
  | some k'=>
   have mem:(x,k') ∈ scope.names:=PySem.mem_of_lookup q
   rw [q] at e'
   simp only [Option.map_some,Option.some.injEq] at e'
   split at e'
   ·rename_i hc
    simp only [Bool.and_eq_true,beq_iff_eq] at hc
    rw [hc.1.1] at mem
    exact mem
   ·subst e'
    rcases hk with z | z
    ·subst z
     exact absurd rfl (S.nocell _ mem)
    ·subst z
     exact mem
 refine ⟨⟨I.ok.mod,S.kind,I.ok.glob,I.ok.blt,Nat.le_refl _,fun x y c e1 e2=>I.ok.inj x y c (snd x c e1) (snd y c e2),fun x hx=>?_,fun x c e=>(nomatch e),I.ok.hd,I.ok.frames,.inl rfl,fun b hb=>⟨?_,fun x c e=>(hf b hb).2.2.2.2.1 x c (snd x c e)⟩,I.bs,?_,fun b o e hb=>?_,fun b hb=>offstk b (hf b hb).2.1 (hf b hb).2.2.1,I.stack,I.stkFree⟩,
  rfl,I.bare,Un.kept kp,⟨m,hns,fun i x v e1 e2 e3=>?_⟩,fun x c e=>?_,I.hok.fresh (Nat.le_refl _),fun x c e=>I.freeC x c (snd x c e),fun p hp=>?_,I.hok.kept kp,?_,htk⟩
 ·have hx':(relabel scope X.env).names.lookup x = some .cell \/ (relabel scope X.env).names.lookup x = some .free:=hx
  have mem:(x,NameKind.free) ∈ scope.names:=by
   rcases hx' with q | q
   ·exact kinds x _ q (.inl rfl)
   ·exact kinds x _ q (.inr rfl)
  exact Option.isSome_iff_exists.mp (clOf_has scope.names [] mem)
 ·obtain ⟨o,e⟩:=ho b hb
  exact lt e
 ·exact Nat.le_trans I.ok.bsz I.sz
 ·rcases (hf b hb).2.2.2.1 with q | q
  ·exact I.ok.noex b o e q
  ·exact absurd (Nat.lt_of_lt_of_le (Heap.lt_size e) (Nat.le_trans I.ok.bsz q)) (Nat.lt_irrefl _)
 ·have hi:¬ i < nt:=fun hi=>by
   unfold compσ at e2
   rw [List.getElem?_append_left (by simpa using hi),List.getElem?_replicate] at e2
   split at e2 <;> cases e2
  have ei:i = nt + (i - nt):=by omega
  have e2':(fi.map fun j=>(σ[j]?).getD none)[i - nt]? = some (some v):=by
   unfold compσ at e2
   rw [List.getElem?_append_right (by simpa using Nat.le_of_not_lt hi)] at e2
   simpa using e2
  rw [List.getElem?_map] at e2'
  cases ej:fi[i - nt]? with
  | none=>rw [ej] at e2'; cases e2'
  | some j=>
   rw [ej] at e2'
   obtain ⟨x',n1,n2,n3⟩:=cn.cap (i - nt) j ej
   rw [<- ei] at n1
   have e1':N'[i]? = some x:=e1
   rw [n1] at e1'
   cases e1'
   have ev:σ[j]? = some (some v):=by
    have e2':some ((σ[j]?).getD none) = some (some v):=e2'
    cases q:σ[j]? with
    | none=>rw [q] at e2'; simp at e2'
    | some w=>rw [q] at e2'; simp at e2'; rw [e2']
   have mem:(x,NameKind.free) ∈ scope.names:=PySem.mem_of_lookup n3
   have vis:=cn.fre _ mem rfl
   obtain ⟨m0,hn0,hl0⟩:=I.loc
   obtain ⟨u,ru,lk⟩:=hl0 j x v n2 ev (.inr vis)
   refine ⟨u,ru,?_⟩
   rcases lk with ⟨q,_⟩ | ⟨q,c,ec,o,hoc,hod⟩
   ·have q':X.env.scope.names.lookup x = some .local:=q
    rcases vis with z | z
    ·have z':X.env.scope.names.lookup x = some .cell:=z
     rw [q'] at z'; cases z'
    ·have z':X.env.scope.names.lookup x = some .free:=z
     rw [q'] at z'; cases z'
   ·obtain ⟨c',ec'⟩:=Option.isSome_iff_exists.mp (clOf_has (cells:=X.env.cells) scope.names [] mem)
    have ecc:=snd x c' ec'
    rw [ec] at ecc
    cases ecc
    refine .inr ⟨?_,c,ec',o,kp c o hoc,hod⟩
    show (relabel scope X.env).names.lookup x = some .cell \/ (relabel scope X.env).names.lookup x = some .free
    have e4:(relabel scope X.env).names.lookup x = (scope.names.lookup x).map fun k=>if (k == NameKind.free && X.env.scope.kind == .function && X.env.kindOf x == some .cell) = true then .cell else k:=lookup_relabel X.env x scope.names
    rw [e4,n3]
    simp only [Option.map_some]
    split
    ·exact .inl rfl
    ·exact .inr rfl
 ·obtain ⟨v,o,hoc,hod⟩:=I.cell x c (snd x c e)
  exact ⟨v,o,kp c o hoc,hod⟩
 ·have hp':p ∈ X.pn ++ pins:=by
   have hp'':p ∈ ([]:List (Addr × Obj)) ++ (X.pn ++ pins):=hp
   simpa using hp''
  obtain ⟨e,n,ne,nf,d⟩:=I.pin p hp'
  exact ⟨kp _ _ e,n,lt e,offstk _ ne nf,d⟩
 ·show (compσ nt fi σ).length = N'.length
  unfold compσ
  rw [cn.len,List.length_append,List.length_replicate,List.length_map]
theorem inv_back {pins:List (Addr × Obj)} {σ σ':St} {H H':Hp} {s s':Shared} {scope:Scope} {cl:List (Str × Addr)} {N':List Str} {fp:List Addr} {C:Addr} {P:List (Addr × Obj)} {h'':Heap}
  (I:Inv X pins σ H s) (hf:∀ b ∈ fp,FpOk X pins H b) (hC:s.heap.objs.size <= C) (J:Inv (cxC X scope cl N' C s H fp) P σ' H' s') (sb:Heap.SameBut C s'.heap h''):Inv X pins σ H' { s' with heap:=h'' }:=by
 have ne:∀ {b o},s.heap.get? b = some o -> b ≠ C:=fun e=>Nat.ne_of_lt (Nat.lt_of_lt_of_le (Heap.lt_size e) hC)
 have u:Un (frs X.stack) fp H H' s.heap s'.heap:=J.base
 refine I.call' (s':={ s' with heap:=h'' }) (ch:=fp) J.os ⟨fun b o e n hb hx=>?_,fun b o e n hb hx=>?_,u.free,fun b o e hx=>?_,u.tups,u.frzs,u.tbls⟩ (fun b o e=>?_) J.bare (fun b hb=>?_) J.tk
 ·exact (sb.2 b (ne e)).trans (u.keep b o e n hb hx)
 ·obtain ⟨sl,q⟩:=u.slot b o e n hb hx
  exact ⟨sl,(sb.2 b (ne e)).trans q⟩
 ·obtain ⟨o',q⟩:=u.there b o e hx
  exact ⟨o',(sb.2 b (ne e)).trans q⟩
 ·have fr:H' C = none:=J.free
  refine (J.hok b o e).stay (fun c v hc q=>(sb.2 c ?_).trans q) (fun _ q=>q) fun _ _ q=>q
  rintro rfl
  rcases hc with z | z
  ·subst z
   rw [fr] at e
   cases e
  ·rw [fr] at z
   cases z
 ·obtain ⟨f0,f1,f2,f3,f4,f5⟩:=hf b hb
  exact ⟨f3,f1,f4,f5⟩
theorem pe_comp {elt tg iter:Expr} {ifs:List Expr} {scope:Scope} {pos:Pos} {wi:TI} {g:TG} {tc:TT} {te:TE} {nt:Nat} {fi:List Nat} {N':List Str} (hcalm:X.calm = true)
  (S:CScope scope) (cn:CNames X scope nt fi N') (gk:GK nt g) (hi:PI X tg iter wi)
  (hg:∀ cl C s H ex,PG (cxC X scope cl N' C s H ex) tg g) (hc:∀ cl C s H ex,PIf (cxC X scope cl N' C s H ex) ifs tc) (he:∀ cl C s H ex,PE (cxC X scope cl N' C s H ex) elt te)
  (hs:∀ x,foldedSetIterable iter X.env x = pure x:=by intro _; rfl):PE X (.ListComp elt [⟨tg,iter,ifs,0⟩] scope pos) (tComp nt fi wi g tc te):=by
 intro pins s σ H Q I h
 have hfr:∀ y ∈ scope.names,y.2 = .free -> ∃ c,X.env.cells.lookup y.1 = some c:=fun y hy e=>I.ok.has y.1 (cn.fre y hy e)
 rw [eval_ListComp]
 refine wpAny_comprehension_free (use:=none) rfl hs (closureFor_some hfr) S.kind S.loc (thn (hi pins s σ H _ I h) fun v s1 h1=>thn h1 fun itv s2 h2=>?_)
 obtain ⟨it,fp,tn,J,H2,e,I2,T,st2,f2,hW⟩:=h2
 subst e
 have fD:H2 s2.heap.objs.size = none:=I2.hok.fresh (Nat.le_refl _)
 obtain ⟨W,⟨m0,w0⟩,turn⟩:=hW s2.heap.objs.size fD
 refine wpAny_newObj_type (wpAny_newFunctionEnv S.nocell (by intro y hy; simp at hy) (fun h₁ hns₁ hsb₁=>?_) S.kind)
 have I3:Inv X pins σ (upd H2 s2.heap.objs.size (.lst [])) { s2 with heap:=s2.heap.push { cls:=.type "list",dict:=none,data:=.seq ([]:List Value).toArray } }:=I2.lnew (its:=[]) (t':=s2.toks) .nil (Nat.zero_le _)
 generalize hs3:({ s2 with heap:=s2.heap.push { cls:=.type "list",dict:=none,data:=.seq ([]:List Value).toArray } }:Shared) = s3 at I3 hns₁ hsb₁ ⊢
 have hsz:s3.heap.objs.size = s2.heap.objs.size + 1:=by rw [<- hs3]; exact Heap.size_push ..
 have ob2:∀ b ∈ fp,∃ o,s3.heap.get? b = some o:=fun b hb=>by
  obtain ⟨o,e,_⟩:=T.obj _ _ st2 b hb
  rw [<- hs3]
  exact ⟨o,Heap.get?_push_of_some _ e⟩
 have f3:∀ b ∈ fp,FpOk X pins (upd H2 s2.heap.objs.size (.lst [])) b:=fun b hb=>by
  obtain ⟨o,e,_⟩:=T.obj _ _ st2 b hb
  refine ⟨?_,(f2 b hb).2⟩
  rw [upd_ne (Nat.ne_of_lt (Heap.lt_size e))]
  exact (f2 b hb).1
 have kp:∀ b o,s3.heap.get? b = some o -> h₁.get? b = some o:=fun b o e=>hsb₁.extBut b o (Nat.ne_of_lt (Heap.lt_size e)) (Heap.get?_push_of_some _ e)
 have st3:tn 0 h₁:=T.keep _ _ _ st2 fun b _ o e=>kp b o (by rw [<- hs3]; exact Heap.get?_push_of_some _ e)
 have J4:Inv (cxC X scope (clOf X.env.cells scope.names []) N' s3.heap.objs.size s3 (upd H2 s2.heap.objs.size (.lst [])) fp) (X.pn ++ pins) (compσ nt fi σ) (upd H2 s2.heap.objs.size (.lst [])) { s3 with heap:=h₁,toks:=s3.toks + ([]:List (Str × Value)).length }:=
  inv_comp I3 S cn f3 ob2 hns₁ kp I3.tk
 generalize hcl:clOf X.env.cells scope.names [] = cl at J4 ⊢
 generalize hH3:upd H2 s2.heap.objs.size (.lst []) = H3 at J4 I3 f3 w0
 have stat:∀ {H':Hp},(∀ b ∈ fp,H' b = none) -> ∀ b ∈ fp,FpOk (cxC X scope cl N' s3.heap.objs.size s3 H3 fp) (X.pn ++ pins) H' b:=fun {H'} hn b hb=>by
  obtain ⟨g0,g1,g2,g3,g4,g5⟩:=f3 b hb
  have ok:=J4.ok
  refine ⟨hn b hb,(ok.exf b hb).1,ok.exfs b hb,.inl hb,(ok.exf b hb).2,fun p hp=>g5 p ?_⟩
  have hp':p ∈ ([]:List (Addr × Obj)) ++ (X.pn ++ pins):=hp
  simpa using hp'
 have loop:∀ s₃:Shared,s₃ = { s3 with heap:=h₁,toks:=s3.toks + ([]:List (Str × Value)).length } ->
   codeAny (model X.prog X.w) X.A (.compLoop (.ListComp elt [⟨tg,iter,ifs,0⟩] scope pos) 0 (.ref it) (.ref s2.heap.objs.size) (compEnvC scope cl s3.heap.objs.size X.env))
    (compPost (model X.prog X.w) X.A X.xe none (EP X pins σ Q) (.ref s2.heap.objs.size) s3.heap.objs.size) s₃:=by
  rintro s₃ rfl
  refine compLoop_any (fun n s'=>∃ i acc H',Inv (cxC X scope cl N' s3.heap.objs.size s3 H3 fp) (X.pn ++ pins) (compσ nt fi σ) H' s' /\ tn i s'.heap /\ (∀ b ∈ fp,H' b = none) /\ W i n acc H') ?_ m0
   ⟨0,[],H3,J4,st3,fun b hb=>(f3 b hb).1,w0⟩
  rintro n s5 ⟨i,acc,H5,I5,st5,fr5,w5⟩
  rcases turn i n acc H5 w5 with ⟨stop,qn⟩ | ⟨go,step⟩
  ·refine thn (T.done (cxC X scope cl N' s3.heap.objs.size s3 H3 fp) rfl rfl rfl hcalm i (X.pn ++ pins) s5 (compσ nt fi σ) H5 (fun _ _=>False) I5 (stat fr5) st5 stop) fun r s6 ⟨hr,I6⟩=>?_
   subst hr
   obtain ⟨m6,hn6,_⟩:=I6.loc
   exact ⟨m6,hn6,fun h' sb=>⟨.ref s2.heap.objs.size,H5,inv_back I3 f3 (Nat.le_refl _) I6 sb,rfl,qn⟩⟩
  ·refine thn (T.item (cxC X scope cl N' s3.heap.objs.size s3 H3 fp) rfl rfl rfl hcalm i (X.pn ++ pins) s5 (compσ nt fi σ) H5 (fun _ _=>False) I5 (stat fr5) st5 go) fun r s6 ⟨u,hr,h6⟩=>?_
   subst hr
   refine thn h6 fun _ s7 ⟨x,H7,I7,r7,y7,st7,fr7⟩=>?_
   have I7':=I7.pinned (stat fr7) (T.obj _ _ st7)
   refine thn (hg _ _ _ _ _ _ s7 (compσ nt fi σ) H7 x u _ I7' r7 (gk _ _ _ _ (step x H7 y7))) fun _ s8 ⟨σ8,H8,I8,q8,l8,d8⟩=>?_
   refine thn (hc _ _ _ _ _ _ s8 σ8 H8 _ I8 q8) fun b s9 ⟨H9,I9,q9⟩=>?_
   have again:∀ {s':Shared} {H':Hp} {m':Nat} {acc':List V},Inv (cxC X scope cl N' s3.heap.objs.size s3 H3 fp) ((X.pn ++ pins) ++ pinsAt fp s7.heap) σ8 H' s' -> m' < n -> W (i + 1) m' acc' H' ->
     ∃ m,m < n /\ ∃ i acc H',Inv (cxC X scope cl N' s3.heap.objs.size s3 H3 fp) (X.pn ++ pins) (compσ nt fi σ) H' s' /\ tn i s'.heap /\ (∀ b ∈ fp,H' b = none) /\ W i m acc H':=fun {s' H' m' acc'} I' hm w'=>by
    refine ⟨m',hm,i + 1,acc',H',I'.unpinned.weak l8.symm (compσ_weak l8 d8),T.keep _ _ _ st7 fun b hb o e=>(I'.pin (b,o) (List.mem_append_right _ (List.mem_append_right _ (mem_pinsAt hb e)))).1,fun b hb=>?_,w'⟩
    obtain ⟨o,e,d⟩:=T.obj _ _ st7 b hb
    exact (I'.pin (b,o) (List.mem_append_right _ (List.mem_append_right _ (mem_pinsAt hb e)))).2.1
   cases b with
   | false=>
    rw [if_neg Bool.false_ne_true] at q9 ⊢
    obtain ⟨m',hm,w'⟩:=q9
    exact again I9 hm w'
   | true=>
    rw [if_pos rfl] at q9 ⊢
    refine thn (he _ _ _ _ _ _ s9 σ8 H9 _ I9 q9) fun uv s10 ⟨v10,H10,I10,r10,hD,hlt,m',hm,w'⟩=>?_
    refine thn (mt_append (X:=cxC X scope cl N' s3.heap.objs.size s3 H3 fp) _ s10 σ8 H10 (.ref s2.heap.objs.size) [v10] (.ref s2.heap.objs.size) [uv] (fun _ H'=>H' = upd H10 s2.heap.objs.size (.lst (acc ++ [v10]))) I10 rfl (.cons r10 .nil) ⟨_,acc,v10,rfl,rfl,hD,hlt,rfl⟩) fun _ s11 ⟨_,H11,I11,_,e11⟩=>?_
    subst e11
    exact again I11 hm w'
 exact codeAny_compStart_list (loop _ rfl) (T.self _ 0 _ _ _ st3 (loop _ rfl))
end
noncomputable abbrev st (l:List Nat):Str:=⟨l.toArray⟩
theorem st_len (l:List Nat):(st l).length = l.length:=by simp [Str.length]
theorem st_cps (l:List Nat):(st l).cps.toList = l:=rfl
theorem st_app (l m:List Nat):st l ++ st m = st (l ++ m):=by
 show Str.append (st l) (st m) = _
 simp [Str.append]
theorem st_inj {l m:List Nat}:st l = st m ↔ l = m:=by simp
theorem strsAre_of {ys:List Str}:∀ {us:List Value},Vals (ys.map V.str) us -> StrsAre us ys:=by
 induction ys with
 | nil=>intro us r; cases r; exact .nil
 | cons y r ih=>
  intro us h
  cases h with
  | cons r1 r2=>
   obtain ⟨t,rfl⟩:=r1
   exact .cons y t (ih r2)
theorem txt_join_ones (l:List Nat):Txt.join ⟨#[]⟩ (l.map fun k=>(⟨#[k]⟩:Str)) = st l:=by
 have h:=join_plain_closes ⟨#[]⟩ (l.map fun k=>(⟨#[k]⟩:Str))
 rw [eq_of_beq h]
 exact join_ones l
section
variable {X:Cx}
noncomputable def rJoin (K:Frag):V -> List V -> Hp -> VK -> Prop:=fun x vs H Q=>∃ sep l ys,x = .str sep /\ vs = [.ref l] /\ SqL K H l (ys.map V.str) /\ (ys.map (·.length)).sum + ys.length * sep.length <= 16777216 /\ Q (.str (Txt.join sep ys)) H
theorem mt_join:MtR X "str.join" (rJoin X.K):=by
 intro pins s σ H x vs v us Q I rx rv h
 obtain ⟨sep,l,ys,rfl,rfl,hq,hz,q⟩:=h
 obtain ⟨t,rfl⟩:=rx
 obtain ⟨u,rfl,ru⟩:=rv.one
 cases ru
 obtain ⟨its,r,pl,_⟩:=I.list hq
 exact tokQ I.tk (join_list pl.isList (strsAre_of r) hz fun t' k (htk:0 < k)=>⟨.str _,H,I.tok _,⟨_,rfl⟩,q⟩)
theorem sum_ones (l:List Nat):((l.map fun k=>(⟨#[k]⟩:Str)).map (·.length)).sum = l.length:=by
 induction l with
 | nil=>rfl
 | cons a r ih=>
  rw [List.map_cons,List.map_cons,List.sum_cons,ih,List.length_cons]
  show 1 + r.length = r.length + 1
  omega
noncomputable def rJoin1 (K:Frag):V -> List V -> Hp -> VK -> Prop:=fun x vs H Q=>∃ l cs,x = .str (Str.ofString "") /\ vs = [.ref l] /\ SqL K H l (cs.map fun k=>V.str ⟨#[k]⟩) /\ cs.length <= 10000 /\ Q (.str (st cs)) H
theorem ofString_nil:Str.ofString "" = ⟨#[]⟩:=by decide +kernel
theorem mt_join1:MtR X "str.join" (rJoin1 X.K):=by
 intro pins s σ H x vs v us Q I rx rv h
 obtain ⟨l,cs,rfl,rfl,hq,hz,q⟩:=h
 refine mt_join pins s σ H _ _ v us Q I rx rv ⟨_,l,cs.map fun k=>⟨#[k]⟩,rfl,rfl,?_,?_,?_⟩
 ·rw [List.map_map]
  exact hq
 ·rw [sum_ones,List.length_map,ofString_nil]
  show cs.length + cs.length * 0 <= 16777216
  omega
 ·rw [ofString_nil,txt_join_ones]
  exact q
noncomputable def rSlS:V -> Option Int -> Option Int -> Hp -> VK -> Prop:=fun x lo hi H Q=>∃ z,x = .str z /\ z.length <= sizeLine /\ Q (.str (Txt.slice z lo hi)) H
theorem sl_str:SlR X rSlS:=by
 intro pins s σ H x v vl vu lo hi sl Q I rx hs pl pu h
 obtain ⟨z,rfl,hz,q⟩:=h
 obtain ⟨t,rfl⟩:=rx
 have fin:∀ t' k,0 < k -> EP X pins σ Q (.str (Txt.slice z lo hi) t') { s with toks:=k }:=fun t' k htk=>⟨.str _,H,I.tok _,⟨_,rfl⟩,q⟩
 refine ⟨"str",_,F.slot_str_getitem.lookup,typeIs_str _ _ _,tokQ I.tk ?_⟩
 obtain ⟨o,e1,e2,e3⟩:=id hs
 cases pl with
 | none=>
  cases pu with
  | none=>exact wpAny_getItem_str_slice (l:=none) (u:=none) (st:=none) ⟨o,e1,e2,e3⟩ rfl (post_val_or_str ⟨Nat.le_trans (Txt.slice_le z _ _) hz,fin⟩)
  | int j tj=>exact wpAny_getItem_str_slice (l:=none) (u:=some (j,tj)) (st:=none) ⟨o,e1,e2,e3⟩ rfl (post_val_or_str ⟨Nat.le_trans (Txt.slice_le z _ _) hz,fin⟩)
 | int i ti=>
  cases pu with
  | none=>exact wpAny_getItem_str_slice (l:=some (i,ti)) (u:=none) (st:=none) ⟨o,e1,e2,e3⟩ rfl (post_val_or_str ⟨Nat.le_trans (Txt.slice_le z _ _) hz,fin⟩)
  | int j tj=>exact wpAny_getItem_str_slice (l:=some (i,ti)) (u:=some (j,tj)) (st:=none) ⟨o,e1,e2,e3⟩ rfl (post_val_or_str ⟨Nat.le_trans (Txt.slice_le z _ _) hz,fin⟩)
theorem slice_to (l:List Nat) (k:Nat) (h:k <= l.length):Txt.slice (st l) none (some (k:Int)) = st (l.take k):=by
 have q:=slice_closes_to (x:=st l) (j:=(k:Int)) ⟨by omega,by simpa using h⟩
 rw [eq_of_beq q]
 simp
theorem slice_from (l:List Nat) (k:Nat) (h:k <= l.length):Txt.slice (st l) (some (k:Int)) none = st (l.drop k):=by
 have q:=slice_from_eq (x:=st l) (i:=(k:Int)) (b:=(l.length:Int)) (by omega) (by simpa [Str.length] using h) (by simp [Str.length])
 rw [q]
 simp only [st_cps,Int.toNat_natCast]
 rw [List.take_of_length_le (by rw [List.length_drop]; omega)]
theorem op_mul_str:OpR X (binaryOp .Mult) (fun x y H Q=>∃ z n,x = .str z /\ y = .int n /\ MulOk z n /\ Q (.str (Txt.mul z n)) H):=by
 intro pins s σ H x y v u Q I rx ry h
 obtain ⟨z,n,rfl,rfl,hok,q⟩:=h
 obtain ⟨t,rfl⟩:=rx
 obtain ⟨t',rfl⟩:=ry
 exact tokQ I.tk (SB.mul hok fun t' k (htk:0 < k)=>⟨.str _,H,I.tok _,⟨_,rfl⟩,q⟩)
theorem mul1 (k n:Nat):Txt.mul ⟨#[k]⟩ (n:Int) = st (List.replicate n k):=by
 have q:=mul_one_list k (n:Int)
 rw [Int.toNat_natCast] at q
 have e:∀ x:Str,x = ⟨x.cps.toList.toArray⟩:=fun x=>by simp
 rw [e (Txt.mul ⟨#[k]⟩ (n:Int)),q]
theorem call_isinst:CallR X (.builtin "isinstance") (fun xs H Q=>∃ x n t b,xs = [x,.ty n] /\ TyOf X.K H x t /\ PySem.W.kitOne X.K t (.type n) = some b /\ Q (.bl b) H):=by
 intro pins s σ H xs us Q I r h
 obtain ⟨x,n,t,b,rfl,ty,e,q⟩:=h
 obtain ⟨u,w',rfl,r1,r2⟩:=vals2 r
 cases r2
 exact tokQ I.tk (isinst_ok I r1 ty e fun tk (htk:0 < tk)=>⟨.bl b,H,I.tok _,rfl,q⟩)
theorem op_eq_nil (hu:X.A.units < cLine):OpR X (compareOp .Eq) (fun x y H Q=>∃ a b xs,x = .ref a /\ y = .ref b /\ SqL X.K H a xs /\ SqL X.K H b [] /\ Q (.bl (decide (xs = []))) H):=by
 intro pins s σ H x y v u Q I rx ry h
 obtain ⟨a,b,xs,rfl,rfl,ha,hb,q⟩:=h
 cases rx
 cases ry
 obtain ⟨its,r1,p1,_⟩:=I.list ha
 obtain ⟨its2,r2,p2,_⟩:=I.list hb
 cases r2
 cases r1 with
 | nil=>exact SeqAt.eq_listAt (e:=fun _=>true) p1.isList p2.isList rfl hu (fun j h1 _=>absurd h1 (by simp)) ⟨.bl true,H,I,rfl,q⟩
 | cons rx rr=>exact SeqAt.eq_list_lengthsAt p1.isList p2.isList (by simp) hu ⟨.bl false,H,I,rfl,by simpa using q⟩
end
def Fn (K:Frag) (mg:Str -> Option Value) (x:Str) (st:Stmt):Prop:=∃ f fd,Fun K x x st f fd /\ mg x = some (.ref f)
def Callee (P:Program) (w:World) (K:Frag) (mg:Str -> Option Value) (base:Heap) (k:Nat) (x:Str) (ps:List Str) (sp:Sp):Prop:=
 ∃ f fd,FnOk P w K mg base CX0 k f fd ps sp /\ Binds K fd ps [] /\ keepIn K (.ref f) = true /\ mg x = some (.ref f)
theorem Callee.mono {P:Program} {w:World} {K:Frag} {mg:Str -> Option Value} {base:Heap} {j k:Nat} {x:Str} {ps:List Str} {sp:Sp} (C:Callee P w K mg base j x ps sp) (h:j <= k):Callee P w K mg base k x ps sp:=by
 obtain ⟨f,fd,F,r⟩:=C
 exact ⟨f,fd,F.mono h,r⟩
theorem Fn.cal {P:Program} {w:World} {K:Frag} {mg:Str -> Option Value} {base:Heap} {x:Str} {st:Stmt} {N ps:List Str} {k:Nat} {sp:Sp} (F:Fn K mg x st) (S:FnScope N ps (defScope st)) (len:∀ vs H Q E,sp vs H Q E -> vs.length = ps.length)
  (hb:∀ (kV doc pm:Value) (an:Option Addr) (cdv ct:Value) (us:List Value),us.length = ps.length -> bindArgs (fnOf x x (defArgs st) (defBody st) (defScope st) .none kV doc pm an cdv ct) ⟨us,[]⟩ = pure (ps.zip us))
  (hbody:∀ (f:Addr) (cdv:Value) (A:Around) (outer:List Env) (s:Shared) (H:Hp) (vs:List V) (Q:VK) (E:XK),Room k (A.deeper (envOfC x (defScope st) s.heap.objs.size f cdv)) -> sp vs H Q E ->
   ∃ t,PSs (cxOf CX0 P w K mg base N x (defScope st) f cdv A outer s H E).nox (defBody st) t /\ t { nx:=fun _ H'=>Q .non H',rt:=Q } (start N vs) H):Callee P w K mg base (k + 1) x ps sp:=by
 obtain ⟨f,fd,F,m⟩:=F
 exact ⟨f,fd,F.ok S len (hbody f),F.binds hb,F.kp,m⟩
section
variable {X:Cx} {k:Nat} {x:Str} {ps:List Str} {sp:Sp} {p pos:Pos} {e:Expr} {es:List Expr} {t:TA}
theorem pe_fn (C:Callee X.prog X.w X.K X.mg X.base k x ps sp) (hr:Room k X.A) (hg:Gl X x) (ha:PA X (e :: es) t)
  (he:starEach (e :: es) X.env = (false,eval e X.env) :: starEach es X.env:=by rfl) (hpl:(backTo pos (starEach es X.env)).any (·.1) = false:=by rfl) (hd:(x == ("__debug__" : Str)) = false:=by decide):PE X (.Call (.Name x p) (e :: es) [] pos) (tCall sp [] E0 t):=by
 obtain ⟨f,fd,F,b,kp,m⟩:=C
 exact pe_call F hr hg m kp b .nil pass0 ha (hdb:=hd) (he:=he) (hpl:=hpl)
end
noncomputable def tJoin (t u:TS):TS:=fun D σ H=>∃ J:St -> Hp -> Prop,t { D with nx:=J } σ H /\ ∀ σ' H',J σ' H' -> u D σ' H'
theorem pss_join {X:Cx} {st:Stmt} {rest:List Stmt} {t u:TS} (h1:PS X st t) (h2:PSs X rest u):PSs X (st :: rest) (tJoin t u):=by
 intro pins s σ H D I h
 obtain ⟨J,hj,hr⟩:=h
 refine wpAny_execs_cons (thn (h1 pins s σ H { D with nx:=J } I hj) fun f s1 q=>?_)
 cases f with
 | next=>
  obtain ⟨σ',H',I',q⟩:=q
  exact h2 pins s1 σ' H' D I' (hr σ' H' q)
 | ret v=>exact q
 | brk=>exact q
 | cont=>exact q
theorem same_new {H:Hp} {p:Addr} (h:H p = none) (o:HO):Same H (upd H p o):=fun b u q=>by rw [upd_ne (ne_of_none q h)]; exact q
theorem same_upd {H H':Hp} {p:Addr} {o:HO} (s:Same H H') (h:H p = none):Same H (upd H' p o):=fun b u q=>by rw [upd_ne (ne_of_none q h)]; exact s b u q
theorem sizeBig {n:Nat} (h:n <= 100000):n < sizeLine:=Nat.lt_of_le_of_lt h (by decide)
def RowL (l:List Nat):Prop:=∀ c ∈ l,c = 48 \/ c = 49 \/ c = 45
theorem RowL.nil:RowL []:=fun _ h=>nomatch h
theorem RowL.snoc {l:List Nat} {c:Nat} (h:RowL l) (hc:c = 48 \/ c = 49 \/ c = 45):RowL (l ++ [c]):=fun d hd=>by
 rcases List.mem_append.mp hd with q | q
 ·exact h d q
 ·rw [List.mem_singleton.mp q]
  exact hc
section
variable {X:Cx}
theorem PE.imp {e:Expr} {t t':TE} (h:PE X e t) (k:∀ σ H Q,t' σ H Q -> t σ H Q):PE X e t':=fun pins s σ H Q I q=>h pins s σ H Q I (k σ H Q q)
theorem PT.imp {e:Expr} {t t':TT} (h:PT X e t) (k:∀ σ H Q,t' σ H Q -> t σ H Q):PT X e t':=fun pins s σ H Q I q=>h pins s σ H Q I (k σ H Q q)
theorem PI.imp {tg e:Expr} {t t':TI} (h:PI X tg e t) (k:∀ σ H Q,t' σ H Q -> t σ H Q):PI X tg e t':=fun pins s σ H Q I q=>h pins s σ H Q I (k σ H Q q)
theorem PG.imp {e:Expr} {t t':TG} (h:PG X e t) (k:∀ v σ H Q,t' v σ H Q -> t v σ H Q):PG X e t':=fun pins s σ H v u Q I r q=>h pins s σ H v u Q I r (k v σ H Q q)
theorem OpR.imp {f:Value -> Value -> Sem Value} {r r':R2} (h:OpR X f r) (k:∀ x y H Q,r' x y H Q -> r x y H Q):OpR X f r':=fun pins s σ H x y v u Q I rx ry q=>h pins s σ H x y v u Q I rx ry (k x y H Q q)
theorem CallR.imp {f:Value} {r r':List V -> Hp -> VK -> Prop} (h:CallR X f r) (k:∀ xs H Q,r' xs H Q -> r xs H Q):CallR X f r':=fun pins s σ H xs us Q I r q=>h pins s σ H xs us Q I r (k xs H Q q)
theorem IxR.imp {r r':R2} (h:IxR X r) (k:∀ x y H Q,r' x y H Q -> r x y H Q):IxR X r':=fun a b pins s σ H x y v u Q I rx ry q=>h a b pins s σ H x y v u Q I rx ry (k x y H Q q)
theorem MtR.imp {id:String} {r r':V -> List V -> Hp -> VK -> Prop} (h:MtR X id r) (k:∀ x xs H Q,r' x xs H Q -> r x xs H Q):MtR X id r':=fun pins s σ H x xs v us Q I rx r q=>h pins s σ H x xs v us Q I rx r (k x xs H Q q)
theorem SlR.imp {r r':V -> Option Int -> Option Int -> Hp -> VK -> Prop} (h:SlR X r) (k:∀ x a b H Q,r' x a b H Q -> r x a b H Q):SlR X r':=fun pins s σ H x v vl vu lo hi sl Q I rx hs pl pu q=>h pins s σ H x v vl vu lo hi sl Q I rx hs pl pu (k x lo hi H Q q)
noncomputable def cVar (i:Nat):TE:=fun σ H Q=>match σ[i]? with | some (some v)=>Q v H | _=>False
theorem qv (i:Nat) {x:Str} {pos:Pos} (hN:X.N[i]? = some x:=by rfl) (hv:Vis X.env.scope x:=by first | exact Or.inl rfl | exact Or.inr (Or.inl rfl) | exact Or.inr (Or.inr rfl)) (hd:(x == ("__debug__" : Str)) = false:=by decide)
  (hcd:(x == ("__classdict__" : Str)) = false:=by decide):PE X (.Name x pos) (cVar i):=(pe_var hN hv hd hcd).imp fun σ H Q q=>by
 unfold cVar at q
 split at q
 ·exact ⟨_,by assumption,q⟩
 ·exact q.elim
theorem qs (l:List Nat) {x:Str} {j pos} (h:x = st l:=by decide +kernel):PE X (.Constant (.str x) j pos) (tC (.str (st l))):=by
 rw [<- h]
 exact pe_str
theorem st_eta (a:Str):st a.cps.toList = a:=by simp
noncomputable def kAdd:R2:=fun x y H Q=>match x,y with
 | .int i,.int j=>Q (.int (i + j)) H
 | .str a,.str b=>a.cps.toList.length + b.cps.toList.length <= 100000 /\ Q (.str (st (a.cps.toList ++ b.cps.toList))) H
 | .ref l,.ref b=>∃ xs zs,H l = some (.lst xs) /\ H b = some (.lst zs) /\ xs.length + zs.length <= sizeLine /\ ∀ p,H p = none -> Q (.ref p) (upd H p (.lst (xs ++ zs)))
 | _,_=>False
theorem op_addK:OpR X (binaryOp .Add) kAdd:=by
 intro pins s σ H x y v u Q I rx ry q
 unfold kAdd at q
 split at q
 ·exact op_add pins s σ H _ _ v u Q I rx ry ⟨_,_,rfl,rfl,q⟩
 ·obtain ⟨h,q⟩:=q
  refine op_add_str pins s σ H _ _ v u Q I rx ry ⟨_,_,rfl,rfl,?_,?_⟩
  ·have:(100000:Nat) <= sizeLine:=by decide
   simp only [Array.length_toList] at h
   simp only [Str.length]
   omega
  ·rename_i a b
   have e:a ++ b = st (a.cps.toList ++ b.cps.toList):=by
    rw [<- st_app,st_eta,st_eta]
   rw [e]
   exact q
 ·obtain ⟨xs,zs,h1,h2,h3,q⟩:=q
  exact op_cat pins s σ H _ _ v u Q I rx ry ⟨_,_,_,_,rfl,rfl,h1,h2,h3,q⟩
 ·exact q.elim
noncomputable def kI (C:Int -> Int -> Prop) (g:Int -> Int -> V):R2:=fun x y H Q=>match x,y with
 | .int i,.int j=>C i j /\ Q (g i j) H
 | _,_=>False
noncomputable def kI0 (g:Int -> Int -> V):R2:=fun x y H Q=>match x,y with
 | .int i,.int j=>Q (g i j) H
 | _,_=>False
theorem kI_imp {C:Int -> Int -> Prop} {g:Int -> Int -> V}:∀ x y H Q,kI C g x y H Q -> rI C g x y H Q:=fun x y H Q q=>by
 unfold kI at q
 split at q
 ·exact ⟨_,_,rfl,rfl,q.1,q.2⟩
 ·exact q.elim
theorem kI0_imp {g:Int -> Int -> V}:∀ x y H Q,kI0 g x y H Q -> rI0 g x y H Q:=fun x y H Q q=>by
 unfold kI0 at q
 split at q
 ·exact ⟨_,_,rfl,rfl,q⟩
 ·exact q.elim
noncomputable abbrev kSub:R2:=kI0 fun i j=>.int (i - j)
noncomputable abbrev kMod:R2:=kI (fun _ j=>0 < j) fun i j=>.int (i % j)
noncomputable abbrev kFdiv:R2:=kI CDiv fun i j=>.int (i / j)
theorem op_subK:OpR X (binaryOp .Sub) kSub:=op_sub.imp kI0_imp
theorem op_modK:OpR X (binaryOp .Mod) kMod:=op_mod.imp kI_imp
theorem op_fdivK:OpR X (binaryOp .FloorDiv) kFdiv:=op_fdiv.imp kI_imp
noncomputable def kMul:R2:=fun x y H Q=>match x,y with
 | .int i,.int j=>CMul i j /\ Q (.int (i * j)) H
 | .str a,.int n=>∃ c,a.cps.toList = [c] /\ 0 <= n /\ n <= 10000 /\ Q (.str (st (List.replicate n.toNat c))) H
 | .ref l,.int k=>∃ xs,H l = some (.lst xs) /\ 0 <= k /\ k <= 10000 /\ xs.length = 1 /\ ∀ p,H p = none -> Q (.ref p) (upd H p (.lst (List.replicate k.toNat xs).flatten))
 | _,_=>False
theorem mulOk_one (k n:Nat) (hn:n <= 10000):MulOk ⟨#[k]⟩ (n:Int):=by
 have hl:(⟨#[k]⟩:Str).length = 1:=rfl
 refine ⟨?_,fun _ _=>?_,fun _ _=>?_⟩
 ·rw [decide_eq_false (by omega),decide_eq_false (by omega)]
  rfl
 ·rw [hl]
  intro z
  have:(2 ^ 63 - 1) / (n:Int) < 1:=by omega
  have h2:(n:Int) <= 10000:=by omega
  have h1:¬ (n:Int) < 1:=by assumption
  have h3:1 <= (2 ^ 63 - 1) / (n:Int):=by
   rw [Int.le_ediv_iff_mul_le (by omega)]
   omega
  omega
 ·rw [hl]
  unfold PySem.Builtin.Str.tooLong sizeLine
  exact decide_eq_false (by rw [Int.toNat_natCast]; have:(2:Nat) ^ 24 = 16777216:=(by decide); omega)
theorem op_mulK:OpR X (binaryOp .Mult) kMul:=by
 intro pins s σ H x y v u Q I rx ry q
 unfold kMul at q
 split at q
 ·exact op_mul pins s σ H _ _ v u Q I rx ry ⟨_,_,rfl,rfl,q.1,q.2⟩
 ·obtain ⟨c,e,h0,h1,q⟩:=q
  rename_i a n
  obtain ⟨k,rfl⟩:∃ k:Nat,n = k:=⟨n.toNat,by omega⟩
  have ea:a = ⟨#[c]⟩:=by rw [<- st_eta a,e]
  subst ea
  refine op_mul_str pins s σ H _ _ v u Q I rx ry ⟨_,_,rfl,rfl,mulOk_one c k (by omega),?_⟩
  rw [mul1]
  exact q
 ·obtain ⟨xs,h1,h2,h3,h4,q⟩:=q
  refine op_rep pins s σ H _ _ v u Q I rx ry ⟨_,_,_,rfl,rfl,h1,by omega,by omega,?_,q⟩
  have:(10000:Nat) <= sizeLine:=by decide
  rw [h4]
  omega
 ·exact q.elim
noncomputable def kEq (neg:Bool):R2:=fun x y H Q=>match x,y with
 | .int i,.int j=>Q (.bl (neg ^^ decide (i = j))) H
 | .str a,.str b=>Q (.bl (neg ^^ decide (a.cps.toList = b.cps.toList))) H
 | .bl a,.bl b=>Q (.bl (neg ^^ decide (a = b))) H
 | .non,.non=>Q (.bl (neg ^^ true)) H
 | .non,.int _=>Q (.bl (neg ^^ false)) H
 | .int _,.non=>Q (.bl (neg ^^ false)) H
 | .non,.str _=>Q (.bl (neg ^^ false)) H
 | .str _,.non=>Q (.bl (neg ^^ false)) H
 | _,_=>False
theorem V_str_eq (a b:Str):decide (V.str a = V.str b) = decide (a.cps.toList = b.cps.toList):=by
 by_cases h:a.cps.toList = b.cps.toList
 ·have:a = b:=by rw [<- st_eta a,h,st_eta]
  subst this
  simp
 ·rw [decide_eq_false h,decide_eq_false (fun z=>h (by cases z; rfl))]
theorem kEq_eq:∀ x y H Q,kEq false x y H Q -> rEq x y H Q:=fun x y H Q q=>by
 unfold kEq at q
 split at q <;> first
  | exact q.elim
  | (refine ⟨rfl,?_⟩; first | (rw [V_str_eq]; simpa using q) | simpa using q)
theorem kEq_ne:∀ x y H Q,kEq true x y H Q -> rNe x y H Q:=fun x y H Q q=>by
 unfold kEq at q
 split at q <;> first
  | exact q.elim
  | (refine ⟨rfl,?_⟩; first | (rw [V_str_eq]; simpa using q) | simpa using q)
theorem op_eqK:OpR X (compareOp .Eq) (kEq false):=op_eq.imp kEq_eq
theorem op_neK:OpR X (compareOp .NotEq) (kEq true):=op_ne.imp kEq_ne
noncomputable abbrev kLe:R2:=kI0 fun i j=>.bl (decide (i <= j))
noncomputable abbrev kGt:R2:=kI0 fun i j=>.bl (decide (j < i))
theorem op_leK:OpR X (compareOp .LtE) kLe:=op_le.imp kI0_imp
theorem op_gtK:OpR X (compareOp .Gt) kGt:=op_gt.imp kI0_imp
noncomputable def kIs (neg:Bool):R2:=fun x y H Q=>match y with
 | .non=>Q (.bl (neg ^^ decide (x = .non))) H
 | _=>False
theorem op_isK:OpR X (compareOp .Is) (kIs false):=op_isN.imp fun x y H Q q=>by
 unfold kIs at q
 split at q
 ·exact ⟨rfl,by simpa using q⟩
 ·exact q.elim
noncomputable def kIn (K:Frag) (neg:Bool):R2:=fun x y H Q=>match x,y with
 | .str a,.str b=>∃ c,a.cps.toList = [c] /\ Q (.bl (neg ^^ decide (c ∈ b.cps.toList))) H
 | x,.ref p=>∃ xs,(SqL K H p xs \/ SqT K H p xs) /\ flatV x = true /\ xs.all flatV = true /\ Q (.bl (neg ^^ inV x xs)) H
 | _,_=>False
theorem op_notinK:OpR X (compareOp .NotIn) (kIn X.K true):=by
 intro pins s σ H x y v u Q I rx ry q
 unfold kIn at q
 split at q
 ·obtain ⟨c,e,q⟩:=q
  rename_i a b
  have ea:a = ⟨#[c]⟩:=by rw [<- st_eta a,e]
  subst ea
  refine op_notin_str pins s σ H _ _ v u Q I rx ry ⟨_,_,rfl,rfl,?_⟩
  rw [StrLaws.found_one]
  simpa using q
 ·obtain ⟨xs,h1,h2,h3,q⟩:=q
  exact op_notIn_seq pins s σ H _ _ v u Q I rx ry ⟨_,_,rfl,h1,h2,h3,by simpa using q⟩
 ·exact q.elim
noncomputable def kIx (K:Frag):R2:=fun x y H Q=>match x,y with
 | .str z,.int i=>z.cps.toList.length <= 100000 /\ ∃ c,atI z.cps.toList i = some c /\ Q (.str (st [c])) H
 | .ref p,.int i=>∃ xs v,(SqL K H p xs \/ SqT K H p xs) /\ atI xs i = some v /\ Q v H
 | _,_=>False
theorem big5:(100000:Nat) <= sizeLine:=by decide
theorem strlen (z:Str):z.length = z.cps.toList.length:=by simp [Str.length]
theorem ix_K:IxR X (kIx X.K):=ix_seq.imp fun x y H Q q=>by
 unfold kIx at q
 split at q
 ·obtain ⟨h,c,e,q⟩:=q
  exact .inr (.inr ⟨_,_,c,rfl,rfl,by rw [strlen]; exact Nat.le_trans h big5,e,q⟩)
 ·obtain ⟨xs,v,h | h,e,q⟩:=q
  ·exact .inl ⟨_,_,_,_,rfl,rfl,h,e,q⟩
  ·exact .inr (.inl ⟨_,_,_,_,rfl,rfl,h,e,q⟩)
 ·exact q.elim
noncomputable def kLen (K:Frag):List V -> Hp -> VK -> Prop:=fun xs H Q=>match xs with
 | [.str z]=>z.cps.toList.length <= 100000 /\ Q (.int z.cps.toList.length) H
 | [.ref p]=>∃ ys,(SqL K H p ys \/ SqT K H p ys) /\ Q (.int ys.length) H
 | _=>False
theorem call_lenK:CallR X (.builtin "len") (kLen X.K):=by
 intro pins s σ H xs us Q I r q
 unfold kLen at q
 split at q
 ·obtain ⟨h,q⟩:=q
  refine call_len_str pins s σ H _ us Q I r ⟨_,rfl,by rw [strlen]; exact Nat.le_trans h big5,?_⟩
  rw [strlen]
  exact q
 ·obtain ⟨ys,h,q⟩:=q
  exact call_len_seq pins s σ H _ us Q I r ⟨_,_,rfl,h,q⟩
 ·exact q.elim
noncomputable def up (t:TE):TE:=fun σ H Q=>∃ Q0:VK,t σ H Q0 /\ ∀ v H',Q0 v H' -> Q v H'
noncomputable def up2 (r:R2):R2:=fun x y H Q=>∃ Q0:VK,r x y H Q0 /\ ∀ v H',Q0 v H' -> Q v H'
theorem EP.imp {pins:List (Addr × Obj)} {σ:St} {Q Q':VK} {u:Value} {s:Shared} (h:EP X pins σ Q u s) (k:∀ v H',Q v H' -> Q' v H'):EP X pins σ Q' u s:=by
 obtain ⟨v,H',I,r,q⟩:=h
 exact ⟨v,H',I,r,k v H' q⟩
theorem PE.mono {e:Expr} {t:TE} (h:PE X e t):PE X e (up t):=fun pins s σ H Q I ⟨Q0,q,k⟩=>thn (h pins s σ H Q0 I q) fun u s' z=>z.imp k
theorem OpR.mono {f:Value -> Value -> Sem Value} {r:R2} (h:OpR X f r):OpR X f (up2 r):=fun pins s σ H x y v u Q I rx ry ⟨Q0,q,k⟩=>thn (h pins s σ H x y v u Q0 I rx ry q) fun u s' z=>z.imp k
noncomputable def blK (Q:Bool -> Hp -> Prop):VK:=fun x H'=>match x with | .bl k=>Q k H' | _=>False
theorem blK_ex {Q:Bool -> Hp -> Prop} {x:V} {H':Hp} (h:blK Q x H'):∃ k,x = .bl k /\ Q k H':=by
 unfold blK at h
 split at h
 ·exact ⟨_,rfl,h⟩
 ·exact h.elim
noncomputable def cTest (t:TE):TT:=fun σ H Q=>t σ H (blK Q)
theorem qt_val {e:Expr} {t:TE} (h:PE X e t) (he:∀ whole,isTrue e X.env whole = (do let v <- whole; standAt e.pos; holding [v] (truthy v)):=by intro _; rfl):PT X e (cTest t):=
 (pt_val h.mono he).imp fun σ H Q q=>⟨_,q,fun v H' z=>blK_ex z⟩
variable {a b c:Expr} {ta tb tc:TE} {pos:Pos} {rest:List Expr}
theorem qt_cmp {op:CmpOp} {r:R2} (ho:OpR X (compareOp op) r) (ha:PE X a ta) (hb:PE X b tb) (hm:behindInMarks op b = false:=by first | exact nomark _ | rfl):PT X (.Compare a [op] [b] pos) (cTest (tOp r ta tb)):=
 (pt_cmpR ho.mono ha.mono hb.mono hm).imp fun σ H Q q=>⟨_,q,fun x H1 z=>⟨_,z,fun y H2 z2=>⟨_,z2,fun v H' z3=>blK_ex z3⟩⟩⟩
theorem qe_cmp {op:CmpOp} {r:R2} (ho:OpR X (compareOp op) r) (ha:PE X a ta) (hb:PE X b tb) (hm:behindInMarks op b = false:=by first | exact nomark _ | rfl):PE X (.Compare a [op] [b] pos) (tOp r ta tb):=pe_cmpR ho ha hb hm
noncomputable def cAndV (ta tb:TE):TE:=fun σ H Q=>ta σ H (blK fun c H1=>if c = true then tb σ H1 Q else Q (.bl false) H1)
theorem qe_and (ha:PE X a ta) (hb:PE X (.BoolOp .And (b :: rest) pos) tb):PE X (.BoolOp .And (a :: b :: rest) pos) (cAndV ta tb):=(pe_and ha.mono hb).imp fun σ H Q q=>⟨_,q,fun v H' z=>blK_ex z⟩
variable {o e:Expr} {to te:TE} {apos cpos:Pos}
noncomputable def cApp (to te:TE):TE:=fun σ H Q=>to σ H fun x H1=>match x with
 | .ref l=>(∃ xs,H1 l = some (.lst xs)) /\ te σ H1 fun y H2=>∃ xs,H2 l = some (.lst xs) /\ xs.length < sizeLine /\ Q .non (upd H2 l (.lst (xs ++ [y])))
 | _=>False
theorem qe_append (ho:PE X o to) (he:PE X e te) (hbase:attributeBase o "append" X.env (eval o X.env) = eval o X.env:=by rfl)
  (hfew:((backTo cpos (starEach [e] X.env)).all (fun x=>!x.1) && (backToKw cpos (keywordEach [] X.env)).all (fun x=>x.1.isSome)
   && decide ([e].length + ([]:List Keyword).length + (if ([]:List Keyword).isEmpty then 0 else 1) < 30)) = true:=by rfl)
  (hline:(apos.endLine == cpos.line) = true:=by rfl) (hs:starEach [e] X.env = (false,eval e X.env) :: starEach [] X.env:=by rfl) (hplain:(backTo cpos (starEach [] X.env)).any (·.1) = false:=by rfl):
  PE X (.Call (.Attribute o "append" apos) [e] [] cpos) (cApp to te):=
 (pe_bm PySem.F.plainAttrs_list PySem.F.slot_list_append PySem.F.type_list_append mt_append ho.mono (pa_cons he.mono pa_nil hs) hbase hfew hline hs hplain).imp fun σ H Q q=>⟨_,q,fun x H1 z=>by
  split at z
  ·rename_i l
   obtain ⟨⟨xs,h⟩,z⟩:=z
   refine ⟨.inl ⟨rfl,_,SqL.of h⟩,_,z,fun y H2 z2=>?_⟩
   obtain ⟨xs2,h2,h3,z3⟩:=z2
   exact ⟨l,xs2,y,rfl,rfl,h2,h3,z3⟩
  ·exact z.elim⟩
noncomputable def cJoin1 (K:Frag) (te:TE):TE:=fun σ H Q=>te σ H fun x H1=>match x with
 | .ref l=>∃ cs:List Nat,SqL K H1 l (cs.map fun k=>V.str (st [k])) /\ cs.length <= 10000 /\ Q (.str (st cs)) H1
 | _=>False
theorem qe_join1 {j:Nat} {p1:Pos} (he:PE X e te) (hfew:((backTo cpos (starEach [e] X.env)).all (fun x=>!x.1) && (backToKw cpos (keywordEach [] X.env)).all (fun x=>x.1.isSome)
   && decide ([e].length + ([]:List Keyword).length + (if ([]:List Keyword).isEmpty then 0 else 1) < 30)) = true:=by rfl)
  (hline:(apos.endLine == cpos.line) = true:=by rfl) (hs:starEach [e] X.env = (false,eval e X.env) :: starEach [] X.env:=by rfl) (hplain:(backTo cpos (starEach [] X.env)).any (·.1) = false:=by rfl)
  (hbase:attributeBase (.Constant (.str (Str.ofString "")) j p1) "join" X.env (eval (.Constant (.str (Str.ofString "")) j p1) X.env) = eval (.Constant (.str (Str.ofString "")) j p1) X.env:=by rfl):
  PE X (.Call (.Attribute (.Constant (.str (Str.ofString "")) j p1) "join" apos) [e] [] cpos) (cJoin1 X.K te):=
 (pe_bm PySem.F.plainAttrs_str PySem.F.slot_str_join PySem.F.type_str_join mt_join1 pe_str (pa_cons he.mono pa_nil hs) hbase hfew hline hs hplain).imp fun σ H Q q=>⟨rfl,_,q,fun x H1 z=>by
  split at z
  ·obtain ⟨cs,h,h2,z⟩:=z
   exact ⟨_,cs,rfl,rfl,h,h2,z⟩
  ·exact z.elim⟩
end
section
variable {X:Cx} {tg a b e:Expr} {te ta tb:TE} {pos p:Pos}
noncomputable def cIter (K:Frag) (te:TE):TI:=fun σ H R=>te σ H fun x H1=>match x with
 | .str z=>R (Its z) H1
 | .ref a=>((∃ xs,SqL K H1 a xs) /\ R (Itl K a) H1) \/ ((∃ xs,SqT K H1 a xs) /\ R (Itt K a) H1)
 | _=>False
theorem qi_iter (he:PE X e te):PI X tg e (cIter X.K te):=by
 intro pins s σ H R I h
 refine thn (he pins s σ H _ I h) fun v s1 ⟨y,H1,I1,r1,q1⟩=>?_
 dsimp only at q1
 split at q1
 ·rename_i x
  obtain ⟨t,rfl⟩:=r1
  refine wpAny_pyIter_strU ?_
  refine ⟨s1.heap.objs.size,[s1.heap.objs.size],_,Its x,H1,rfl,I1.kept (t':=s1.toks) fun b o e=>Heap.get?_push_of_some _ e,turn_str x t _,⟨_,Heap.get?_push_size _ rfl,rfl,rfl⟩,fun b hb=>?_,q1⟩
  have e:b = s1.heap.objs.size:=by simpa using hb
  subst e
  exact I1.fpOk (Nat.le_refl _) (I1.hok.fresh (Nat.le_refl _))
 ·rename_i l
  cases r1
  rcases q1 with ⟨⟨xs,hq⟩,q⟩ | ⟨⟨xs,hq⟩,q⟩
  ·obtain ⟨its,rv,p,hz⟩:=I1.list hq
   refine wpAny_pyIter_list p.isList ?_
   refine ⟨s1.heap.objs.size,[s1.heap.objs.size],_,_,H1,rfl,I1.kept (t':=s1.toks) fun b o e=>Heap.get?_push_of_some _ e,turn_list l _,⟨_,Heap.get?_push_size _ rfl,rfl,rfl⟩,fun b hb=>?_,q⟩
   have e:b = s1.heap.objs.size:=by simpa using hb
   subst e
   exact I1.fpOk (Nat.le_refl _) (I1.hok.fresh (Nat.le_refl _))
  ·obtain ⟨its,rv,p,hz⟩:=I1.tuple hq
   refine wpAny_pyIter_tuple (show s1.heap.IsTuple l its.toArray from p) ?_
   refine ⟨s1.heap.objs.size,[s1.heap.objs.size],_,_,H1,rfl,I1.kept (t':=s1.toks) fun b o e=>Heap.get?_push_of_some _ e,turn_tuple l _,⟨_,Heap.get?_push_size _ rfl,rfl,rfl⟩,fun b hb=>?_,q⟩
   have e:b = s1.heap.objs.size:=by simpa using hb
   subst e
   exact I1.fpOk (Nat.le_refl _) (I1.hok.fresh (Nat.le_refl _))
 ·exact q1.elim
noncomputable def cRng1 (te:TE):TI:=fun σ H R=>te σ H fun x H1=>match x with
 | .int j=>-1000000 <= j /\ j <= 1000000 /\ R (Itr 0 j.toNat) H1
 | _=>False
theorem qi_range1 (hg:Gl X "range") (hm:X.mg "range" = none) (ha:PE X a ta) (hs:starEach [a] X.env = [(false,eval a X.env)]:=by rfl):PI X tg (.Call (.Name "range" p) [a] [] pos) (cRng1 ta):=
 (pi_range1 hg hm (pa_cons ha.mono pa_nil hs) hs).imp fun σ H R q=>⟨_,q,fun x H1 z=>by
  split at z
  ·exact ⟨_,rfl,by omega,by omega,z.2.2⟩
  ·exact z.elim⟩
def srcK (K:Frag) (H:Hp) (v:V) (R:Src -> Prop):Prop:=match v with
 | .str x=>R (.str x)
 | .ref a=>(∃ xs,SqL K H a xs) /\ R (.lst a)
 | _=>False
theorem srcK_ex {K:Frag} {H:Hp} {v:V} {R:Src -> Prop} (h:srcK K H v R):∃ S,SrcOf K H S v /\ R S:=by
 unfold srcK at h
 split at h
 ·exact ⟨.str _,rfl,h⟩
 ·exact ⟨.lst _,⟨rfl,h.1⟩,h.2⟩
 ·exact h.elim
noncomputable def cZip (K:Frag) (ta tb:TE):TI:=fun σ H R=>ta σ H fun x H1=>tb σ H1 fun y H2=>srcK K H2 x fun S1=>srcK K H2 y fun S2=>R (Itz K S1 S2) H2
theorem qi_zip {elts:List Expr} {kk:Nat} {tpos:Pos} (hg:Gl X "zip") (hm:X.mg "zip" = none) (ha:PE X a ta) (hb:PE X b tb) (hs:starEach [a,b] X.env = [(false,eval a X.env),(false,eval b X.env)]:=by rfl) (hs2:starEach [b] X.env = [(false,eval b X.env)]:=by rfl):
  PI X (.Tuple elts kk tpos) (.Call (.Name "zip" p) [a,b] [] pos) (cZip X.K ta tb):=
 (pi_zip hg hm (pa_cons ha.mono (pa_cons hb.mono pa_nil hs2) (by rw [hs,hs2])) hs hs2).imp fun σ H R q=>⟨_,q,fun x H1 z=>⟨_,z,fun y H2 z=>by
  obtain ⟨S1,o1,z⟩:=srcK_ex z
  obtain ⟨S2,o2,z⟩:=srcK_ex z
  exact ⟨S1,S2,x,y,rfl,o1,o2,z⟩⟩⟩
end
def loopW (J:It) (g:TG) (tb:TS) (D:Ends) (σ:St) (H:Hp):Prop:=∃ W:Nat -> Nat -> St -> Hp -> Prop,(∃ m,W 0 m σ H) /\ ∀ i m σ H,W i m σ H ->
 (J.stop i H /\ D.nx σ H) \/ (J.go i H /\ ∃ N:St -> Hp -> Prop,(∀ σ' H',N σ' H' -> ∃ m',m' < m /\ W (i + 1) m' σ' H') /\ ∀ x H',J.yld i H x H' -> g x σ H' fun σ2 H2=>tb { D with nx:=N,ct:=N,bk:=D.nx } σ2 H2)
noncomputable def cFor (wi:TI) (g:TG) (tb:TS):TS:=fun D σ H=>wi σ H fun J H1=>loopW J g tb D σ H1
theorem qs_for {X:Cx} {tg iter:Expr} {body:List Stmt} {wi:TI} {g:TG} {tb:TS} {pos:Pos} (hp:PassesOwn (model X.prog X.w) X.A X.env X.xe) (hc:X.calm = true) (hi:PI X tg iter wi) (hg:PG X tg g) (hb:PSs X body tb)
  (hs:∀ x,foldedSetIterable iter X.env x = pure x:=by intro _; rfl):PS X (.For tg iter body [] pos) (cFor wi g tb):=ps_for hp hc hi hg hb hs
section
variable {K:Frag} {g:TG} {tb:TS} {D:Ends} {σ:St} {H:Hp}
noncomputable abbrev Ends.turn (D:Ends) (N:St -> Hp -> Prop):Ends:={ D with nx:=N,ct:=N,bk:=D.nx }
theorem loop_list {p:Addr} {xs:List V} (Pv:Nat -> St -> Hp -> Prop) (h0:Pv 0 σ H) (hl:∀ i σ H,i <= xs.length -> Pv i σ H -> SqL K H p xs)
  (hs:∀ i x σ H,xs[i]? = some x -> Pv i σ H -> g x σ H fun σ2 H2=>tb (D.turn (Pv (i + 1))) σ2 H2) (hd:∀ σ H,Pv xs.length σ H -> D.nx σ H):loopW (Itl K p) g tb D σ H:=for_list Pv h0 hl hs hd
theorem loop_items {α:Type} (item:α -> V) (xs:List α) {p:Addr} (Pv:Nat -> St -> Hp -> Prop) (h0:Pv 0 σ H) (hl:∀ i σ H,i <= xs.length -> Pv i σ H -> SqL K H p (xs.map item))
  (hs:∀ i x σ H,xs[i]? = some x -> Pv i σ H -> g (item x) σ H fun σ2 H2=>tb (D.turn (Pv (i + 1))) σ2 H2) (hd:∀ σ H,Pv xs.length σ H -> D.nx σ H):loopW (Itl K p) g tb D σ H:=
 loop_list (xs:=xs.map item) Pv h0 (fun i σ H hi=>hl i σ H (by simpa using hi)) (fun i x σ H hx p=>by
  rw [List.getElem?_map] at hx
  obtain ⟨y,hy,rfl⟩:=Option.map_eq_some_iff.mp hx
  exact hs i y σ H hy p) (fun σ H p=>hd σ H (by simpa using p))
theorem loop_range {lo:Int} {n:Nat} (Pv:Nat -> St -> Hp -> Prop) (h0:Pv 0 σ H) (hs:∀ i σ H,i < n -> Pv i σ H -> g (.int (lo + i)) σ H fun σ2 H2=>tb (D.turn (Pv (i + 1))) σ2 H2) (hd:∀ σ H,Pv n σ H -> D.nx σ H):
  loopW (Itr lo n) g tb D σ H:=for_range Pv h0 hs hd
noncomputable def SrcVals (K:Frag) (H:Hp):Src -> List V -> Prop
 | .str x,xs=>xs = x.cps.toList.map fun c=>V.str (st [c])
 | .lst a,xs=>SqL K H a xs
theorem SrcVals.go {S:Src} {xs:List V} {i:Nat} (h:SrcVals K H S xs) (hi:i < xs.length):SrcGo K H S i:=by
 cases S with
 | str x=>
  have e:xs = x.cps.toList.map fun c=>V.str (st [c]):=h
  subst e
  show i < x.cps.size
  simpa using hi
 | lst a=>exact ⟨xs,xs[i],h,by simp [hi]⟩
theorem SrcVals.stop {S:Src} {xs:List V} {i:Nat} (h:SrcVals K H S xs) (hi:xs.length <= i):SrcEnd K H S i:=by
 cases S with
 | str x=>
  have e:xs = x.cps.toList.map fun c=>V.str (st [c]):=h
  subst e
  show x.cps.size <= i
  simpa using hi
 | lst a=>exact ⟨xs,h,hi⟩
theorem SrcVals.at {S:Src} {xs:List V} {i:Nat} {v:V} (h:SrcVals K H S xs) (q:SrcAt K H S i v):xs[i]? = some v:=by
 cases S with
 | str x=>
  have e:xs = x.cps.toList.map fun c=>V.str (st [c]):=h
  subst e
  obtain ⟨c,hc,rfl⟩:=q
  simp [hc]
 | lst a=>exact q xs h
theorem SqT.upd_same {p:Addr} {xs:List V}:SqT K (upd H p (.tup xs)) p xs:=SqT.of L2.upd_same
end
def compW (J:It) (g:TG) (tc:TT) (te:TE) (σc:St) (D:Addr) (Q:VK) (H:Hp):Prop:=
 ∃ W:Nat -> Nat -> List V -> Hp -> Prop,(∃ m,W 0 m [] (upd H D (.lst []))) /\ ∀ i m acc H2,W i m acc H2 ->
  (J.stop i H2 /\ Q (.ref D) H2) \/ (J.go i H2 /\ ∀ x H3,J.yld i H2 x H3 -> g x σc H3 fun σ4 H4=>tc σ4 H4 fun b H5=>if b = true then
   te σ4 H5 fun v H6=>H6 D = some (.lst acc) /\ acc.length < sizeLine /\ ∃ m',m' < m /\ W (i + 1) m' (acc ++ [v]) (upd H6 D (.lst (acc ++ [v]))) else ∃ m',m' < m /\ W (i + 1) m' acc H5)
noncomputable def cComp (nt:Nat) (fi:List Nat) (wi:TI) (g:TG) (tc:TT) (te:TE):TE:=fun σ H Q=>wi σ H fun J H1=>∀ D,H1 D = none -> compW J g tc te (compσ nt fi σ) D Q H1
theorem qe_comp {X:Cx} {elt tg iter:Expr} {ifs:List Expr} {scope:Scope} {pos:Pos} {wi:TI} {g:TG} {tc:TT} {te:TE} {nt:Nat} {fi:List Nat} {N':List Str} (hcalm:X.calm = true)
  (S:CScope scope) (cn:CNames X scope nt fi N') (gk:GK nt g) (hi:PI X tg iter wi)
  (hg:∀ cl C s H ex,PG (cxC X scope cl N' C s H ex) tg g) (hc:∀ cl C s H ex,PIf (cxC X scope cl N' C s H ex) ifs tc) (he:∀ cl C s H ex,PE (cxC X scope cl N' C s H ex) elt te)
  (hs:∀ x,foldedSetIterable iter X.env x = pure x:=by intro _; rfl):PE X (.ListComp elt [⟨tg,iter,ifs,0⟩] scope pos) (cComp nt fi wi g tc te):=pe_comp hcalm S cn gk hi hg hc he hs
section
variable {K:Frag} {J:It} {g:TG} {tc:TT} {te:TE} {σc:St} {D:Addr} {Q:VK} {H:Hp}
theorem range_flat_succ {α:Type} (f:Nat -> List α) (n:Nat):(List.range (n + 1)).flatMap f = (List.range n).flatMap f ++ f n:=by
 rw [List.range_succ,List.flatMap_append]
 simp
theorem range_flat_len {α:Type} (f:Nat -> List α) (hf:∀ i,(f i).length <= 1) (n:Nat):((List.range n).flatMap f).length <= n:=by
 induction n with
 | zero=>simp
 | succ n ih=>
  rw [range_flat_succ,List.length_append]
  have:=hf n
  omega
theorem comp_it {n:Nat} (f:Nat -> List V) (hfree:H D = none) (hn:n <= 100000) (hf:∀ i,(f i).length <= 1) (hy:∀ i H x H',J.yld i H x H' -> Same H H')
  (hgo:∀ i H',i < n -> Same H H' -> J.go i H') (hst:∀ H',Same H H' -> J.stop n H')
  (hs:∀ i H1 x H2 (out:VK) (non:Hp -> Prop),i < n -> Same H H1 -> J.yld i H1 x H2 -> (∀ v H6,f i = [v] -> Same H2 H6 -> out v H6) -> (∀ H5,f i = [] -> Same H2 H5 -> non H5) ->
   g x σc H2 fun σ4 H4=>tc σ4 H4 fun b H5=>if b = true then te σ4 H5 out else non H5)
  (hq:∀ H',Same H H' -> H' D = some (.lst ((List.range n).flatMap f)) -> Q (.ref D) H'):compW J g tc te σc D Q H:=by
 refine ⟨fun i m acc H2=>m = n - i /\ i <= n /\ acc = (List.range i).flatMap f /\ Same H H2 /\ H2 D = some (.lst acc),⟨n,by simp,Nat.zero_le _,by simp,same_new hfree _,upd_same⟩,?_⟩
 rintro i m acc H2 ⟨rfl,hi,rfl,sm,hD⟩
 by_cases hlt:i < n
 ·refine .inr ⟨hgo i H2 hlt sm,fun x H3 y=>?_⟩
  have s23:=hy i H2 x H3 y
  refine hs i H2 x H3 _ _ hlt sm y (fun v H6 e s6=>?_) fun H5 e s5=>?_
  ·refine ⟨s6 _ _ (s23 _ _ hD),Nat.lt_of_le_of_lt (range_flat_len f hf i) (sizeBig (by omega)),n - (i + 1),by omega,rfl,hlt,?_,?_,upd_same⟩
   ·rw [range_flat_succ,e]
   ·exact same_upd (sm.trans (s23.trans s6)) hfree
  ·refine ⟨n - (i + 1),by omega,rfl,hlt,?_,sm.trans (s23.trans s5),s5 _ _ (s23 _ _ hD)⟩
   rw [range_flat_succ,e,List.append_nil]
 ·have e:i = n:=by omega
  subst e
  exact .inl ⟨hst H2 sm,hq H2 sm hD⟩
noncomputable def atH {α β:Type} (xs:List α) (h:α -> List β) (i:Nat):List β:=((xs[i]?).map h).getD []
theorem atH_some {α β:Type} {xs:List α} {h:α -> List β} {i:Nat} {x:α} (e:xs[i]? = some x):atH xs h i = h x:=by simp [atH,e]
theorem atH_len {α β:Type} {xs:List α} {h:α -> List β} (hf:∀ x,(h x).length <= 1) (i:Nat):(atH xs h i).length <= 1:=by
 unfold atH
 cases xs[i]? with
 | none=>simp
 | some x=>simpa using hf x
theorem flat_at {α β:Type} (xs:List α) (h:α -> List β):(List.range xs.length).flatMap (atH xs h) = xs.flatMap h:=by
 induction xs with
 | nil=>rfl
 | cons a xs ih=>
  rw [List.length_cons,List.range_succ_eq_map,List.flatMap_cons,List.flatMap_map,List.flatMap_cons,<- ih]
  rfl
section
variable {α:Type} (item:α -> V) (xs:List α) (h:α -> List V)
theorem comp_list {p:Addr} (hfree:H D = none) (hl:SqL K H p (xs.map item)) (hn:xs.length <= 100000) (hf:∀ x,(h x).length <= 1)
  (hs:∀ x H1 (out:VK) (non:Hp -> Prop),x ∈ xs -> Same H H1 -> (∀ v H6,h x = [v] -> Same H1 H6 -> out v H6) -> (∀ H5,h x = [] -> Same H1 H5 -> non H5) ->
   g (item x) σc H1 fun σ4 H4=>tc σ4 H4 fun b H5=>if b = true then te σ4 H5 out else non H5)
  (hq:∀ H',Same H H' -> H' D = some (.lst (xs.flatMap h)) -> Q (.ref D) H'):compW (Itl K p) g tc te σc D Q H:=by
 refine comp_it (n:=xs.length) (atH xs h) hfree hn (atH_len hf) (fun i H x H' y=>?_) (fun i H' hi s=>?_) (fun H' s=>?_) (fun i H1 x H2 out non hi s y ho hnn=>?_) fun H' s q=>?_
 ·rw [y.1]
  exact Same.refl _
 ·exact ⟨_,item xs[i],s.seq hl,by simp [hi]⟩
 ·exact ⟨_,s.seq hl,by simp⟩
 ·obtain ⟨rfl,y⟩:=y
  have e:=y _ (s.seq hl)
  rw [List.getElem?_map,List.getElem?_eq_getElem hi] at e
  have e2:item xs[i] = x:=Option.some.inj e
  subst e2
  simp only [atH_some (List.getElem?_eq_getElem hi)] at ho hnn
  exact hs xs[i] _ out non (List.getElem_mem hi) s ho hnn
 ·rw [flat_at] at q
  exact hq H' s q
theorem comp_range {lo:Int} {n:Nat} {h:Nat -> List V} (hfree:H D = none) (hn:n <= 100000) (hf:∀ x,(h x).length <= 1)
  (hs:∀ i H1 (out:VK) (non:Hp -> Prop),i < n -> Same H H1 -> (∀ v H6,h i = [v] -> Same H1 H6 -> out v H6) -> (∀ H5,h i = [] -> Same H1 H5 -> non H5) ->
   g (.int (lo + i)) σc H1 fun σ4 H4=>tc σ4 H4 fun b H5=>if b = true then te σ4 H5 out else non H5)
  (hq:∀ H',Same H H' -> H' D = some (.lst ((List.range n).flatMap h)) -> Q (.ref D) H'):compW (Itr lo n) g tc te σc D Q H:=by
 refine comp_it (n:=n) h hfree hn hf (fun i H x H' y=>?_) (fun i H' hi s=>hi) (fun H' s=>Nat.le_refl _) (fun i H1 x H2 out non hi s y ho hnn=>?_) hq
 ·rw [y.1]
  exact Same.refl _
 ·obtain ⟨rfl,rfl⟩:=y
  exact hs i _ out non hi s ho hnn
theorem comp_zip {S1 S2:Src} {us ws:List V} {j k:Nat} {h:V -> V -> List V} (hfree:H D = none) (h1:∀ H',Same H H' -> SrcVals K H' S1 us) (h2:∀ H',Same H H' -> SrcVals K H' S2 ws) (hn:us.length <= 100000) (hf:∀ x y,(h x y).length <= 1)
  (hs:∀ x y H1 (out:VK) (non:Hp -> Prop),(x,y) ∈ us.zip ws -> Same H H1 -> (∀ v H6,h x y = [v] -> Same H1 H6 -> out v H6) -> (∀ H5,h x y = [] -> Same H1 H5 -> non H5) ->
   tc ((σc.set j (some x)).set k (some y)) H1 fun b H5=>if b = true then te ((σc.set j (some x)).set k (some y)) H5 out else non H5)
  (hq:∀ H',Same H H' -> H' D = some (.lst ((us.zip ws).flatMap fun p=>h p.1 p.2)) -> Q (.ref D) H'):compW (Itz K S1 S2) (gTup K 2 (gCons (gName j) (gCons (gName k) gNil))) tc te σc D Q H:=by
 refine comp_it (n:=(us.zip ws).length) (atH (us.zip ws) fun p=>h p.1 p.2) hfree (by rw [List.length_zip]; omega) (atH_len fun p=>hf p.1 p.2) (fun i H x H' y=>?_) (fun i H' hi s=>?_) (fun H' s=>?_) (fun i H1 x H2 out non hi s y ho hnn=>?_) fun H' s q=>?_
 ·obtain ⟨T,x,y,_,hT,rfl,_⟩:=y
  exact same_new hT _
 ·rw [List.length_zip] at hi
  exact ⟨(h1 H' s).go (by omega),(h2 H' s).go (by omega)⟩
 ·rw [List.length_zip]
  by_cases h:us.length <= ws.length
  ·exact .inl ((h1 H' s).stop (by omega))
  ·exact .inr ⟨(h1 H' s).go (by omega),(h2 H' s).stop (by omega)⟩
 ·obtain ⟨T,x,y,rfl,hT,rfl,s1,s2⟩:=y
  have q1:=(h1 _ s).at s1
  have q2:=(h2 _ s).at s2
  have e:(us.zip ws)[i]? = some (x,y):=by
   rw [List.getElem?_zip_eq_some]
   exact ⟨q1,q2⟩
  simp only [atH_some e] at ho hnn
  exact ⟨T,[x,y],rfl,SqT.upd_same,rfl,x,[y],rfl,y,[],rfl,rfl,hs x y _ out non (List.mem_of_getElem? e) (s.trans (same_new hT _)) ho hnn⟩
 ·rw [flat_at (us.zip ws) fun p=>h p.1 p.2] at q
  exact hq H' s q
end
end
noncomputable def cnOk (N:List Str) (sc scope:Scope) (nt:Nat) (fi:List Nat) (N':List Str):Bool:=
 N'.length == nt + fi.length && ((List.range fi.length).all fun k=>match fi[k]? with
  | some j=>match N'[nt + k]?,N[j]? with
   | some x,some y=>x == y && scope.names.lookup x == some NameKind.free
   | _,_=>false
  | none=>false) && scope.names.all fun y=>y.2 != NameKind.free || (sc.names.lookup y.1 == some NameKind.cell || sc.names.lookup y.1 == some NameKind.free)
theorem cnames {X:Cx} {N:List Str} {sc scope:Scope} {nt:Nat} {fi:List Nat} {N':List Str} (hN:X.N = N) (hsc:X.env.scope = sc) (h:cnOk N sc scope nt fi N' = true):CNames X scope nt fi N':=by
 unfold cnOk at h
 simp only [Bool.and_eq_true,List.all_eq_true,List.mem_range,beq_iff_eq] at h
 obtain ⟨⟨h1,h2⟩,h3⟩:=h
 refine ⟨h1,fun k j e=>?_,fun y hy e=>?_⟩
 ·have hk:k < fi.length:=(List.getElem?_eq_some_iff.mp e).1
  have q:=h2 k hk
  rw [e] at q
  dsimp only at q
  split at q
  ·rename_i x y e1 e2
   simp only [Bool.and_eq_true,beq_iff_eq] at q
   obtain ⟨rfl,q⟩:=q
   exact ⟨_,e1,by rw [hN]; exact e2,q⟩
  ·cases q
 ·have q:=h3 y hy
  rw [e] at q
  rw [hsc]
  simpa using q
theorem cscope {scope:Scope} (hk:scope.kind = .function) (h:(scope.names.all fun y=>y.2 != NameKind.cell && (y.2 != NameKind.local || scope.names.lookup y.1 == some NameKind.local)) = true):CScope scope:=by
 simp only [List.all_eq_true,Bool.and_eq_true] at h
 refine ⟨hk,fun y hy e=>?_,fun y hy e=>?_⟩
 ·have:=(h y hy).1
  rw [e] at this
  exact absurd this (by decide)
 ·have:=(h y hy).2
  rw [e] at this
  simpa using this
theorem bb_len:bootBuiltins "len" = some (.builtin "len"):=by decide +kernel
theorem bb_sum:bootBuiltins "sum" = some (.builtin "sum"):=by decide +kernel
theorem bb_min:bootBuiltins "min" = some (.builtin "min"):=by decide +kernel
theorem bb_max:bootBuiltins "max" = some (.builtin "max"):=by decide +kernel
theorem bb_sorted:bootBuiltins "sorted" = some (.builtin "sorted"):=by decide +kernel
theorem bb_isinstance:bootBuiltins "isinstance" = some (.builtin "isinstance"):=by decide +kernel
theorem bb_str:bootBuiltins "str" = some (.type "str"):=by decide +kernel
theorem bb_int:bootBuiltins "int" = some (.type "int"):=by decide +kernel
theorem bb_bool:bootBuiltins "bool" = some (.type "bool"):=by decide +kernel
theorem bb_list:bootBuiltins "list" = some (.type "list"):=by decide +kernel
theorem bb_tuple:bootBuiltins "tuple" = some (.type "tuple"):=by decide +kernel
theorem bb_set:bootBuiltins "set" = some (.type "set"):=by decide +kernel
inductive Ty where
 | bool | int | str | list | tuple
noncomputable def Ty.nm:Ty -> String
 | .bool => "bool" | .int => "int" | .str => "str" | .list => "list" | .tuple => "tuple"
noncomputable def Ty.isBl:Ty -> Bool
 | .bool=>true | .int=>true | _=>false
noncomputable def Ty.isInt:Ty -> Bool
 | .int=>true | _=>false
noncomputable def Ty.isStr:Ty -> Bool
 | .str=>true | _=>false
noncomputable def Ty.isLst:Ty -> Bool
 | .list=>true | _=>false
noncomputable def Ty.isTup:Ty -> Bool
 | .tuple=>true | _=>false
section
variable {K:Frag}
theorem kit_non (n:Ty):PySem.W.kitOne K (.type "NoneType") (.type n.nm) = some false:=by cases n <;> with_unfolding_all rfl
theorem kit_bl (n:Ty):PySem.W.kitOne K (.type "bool") (.type n.nm) = some n.isBl:=by cases n <;> with_unfolding_all rfl
theorem kit_int (n:Ty):PySem.W.kitOne K (.type "int") (.type n.nm) = some n.isInt:=by cases n <;> with_unfolding_all rfl
theorem kit_str (n:Ty):PySem.W.kitOne K (.type "str") (.type n.nm) = some n.isStr:=by cases n <;> with_unfolding_all rfl
theorem kit_lst (n:Ty):PySem.W.kitOne K (.type "list") (.type n.nm) = some n.isLst:=by cases n <;> with_unfolding_all rfl
theorem kit_tup (n:Ty):PySem.W.kitOne K (.type "tuple") (.type n.nm) = some n.isTup:=by cases n <;> with_unfolding_all rfl
end
section
variable {X:Cx} {a b e:Expr} {ta tb te:TE} {pos p p2:Pos}
theorem qe_ty {x:Str} {n:String} (hg:Gl X x) (hm:X.mg x = none) (hv:bootBuiltins x = some (.type n)) (hn:x ≠ "__name__" := by decide) (hd:(x == ("__debug__" : Str)) = false:=by decide):PE X (.Name x pos) (tC (.ty n)):=pe_bltn (v:=.ty n) hg hm hv rfl hn hd
noncomputable def cIsI (n:Ty) (ta:TE):TE:=fun σ H Q=>ta σ H fun x H1=>match x with
 | .non=>Q (.bl false) H1
 | .bl _=>Q (.bl n.isBl) H1
 | .int _=>Q (.bl n.isInt) H1
 | .str _=>Q (.bl n.isStr) H1
 | .ref p=>((∃ xs,H1 p = some (.lst xs)) /\ Q (.bl n.isLst) H1) \/ ((∃ xs,H1 p = some (.tup xs)) /\ Q (.bl n.isTup) H1)
 | _=>False
theorem qe_isinst {x:Str} (n:Ty) (hg:Gl X "isinstance") (hm:X.mg "isinstance" = none) (ha:PE X a ta) (hg2:Gl X x) (hm2:X.mg x = none) (hv2:bootBuiltins x = some (.type n.nm)) (hn2:x ≠ "__name__" := by decide) (hd2:(x == ("__debug__" : Str)) = false:=by decide)
  (hs:starEach [a,.Name x p2] X.env = (false,eval a X.env) :: starEach [.Name x p2] X.env:=by rfl) (hpl:(backTo pos (starEach [.Name x p2] X.env)).any (·.1) = false:=by rfl):PE X (.Call (.Name "isinstance" p) [a,.Name x p2] [] pos) (cIsI n ta):=
 (pe_callB call_isinst hg hm bb_isinstance (pa_cons ha.mono (pa_cons (qe_ty hg2 hm2 hv2 hn2 hd2) pa_nil) hs) (he:=hs) (hpl:=hpl)).imp fun σ H Q q=>⟨_,q,fun v H1 z=>by
  show ∃ x n t b,[v,V.ty _] = [x,.ty n] /\ TyOf X.K H1 x t /\ PySem.W.kitOne X.K t (.type n) = some b /\ Q (.bl b) H1
  split at z
  ·exact ⟨_,_,_,_,rfl,.non,kit_non n,z⟩
  ·exact ⟨_,_,_,_,rfl,.bl _,kit_bl n,z⟩
  ·exact ⟨_,_,_,_,rfl,.int _,kit_int n,z⟩
  ·exact ⟨_,_,_,_,rfl,.str _,kit_str n,z⟩
  ·rcases z with ⟨⟨xs,h⟩,z⟩ | ⟨⟨xs,h⟩,z⟩
   ·exact ⟨_,_,_,_,rfl,.lst h,kit_lst n,z⟩
   ·exact ⟨_,_,_,_,rfl,.tup h,kit_tup n,z⟩
  ·exact z.elim⟩
noncomputable def kSl (K:Frag):V -> Option Int -> Option Int -> Hp -> VK -> Prop:=fun x lo hi H Q=>match x with
 | .str z=>match lo,hi with
  | none,some j=>z.cps.toList.length <= 100000 /\ 0 <= j /\ j <= z.cps.toList.length /\ Q (.str (st (z.cps.toList.take j.toNat))) H
  | some i,none=>z.cps.toList.length <= 100000 /\ 0 <= i /\ i <= z.cps.toList.length /\ Q (.str (st (z.cps.toList.drop i.toNat))) H
  | _,_=>False
 | .ref a=>∃ xs,SqL K H a xs /\ ∀ p,H p = none -> Q (.ref p) (upd H p (.lst (cutV xs lo hi)))
 | _=>False
theorem sl_K:SlR X (kSl X.K):=by
 refine (SlR.or sl_str sl_list).imp fun x lo hi H Q q=>?_
 unfold kSl at q
 split at q
 ·rename_i z
  split at q
  ·obtain ⟨h,h0,h1,q⟩:=q
   rename_i j
   obtain ⟨k,rfl⟩:∃ k:Nat,j = k:=⟨j.toNat,by omega⟩
   refine .inl ⟨z,rfl,by rw [strlen]; exact Nat.le_trans h big5,?_⟩
   have e:=slice_to z.cps.toList k (by omega)
   rw [st_eta] at e
   rw [e]
   simpa using q
  ·obtain ⟨h,h0,h1,q⟩:=q
   rename_i j
   obtain ⟨k,rfl⟩:∃ k:Nat,j = k:=⟨j.toNat,by omega⟩
   refine .inl ⟨z,rfl,by rw [strlen]; exact Nat.le_trans h big5,?_⟩
   have e:=slice_from z.cps.toList k (by omega)
   rw [st_eta] at e
   rw [e]
   simpa using q
  ·exact q.elim
 ·obtain ⟨xs,h,q⟩:=q
  exact .inr ⟨_,_,rfl,h,q⟩
 ·exact q.elim
noncomputable def kEqNil (K:Frag):R2:=fun x y H Q=>match x,y with
 | .ref a,.ref b=>∃ xs,SqL K H a xs /\ SqL K H b [] /\ Q (.bl (decide (xs = []))) H
 | _,_=>False
theorem op_eqL (hu:X.A.units < cLine):OpR X (compareOp .Eq) (kEqNil X.K):=(op_eq_nil hu).imp fun x y H Q q=>by
 unfold kEqNil at q
 split at q
 ·obtain ⟨xs,h1,h2,q⟩:=q
  exact ⟨_,_,_,rfl,rfl,h1,h2,q⟩
 ·exact q.elim
theorem hu1 {k:Nat} {A:Around} (hr:Room k A):A.units < cLine:=hr.units0
end
section
variable {X:Cx} {a b e:Expr} {ta tb te:TE} {pos p apos cpos:Pos}
theorem ixE (K:Frag) (h:X.K = K):IxR X (kIx K):=by subst h; exact ix_K
theorem slE (K:Frag) (h:X.K = K):SlR X (kSl K):=by subst h; exact sl_K
theorem lenE (K:Frag) (h:X.K = K):CallR X (.builtin "len") (kLen K):=by subst h; exact call_lenK
theorem notinE (K:Frag) (h:X.K = K):OpR X (compareOp .NotIn) (kIn K true):=by subst h; exact op_notinK
theorem eqNilE (K:Frag) (h:X.K = K) (hu:X.A.units < cLine):OpR X (compareOp .Eq) (kEqNil K):=by subst h; exact op_eqL hu
theorem joinE (K:Frag) (h:X.K = K) {j:Nat} {p1:Pos} (he:PE X e te) (hfew:((backTo cpos (starEach [e] X.env)).all (fun x=>!x.1) && (backToKw cpos (keywordEach [] X.env)).all (fun x=>x.1.isSome)
   && decide ([e].length + ([]:List Keyword).length + (if ([]:List Keyword).isEmpty then 0 else 1) < 30)) = true:=by rfl)
  (hline:(apos.endLine == cpos.line) = true:=by rfl) (hs:starEach [e] X.env = (false,eval e X.env) :: starEach [] X.env:=by rfl) (hplain:(backTo cpos (starEach [] X.env)).any (·.1) = false:=by rfl)
  (hbase:attributeBase (.Constant (.str (Str.ofString "")) j p1) "join" X.env (eval (.Constant (.str (Str.ofString "")) j p1) X.env) = eval (.Constant (.str (Str.ofString "")) j p1) X.env:=by rfl):
  PE X (.Call (.Attribute (.Constant (.str (Str.ofString "")) j p1) "join" apos) [e] [] cpos) (cJoin1 K te):=by subst h; exact qe_join1 he hfew hline hs hplain hbase
theorem iterE (K:Frag) (h:X.K = K) {tg:Expr} (he:PE X e te):PI X tg e (cIter K te):=by subst h; exact qi_iter he
theorem zipE (K:Frag) (h:X.K = K) {elts:List Expr} {kk:Nat} {tpos:Pos} (hg:Gl X "zip") (hm:X.mg "zip" = none) (ha:PE X a ta) (hb:PE X b tb) (hs:starEach [a,b] X.env = [(false,eval a X.env),(false,eval b X.env)]:=by rfl) (hs2:starEach [b] X.env = [(false,eval b X.env)]:=by rfl):
  PI X (.Tuple elts kk tpos) (.Call (.Name "zip" p) [a,b] [] pos) (cZip K ta tb):=by subst h; exact qi_zip hg hm ha hb hs hs2
theorem tupE (K:Frag) (h:X.K = K) {es:List Expr} {k:Nat} {t:TGs} {n:Nat} (hc:X.calm = true) (hp:PGs X es t) (hn:(assignEach es X.env).length = n:=by rfl) (hst:(assignEach es X.env).findIdx? (·.1) = none:=by rfl):PG X (.Tuple es k pos) (gTup K n t):=by subst h; exact pg_tup hc hp hn hst
end
section
variable {t u:TS} {te ta tb:TE} {tc:TT} {D:Ends} {σ:St} {H:Hp} {Q:VK} {R:Bool -> Hp -> Prop} {i:Nat} {v:V}
theorem a_cVar:cVar i σ H Q = (match σ[i]? with | some (some v)=>Q v H | _=>False):=rfl
theorem a_tC:tC v σ H Q = Q v H:=rfl
theorem a_tOp {r:R2}:tOp r ta tb σ H Q = ta σ H fun x H1=>tb σ H1 fun y H2=>r x y H2 Q:=rfl
theorem a_kAddI {a b:Int}:kAdd (.int a) (.int b) H Q = Q (.int (a + b)) H:=rfl
theorem a_kAddS {a b:List Nat}:kAdd (.str (st a)) (.str (st b)) H Q = (a.length + b.length <= 100000 /\ Q (.str (st (a ++ b))) H):=rfl
theorem a_kAddL {a b:Addr}:kAdd (.ref a) (.ref b) H Q = ∃ xs zs,H a = some (.lst xs) /\ H b = some (.lst zs) /\ xs.length + zs.length <= sizeLine /\ ∀ p,H p = none -> Q (.ref p) (upd H p (.lst (xs ++ zs))):=rfl
theorem a_kI {C:Int -> Int -> Prop} {g:Int -> Int -> V} {a b:Int}:kI C g (.int a) (.int b) H Q = (C a b /\ Q (g a b) H):=rfl
theorem a_kI0 {g:Int -> Int -> V} {a b:Int}:kI0 g (.int a) (.int b) H Q = Q (g a b) H:=rfl
theorem a_kMulI {a b:Int}:kMul (.int a) (.int b) H Q = (CMul a b /\ Q (.int (a * b)) H):=rfl
theorem a_kMulS {c:Nat} {n:Int}:kMul (.str (st [c])) (.int n) H Q = (0 <= n /\ n <= 10000 /\ Q (.str (st (List.replicate n.toNat c))) H):=by
 show (∃ d,[c] = [d] /\ 0 <= n /\ n <= 10000 /\ Q (.str (st (List.replicate n.toNat d))) H) = _
 refine propext ⟨?_,fun h=>⟨c,rfl,h⟩⟩
 rintro ⟨d,e,h⟩
 cases e
 exact h
theorem a_kEqI {n:Bool} {a b:Int}:kEq n (.int a) (.int b) H Q = Q (.bl (n ^^ decide (a = b))) H:=rfl
theorem a_kEqS {n:Bool} {a b:List Nat}:kEq n (.str (st a)) (.str (st b)) H Q = Q (.bl (n ^^ decide (a = b))) H:=rfl
theorem a_kEqB {n:Bool} {a b:Bool}:kEq n (.bl a) (.bl b) H Q = Q (.bl (n ^^ decide (a = b))) H:=rfl
theorem a_kEqNS {n:Bool} {b:Str}:kEq n .non (.str b) H Q = Q (.bl (n ^^ false)) H:=rfl
theorem a_kEqSN {n:Bool} {b:Str}:kEq n (.str b) .non H Q = Q (.bl (n ^^ false)) H:=rfl
theorem a_kEqNN {n:Bool}:kEq n .non .non H Q = Q (.bl (n ^^ true)) H:=rfl
theorem a_kIs {n:Bool} {x:V}:kIs n x .non H Q = Q (.bl (n ^^ decide (x = .non))) H:=rfl
theorem a_kInS {K:Frag} {n:Bool} {c:Nat} {b:List Nat}:kIn K n (.str (st [c])) (.str (st b)) H Q = Q (.bl (n ^^ decide (c ∈ b))) H:=by
 show (∃ d,[c] = [d] /\ Q (.bl (n ^^ decide (d ∈ b))) H) = _
 refine propext ⟨?_,fun h=>⟨c,rfl,h⟩⟩
 rintro ⟨d,e,h⟩
 cases e
 exact h
theorem a_kInL {K:Frag} {n:Bool} {x:V} {p:Addr}:kIn K n x (.ref p) H Q = ∃ xs,(SqL K H p xs \/ SqT K H p xs) /\ flatV x = true /\ xs.all flatV = true /\ Q (.bl (n ^^ inV x xs)) H:=by
 cases x <;> rfl
theorem a_kIxS {K:Frag} {l:List Nat} {j:Int}:kIx K (.str (st l)) (.int j) H Q = (l.length <= 100000 /\ ∃ c,atI l j = some c /\ Q (.str (st [c])) H):=rfl
theorem a_kIxL {K:Frag} {p:Addr} {j:Int}:kIx K (.ref p) (.int j) H Q = ∃ xs v,(SqL K H p xs \/ SqT K H p xs) /\ atI xs j = some v /\ Q v H:=rfl
theorem a_kLenS {K:Frag} {l:List Nat}:kLen K [.str (st l)] H Q = (l.length <= 100000 /\ Q (.int l.length) H):=rfl
theorem a_kLenL {K:Frag} {p:Addr}:kLen K [.ref p] H Q = ∃ ys,(SqL K H p ys \/ SqT K H p ys) /\ Q (.int ys.length) H:=rfl
theorem a_kSlTo {K:Frag} {l:List Nat} {j:Int}:kSl K (.str (st l)) none (some j) H Q = (l.length <= 100000 /\ 0 <= j /\ j <= l.length /\ Q (.str (st (l.take j.toNat))) H):=rfl
theorem a_kSlFrom {K:Frag} {l:List Nat} {j:Int}:kSl K (.str (st l)) (some j) none H Q = (l.length <= 100000 /\ 0 <= j /\ j <= l.length /\ Q (.str (st (l.drop j.toNat))) H):=rfl
theorem a_kSlL {K:Frag} {p:Addr} {lo hi:Option Int}:kSl K (.ref p) lo hi H Q = ∃ xs,SqL K H p xs /\ ∀ q,H q = none -> Q (.ref q) (upd H q (.lst (cutV xs lo hi))):=rfl
theorem a_tSl {r:V -> Option Int -> Option Int -> Hp -> VK -> Prop} {tl th:TO}:tSl r te tl th σ H Q = te σ H fun x H1=>tl σ H1 fun l H2=>th σ H2 fun u H3=>r x l u H3 Q:=rfl
theorem a_tNoPart {Q:Option Int -> Hp -> Prop}:tNoPart σ H Q = Q none H:=rfl
noncomputable def cPart (t:TE):TO:=fun σ H Q=>t σ H fun x H1=>match x with | .int i=>Q (some i) H1 | _=>False
theorem a_cPart {Q:Option Int -> Hp -> Prop}:cPart te σ H Q = te σ H fun x H1=>match x with | .int i=>Q (some i) H1 | _=>False:=rfl
theorem a_kEqNil {K:Frag} {a b:Addr}:kEqNil K (.ref a) (.ref b) H Q = ∃ xs,SqL K H a xs /\ SqL K H b [] /\ Q (.bl (decide (xs = []))) H:=rfl
theorem a_cIsI {n:Ty}:cIsI n ta σ H Q = ta σ H fun x H1=>match x with
 | .non=>Q (.bl false) H1
 | .bl _=>Q (.bl n.isBl) H1
 | .int _=>Q (.bl n.isInt) H1
 | .str _=>Q (.bl n.isStr) H1
 | .ref p=>((∃ xs,H1 p = some (.lst xs)) /\ Q (.bl n.isLst) H1) \/ ((∃ xs,H1 p = some (.tup xs)) /\ Q (.bl n.isTup) H1)
 | _=>False:=rfl
theorem a_cTest:cTest te σ H R = te σ H (blK R):=rfl
theorem a_blK {b:Bool}:blK R (.bl b) H = R b H:=rfl
theorem a_cAndV:cAndV ta tb σ H Q = ta σ H (blK fun c H1=>if c = true then tb σ H1 Q else Q (.bl false) H1):=rfl
theorem a_tAnd {t u:TT}:tAnd t u σ H R = t σ H fun c H1=>if c = true then u σ H1 R else R false H1:=rfl
theorem a_tOr {t u:TT}:tOr t u σ H R = t σ H fun c H1=>if c = true then R true H1 else u σ H1 R:=rfl
theorem a_tNot {t:TT}:tNot t σ H R = t σ H fun c H1=>R (!c) H1:=rfl
theorem a_tYes:tYes σ H R = R true H:=rfl
theorem a_cApp:cApp ta te σ H Q = ta σ H fun x H1=>match x with
 | .ref l=>(∃ xs,H1 l = some (.lst xs)) /\ te σ H1 fun y H2=>∃ xs,H2 l = some (.lst xs) /\ xs.length < sizeLine /\ Q .non (upd H2 l (.lst (xs ++ [y])))
 | _=>False:=rfl
theorem a_cJoin1 {K:Frag}:cJoin1 K te σ H Q = te σ H fun x H1=>match x with
 | .ref l=>∃ cs:List Nat,SqL K H1 l (cs.map fun k=>V.str (st [k])) /\ cs.length <= 10000 /\ Q (.str (st cs)) H1
 | _=>False:=rfl
theorem a_tNil {R:List V -> Hp -> Prop}:tNil σ H R = R [] H:=rfl
theorem a_tCons {t:TA} {R:List V -> Hp -> Prop}:tCons ta t σ H R = ta σ H fun x H1=>t σ H1 fun xs H2=>R (x :: xs) H2:=rfl
theorem a_tCall {sp:Sp} {E:XK} {t:TA}:tCall sp [] E t σ H Q = t σ H fun vs H1=>sp vs H1 Q E:=by
 unfold tCall
 simp only [List.append_nil]
theorem a_tCB {r:List V -> Hp -> VK -> Prop} {t:TA}:tCB r t σ H Q = t σ H fun vs H1=>r vs H1 Q:=rfl
theorem a_tLst {t:TA}:tLst t σ H Q = t σ H fun xs H1=>xs.length <= sizeLine /\ ∀ p,H1 p = none -> Q (.ref p) (upd H1 p (.lst xs)):=rfl
theorem a_tTup {t:TA}:tTup t σ H Q = t σ H fun xs H1=>xs.length <= sizeLine /\ ∀ p,H1 p = none -> Q (.ref p) (upd H1 p (.tup xs)):=rfl
theorem a_tNext:tNext D σ H = D.nx σ H:=rfl
theorem a_tSeq:tSeq t u D σ H = t { D with nx:=u D } σ H:=rfl
theorem a_tDrop:tDrop te D σ H = te σ H fun _ H1=>D.nx σ H1:=rfl
theorem a_tRet:tRet te D σ H = te σ H D.rt:=rfl
theorem a_tIfS:tIfS tc t u D σ H = tc σ H fun b H1=>if b = true then t D σ H1 else u D σ H1:=rfl
theorem a_tAsg {g:TG}:tAsg te g D σ H = te σ H fun x H1=>g x σ H1 D.nx:=rfl
theorem a_gName {R:St -> Hp -> Prop}:gName i v σ H R = R (σ.set i (some v)) H:=rfl
theorem a_tJoin:tJoin t u D σ H = ∃ J:St -> Hp -> Prop,t { D with nx:=J } σ H /\ ∀ σ' H',J σ' H' -> u D σ' H':=rfl
theorem a_cFor {wi:TI} {g:TG}:cFor wi g t D σ H = wi σ H fun J H1=>loopW J g t D σ H1:=rfl
theorem a_cIter {K:Frag} {R:It -> Hp -> Prop}:cIter K te σ H R = te σ H fun x H1=>match x with
 | .str z=>R (Its z) H1
 | .ref a=>((∃ xs,SqL K H1 a xs) /\ R (Itl K a) H1) \/ ((∃ xs,SqT K H1 a xs) /\ R (Itt K a) H1)
 | _=>False:=rfl
theorem a_cRng1 {R:It -> Hp -> Prop}:cRng1 te σ H R = te σ H fun x H1=>match x with
 | .int j=>-1000000 <= j /\ j <= 1000000 /\ R (Itr 0 j.toNat) H1
 | _=>False:=rfl
theorem a_cZip {K:Frag} {R:It -> Hp -> Prop}:cZip K ta tb σ H R = ta σ H fun x H1=>tb σ H1 fun y H2=>srcK K H2 x fun S1=>srcK K H2 y fun S2=>R (Itz K S1 S2) H2:=rfl
theorem a_srcKS {K:Frag} {z:Str} {R:Src -> Prop}:srcK K H (.str z) R = R (.str z):=rfl
theorem a_srcKL {K:Frag} {p:Addr} {R:Src -> Prop}:srcK K H (.ref p) R = ((∃ xs,SqL K H p xs) /\ R (.lst p)):=rfl
theorem a_cComp {nt:Nat} {fi:List Nat} {wi:TI} {g:TG}:cComp nt fi wi g tc te σ H Q = wi σ H fun J H1=>∀ D,H1 D = none -> compW J g tc te (compσ nt fi σ) D Q H1:=rfl
end
theorem a_cxK {CX:CXT} {P:Program} {w:World} {K:Frag} {mg:Str -> Option Value} {base:Heap} {N:List Str} {qual:Str} {scope:Scope} {f:Addr} {cd:Value} {A:Around} {outer:List Env} {s:Shared} {H:Hp} {E:XK}:(cxOf CX P w K mg base N qual scope f cd A outer s H E).K = K:=rfl
theorem a_cxCK {X:Cx} {scope:Scope} {cl:List (Str × Addr)} {N':List Str} {C:Addr} {s:Shared} {H:Hp} {ex:List Addr}:(cxC X scope cl N' C s H ex).K = X.K:=rfl
theorem a_one {a b:Nat}:(([a]:List Nat) = [b]) = (a = b):=by simp
theorem qo_some {X:Cx} {e:Expr} {te:TE} (h:PE X e te):PO X (some e) (cPart te):=fun pins s σ H Q I q=>po_some h.mono pins s σ H Q I ⟨_,q,fun v H1 z=>by
 split at z
 ·exact ⟨_,rfl,z⟩
 ·exact z.elim⟩
end L2
namespace Mir
open PySem L2
noncomputable def cell (ns:List Int) (k:Nat):Int:=(ns[k]?).getD 0
noncomputable def num (c:Int):Nat -> Int
 | 0=>c % 2147483647 + 1
 | i + 1=>(num c i * 48271 + 7 * (i:Int) * (i:Int) + 3) % 2147483647
noncomputable def stream (c:Int) (n:Nat):List Int:=(List.range n).map fun i=>num c (i + 1) / 16
noncomputable def bit (m:Int):Nat:=if m % 2 = 0 then 48 else 49
noncomputable def rowSign (l e:Int):Nat:=if e % l > 0 then 45 else bit (e / 64)
noncomputable def row (c:Int) (w:Nat) (l:Int):List Nat:=(stream c w).map (rowSign l)
noncomputable def within (one other:List Nat):Bool:=(one.zip other).all fun p=>p.2 == 45 || p.2 == p.1
end Mir
namespace L2
open PySem PySem.Spec PyProof.Rows
theorem z_pos {K:Params -> Frag} {as:List Addr} {n t:Nat} {w:World} {s:Shared} (y:PySem.W.X.obsZ as s = PySem.W.X.valZ K n t w) (e:∀ P,as = (K P).map (·.1)) (ht:0 < t):(K w.params).In s.heap /\ 0 < s.toks:=by
 obtain ⟨_,h,_,q⟩:=PySem.W.X.z_facts e y
 exact ⟨h,by rw [q]; exact ht⟩
section
variable {prog:Program} {w:World} {A:Around} {E:Value -> Shared -> Prop} {s:Shared}
theorem IsList.extBut' {h h':Heap} {a l:Addr} {items:Array Value} (hl:h.IsList l items) (he:Heap.ExtBut a h h') (hne:l ≠ a):h'.IsList l items:=by
 obtain ⟨o,ho,r⟩:=hl
 exact ⟨o,he l o hne ho,r⟩
theorem draw_mid {it t:Addr} {items:Array Value} (apart:t ≠ it):∀ (mid front back:List Value) (s:Shared) (Q:List Value -> Shared -> Prop),items.toList = front ++ (mid ++ back) -> s.heap.IsListIter it t front.length -> s.heap.IsList t items ->
  (∀ g:Heap,g.IsListIter it t (front.length + mid.length) -> Heap.SameBut it s.heap g -> Q mid { s with heap:=g }) -> wpAny (model prog w) A (draw (.ref it) mid.length) Q E s
 | [],front,_,s,Q,_,at0,_,k=>wpAny_pure (k s.heap at0 (Heap.SameBut.refl ..))
 | x :: mid,front,back,s,Q,e,at0,il,k=>by
  have here:items[front.length]? = some x:=by
   rw [<- Array.getElem?_toList,e,List.getElem?_append_right (Nat.le_refl _),Nat.sub_self]
   rfl
  refine wpAny_bind (m:=pyNext (.ref it)) (wpAny_pyNext_list_item at0 il here fun g1 at1 t1=>?_)
  refine wpAny_bind (wpAny_holding (draw_mid apart mid (front ++ [x]) back _ _ (by rw [e]; simp) (by rw [List.length_append]; exact at1) (IsList.extBut' il t1.extBut apart) fun g2 at2 t2=>wpAny_pure (k g2 ?_ (t1.trans t2))))
  have sum:(front ++ [x]).length + mid.length = front.length + (x :: mid).length:=by
   simp only [List.length_append,List.length_cons,List.length_nil]
   omega
  rw [sum] at at2
  exact at2
theorem unpackItems_list {t:Addr} {items:Array Value} {Q:List Value -> Shared -> Prop} (hh:A.handled = none) (ht:s.heap.IsList t items)
  (k:∀ g,Heap.ExtBut s.heap.objs.size s.heap g -> Q items.toList { s with heap:=g }):wpAny (model prog w) A (unpackItems (.ref t) items.size none) Q E s:=by
 have below:t ≠ s.heap.objs.size:=Nat.ne_of_lt (let ⟨_,q,_⟩:=ht; Heap.lt_size q)
 have still:(s.heap.push { cls:=.type "list_iterator",data:=.fields #[.ref t,.int 0 0] }).IsList t items:=let ⟨o,q,r⟩:=ht; ⟨o,Heap.get?_push_of_some _ q,r⟩
 unfold unpackItems notIterableAtAll
 refine wpAny_bind (wpAny_bind (wpAny_specialOf ht.typeIs slot_list_iter.lookup (wpAny_pure ?_)))
 rw [if_neg (by decide)]
 refine wpAny_bind (wpAny_holding (wpAny_pyIter_list ht ?_))
 have whole:=draw_mid (prog:=prog) (w:=w) (A:=A) (E:=E) (items:=items) below items.toList [] [] { s with heap:=s.heap.push { cls:=.type "list_iterator",data:=.fields #[.ref t,.int 0 0] } }
 rw [Array.length_toList] at whole
 refine wpAny_bind (wpAny_holding (whole _ (by simp) ⟨_,Heap.get?_push_size _ rfl,rfl,rfl⟩ still fun g1 at1 t1=>?_))
 rw [if_neg (by simp)]
 refine wpAny_bind (wpAny_holding (wpAny_pyNext_list_end hh at1 (IsList.extBut' still t1.extBut below) (by simp) fun g2 t2=>?_))
 rw [if_neg (by simp)]
 exact wpAny_pure (k g2 fun b o nb q=>t2 b o nb (t1.extBut b o nb (Heap.get?_push_of_some _ q)))
theorem assign_Tuple_list {env:Env} {elts:List Expr} {x1} {pos:Pos} {t:Addr} {items:Array Value} {Q:Unit -> Shared -> Prop} (hh:A.handled = none) (ht:s.heap.IsList t items)
  (hn:(assignEach elts env).length = items.size) (hstar:(assignEach elts env).findIdx? (·.1) = none)
  (h:∀ h',Heap.ExtBut s.heap.objs.size s.heap h' -> wpAny (model prog w) A (assignInOrder ((assignEach elts env).map (·.2)) items.toList) Q E { s with heap:=h' }):
  wpAny (model prog w) A (assign (.Tuple elts x1 pos) env (.ref t)) Q E s:=by
 rw [assign_Tuple]
 refine wpAny_bind (wpAny_standAt ?_)
 unfold unpack
 rw [hn,hstar]
 exact wpAny_bind (wpAny_holding (unpackItems_list hh ht h))
end
section
variable {X:Cx} {pos:Pos}
noncomputable def gSeq (K:Frag) (n:Nat) (t:TGs):TG:=fun v σ H Q=>match v with
 | .ref a=>∃ xs,(SqL K H a xs \/ SqT K H a xs) /\ xs.length = n /\ t xs σ H Q
 | _=>False
theorem seqE (K:Frag) (hK:X.K = K) {es:List Expr} {k:Nat} {t:TGs} {n:Nat} (hc:X.calm = true) (h:PGs X es t)
  (hn:(assignEach es X.env).length = n:=by rfl) (hst:(assignEach es X.env).findIdx? (·.1) = none:=by rfl):PG X (.Tuple es k pos) (gSeq K n t):=by
 subst hK
 intro pins s σ H v u Q I r hw
 unfold gSeq at hw
 split at hw
 ·rename_i a
  obtain ⟨xs,hq,hl,hw⟩:=hw
  rcases hq with hq | hq
  ·cases r
   obtain ⟨its,rv,ht,hz⟩:=I.list hq
   refine assign_Tuple_list (I.ok.hd hc) ht.isList (by simp [hn,<- hl,rv.length]) hst fun h' hx=>?_
   have I1:Inv X pins σ H { s with heap:=h' }:=I.kept (t':=s.toks) fun b o e=>hx b o (Nat.ne_of_lt (Heap.lt_size e)) e
   exact h pins _ σ H xs _ Q I1 (by simpa using rv) hw
  ·exact pg_tup hc h hn hst pins s σ H _ u Q I r ⟨_,xs,rfl,hq,hl,hw⟩
 ·exact hw.elim
end
section
variable {t:TG} {u:TGs} {σ:St} {H:Hp} {Q:St -> Hp -> Prop} {v:V} {r:List V} {K:Frag} {n:Nat} {p:Addr}
theorem a_gCons:gCons t u (v :: r) σ H Q = t v σ H fun σ' H'=>u r σ' H' Q:=by
 refine propext ⟨?_,fun h=>⟨v,r,rfl,h⟩⟩
 rintro ⟨v',r',e,h⟩
 cases e
 exact h
theorem a_gNil:gNil [] σ H Q = Q σ H:=propext ⟨fun h=>h.2,fun h=>⟨rfl,h⟩⟩
theorem a_gSeq:gSeq K n u (.ref p) σ H Q = ∃ xs,(SqL K H p xs \/ SqT K H p xs) /\ xs.length = n /\ u xs σ H Q:=rfl
end
noncomputable def rep (c d:Nat) (l:List Nat):List Nat:=l.map fun k=>if k = c then d else k
section
variable {X:Cx} {o e:Expr} {to te:TE} {apos cpos p1 p2:Pos} {j1 j2:Nat}
noncomputable def kList (K:Frag):List V -> Hp -> VK -> Prop:=fun xs H Q=>match xs with
 | [.str z]=>z.cps.toList.length <= 100000 /\ ∀ p,H p = none -> Q (.ref p) (upd H p (.lst (z.cps.toList.map fun c=>V.str (st [c]))))
 | [.ref a]=>∃ ys,(SqL K H a ys \/ SqT K H a ys) /\ ∀ p,H p = none -> Q (.ref p) (upd H p (.lst ys))
 | _=>False
theorem vals_signs {x:Str} {acc:Array Value} (h:ItemsOf (SignAt x) acc x.cps.size):Vals (x.cps.toList.map fun c=>V.str (st [c])) acc.toList:=by
 obtain ⟨hs,hi⟩:=h
 have key:∀ (l:List Nat) (us:List Value),l.length = us.length -> (∀ (j:Nat) (v:Value),us[j]? = some v -> ∃ (c:Nat) (u:Tok),l[j]? = some c /\ v = Value.str ⟨#[c]⟩ u) -> Vals (l.map fun c=>V.str (st [c])) us:=by
  intro l
  induction l with
  | nil=>
   intro us hl _
   cases us with
   | nil=>exact .nil
   | cons=>cases hl
  | cons a l ih=>
   intro us hl hq
   cases us with
   | nil=>cases hl
   | cons v us=>
    obtain ⟨c,u,e,rfl⟩:=hq 0 v rfl
    cases e
    exact .cons ⟨u,rfl⟩ (ih us (by simpa using hl) fun j w hj=>hq (j + 1) w hj)
 refine key _ _ (by simp [hs]) fun j v hj=>?_
 obtain ⟨c,u,e,rfl⟩:=hi j v (by simpa using hj)
 exact ⟨c,u,by simpa using e,rfl⟩
theorem call_listK (K:Frag) (hK:X.K = K) (hc:X.calm = true):CallR X (.type "list") (kList K):=by
 subst hK
 intro pins s σ H xs us Q I r q
 unfold kList at q
 split at q
 ·obtain ⟨hl,q⟩:=q
  rename_i z
  obtain ⟨u,rfl,t,rfl⟩:=vals1 r
  have hz:z.cps.size <= sizeLine:=by
   have:=big5
   simp only [Array.length_toList] at hl
   omega
  refine tokQ I.tk (call_list_str (I.ok.hd hc) z t (fun h' tk acc c' kp ho hi (htk:0 < tk)=>?_) hz)
  refine ⟨.ref s.heap.objs.size,_,I.laid (a:=s.heap.objs.size) (o:=.lst (z.cps.toList.map fun c=>V.str (st [c]))) kp (Nat.le_refl _) ⟨?_,acc.toList,c',vals_signs hi,by simpa using ho⟩,rfl,q _ I.fresh⟩
  rw [List.length_map]
  simpa using hz
 ·obtain ⟨ys,h,q⟩:=q
  exact call_list_of pins s σ H _ us Q I r ⟨_,ys,rfl,h,q⟩
 ·exact q.elim
theorem a_kListS {K:Frag} {l:List Nat} {H:Hp} {Q:VK}:kList K [.str (st l)] H Q = (l.length <= 100000 /\ ∀ p,H p = none -> Q (.ref p) (upd H p (.lst (l.map fun c=>V.str (st [c]))))):=rfl
theorem a_kListL {K:Frag} {a:Addr} {H:Hp} {Q:VK}:kList K [.ref a] H Q = ∃ ys,(SqL K H a ys \/ SqT K H a ys) /\ ∀ p,H p = none -> Q (.ref p) (upd H p (.lst ys)):=rfl
end
section
variable {X:Cx} {a:Expr} {ta:TE} {p pos:Pos}
end
section
variable {X:Cx}
noncomputable def kSum (K:Frag):List V -> Hp -> VK -> Prop:=fun xs H Q=>match xs with
 | [.ref p]=>∃ ns:List Int,SqL K H p (ns.map V.int) /\ Q (.int ns.sum) H
 | _=>False
theorem call_sumK (K:Frag) (hK:X.K = K) (hc:X.calm = true):CallR X (.builtin "sum") (kSum K):=by
 subst hK
 intro pins s σ H xs us Q I r q
 unfold kSum at q
 split at q
 ·obtain ⟨ns,hq,q⟩:=q
  obtain ⟨u,rfl,ru⟩:=vals1 r
  cases ru
  obtain ⟨its,rv,pl,_⟩:=I.list hq
  have hi:=intsAre_of rv
  obtain ⟨xs,e⟩:=hi.allInts.items
  have hn:=hi.numsOf
  refine tokQ I.tk (sum_intListG (I.ok.hd hc) (xs:=xs) (by rw [<- e]; exact pl.isList) fun h' tk t' kp (htk:0 < tk)=>?_)
  have e2:preSum (numAt xs) xs.size = ns.sum:=by
   rw [preSum_eq,List.take_of_length_le (by simp),<- nums_intItems,<- e]
   show (numsOf its).sum = ns.sum
   rw [hn]
  rw [e2]
  exact ⟨.int ns.sum,H,I.kept kp,⟨_,rfl⟩,q⟩
 ·exact q.elim
theorem a_kSum {K:Frag} {p:Addr} {H:Hp} {Q:VK}:kSum K [.ref p] H Q = ∃ ns:List Int,SqL K H p (ns.map V.int) /\ Q (.int ns.sum) H:=rfl
end
theorem tab_layNew (t:SetTable) (es:Array (Int × Value)) (h:Int) (x:Value):(layNew t es h x).2.1.led = t.led /\ (t.plain = false -> (layNew t es h x).2.1.plain = false):=by
 unfold layNew
 split
 ·rename_i slot wd e
  show ((t.put slot).1.orStandIn _).led = _ /\ (_ -> ((t.put slot).1.orStandIn _).plain = false)
  unfold SetTable.orStandIn
  split
  ·exact ⟨rfl,fun q=>q⟩
  ·exact ⟨rfl,fun _=>rfl⟩
 ·exact ⟨rfl,fun _=>rfl⟩
theorem tab_laid {mask finger moves:Nat} {led plain:Bool} {hs:Array Int} {r:SetTable × Array Nat} (h:SetTable.laid mask finger moves led plain hs = some r):r.1.led = led /\ r.1.plain = plain:=by
 unfold SetTable.laid at h
 cases q:SetTable.layClean mask hs with
 | none=>rw [q] at h; cases h
 | some ow=>
  rw [q] at h
  cases h
  exact ⟨rfl,rfl⟩
theorem tab_relay (t:SetTable) (es:Array (Int × Value)) (n:Nat):(relayAll t es n).2.1.led = t.led /\ (t.plain = false -> (relayAll t es n).2.1.plain = false):=by
 unfold relayAll
 split
 ·rename_i t' order e
  have q:=tab_laid e
  dsimp only
  split
  ·exact ⟨q.1,fun z=>q.2.trans z⟩
  ·exact ⟨rfl,fun _=>rfl⟩
 ·exact ⟨rfl,fun _=>rfl⟩
noncomputable def txtOf:Value -> Str
 | .str x _=>x
 | _=>⟨#[]⟩
def IsTexts (w:World) (h:Heap) (a:Addr) (led:Bool) (ss:List Str):Prop:=
 ∃ es ep t,h.get? a = some { cls:=.type "set",dict:=none,data:=.set es ep t,slots:=#[] } /\ (∀ e ∈ es.toList,∃ x u,e = (hashStr w x,Value.str x u)) /\
  (es.toList.map fun e=>txtOf e.2).Perm ss /\ t.fits es.size = true /\ t.led = led /\ (es.size ≠ 0 -> t.plain = false)
section
variable {prog:Program} {w:World} {A:Around} {E:Value -> Shared -> Prop} {s:Shared}
noncomputable def addT (ss:List Str) (x:Str):List Str:=if x ∈ ss then ss else ss ++ [x]
theorem set_put {a:Addr} {es es':Array (Int × Value)} {ep:Nat} {t t':SetTable} (ho:s.heap.get? a = some { cls:=.type "set",dict:=none,data:=.set es ep t,slots:=#[] }):
  (s.heap.update a (Obj.putSet es' t')).get? a = some { cls:=.type "set",dict:=none,data:=.set es' (ep + 1) t',slots:=#[] }:=
 Heap.get?_update_self (Obj.putSet es' t') ho rfl
end
noncomputable def dd (l:List Str):List Str:=l.foldl addT []
theorem IsTexts.at {w:World} {h h':Heap} {a:Addr} {led:Bool} {ss:List Str} (x:IsTexts w h a led ss) (k:∀ o,h.get? a = some o -> h'.get? a = some o):IsTexts w h' a led ss:=by
 obtain ⟨es,ep,t,ho,r⟩:=x
 exact ⟨es,ep,t,k _ ho,r⟩
section
variable {prog:Program} {w:World} {A:Around} {R:Result -> Shared -> Prop} {I:Addr} {fp wr:List Addr} {G:Array GenState -> Array GenState -> Prop} {n:Nat} {P:Nat -> Value -> Prop} {St:Nat -> Shared -> Prop}
end
noncomputable abbrev ledW (w:World):Bool:=!w.params.followText "set-order"
noncomputable abbrev setObj0 (w:World):Obj:={ cls:=.type "set",dict:=none,data:=.set #[] 0 (.fresh 0 0 (ledW w)) }
section
variable {prog:Program} {w:World} {A:Around} {E:Value -> Shared -> Prop} {s:Shared}
theorem new_texts (a:Value) {Q:Value -> Shared -> Prop} (h:Q (.ref s.heap.objs.size) { s with heap:=s.heap.push (setObj0 w) }):
  codeAny (model prog w) A (.call (.builtin "set.__new__") ⟨[.type "set",a],[]⟩) (wants Q E) s:=by
 refine codeAny_of_tree ?_
 show wpAny _ A.in1 (checkBuiltinCall "set.__new__" ⟨[.type "set",a],[]⟩ >>= fun _=>again (.builtin "set.__new__" ⟨[.type "set",a],[]⟩)) _ _ s
 refine wpAny_bind (wpAny_of_eq (PySem.F.newCall_set_1 a) (wpAny_pure ⟨plainId_quiet PySem.F.plain_set_new _,codeAny_builtin PySem.F.entry_set_new ?_⟩))
 rw [Around.under_plainId PySem.F.plain_set_new _]
 unfold Builtin.«set.__new__» Builtin.Frozenset.newClass
 have sb:=sub_set_self
 obtain ⟨hp,g,d,tk,os⟩:=s
 dsimp only
 wp_walk
 refine wpAny_askSetting (wpAny_pure ?_)
 dsimp only
 simp only [newObj]
 exact wpAny_bind (wpAny_alloc (wpAny_pure (wpAny_pure h)))
theorem set_by_halves {v:Value} {Q:Value -> Shared -> Prop}
  (h:∀ A₁:Around,A₁.handled = A.handled -> codeAny (model prog w) A₁ (.call (.builtin "set.__new__") ⟨[.type "set",v],[]⟩)
   (wants (fun made s₁=>(∃ b,made = .ref b) /\ s₁.TypeIs made "set" /\ ∀ A₂:Around,A₂.handled = A.handled -> codeAny (model prog w) A₂ (.call (.builtin "set.__init__") ⟨[made,v],[]⟩) (wants (fun r s₂=>r = .none /\ Q made s₂) E) s₁) E) s):
  wpAny (model prog w) A (call (.type "set") [v]) Q E s:=by
 have C:=PySem.F.called_set
 obtain ⟨_,_,hmro⟩:=C.mro
 have k1:=C.made
 have k2:=C.sub
 have k3:=C.notType
 have k4:=C.canCreate
 have k5:=PySem.F.typeCall_set_1 v
 apply wpAny_call
 apply codeAny_of_tree
 change wpAny _ _ (callAny (.type "set") _) _ _ _
 apply wpAny_pure
 refine ⟨Code.quiet_builtin _ (by decide +kernel),?_⟩
 apply codeAny_builtin PySem.F.entry_type_call
 rw [Around.under_plain (weight_type_call_type "set" [v] []) rfl]
 repeat (any_goals (first | assumption | wp_step))
 refine codeAny_mono (h A.in1 rfl) ?_
 intro r₁ s₁ g₁
 match r₁,g₁ with
 | .error _,g₁=>exact g₁
 | .ok (.ret made),⟨⟨b,eb⟩,hT,g⟩=>
  subst eb
  have k6:=C.init.lookup
  have k7:=C.init.bind (.ref b)
  repeat (any_goals (first | assumption | wp_step))
  refine codeAny_mono (g A.in1 rfl) ?_
  intro r₂ s₂ g₂
  match r₂,g₂ with
  | .error _,g₂=>exact g₂
  | .ok (.ret _),⟨e,q⟩=>
   subst e
   repeat (any_goals (first | assumption | wp_step))
end
theorem slot_setit_next:Slot "set_iterator" "__next__" "set_iterator.__next__":=
 .of (owner := "set_iterator") (n := "__next__") (by rw [typeLookup_type,builtinLookup_eq_fast]; kernel_rfl) (by decide +kernel) (by decide +kernel) (by decide +kernel) (by first | exact .inl (by decide +kernel) | exact .inr (by decide +kernel)) (by rw [isSubtype_type]; kernel_rfl)
theorem entry_setit_next:entryFor table "set_iterator.__next__" = some Builtin.«set_iterator.__next__»:=entryFor_of_tree (by kernel_rfl)
theorem args_setit_next (a:Value):argsOk "set_iterator.__next__" ⟨[a],[]⟩:=by unfold argsOk; kernel_rfl
theorem slot_setit_iter:Slot "set_iterator" "__iter__" "set_iterator.__iter__":=
 .of (owner := "set_iterator") (n := "__iter__") (by rw [typeLookup_type,builtinLookup_eq_fast]; kernel_rfl) (by decide +kernel) (by decide +kernel) (by decide +kernel) (by first | exact .inl (by decide +kernel) | exact .inr (by decide +kernel)) (by rw [isSubtype_type]; kernel_rfl)
theorem entry_set_iter:entryFor table "set.__iter__" = some Builtin.«frozenset.__iter__»:=
 entryFor_alias (id' := "frozenset.__iter__") (by kernel_rfl) rfl (by decide +kernel) (by kernel_rfl)
theorem perm_erase {α:Type}:∀ {l:List α} {i:Nat} (hi:i < l.length),(l[i] :: l.eraseIdx i).Perm l
 | _ :: _,0,_=>List.Perm.refl _
 | x :: l,i + 1,hi=>by
  have:=perm_erase (l:=l) (i:=i) (Nat.lt_of_succ_lt_succ hi)
  simp only [List.getElem_cons_succ,List.eraseIdx_cons_succ]
  exact (List.Perm.swap x _ _).trans (List.Perm.cons x this)
section
variable {M:Model} {A:Around} {E:Value -> Shared -> Prop}
theorem any_choose {src:Source} {n:Nat} {s:Shared} {Q:Nat -> Shared -> Prop} (hn:n ≠ 0) (h:∀ i d,i < n -> Q i { s with drawn:=d }):wpAny M A (choose src n) Q E s:=fun Γ p _=>by
 unfold choose
 rw [Sem.wp_choose]
 exact ⟨hn,h _ _ (Nat.mod_lt _ (Nat.pos_of_ne_zero hn))⟩
theorem draw_order {α:Type}:∀ (n:Nat) (xs:List α) (s:Shared) (Q:List α -> Shared -> Prop),xs.length = n -> (∀ ys d,ys.Perm xs -> Q ys { s with drawn:=d }) -> wpAny M A (drawOrder n xs) Q E s:=by
 intro n
 induction n with
 | zero=>
  intro xs s Q hl h
  rw [List.length_eq_zero_iff] at hl
  subst hl
  exact wpAny_pure (h [] s.drawn (List.Perm.refl _))
 | succ n ih=>
  intro xs s Q hl h
  obtain ⟨x,xs,rfl⟩:=List.exists_cons_of_length_eq_add_one hl
  unfold drawOrder
  refine wpAny_bind (any_choose (by simp) fun i d hi=>?_)
  have hg:(x :: xs)[i]? = some (x :: xs)[i]:=List.getElem?_eq_getElem hi
  rw [hg]
  refine wpAny_bind (ih _ _ _ ?_ fun ys d' hp=>wpAny_pure (h _ d' ?_))
  ·rw [List.length_eraseIdx_of_lt hi]
   simpa using hl
  ·exact (List.Perm.cons _ hp).trans (perm_erase hi)
end
theorem pick_go {α:Type} (f:Nat -> Nat):∀ (n k:Nat) (l:List α) (out:Array α),l.length = n -> (pickOrder.go f n k l out).toList.Perm (out.toList ++ l)
 | 0,_,[],out,_=>by simp [pickOrder.go]
 | n + 1,k,x :: l,out,hl=>by
  unfold pickOrder.go
  have hi:f k % (x :: l).length < (x :: l).length:=Nat.mod_lt _ (by simp)
  rw [List.getElem?_eq_getElem hi]
  refine (pick_go f n (k + 1) _ _ ?_).trans ?_
  ·rw [List.length_eraseIdx_of_lt hi]
   simpa using hl
  ·rw [Array.toList_push,List.append_assoc]
   exact List.Perm.append_left _ (perm_erase hi)
theorem pick_perm {α:Type} (f:Nat -> Nat) (xs:Array α):(pickOrder f xs).toList.Perm xs.toList:=by
 unfold pickOrder
 exact (pick_go f xs.size 0 xs.toList #[] (by simp)).trans (by simp)
section
variable {prog:Program} {w:World} {A:Around} {E:Value -> Shared -> Prop} {s:Shared}
theorem raise_stop {α:Type} {Q:α -> Shared -> Prop} (hh:A.handled = none)
  (h:∀ h' e,(∀ b o,s.heap.get? b = some o -> h'.get? b = some o) -> (∃ o,h'.get? e = some o /\ o.cls = .type "StopIteration") -> E (.ref e) { s with heap:=h' }):
  wpAny (model prog w) A (newExc (.type "StopIteration") [] >>= fun e=>(raiseNew e:Sem α)) Q E s:=by
 refine wpAny_bind ?_
 simp only [newExc,newTuple]
 refine wpAny_bind (wpAny_newObj_type ?_ (by size_fits))
 refine wpAny_bind (m:=firstArgMember _ _) (wpAny_of_eq (a:=Value.none) (by first | rfl | (simp only [firstArgMember]; rfl)) ?_)
 refine wpAny_newObj_type ?_ (by size_fits)
 simp only [raiseNew]
 refine wpAny_bind (wpAny_handled ?_)
 rw [hh]
 exact wpAny_bind (wpAny_pure (wpAny_throw (h _ _ (fun b o e=>Heap.get?_push_of_some _ (Heap.get?_push_of_some _ e)) ⟨_,Heap.get?_push_size _ rfl,rfl⟩)))
noncomputable abbrev itObj (first:Value) (i:Nat) (a:Addr) (n ep:Nat):Obj:={ cls:=.type "set_iterator",dict:=none,data:=.fields #[first,.int i 0,.ref a,.int n 0,.int ep 0],slots:=#[] }
noncomputable abbrev setObj (es:Array (Int × Value)) (ep:Nat) (t:SetTable):Obj:={ cls:=.type "set",dict:=none,data:=.set es ep t,slots:=#[] }
theorem pyNext_set {it:Addr} {o:Obj} {Q:Option Value -> Shared -> Prop} (hz:s.heap.get? it = some o) (hc:o.cls = .type "set_iterator")
  (h:wpAny (model prog w) A.in1 (Builtin.«set_iterator.__next__» ⟨[.ref it],[]⟩) (fun fin s'=>∃ v,fin = .done (.ret v) /\ Q (some v) s')
   (fun e s'=>∃ a,e = .ref a /\ (∃ o,s'.heap.get? a = some o /\ o.cls = .type "StopIteration") /\ Q none s') s):wpAny (model prog w) A (pyNext (.ref it)) Q E s:=by
 have hT:s.TypeIs (.ref it) "set_iterator" := ⟨_,hz,hc⟩
 unfold pyNext
 refine wpAny_bind (wpAny_attempt (wpAny_callSpecial?_slot (name:=Str.ofString "__next__") hT slot_setit_next
  (wpAny_call_entry slot_setit_next hT entry_setit_next (wpAny_mono h (fun fin s' ⟨v,e,q⟩=>⟨v,e,wpAny_pure q⟩) fun e s' he=>?_) (args_setit_next _))))
 obtain ⟨a,rfl,⟨o,ho,hc⟩,q⟩:=he
 exact wpAny_bind (wpAny_isInstance (T := "StopIteration") (b:=true) ⟨o,ho,hc⟩ isSubtype_stop (wpAny_pure q))
end
section
variable {prog:Program} {w:World} {A:Around} {E:Value -> Shared -> Prop} {s:Shared} {it a:Addr} {es:Array (Int × Value)} {n ep i:Nat} {t:SetTable}
theorem next_int_item {slot nx:Nat} {x:Value} {Q:Option Value -> Shared -> Prop} (hit:s.heap.get? it = some (itObj (.int slot 0) i a n ep)) (ha:s.heap.get? a = some (setObj es ep t)) (hf:t.fits es.size = true) (hz:es.size = n)
  (hn:∀ (E':Value -> Shared -> Prop) (Q':Option (Value × Nat) -> Shared -> Prop),Q' (some (x,nx)) s -> wpAny (model prog w) A.in1 (setNext a slot i ep) Q' E' s)
  (hQ:∀ h',h'.get? it = some (itObj (.int nx 0) (i + 1) a n ep) -> Heap.SameBut it s.heap h' -> Q (some x) { s with heap:=h' }):wpAny (model prog w) A (pyNext (.ref it)) Q E s:=by
 refine pyNext_set hit rfl ?_
 unfold Builtin.«set_iterator.__next__» slotArgs
 simp only [List.isEmpty_nil,Bool.not_true,Bool.false_eq_true,↓reduceIte,bind_assoc,List.length_nil,bne_self_eq_false]
 refine wpAny_bind (wpAny_pure ?_)
 dsimp only
 refine wpAny_bind (wpAny_fieldsOf hit rfl ?_)
 dsimp only
 refine wpAny_bind (wpAny_setEntries_of ha rfl hf ?_)
 rw [show ((es.size:Int) != (n:Int)) = false by simp [hz]]
 simp only [Bool.false_eq_true,↓reduceIte]
 refine wpAny_bind (hn _ _ ?_)
 dsimp only
 refine wpAny_bind (wpAny_setField_rec hit (by simp) fun h1 g1 s1=>?_)
 refine wpAny_bind (wpAny_setField_rec (s:={ s with heap:=h1 }) g1 (by simp) fun h2 g2 s2=>?_)
 refine wpAny_pure ⟨x,rfl,hQ h2 ?_ (s1.trans s2)⟩
 rw [g2]
 simp [rawInt]
theorem next_int_end {slot:Nat} {Q:Option Value -> Shared -> Prop} (hh:A.handled = none) (hit:s.heap.get? it = some (itObj (.int slot 0) i a n ep)) (ha:s.heap.get? a = some (setObj es ep t)) (hf:t.fits es.size = true) (hz:es.size = n)
  (hn:∀ (E':Value -> Shared -> Prop) (Q':Option (Value × Nat) -> Shared -> Prop),Q' none s -> wpAny (model prog w) A.in1 (setNext a slot i ep) Q' E' s)
  (hQ:∀ h',Heap.ExtBut it s.heap h' -> Q none { s with heap:=h' }):wpAny (model prog w) A (pyNext (.ref it)) Q E s:=by
 refine pyNext_set hit rfl ?_
 unfold Builtin.«set_iterator.__next__» slotArgs
 simp only [List.isEmpty_nil,Bool.not_true,Bool.false_eq_true,↓reduceIte,bind_assoc,List.length_nil,bne_self_eq_false]
 refine wpAny_bind (wpAny_pure ?_)
 dsimp only
 refine wpAny_bind (wpAny_fieldsOf hit rfl ?_)
 dsimp only
 refine wpAny_bind (wpAny_setEntries_of ha rfl hf ?_)
 rw [show ((es.size:Int) != (n:Int)) = false by simp [hz]]
 simp only [Bool.false_eq_true,↓reduceIte]
 refine wpAny_bind (hn _ _ ?_)
 dsimp only
 refine wpAny_bind (wpAny_setField_rec hit (by simp) fun h1 g1 s1=>?_)
 exact raise_stop (A:=A.in1) (s:={ s with heap:=h1 }) hh fun h2 e k c=>⟨e,rfl,c,hQ h2 fun b o nb q=>k b o (s1.extBut b o nb q)⟩
theorem next_ref_item {T:Addr} {ps:Array Value} {p:Nat} {x:Value} {Q:Option Value -> Shared -> Prop} (hit:s.heap.get? it = some (itObj (.ref T) i a n ep)) (ha:s.heap.get? a = some (setObj es ep t)) (hf:t.fits es.size = true) (hz:es.size = n)
  (hT:s.heap.get? T = some (seqObj "tuple" ps 0)) (hp:ps[i]? = some (.int p 0)) (hx:es[p]?.map (·.2) = some x)
  (hQ:∀ h',h'.get? it = some (itObj (.ref T) (i + 1) a n ep) -> Heap.SameBut it s.heap h' -> Q (some x) { s with heap:=h' }):wpAny (model prog w) A (pyNext (.ref it)) Q E s:=by
 refine pyNext_set hit rfl ?_
 unfold Builtin.«set_iterator.__next__» slotArgs
 simp only [List.isEmpty_nil,Bool.not_true,Bool.false_eq_true,↓reduceIte,bind_assoc,List.length_nil,bne_self_eq_false]
 refine wpAny_bind (wpAny_pure ?_)
 dsimp only
 refine wpAny_bind (wpAny_fieldsOf hit rfl ?_)
 dsimp only
 refine wpAny_bind (wpAny_setEntries_of ha rfl hf ?_)
 rw [show ((es.size:Int) != (n:Int)) = false by simp [hz]]
 simp only [Bool.false_eq_true,↓reduceIte]
 refine wpAny_bind (wpAny_seqItems hT rfl ?_)
 dsimp only
 rw [Int.toNat_natCast,hp]
 dsimp only
 refine wpAny_bind ?_
 unfold setNextDrawn
 refine wpAny_bind (wpAny_setState_of ha rfl hf ?_)
 dsimp only
 rw [Int.toNat_natCast,Int.toNat_natCast]
 simp only [bne_self_eq_false,Bool.false_eq_true,↓reduceIte]
 cases he:es[p]? with
 | none=>rw [he] at hx; cases hx
 | some e=>
  rw [he] at hx
  obtain ⟨h0,y⟩:=e
  cases hx
  refine wpAny_pure ?_
  refine wpAny_bind (wpAny_setField_rec hit (by simp) fun h1 g1 s1=>?_)
  refine wpAny_pure ⟨y,rfl,hQ h1 ?_ s1⟩
  rw [g1]
  simp [rawInt]
theorem next_ref_end {T:Addr} {ps:Array Value} {Q:Option Value -> Shared -> Prop} (hh:A.handled = none) (hit:s.heap.get? it = some (itObj (.ref T) i a n ep)) (ha:s.heap.get? a = some (setObj es ep t)) (hf:t.fits es.size = true) (hz:es.size = n)
  (hT:s.heap.get? T = some (seqObj "tuple" ps 0)) (hp:ps[i]? = none)
  (hQ:∀ h',Heap.ExtBut it s.heap h' -> Q none { s with heap:=h' }):wpAny (model prog w) A (pyNext (.ref it)) Q E s:=by
 refine pyNext_set hit rfl ?_
 unfold Builtin.«set_iterator.__next__» slotArgs
 simp only [List.isEmpty_nil,Bool.not_true,Bool.false_eq_true,↓reduceIte,bind_assoc,List.length_nil,bne_self_eq_false]
 refine wpAny_bind (wpAny_pure ?_)
 dsimp only
 refine wpAny_bind (wpAny_fieldsOf hit rfl ?_)
 dsimp only
 refine wpAny_bind (wpAny_setEntries_of ha rfl hf ?_)
 rw [show ((es.size:Int) != (n:Int)) = false by simp [hz]]
 simp only [Bool.false_eq_true,↓reduceIte]
 refine wpAny_bind (wpAny_seqItems hT rfl ?_)
 dsimp only
 rw [Int.toNat_natCast,hp]
 dsimp only
 refine wpAny_bind (wpAny_setField_rec hit (by simp) fun h1 g1 s1=>?_)
 refine wpAny_bind (wpAny_setField_rec (s:={ s with heap:=h1 }) g1 (by simp) fun h2 g2 s2=>?_)
 exact raise_stop (A:=A.in1) (s:={ s with heap:=h2 }) hh fun h3 e k c=>⟨e,rfl,c,hQ h3 fun b o nb q=>k b o (s2.extBut b o nb (s1.extBut b o nb q))⟩
end
section
variable {prog:Program} {w:World} {A:Around} {E:Value -> Shared -> Prop} {s:Shared} {it a:Addr} {es:Array (Int × Value)} {n ep i:Nat} {t:SetTable}
theorem by_text {Q:Bool -> Shared -> Prop} (h:Q (w.params.followText "set-order") s):wpAny (model prog w) A setsByText Q E s:=by
 unfold setsByText
 exact wpAny_bind (wpAny_askSetting (wpAny_pure h))
theorem setNext_text {slot:Nat} {Q:Option (Value × Nat) -> Shared -> Prop} (hb:w.params.followText "set-order" = true) (ha:s.heap.get? a = some (setObj es ep t)) (hf:t.fits es.size = true)
  (h:Q (((pickOrder (w.params.setOrder a ep) es)[i]?).map fun e=>(e.2,slot)) s):wpAny (model prog w) A (setNext a slot i ep) Q E s:=by
 unfold setNext
 refine wpAny_bind (wpAny_setState_of ha rfl hf ?_)
 dsimp only
 refine wpAny_bind (by_text ?_)
 rw [hb,if_pos rfl]
 simp only [bne_self_eq_false,Bool.false_eq_true,↓reduceIte]
 unfold setWalk
 refine wpAny_bind (wpAny_bind (wpAny_setState_of ha rfl hf ?_))
 dsimp only
 refine wpAny_bind (by_text ?_)
 rw [hb,if_pos rfl]
 refine wpAny_bind (wpAny_askSetting ?_)
 exact wpAny_pure (wpAny_pure h)
theorem entry_setit_iter:entryFor table "set_iterator.__iter__" = some Builtin.«dict_keyiterator.__iter__»:=
 entryFor_alias (id' := "dict_keyiterator.__iter__") (by kernel_rfl) rfl (by decide +kernel) (by kernel_rfl)
theorem args_setit_iter (a:Value):argsOk "set_iterator.__iter__" ⟨[a],[]⟩:=by unfold argsOk; kernel_rfl
theorem self_setit {Q:Value -> Shared -> Prop} (hT:s.TypeIs (.ref it) "set_iterator") (h:Q (.ref it) s):wpAny (model prog w) A (pyIter (.ref it)) Q E s:=by
 refine wpAny_pyIter_slot hT slot_setit_iter (wpAny_call_entry slot_setit_iter hT entry_setit_iter ?_ (args_setit_iter _))
 show wpAny _ _ (ret (.ref it)) _ _ s
 exact wpAny_pure ⟨_,rfl, "set_iterator",_,hT,slot_setit_next.lookup,h⟩
theorem walks_text (hh:A.handled = none) (hne:a ≠ it) (hb:w.params.followText "set-order" = true) (hf:t.fits es.size = true) (hz:es.size = n):
  Walks prog w A it [it,a] [it] n (fun i v=>((pickOrder (w.params.setOrder a ep) es)[i]?).map (·.2) = some v) (fun i h=>h.get? it = some (itObj (.int 0 0) i a n ep) /\ h.get? a = some (setObj es ep t)) where
 sub:=fun b hb=>by simp at hb; simp [hb]
 frame:=fun _ _ _ st k=>⟨k it (by simp) _ st.1,k a (by simp) _ st.2⟩
 item:=fun i s Q E hi st hQ=>by
  have hs:(pickOrder (w.params.setOrder a ep) es).size = n:=by
   have:=(pick_perm (w.params.setOrder a ep) es).length_eq
   simpa [hz] using this
  have hg:(pickOrder (w.params.setOrder a ep) es)[i]? = some ((pickOrder (w.params.setOrder a ep) es)[i]'(by omega)):=Array.getElem?_eq_getElem _
  refine next_int_item (slot:=0) (nx:=0) (x:=((pickOrder (w.params.setOrder a ep) es)[i]'(by omega)).2) st.1 st.2 hf hz (fun E' Q' q=>setNext_text hb st.2 hf (by rw [hg]; exact q)) fun h' g sb=>?_
  exact hQ _ h' s.toks (by rw [hg]; rfl) ⟨g,sb.extBut _ _ hne st.2⟩ fun b o hb e=>sb.extBut b o (fun z=>hb (by simp [z])) e
 done:=fun s Q E st hQ=>by
  have hs:(pickOrder (w.params.setOrder a ep) es).size = n:=by
   have:=(pick_perm (w.params.setOrder a ep) es).length_eq
   simpa [hz] using this
  have hg:(pickOrder (w.params.setOrder a ep) es)[n]? = none:=Array.getElem?_eq_none (by omega)
  exact next_int_end (slot:=0) hh st.1 st.2 hf hz (fun E' Q' q=>setNext_text hb st.2 hf (by rw [hg]; exact q)) fun h' k=>hQ h' s.toks fun b o hb e=>k b o (fun z=>hb (by simp [z])) e
 self:=fun i s Q E st hQ=>self_setit ⟨_,st.1,rfl⟩ hQ
end
section
variable {prog:Program} {w:World} {A:Around} {E:Value -> Shared -> Prop} {s:Shared} {it a:Addr} {es:Array (Int × Value)} {n ep i:Nat} {t:SetTable}
theorem fits_size (hf:t.fits n = true):t.place.size = n:=by
 unfold SetTable.fits at hf
 simp only [Bool.and_eq_true,beq_iff_eq] at hf
 exact hf.1
noncomputable def atPlaces (es:Array (Int × Value)) (ys:List Nat):List Value:=ys.map fun p=>((es[p]?).map (·.2)).getD .none
theorem walks_drawn {T:Addr} {ys:List Nat} (hh:A.handled = none) (hne:a ≠ it) (hT:T ≠ it) (hf:t.fits es.size = true) (hz:es.size = n) (hp:ys.Perm (List.range n)):
  Walks prog w A it [it,a,T] [it] n (fun i v=>(atPlaces es ys)[i]? = some v) (fun i h=>h.get? it = some (itObj (.ref T) i a n ep) /\ h.get? a = some (setObj es ep t) /\ h.get? T = some (seqObj "tuple" (ys.map fun (k:Nat)=>rawInt k).toArray 0)) where
 sub:=fun b hb=>by simp at hb; simp [hb]
 frame:=fun _ _ _ st k=>⟨k it (by simp) _ st.1,k a (by simp) _ st.2.1,k T (by simp) _ st.2.2⟩
 item:=fun i s Q E hi st hQ=>by
  have hlen:ys.length = n:=by have:=hp.length_eq; simpa using this
  have hi':i < ys.length:=by omega
  have hlt:ys[i] < es.size:=by
   have:=hp.mem_iff.mp (List.getElem_mem hi')
   rw [hz]
   simpa using this
  have hx:es[ys[i]]?.map (·.2) = some (es[ys[i]].2):=by rw [Array.getElem?_eq_getElem hlt]; rfl
  refine next_ref_item (p:=ys[i]) (x:=es[ys[i]].2) st.1 st.2.1 hf hz st.2.2 (by simp [rawInt,hi']) hx fun h' g sb=>?_
  refine hQ _ h' s.toks ?_ ⟨g,sb.extBut _ _ hne st.2.1,sb.extBut _ _ hT st.2.2⟩ fun b o hb e=>sb.extBut b o (fun z=>hb (by simp [z])) e
  unfold atPlaces
  rw [List.getElem?_map,List.getElem?_eq_getElem hi']
  simp [hlt]
 done:=fun s Q E st hQ=>by
  have hlen:ys.length = n:=by have:=hp.length_eq; simpa using this
  exact next_ref_end hh st.1 st.2.1 hf hz st.2.2 (by simp [hlen]) fun h' k=>hQ h' s.toks fun b o hb e=>k b o (fun z=>hb (by simp [z])) e
 self:=fun i s Q E st hQ=>self_setit ⟨_,st.1,rfl⟩ hQ
theorem places_all (es:Array (Int × Value)):atPlaces es (List.range es.size) = es.toList.map (·.2):=by
 unfold atPlaces
 apply List.ext_getElem
 ·simp
 ·intro i h1 h2
  have:i < es.size:=by simpa using h1
  simp [this]
end
section
variable {prog:Program} {w:World} {A:Around} {E:Value -> Shared -> Prop} {s:Shared}
structure Walked (prog:Program) (w:World) (A:Around) (h:Heap) (a:Addr) (ss:List Str) (it:Addr) (h':Heap):Prop where
 old:∀ b o,h.get? b = some o -> h'.get? b = some o
 new:h.objs.size <= it
 walk:∃ fp St,∃ xs:List Value,Walks prog w A it fp [it] xs.length (fun i v=>xs[i]? = some v) St /\ St 0 h' /\ (∀ b ∈ fp,b = a \/ h.objs.size <= b) /\ (∀ v ∈ xs,∃ x u,v = Value.str x u) /\ (xs.map txtOf).Perm ss
theorem Walks.cast {it:Addr} {fp wr:List Addr} {n m:Nat} {P P':Nat -> Value -> Prop} {St:Nat -> Heap -> Prop} (W:Walks prog w A it fp wr n P St) (e:n = m) (hP:∀ i v,P i v ↔ P' i v):Walks prog w A it fp wr m P' St:=by
 obtain rfl:P = P':=funext fun i=>funext fun v=>propext (hP i v)
 subst e
 exact W
end
section
variable {prog:Program} {w:World} {A:Around} {E:Value -> Shared -> Prop} {s:Shared}
theorem hint_set {r:Addr} {Q:Bool -> Shared -> Prop} (hT:s.TypeIs (.ref r) "set") (h:Q false s):wpAny (model prog w) A (Builtin.List.listLengthHint (.ref r)) Q E s:=by
 unfold Builtin.List.listLengthHint
 refine wpAny_bind (wpAny_specialOf hT PySem.F.slot_set_len.lookup ?_)
 generalize hid:("set.__len__" : String) = nm
 wp_delta
 rw [show splitId nm = some ("set", "__len__") from by subst hid; decide +kernel]
 subst hid
 refine wpAny_bind (wpAny_isInstance (T := "set") (b:=true) hT (by rw [isSubtype_type]; kernel_rfl) ?_)
 refine wpAny_ite_split (fun z=>absurd z (by decide)) fun _=>?_
 refine wpAny_ite_split (fun _=>?_) fun z=>absurd (by decide +kernel) z
 exact wpAny_bind (wpAny_typeOf hT (wpAny_pure h))
end
noncomputable def ins (x:List Nat):List (List Nat) -> List (List Nat)
 | []=>[x]
 | y :: r=>if x = y then y :: r else if x < y then x :: y :: r else y :: ins x r
noncomputable def srt (l:List (List Nat)):List (List Nat):=l.foldr ins []
theorem lt_tri (a b:List Nat) (h:¬ a = b) (k:¬ a < b):b < a:=by
 rcases Std.Trichotomous.rel_or_eq_or_rel_swap (r:=fun (a b:List Nat)=>a < b) (a:=a) (b:=b) with q | q | q
 ·exact absurd q k
 ·exact absurd q h
 ·exact q
section
variable {prog:Program} {w:World} {A:Around} {E:Value -> Shared -> Prop} {s:Shared}
end
section
variable {X:Cx}
theorem Inv.drew {pins:List (Addr × Obj)} {σ:St} {H:Hp} {s:Shared} (I:Inv X pins σ H s) (d:Drawn):Inv X pins σ H { s with drawn:=d }:=
 ⟨I.ok,I.os,I.bare,I.base,I.loc,I.cell,I.free,I.freeC,I.pin,I.hok,I.len,I.tk⟩
end
inductive D where
 | f (v:V) | l (xs:List D) | t (xs:List D)
mutual
noncomputable def eqD:D -> D -> Bool
 | .f x,.f y=>eqV x y
 | .l xs,.l ys=>eqDs xs ys
 | .t xs,.t ys=>eqDs xs ys
 | .f _,.l _=>false
 | .f _,.t _=>false
 | .l _,.f _=>false
 | .l _,.t _=>false
 | .t _,.f _=>false
 | .t _,.l _=>false
noncomputable def eqDs:List D -> List D -> Bool
 | [],[]=>true
 | x :: xs,y :: ys=>eqD x y && eqDs xs ys
 | [],_ :: _=>false
 | _ :: _,[]=>false
end
noncomputable def Deep (K:Frag) (H:Hp):Nat -> V -> D -> Prop
 | 0,v,d=>d = .f v /\ flatV v = true
 | n + 1,v,d=>(d = .f v /\ flatV v = true) \/ (∃ a vs ds,v = .ref a /\ d = .l ds /\ SqL K H a vs /\ Paired (Deep K H n) vs ds) \/ (∃ a vs ds,v = .ref a /\ d = .t ds /\ SqT K H a vs /\ Paired (Deep K H n) vs ds)
theorem eqDs_len:∀ {xs ys:List D},xs.length ≠ ys.length -> eqDs xs ys = false
 | [],[],h=>absurd rfl h
 | [],_ :: _,_=>by rw [eqDs]
 | _ :: _,[],_=>by rw [eqDs]
 | x :: xs,y :: ys,h=>by
  rw [eqDs,eqDs_len (xs:=xs) (ys:=ys) (fun e=>h (by simp [e])),Bool.and_false]
theorem eqV_refl {v:V} (h:flatV v = true):eqV v v = true:=by
 cases v <;> simp_all [flatV,eqV]
section
variable {X:Cx} {pins:List (Addr × Obj)} {σ:St} {H:Hp} {s:Shared}
theorem list_flat {A:Around} {l:Addr} {items:Array Value} {y:V} {v:Value} (hl:s.heap.IsList l items) (hu:A.units < cLine) (r:RelV y v) (f:flatV y = true):SeqAt.EqAt A s (.ref l) v false:=by
 cases y with
 | non=>cases r; exact .list_none hl hu
 | bl b=>cases r; exact .list_bool b hl hu
 | int i=>obtain ⟨t,rfl⟩:=r; exact .list_int i t hl hu
 | str x=>obtain ⟨t,rfl⟩:=r; exact .list_str x t hl hu
 | _=>exact absurd (show false = true from f) Bool.false_ne_true
theorem flat_list {A:Around} {l:Addr} {items:Array Value} {y:V} {v:Value} (hl:s.heap.IsList l items) (hu:A.units < cLine) (r:RelV y v) (f:flatV y = true):SeqAt.EqAt A s v (.ref l) false:=by
 cases y with
 | non=>cases r; exact .none_list hl hu
 | bl b=>cases r; exact .bool_list b hl hu
 | int i=>obtain ⟨t,rfl⟩:=r; exact .int_list i t hl hu
 | str x=>obtain ⟨t,rfl⟩:=r; exact .str_list x t hl hu
 | _=>exact absurd (show false = true from f) Bool.false_ne_true
theorem tuple_flat {A:Around} {l:Addr} {items:Array Value} {y:V} {v:Value} (hl:s.heap.IsTuple l items) (hu:A.units < cLine) (r:RelV y v) (f:flatV y = true):SeqAt.EqAt A s (.ref l) v false:=by
 cases y with
 | non=>cases r; exact .tuple_none hl hu
 | bl b=>cases r; exact .tuple_bool b hl hu
 | int i=>obtain ⟨t,rfl⟩:=r; exact .tuple_int i t hl hu
 | str x=>obtain ⟨t,rfl⟩:=r; exact .tuple_str x t hl hu
 | _=>exact absurd (show false = true from f) Bool.false_ne_true
theorem flat_tuple {A:Around} {l:Addr} {items:Array Value} {y:V} {v:Value} (hl:s.heap.IsTuple l items) (hu:A.units < cLine) (r:RelV y v) (f:flatV y = true):SeqAt.EqAt A s v (.ref l) false:=by
 cases y with
 | non=>cases r; exact .none_tuple hl hu
 | bl b=>cases r; exact .bool_tuple b hl hu
 | int i=>obtain ⟨t,rfl⟩:=r; exact .int_tuple i t hl hu
 | str x=>obtain ⟨t,rfl⟩:=r; exact .str_tuple x t hl hu
 | _=>exact absurd (show false = true from f) Bool.false_ne_true
theorem apart_lt (I:Inv X pins σ H s) {a:Addr} {vs ws:List V} (h:SqL X.K H a vs) (k:SqT X.K H a ws):False:=by
 obtain ⟨_,_,p1,_⟩:=I.list h
 obtain ⟨_,_,p2,_⟩:=I.tuple k
 exact SeqAt.ne_of_list_tuple p1.isList p2 rfl
theorem deep_same (I:Inv X pins σ H s):∀ (n:Nat) (v:V) (d d':D),Deep X.K H n v d -> Deep X.K H n v d' -> eqD d d' = true
 | 0,v,d,d',⟨e,f⟩,⟨e',_⟩=>by subst e; subst e'; rw [eqD]; exact eqV_refl f
 | n + 1,v,d,d',h,h'=>by
  have pr:∀ (vs:List V) (ds ds':List D),Paired (Deep X.K H n) vs ds -> Paired (Deep X.K H n) vs ds' -> eqDs ds ds' = true:=by
   intro vs
   induction vs with
   | nil=>intro ds ds' p q; cases p; cases q; rw [eqDs]
   | cons v vs ih=>
    intro ds ds' p q
    cases p with
    | cons p1 p2=>cases q with
     | cons q1 q2=>rw [eqDs,deep_same I n v _ _ p1 q1,ih _ _ p2 q2]; rfl
  rcases h with ⟨e,f⟩ | ⟨a,vs,ds,rfl,rfl,ha,p⟩ | ⟨a,vs,ds,rfl,rfl,ha,p⟩
  ·rcases h' with ⟨e',_⟩ | ⟨a',vs',ds',rfl,_⟩ | ⟨a',vs',ds',rfl,_⟩
   ·subst e; subst e'; rw [eqD]; exact eqV_refl f
   ·exact absurd (show false = true from f) Bool.false_ne_true
   ·exact absurd (show false = true from f) Bool.false_ne_true
  ·rcases h' with ⟨_,f⟩ | ⟨a',vs',ds',e,rfl,ha',p'⟩ | ⟨a',vs',ds',e,rfl,ha',p'⟩
   ·exact absurd (show false = true from f) Bool.false_ne_true
   ·cases e
    obtain rfl:=I.list_inj ha ha'
    rw [eqD]; exact pr vs ds ds' p p'
   ·cases e
    exact (apart_lt I ha ha').elim
  ·rcases h' with ⟨_,f⟩ | ⟨a',vs',ds',e,rfl,ha',p'⟩ | ⟨a',vs',ds',e,rfl,ha',p'⟩
   ·exact absurd (show false = true from f) Bool.false_ne_true
   ·cases e
    exact (apart_lt I ha' ha).elim
   ·cases e
    obtain rfl:=I.tuple_inj ha ha'
    rw [eqD]; exact pr vs ds ds' p p'
noncomputable def eqNth (ds ds':List D) (j:Nat):Bool:=match ds[j]?,ds'[j]? with
 | some d,some d'=>eqD d d'
 | _,_=>true
theorem all_eqNth:∀ {ds ds':List D},ds.length = ds'.length -> (List.range ds.length).all (eqNth ds ds') = eqDs ds ds'
 | [],[],_=>by rw [eqDs]; rfl
 | d :: ds,d' :: ds',h=>by
  have ih:=all_eqNth (ds:=ds) (ds':=ds') (by simpa using h)
  rw [List.length_cons,List.range_succ_eq_map,List.all_cons,List.all_map,eqDs]
  have e:eqNth (d :: ds) (d' :: ds') 0 = eqD d d':=rfl
  have e2:(eqNth (d :: ds) (d' :: ds') ∘ Nat.succ) = eqNth ds ds':=funext fun j=>by simp [eqNth]
  rw [e,e2,ih]
theorem paired_at {α β:Type} {F:α -> β -> Prop}:∀ {l:List α} {m:List β},Paired F l m -> ∀ {j:Nat} {x:α},l[j]? = some x -> ∃ y,m[j]? = some y /\ F x y
 | _,_,.nil,j,x,h=>by simp at h
 | _,_,.cons p r,0,x,h=>by simp at h; subst h; exact ⟨_,rfl,p⟩
 | _,_,.cons p r,j + 1,x,h=>by simpa using paired_at r (j:=j) (by simpa using h)
theorem deep_eqAt (I:Inv X pins σ H s):∀ (n:Nat) (A:Around) (x y:V) (dx dy:D) (u v:Value),A.units + n < cLine -> Deep X.K H n x dx -> Deep X.K H n y dy -> RelV x u -> RelV y v -> SeqAt.EqAt A s u v (eqD dx dy)
 | 0,A,x,y,dx,dy,u,v,_,⟨e,f⟩,⟨e',f'⟩,ru,rv=>by subst e; subst e'; rw [eqD]; exact eqAt_V ru rv f f'
 | n + 1,A,x,y,dx,dy,u,v,hu,hx,hy,ru,rv=>by
  have hu0:A.units < cLine:=by omega
  have items:∀ (vs ws:List V) (ds ds':List D) (us us':List Value),Paired (Deep X.K H n) vs ds -> Paired (Deep X.K H n) ws ds' -> Vals vs us -> Vals ws us' ->
    ∀ j (h1:j < us.toArray.size) (h2:j < us'.toArray.size),SeqAt.EqAt A.in1 s us.toArray[j] us'.toArray[j] (eqNth ds ds' j):=by
   intro vs ws ds ds' us us' p q r r' j h1 h2
   have l1:=r.length
   have l2:=r'.length
   simp only [List.size_toArray] at h1 h2
   have g1:vs[j]? = some (vs[j]'(by omega)):=List.getElem?_eq_getElem _
   have g2:ws[j]? = some (ws[j]'(by omega)):=List.getElem?_eq_getElem _
   obtain ⟨d,hd,fd⟩:=paired_at p g1
   obtain ⟨d',hd',fd'⟩:=paired_at q g2
   obtain ⟨c,hc,rc⟩:=r.get g1
   obtain ⟨c',hc',rc'⟩:=r'.get g2
   have e1:us.toArray[j] = c:=by rw [List.getElem?_eq_getElem h1] at hc; simpa using hc
   have e2:us'.toArray[j] = c':=by rw [List.getElem?_eq_getElem h2] at hc'; simpa using hc'
   rw [e1,e2]
   unfold eqNth
   rw [hd,hd']
   exact deep_eqAt I n A.in1 _ _ d d' c c' (by rw [Around.in1_units]; omega) fd fd' rc rc'
  rcases hx with ⟨e,f⟩ | ⟨a,vs,ds,rfl,rfl,ha,p⟩ | ⟨a,vs,ds,rfl,rfl,ha,p⟩
  ·subst e
   rcases hy with ⟨e',f'⟩ | ⟨b,ws,ds',rfl,rfl,hb,q⟩ | ⟨b,ws,ds',rfl,rfl,hb,q⟩
   ·subst e'; rw [eqD]; exact eqAt_V ru rv f f'
   ·cases rv
    obtain ⟨_,_,pl,_⟩:=I.list hb
    rw [eqD]; exact flat_list pl.isList hu0 ru f
   ·cases rv
    obtain ⟨_,_,pl,_⟩:=I.tuple hb
    rw [eqD]; exact flat_tuple pl hu0 ru f
  ·cases ru
   obtain ⟨us,r1,pl,_⟩:=I.list ha
   rcases hy with ⟨e',f'⟩ | ⟨b,ws,ds',rfl,rfl,hb,q⟩ | ⟨b,ws,ds',rfl,rfl,hb,q⟩
   ·subst e'; rw [eqD]; exact list_flat pl.isList hu0 rv f'
   ·cases rv
    by_cases eab:a = b
    ·subst eab
     have:=deep_same I (n + 1) (.ref a) (.l ds) (.l ds') (.inr (.inl ⟨a,vs,ds,rfl,rfl,ha,p⟩)) (.inr (.inl ⟨a,ws,ds',rfl,rfl,hb,q⟩))
     rw [this]
     exact SeqAt.EqAt.same _
    ·obtain ⟨us',r2,pl2,_⟩:=I.list hb
     have l1:=r1.length
     have l2:=r2.length
     have l3:=p.length
     have l4:=q.length
     rw [eqD]
     by_cases el:ds.length = ds'.length
     ·rw [<- all_eqNth el,show ds.length = us.toArray.size by simp only [List.size_toArray]; omega]
      exact .of_refs eab (.lists pl.isList pl2.isList (by simp only [List.size_toArray]; omega) hu0 (items vs ws ds ds' us us' p q r1 r2))
     ·rw [eqDs_len el]
      exact .of_refs eab (.lists_lengths pl.isList pl2.isList (by simp only [List.size_toArray,bne_iff_ne,ne_eq]; omega) hu0)
   ·cases rv
    obtain ⟨_,_,pl2,_⟩:=I.tuple hb
    rw [eqD]; exact .list_tuple pl.isList pl2 hu0
  ·cases ru
   obtain ⟨us,r1,pl,_⟩:=I.tuple ha
   rcases hy with ⟨e',f'⟩ | ⟨b,ws,ds',rfl,rfl,hb,q⟩ | ⟨b,ws,ds',rfl,rfl,hb,q⟩
   ·subst e'; rw [eqD]; exact tuple_flat pl hu0 rv f'
   ·cases rv
    obtain ⟨_,_,pl2,_⟩:=I.list hb
    rw [eqD]; exact .tuple_list pl pl2.isList hu0
   ·cases rv
    by_cases eab:a = b
    ·subst eab
     have:=deep_same I (n + 1) (.ref a) (.t ds) (.t ds') (.inr (.inr ⟨a,vs,ds,rfl,rfl,ha,p⟩)) (.inr (.inr ⟨a,ws,ds',rfl,rfl,hb,q⟩))
     rw [this]
     exact SeqAt.EqAt.same _
    ·obtain ⟨us',r2,pl2,_⟩:=I.tuple hb
     have l1:=r1.length
     have l2:=r2.length
     have l3:=p.length
     have l4:=q.length
     rw [eqD]
     have key:eqDs ds ds' = ((List.range (min us.toArray.size us'.toArray.size)).all (eqNth ds ds') && us.toArray.size == us'.toArray.size):=by
      by_cases el:ds.length = ds'.length
      ·rw [<- all_eqNth el,show min us.toArray.size us'.toArray.size = ds.length by simp only [List.size_toArray]; omega,show (us.toArray.size == us'.toArray.size) = true by simp only [List.size_toArray,beq_iff_eq]; omega,Bool.and_true]
      ·rw [eqDs_len el,show (us.toArray.size == us'.toArray.size) = false by simp only [List.size_toArray,beq_eq_false_iff_ne,ne_eq]; omega,Bool.and_false]
     rw [key]
     exact .of_refs eab (.tuples pl pl2 hu0 (items vs ws ds ds' us us' p q r1 r2))
end
section
variable {X:Cx} {pins:List (Addr × Obj)} {σ:St} {H:Hp} {s:Shared}
theorem deep_items (I:Inv X pins σ H s) {n:Nat} {A:Around} (hu:A.units + n + 1 < cLine) {vs ws:List V} {ds ds':List D} {us us':List Value} (p:Paired (Deep X.K H n) vs ds) (q:Paired (Deep X.K H n) ws ds') (r:Vals vs us) (r':Vals ws us'):
  ∀ j (h1:j < us.toArray.size) (h2:j < us'.toArray.size),SeqAt.EqAt A.in1 s us.toArray[j] us'.toArray[j] (eqNth ds ds' j):=by
 intro j h1 h2
 have l1:=r.length
 have l2:=r'.length
 simp only [List.size_toArray] at h1 h2
 have g1:vs[j]? = some (vs[j]'(by omega)):=List.getElem?_eq_getElem _
 have g2:ws[j]? = some (ws[j]'(by omega)):=List.getElem?_eq_getElem _
 obtain ⟨d,hd,fd⟩:=paired_at p g1
 obtain ⟨d',hd',fd'⟩:=paired_at q g2
 obtain ⟨c,hc,rc⟩:=r.get g1
 obtain ⟨c',hc',rc'⟩:=r'.get g2
 have e1:us.toArray[j] = c:=by rw [List.getElem?_eq_getElem h1] at hc; simpa using hc
 have e2:us'.toArray[j] = c':=by rw [List.getElem?_eq_getElem h2] at hc'; simpa using hc'
 rw [e1,e2]
 unfold eqNth
 rw [hd,hd']
 exact deep_eqAt I n A.in1 _ _ d d' c c' (by rw [Around.in1_units]; omega) fd fd' rc rc'
noncomputable def kEqD (K:Frag) (neg:Bool):R2:=fun x y H Q=>match x,y with
 | .ref a,.ref b=>∃ n dx dy,n <= 100 /\ Deep K H n (.ref a) dx /\ Deep K H n (.ref b) dy /\ Q (.bl (neg ^^ eqD dx dy)) H
 | _,_=>False
theorem tuple_key {us us':List Value} {ds ds':List D} (l1:ds.length = us.length) (l2:ds'.length = us'.length):((List.range (min us.toArray.size us'.toArray.size)).all (eqNth ds ds') && us.toArray.size == us'.toArray.size) = eqDs ds ds':=by
 by_cases el:ds.length = ds'.length
 ·rw [<- all_eqNth el,show min us.toArray.size us'.toArray.size = ds.length by simp only [List.size_toArray]; omega,show (us.toArray.size == us'.toArray.size) = true by simp only [List.size_toArray,beq_iff_eq]; omega,Bool.and_true]
 ·rw [eqDs_len el,show (us.toArray.size == us'.toArray.size) = false by simp only [List.size_toArray,beq_eq_false_iff_ne,ne_eq]; omega,Bool.and_false]
theorem eqDE (K:Frag) (hK:X.K = K) {k:Nat} (hr:Room k X.A):OpR X (compareOp .Eq) (kEqD K false):=by
 subst hK
 intro pins s σ H x y v u Q I rx ry h
 unfold kEqD at h
 split at h
 ·rename_i a b
  obtain ⟨n,dx,dy,hn,hx,hy,q⟩:=h
  cases rx
  cases ry
  simp only [Bool.false_bne] at q
  have hu:=hr.un
  cases n with
  | zero=>exact absurd (show false = true from hx.2) Bool.false_ne_true
  | succ n=>
   rcases hx with ⟨_,f⟩ | ⟨a',vs,ds,e,rfl,ha,p⟩ | ⟨a',vs,ds,e,rfl,ha,p⟩
   ·exact absurd (show false = true from f) Bool.false_ne_true
   ·cases e
    obtain ⟨us,r1,pl,_⟩:=I.list ha
    have l1:=r1.length
    have l3:=p.length
    rcases hy with ⟨_,f⟩ | ⟨b',ws,ds',e,rfl,hb,p'⟩ | ⟨b',ws,ds',e,rfl,hb,p'⟩
    ·exact absurd (show false = true from f) Bool.false_ne_true
    ·cases e
     obtain ⟨us',r2,pl2,_⟩:=I.list hb
     have l2:=r2.length
     have l4:=p'.length
     rw [eqD] at q
     by_cases el:ds.length = ds'.length
     ·refine SeqAt.eq_listAt (e:=eqNth ds ds') pl.isList pl2.isList (by simp only [List.size_toArray]; omega) (by omega) (deep_items I (by omega) p p' r1 r2) ?_
      rw [show us.toArray.size = ds.length by simp only [List.size_toArray]; omega,all_eqNth el]
      exact ⟨.bl _,H,I,rfl,q⟩
     ·refine SeqAt.eq_list_lengthsAt pl.isList pl2.isList (by simp only [List.size_toArray,bne_iff_ne,ne_eq]; omega) (by omega) ?_
      rw [eqDs_len el] at q
      exact ⟨.bl _,H,I,rfl,q⟩
    ·cases e
     obtain ⟨us',r2,pl2,_⟩:=I.tuple hb
     rw [eqD] at q
     exact SeqAt.RcAt.list_tuple pl.isList pl2 (by omega) _ _ _ _ ⟨.bl _,H,I,rfl,q⟩
   ·cases e
    obtain ⟨us,r1,pl,_⟩:=I.tuple ha
    have l1:=r1.length
    have l3:=p.length
    rcases hy with ⟨_,f⟩ | ⟨b',ws,ds',e,rfl,hb,p'⟩ | ⟨b',ws,ds',e,rfl,hb,p'⟩
    ·exact absurd (show false = true from f) Bool.false_ne_true
    ·cases e
     obtain ⟨us',r2,pl2,_⟩:=I.list hb
     rw [eqD] at q
     exact SeqAt.RcAt.tuple_list pl pl2.isList (by omega) _ _ _ _ ⟨.bl _,H,I,rfl,q⟩
    ·cases e
     obtain ⟨us',r2,pl2,_⟩:=I.tuple hb
     have l2:=r2.length
     have l4:=p'.length
     rw [eqD] at q
     refine SeqAt.eq_tupleAt (e:=eqNth ds ds') pl pl2 (by omega) (deep_items I (by omega) p p' r1 r2) ?_
     rw [tuple_key (by omega) (by omega)]
     exact ⟨.bl _,H,I,rfl,q⟩
 ·exact h.elim
theorem neDE (K:Frag) (hK:X.K = K) {k:Nat} (hr:Room k X.A):OpR X (compareOp .NotEq) (kEqD K true):=by
 subst hK
 intro pins s σ H x y v u Q I rx ry h
 unfold kEqD at h
 split at h
 ·rename_i a b
  obtain ⟨n,dx,dy,hn,hx,hy,q⟩:=h
  cases rx
  cases ry
  simp only [Bool.true_bne] at q
  have hu:=hr.un
  cases n with
  | zero=>exact absurd (show false = true from hx.2) Bool.false_ne_true
  | succ n=>
   rcases hx with ⟨_,f⟩ | ⟨a',vs,ds,e,rfl,ha,p⟩ | ⟨a',vs,ds,e,rfl,ha,p⟩
   ·exact absurd (show false = true from f) Bool.false_ne_true
   ·cases e
    obtain ⟨us,r1,pl,_⟩:=I.list ha
    have l1:=r1.length
    have l3:=p.length
    rcases hy with ⟨_,f⟩ | ⟨b',ws,ds',e,rfl,hb,p'⟩ | ⟨b',ws,ds',e,rfl,hb,p'⟩
    ·exact absurd (show false = true from f) Bool.false_ne_true
    ·cases e
     obtain ⟨us',r2,pl2,_⟩:=I.list hb
     have l2:=r2.length
     have l4:=p'.length
     rw [eqD] at q
     by_cases el:ds.length = ds'.length
     ·refine SeqAt.RcNeAt.lists (e:=eqNth ds ds') pl.isList pl2.isList (by simp only [List.size_toArray]; omega) (by omega) (deep_items I (by omega) p p' r1 r2) _ _ _ _ ?_
      rw [show us.toArray.size = ds.length by simp only [List.size_toArray]; omega,all_eqNth el]
      exact ⟨.bl _,H,I,rfl,q⟩
     ·refine SeqAt.RcNeAt.lists_lengths pl.isList pl2.isList (by simp only [List.size_toArray,bne_iff_ne,ne_eq]; omega) (by omega) _ _ _ _ ?_
      rw [eqDs_len el] at q
      exact ⟨.bl _,H,I,rfl,q⟩
    ·cases e
     obtain ⟨us',r2,pl2,_⟩:=I.tuple hb
     rw [eqD] at q
     exact SeqAt.RcNeAt.list_tuple pl.isList pl2 (by omega) _ _ _ _ ⟨.bl _,H,I,rfl,q⟩
   ·cases e
    obtain ⟨us,r1,pl,_⟩:=I.tuple ha
    have l1:=r1.length
    have l3:=p.length
    rcases hy with ⟨_,f⟩ | ⟨b',ws,ds',e,rfl,hb,p'⟩ | ⟨b',ws,ds',e,rfl,hb,p'⟩
    ·exact absurd (show false = true from f) Bool.false_ne_true
    ·cases e
     obtain ⟨us',r2,pl2,_⟩:=I.list hb
     rw [eqD] at q
     exact SeqAt.RcNeAt.tuple_list pl pl2.isList (by omega) _ _ _ _ ⟨.bl _,H,I,rfl,q⟩
    ·cases e
     obtain ⟨us',r2,pl2,_⟩:=I.tuple hb
     have l2:=r2.length
     have l4:=p'.length
     rw [eqD] at q
     refine SeqAt.RcNeAt.tuples (e:=eqNth ds ds') pl pl2 (by omega) (deep_items I (by omega) p p' r1 r2) _ _ _ _ ?_
     rw [tuple_key (by omega) (by omega)]
     exact ⟨.bl _,H,I,rfl,q⟩
 ·exact h.elim
end
section
variable {X:Cx}
theorem a_kEqD {K:Frag} {n:Bool} {a b:Addr} {H:Hp} {Q:VK}:kEqD K n (.ref a) (.ref b) H Q = ∃ k dx dy,k <= 100 /\ Deep K H k (.ref a) dx /\ Deep K H k (.ref b) dy /\ Q (.bl (n ^^ eqD dx dy)) H:=rfl
theorem vals_bools {bs:List Bool}:∀ {us:List Value},Vals (bs.map V.bl) us -> us = bs.map Value.bool:=by
 induction bs with
 | nil=>intro us h; cases h; rfl
 | cons b bs ih=>
  intro us h
  cases h with
  | cons r t=>cases r; rw [ih t]; rfl
end
section
variable {X:Cx}
noncomputable def cListRng (te:TE):TE:=fun σ H Q=>te σ H fun x H1=>match x with
 | .int j=>-(2 ^ 62) <= j /\ j <= 10000 /\ ∀ p,H1 p = none -> Q (.ref p) (upd H1 p (.lst ((List.range j.toNat).map fun (i:Nat)=>V.int i)))
 | _=>False
theorem vals_range {acc:Array Value} {n:Nat} (h:ItemsOf (fun i v=>∃ t,v = Value.int ((0:Int) + (i:Int) * 1) t) acc n):Vals ((List.range n).map fun (i:Nat)=>V.int i) acc.toList:=by
 obtain ⟨hs,hi⟩:=h
 have key:∀ (l:List Value) (k:Nat),(∀ (j:Nat) (v:Value),l[j]? = some v -> ∃ t,v = Value.int ((k + j:Nat):Int) t) -> Vals ((List.range' k l.length).map fun (i:Nat)=>V.int i) l:=by
  intro l
  induction l with
  | nil=>intro k _; exact .nil
  | cons v l ih=>
   intro k h
   obtain ⟨t,e⟩:=h 0 v rfl
   rw [List.length_cons,List.range'_succ,List.map_cons]
   refine .cons ⟨t,by simpa using e⟩ (ih (k + 1) fun j v hj=>?_)
   obtain ⟨t,e⟩:=h (j + 1) v (by simpa using hj)
   exact ⟨t,by rw [e]; congr 1; omega⟩
 have:=key acc.toList 0 fun j v hj=>by
  obtain ⟨t,e⟩:=hi j v (by simpa using hj)
  exact ⟨t,by rw [e]; congr 1; omega⟩
 rw [Array.length_toList,hs,<- List.range_eq_range'] at this
 exact this
theorem qe_listrng {e:Expr} {te:TE} {p p2 pos pos2:Pos} (hc:X.calm = true) (hg:Gl X "list") (hm:X.mg "list" = none) (hg2:Gl X "range") (hm2:X.mg "range" = none) (he:PE X e te)
  (hs:starEach [e] X.env = [(false,eval e X.env)]:=by rfl)
  (hs2:starEach [Expr.Call (.Name "range" p2) [e] [] pos2] X.env = [(false,eval (Expr.Call (.Name "range" p2) [e] [] pos2) X.env)]:=by rfl):
  PE X (.Call (.Name "list" p) [.Call (.Name "range" p2) [e] [] pos2] [] pos) (cListRng te):=by
 intro pins s σ H Q I h
 refine wpAny_Call_Name_kw (ld_blt I hg hm bb_list ?_ (by decide) (by decide))
 refine PyProof.Rows.callWith_type1 ?_ hs2 rfl
 rw [hs2]
 show wpAny _ _ (spliced [(false,eval (Expr.Call (.Name "range" p2) [e] [] pos2) X.env)]) _ _ s
 refine Calls.spliced_cons ?_
 refine wpAny_Call_Name_kw (ld_blt I hg2 hm2 boot_range ?_ (by decide) (by decide))
 refine PyProof.Rows.callWith_type1 ?_ hs rfl
 rw [hs]
 show wpAny _ _ (spliced [(false,eval e X.env)]) _ _ s
 refine Calls.spliced_cons (thn (he pins s σ H _ I h) fun u s1 ⟨x,H1,I1,r1,q1⟩=>Calls.spliced_nil ?_)
 match x,r1,q1 with
 | .int j,⟨t,ht⟩,⟨a1,a2,a3⟩=>
  subst ht
  refine call_range_1 (Calls.spliced_nil ?_)
  have I2:Inv X pins σ H1 { s1 with heap:=s1.heap.push { cls:=.type "range",data:=.fields #[.int 0 s1.toks,.int j t,.int 1 (s1.toks + 1)] },toks:=s1.toks + 1 + 1 }:=I1.kept fun b o q=>Heap.get?_push_of_some _ q
  have hsz:Builtin.Range.rangeSize 0 j 1 = ((j.toNat:Nat):Int):=by rw [rangeSize_one]; split <;> omega
  refine tokQ I2.tk (call_list_range (n:=j.toNat) (I.ok.hd hc) (IsRange.new ..) (small_one (by decide) (by decide) a1 (by omega)) hsz (by omega) fun h' tk acc c' old ho hi (htk:0 < tk)=>?_)
  exact ⟨.ref _,_,I2.laid (o:=.lst ((List.range j.toNat).map fun (i:Nat)=>V.int i)) (t':=tk) old (Nat.le_refl _) ⟨by rw [List.length_map,List.length_range,sizeLine_eq]; omega,acc.toList,c',vals_range hi,by simpa using ho⟩,rfl,a3 _ I2.fresh⟩
theorem a_cListRng {te:TE} {σ:St} {H:Hp} {Q:VK}:cListRng te σ H Q = te σ H fun x H1=>match x with
 | .int j=>-(2 ^ 62) <= j /\ j <= 10000 /\ ∀ p,H1 p = none -> Q (.ref p) (upd H1 p (.lst ((List.range j.toNat).map fun (i:Nat)=>V.int i)))
 | _=>False:=rfl
end
noncomputable abbrev tx (l:List Nat):V:=V.str (st l)
section
variable {K:Frag} {g:TG} {tc:TT} {te:TE} {σc:St} {D:Addr} {Q:VK} {H:Hp}
theorem comp_rel {α:Type} (item:α -> V) (xs:List α) (keep:α -> Bool) (R:α -> V -> Hp -> Prop) {p:Addr} (hfree:H D = none) (hl:SqL K H p (xs.map item)) (hn:xs.length <= 100000)
  (mono:∀ x v H1 H2 acc,H1 D = some (.lst acc) -> (∀ b o,b ≠ D -> H1 b = some o -> H2 b = some o) -> R x v H1 -> R x v H2)
  (hs:∀ x H1 (out:VK) (non:Hp -> Prop),x ∈ xs -> Same H H1 -> (∀ v H6,keep x = true -> Same H1 H6 -> R x v H6 -> out v H6) -> (∀ H5,keep x = false -> Same H1 H5 -> non H5) ->
   g (item x) σc H1 fun σ4 H4=>tc σ4 H4 fun b H5=>if b = true then te σ4 H5 out else non H5)
  (hq:∀ H' vs,Same H H' -> H' D = some (.lst vs) -> Paired (fun x v=>R x v H') (xs.filter keep) vs -> Q (.ref D) H'):compW (Itl K p) g tc te σc D Q H:=by
 refine ⟨fun i m acc H2=>m = xs.length - i /\ i <= xs.length /\ Paired (fun x v=>R x v H2) ((xs.take i).filter keep) acc /\ Same H H2 /\ H2 D = some (.lst acc),⟨xs.length,by simp,Nat.zero_le _,.nil,same_new hfree _,upd_same⟩,?_⟩
 rintro i m acc H2 ⟨rfl,hi,pr,sm,hD⟩
 have len:acc.length <= i:=by
  have a:=pr.length
  have b:=List.length_filter_le keep (xs.take i)
  rw [List.length_take] at b
  omega
 by_cases hlt:i < xs.length
 ·refine .inr ⟨⟨_,item xs[i],sm.seq hl,by simp [hlt]⟩,fun x H3 y=>?_⟩
  obtain ⟨rfl,y⟩:=y
  have e:=y _ (sm.seq hl)
  rw [List.getElem?_map,List.getElem?_eq_getElem hlt] at e
  have e2:item xs[i] = x:=Option.some.inj e
  subst e2
  have ht:xs.take (i + 1) = xs.take i ++ [xs[i]]:=by rw [List.take_add_one,List.getElem?_eq_getElem hlt]; rfl
  refine hs xs[i] _ _ _ (List.getElem_mem hlt) sm (fun v H6 k s6 r=>?_) fun H5 k s5=>?_
  ·refine ⟨s6 _ _ hD,Nat.lt_of_le_of_lt len (sizeBig (by omega)),xs.length - (i + 1),by omega,rfl,hlt,?_,?_,upd_same⟩
   ·have m1:∀ x v,R x v H6 -> R x v (upd H6 D (.lst (acc ++ [v]))):=fun x v r=>mono x v H6 _ acc (s6 _ _ hD) (fun b o nb q=>by rw [upd_ne nb]; exact q) r
    rw [ht,List.filter_append]
    have f1:[xs[i]].filter keep = [xs[i]]:=by simp [k]
    rw [f1]
    have lift:∀ {l:List α} {vs:List V},Paired (fun x v=>R x v H3) l vs -> Paired (fun x v'=>R x v' (upd H6 D (.lst (acc ++ [v])))) l vs:=by
     intro l vs pp
     induction pp with
     | nil=>exact .nil
     | cons r _ ih=>exact .cons (mono _ _ H3 _ acc hD (fun b o nb q=>by rw [upd_ne nb]; exact s6 _ _ q) r) ih
    have app:∀ {l:List α} {vs:List V} {x:α} {v':V} {F:α -> V -> Prop},Paired F l vs -> F x v' -> Paired F (l ++ [x]) (vs ++ [v']):=by
     intro l vs x v' F pp r
     induction pp with
     | nil=>exact .cons r .nil
     | cons r' _ ih=>exact .cons r' ih
    exact app (lift pr) (m1 _ _ r)
   ·exact same_upd (sm.trans s6) hfree
  ·refine ⟨xs.length - (i + 1),by omega,rfl,hlt,?_,sm.trans s5,s5 _ _ hD⟩
   rw [ht,List.filter_append]
   have f1:[xs[i]].filter keep = []:=by simp [k]
   rw [f1,List.append_nil]
   have lift:∀ {l:List α} {vs:List V},Paired (fun x v=>R x v H3) l vs -> Paired (fun x v'=>R x v' H5) l vs:=by
    intro l vs pp
    induction pp with
    | nil=>exact .nil
    | cons r _ ih=>exact .cons (mono _ _ H3 _ acc hD (fun b o _ q=>s5 _ _ q) r) ih
   exact lift pr
 ·have e:i = xs.length:=by omega
  subst e
  rw [List.take_length] at pr
  exact .inl ⟨⟨_,sm.seq hl,by simp⟩,hq H2 acc sm hD pr⟩
end
section
variable {X:Cx}
noncomputable def kMulL:R2:=fun x y H Q=>match x,y with
 | .ref l,.int k=>∃ xs,H l = some (.lst xs) /\ 0 <= k /\ k <= 10000 /\ xs.length <= 100 /\ ∀ p,H p = none -> Q (.ref p) (upd H p (.lst (List.replicate k.toNat xs).flatten))
 | _,_=>False
theorem op_mulL:OpR X (binaryOp .Mult) kMulL:=op_rep.imp fun x y H Q q=>by
 unfold kMulL at q
 split at q
 ·rename_i l k
  obtain ⟨xs,h1,h2,h3,h4,q⟩:=q
  have h5:xs.length * k.toNat <= 100 * 10000:=Nat.mul_le_mul h4 (by omega)
  exact ⟨l,k,xs,rfl,rfl,h1,by omega,by omega,Nat.le_trans h5 (by rw [sizeLine_eq]; decide),q⟩
 ·exact q.elim
theorem a_kMulL {l:Addr} {k:Int} {H:Hp} {Q:VK}:kMulL (.ref l) (.int k) H Q = ∃ xs,H l = some (.lst xs) /\ 0 <= k /\ k <= 10000 /\ xs.length <= 100 /\ ∀ p,H p = none -> Q (.ref p) (upd H p (.lst (List.replicate k.toNat xs).flatten)):=rfl
end
theorem a_gSub {to ti:TE} {t:TSet} {v:V} {σ:St} {H:Hp} {Q:St -> Hp -> Prop}:gSub to ti t v σ H Q = to σ H fun o H1=>ti σ H1 fun i H2=>t o i v H2 fun H3=>Q σ H3:=rfl
theorem a_rSetL {p:Addr} {k:Int} {v:V} {H:Hp} {Q:Hp -> Prop}:rSetL (.ref p) (.int k) v H Q = ∃ xs j,H p = some (.lst xs) /\ ixN xs.length k = some j /\ Q (upd H p (.lst (xs.set j v))):=by
 refine propext ⟨?_,?_⟩
 ·rintro ⟨p',xs,k',j,e1,e2,h⟩
  cases e1
  cases e2
  exact ⟨xs,j,h⟩
 ·rintro ⟨xs,j,h⟩
  exact ⟨p,xs,k,j,rfl,rfl,h⟩
section
variable {X:Cx} {o e:Expr} {to te:TE} {apos cpos:Pos}
end
section
variable {X:Cx} {tg a b c:Expr} {ta tb tc:TE} {pos p:Pos}
end
section
variable {g:TG} {tb:TS} {D:Ends} {σ:St} {H:Hp}
end
section
variable {X:Cx} {a:Expr} {ta:TE} {p pos:Pos}
end
section
variable {prog:Program} {w:World} {A:Around} {E:Value -> Shared -> Prop} {s:Shared}
end
section
variable {X:Cx}
end
end L2
namespace L2
open PySem PySem.Spec PyProof.Rows PySem.Builtin PySem.Builtin.Str
theorem indices_far {n k:Nat} (h:n <= k):strSliceIndices none (some (k:Int)) 1 n = strSliceIndices none (some (n:Int)) 1 n:=by
 have e1:¬ ((k:Int) < 0):=by omega
 have e2:¬ ((n:Int) < 0):=by omega
 have e3:min (k:Int) (n:Int) = n:=by omega
 simp only [strSliceIndices,e1,e2,if_false,show (1:Int) > 0 by decide,if_true,e3,Int.min_self]
theorem slice_far (l:List Nat) (k:Nat):Txt.slice (st l) none (some (k:Int)) = st (l.take k):=by
 by_cases h:k <= l.length
 ·exact slice_to l k h
 ·have e:Txt.slice (st l) none (some (k:Int)) = Txt.slice (st l) none (some (l.length:Int)):=by
   unfold Txt.slice
   have hl:(st l).length = l.length:=by simp [Str.length]
   rw [hl,indices_far (show l.length <= k by omega)]
  rw [e,slice_to l l.length (Nat.le_refl _),List.take_length,List.take_of_length_le (by omega)]
section
variable {X:Cx}
noncomputable def kSlF:V -> Option Int -> Option Int -> Hp -> VK -> Prop:=fun x lo hi H Q=>match x,lo,hi with
 | .str z,none,some j=>z.cps.toList.length <= 100000 /\ 0 <= j /\ Q (.str (st (z.cps.toList.take j.toNat))) H
 | _,_,_=>False
theorem slF:SlR X kSlF:=sl_str.imp fun x lo hi H Q q=>by
 unfold kSlF at q
 split at q
 ·obtain ⟨h,h0,q⟩:=q
  rename_i z j
  obtain ⟨k,rfl⟩:∃ k:Nat,j = k:=⟨j.toNat,by omega⟩
  refine ⟨z,rfl,by rw [strlen]; exact Nat.le_trans h big5,?_⟩
  have e:=slice_far z.cps.toList k
  rw [st_eta] at e
  rw [e]
  simpa using q
 ·exact q.elim
theorem a_kSlF {l:List Nat} {j:Int} {H:Hp} {Q:VK}:kSlF (.str (st l)) none (some j) H Q = (l.length <= 100000 /\ 0 <= j /\ Q (.str (st (l.take j.toNat))) H):=rfl
end
end L2
namespace L2
open PySem PySem.Spec PyProof.Rows
section
variable {X:Cx}
theorem ps_setC {i:Nat} {x:Str} {pos' spos:Pos} {elt tg iter:Expr} {ifs:List Expr} {scope:Scope} {pos:Pos} {wi:TI} {g:TG} {tc:TT} {te:TE} {nt:Nat} {fi:List Nat} {N':List Str} (hN:X.N.Nodup) (hi0:X.N[i]? = some x) (hx:Loc X.env.scope x) (hcalm:X.calm = true)
  (S:CScope scope) (cn:CNames X scope nt fi N') (gk:GK nt g) (hi:PI X tg iter wi)
  (hg:∀ cl C s H ex,PG (cxC X scope cl N' C s H ex) tg g) (hc:∀ cl C s H ex,PIf (cxC X scope cl N' C s H ex) ifs tc) (he:∀ cl C s H ex,PE (cxC X scope cl N' C s H ex) elt te)
  (hsw:swapsWith (.ListComp elt [⟨tg,iter,ifs,0⟩] scope pos) (some (.Name x pos')) spos.line X.env = pure true:=by rfl)
  (hs:∀ x,foldedSetIterable iter X.env x = pure x:=by intro _; rfl) (hf:X.fn x = true \/ X.env.scope.names.lookup x = some .local:=by first | exact .inl rfl | exact .inr rfl | assumption):
  PS X (.Assign [.Name x pos'] (.ListComp elt [⟨tg,iter,ifs,0⟩] scope pos) spos) (tAsg (cComp nt fi wi g tc te) (gName i)):=by
 intro pins s σ H D I h
 have hfr:∀ y ∈ scope.names,y.2 = .free -> ∃ c,X.env.cells.lookup y.1 = some c:=fun y hy e=>I.ok.has y.1 (cn.fre y hy e)
 rw [exec_Assign_Name_used _ _ _ _ hsw]
 refine wpAny_bind (wpAny_standAt (wpAny_bind ?_))
 change wpAny _ X.A (do let _ <- comprehension (.ListComp elt [⟨tg,iter,ifs,0⟩] scope pos) scope X.env _ (newList []) false (eval iter X.env) (some (assign (.Name x pos') X.env))) _ _ s
 refine wpAny_bind (thn (Q:=fun _ s'=>∃ σ' H',Inv X pins σ' H' s' /\ D.nx σ' H') ?_ fun _ s' q=>wpAny_pure (wpAny_pure q))
 refine wpAny_comprehension_free (use:=some (assign (.Name x pos') X.env)) rfl hs (closureFor_some hfr) S.kind S.loc (thn (hi pins s σ H _ I h) fun v s1 h1=>thn h1 fun itv s2 h2=>?_)
 obtain ⟨it,fp,tn,J,H2,e,I2,T,st2,f2,hW⟩:=h2
 subst e
 have fD:H2 s2.heap.objs.size = none:=I2.hok.fresh (Nat.le_refl _)
 obtain ⟨W,⟨m0,w0⟩,turn⟩:=hW s2.heap.objs.size fD
 refine wpAny_newObj_type (wpAny_newFunctionEnv S.nocell (by intro y hy; simp at hy) (fun h₁ hns₁ hsb₁=>?_) S.kind)
 have I3:Inv X pins σ (upd H2 s2.heap.objs.size (.lst [])) { s2 with heap:=s2.heap.push { cls:=.type "list",dict:=none,data:=.seq ([]:List Value).toArray } }:=I2.lnew (its:=[]) (t':=s2.toks) .nil (Nat.zero_le _)
 generalize hs3:({ s2 with heap:=s2.heap.push { cls:=.type "list",dict:=none,data:=.seq ([]:List Value).toArray } }:Shared) = s3 at I3 hns₁ hsb₁ ⊢
 have hsz:s3.heap.objs.size = s2.heap.objs.size + 1:=by rw [<- hs3]; exact Heap.size_push ..
 have ob2:∀ b ∈ fp,∃ o,s3.heap.get? b = some o:=fun b hb=>by
  obtain ⟨o,e,_⟩:=T.obj _ _ st2 b hb
  rw [<- hs3]
  exact ⟨o,Heap.get?_push_of_some _ e⟩
 have f3:∀ b ∈ fp,FpOk X pins (upd H2 s2.heap.objs.size (.lst [])) b:=fun b hb=>by
  obtain ⟨o,e,_⟩:=T.obj _ _ st2 b hb
  refine ⟨?_,(f2 b hb).2⟩
  rw [upd_ne (Nat.ne_of_lt (Heap.lt_size e))]
  exact (f2 b hb).1
 have kp:∀ b o,s3.heap.get? b = some o -> h₁.get? b = some o:=fun b o e=>hsb₁.extBut b o (Nat.ne_of_lt (Heap.lt_size e)) (Heap.get?_push_of_some _ e)
 have st3:tn 0 h₁:=T.keep _ _ _ st2 fun b _ o e=>kp b o (by rw [<- hs3]; exact Heap.get?_push_of_some _ e)
 have J4:Inv (cxC X scope (clOf X.env.cells scope.names []) N' s3.heap.objs.size s3 (upd H2 s2.heap.objs.size (.lst [])) fp) (X.pn ++ pins) (compσ nt fi σ) (upd H2 s2.heap.objs.size (.lst [])) { s3 with heap:=h₁,toks:=s3.toks + ([]:List (Str × Value)).length }:=
  inv_comp I3 S cn f3 ob2 hns₁ kp I3.tk
 generalize hcl:clOf X.env.cells scope.names [] = cl at J4 ⊢
 generalize hH3:upd H2 s2.heap.objs.size (.lst []) = H3 at J4 I3 f3 w0
 have stat:∀ {H':Hp},(∀ b ∈ fp,H' b = none) -> ∀ b ∈ fp,FpOk (cxC X scope cl N' s3.heap.objs.size s3 H3 fp) (X.pn ++ pins) H' b:=fun {H'} hn b hb=>by
  obtain ⟨g0,g1,g2,g3,g4,g5⟩:=f3 b hb
  have ok:=J4.ok
  refine ⟨hn b hb,(ok.exf b hb).1,ok.exfs b hb,.inl hb,(ok.exf b hb).2,fun p hp=>g5 p ?_⟩
  have hp':p ∈ ([]:List (Addr × Obj)) ++ (X.pn ++ pins):=hp
  simpa using hp'
 have loop:∀ s₃:Shared,s₃ = { s3 with heap:=h₁,toks:=s3.toks + ([]:List (Str × Value)).length } ->
   codeAny (model X.prog X.w) X.A (.compLoop (.ListComp elt [⟨tg,iter,ifs,0⟩] scope pos) 0 (.ref it) (.ref s2.heap.objs.size) (compEnvC scope cl s3.heap.objs.size X.env))
    (compPost (model X.prog X.w) X.A X.xe (some (assign (.Name x pos') X.env)) (fun _ s'=>∃ σ' H',Inv X pins σ' H' s' /\ D.nx σ' H') (.ref s2.heap.objs.size) s3.heap.objs.size) s₃:=by
  rintro s₃ rfl
  refine compLoop_any (fun n s'=>∃ i acc H',Inv (cxC X scope cl N' s3.heap.objs.size s3 H3 fp) (X.pn ++ pins) (compσ nt fi σ) H' s' /\ tn i s'.heap /\ (∀ b ∈ fp,H' b = none) /\ W i n acc H') ?_ m0
   ⟨0,[],H3,J4,st3,fun b hb=>(f3 b hb).1,w0⟩
  rintro n s5 ⟨ii,acc,H5,I5,st5,fr5,w5⟩
  rcases turn ii n acc H5 w5 with ⟨stop,qn⟩ | ⟨go,step⟩
  ·refine thn (T.done (cxC X scope cl N' s3.heap.objs.size s3 H3 fp) rfl rfl rfl hcalm ii (X.pn ++ pins) s5 (compσ nt fi σ) H5 (fun _ _=>False) I5 (stat fr5) st5 stop) fun r s6 ⟨hr,I6⟩=>?_
   subst hr
   obtain ⟨m6,hn6,_⟩:=I6.loc
   have I7:Inv X pins σ H5 s6:=inv_back I3 f3 (Nat.le_refl _) I6 (Heap.SameBut.refl _ s6.heap)
   have fC:FpOk X pins H5 s3.heap.objs.size:=I3.fpOk (Nat.le_refl _) I6.free
   obtain ⟨c0,c1,c2,c3,c4,c5⟩:=fC
   refine wpAny_assign_Name (store_ok2 I7 hN hi0 hx (v:=.ref s2.heap.objs.size) rfl (fun s8 I8 ⟨a,sb,ha⟩=>?_) hf)
   have na:a ≠ s3.heap.objs.size:=by
    rcases ha with rfl | ha
    ·exact c1.symm
    ·exact c4 x a ha
   refine ⟨m6,hn6.sameBut sb na.symm,fun h' sb'=>⟨_,H5,?_,qn⟩⟩
   exact I8.turned (t':=s8.toks) (fun b o nb e=>(sb'.2 b nb).trans e) c0 c1 c3 c4 c5
  ·refine thn (T.item (cxC X scope cl N' s3.heap.objs.size s3 H3 fp) rfl rfl rfl hcalm ii (X.pn ++ pins) s5 (compσ nt fi σ) H5 (fun _ _=>False) I5 (stat fr5) st5 go) fun r s6 ⟨u,hr,h6⟩=>?_
   subst hr
   refine thn h6 fun _ s7 ⟨y,H7,I7,r7,y7,st7,fr7⟩=>?_
   have I7':=I7.pinned (stat fr7) (T.obj _ _ st7)
   refine thn (hg _ _ _ _ _ _ s7 (compσ nt fi σ) H7 y u _ I7' r7 (gk _ _ _ _ (step y H7 y7))) fun _ s8 ⟨σ8,H8,I8,q8,l8,d8⟩=>?_
   refine thn (hc _ _ _ _ _ _ s8 σ8 H8 _ I8 q8) fun b s9 ⟨H9,I9,q9⟩=>?_
   have again:∀ {s':Shared} {H':Hp} {m':Nat} {acc':List V},Inv (cxC X scope cl N' s3.heap.objs.size s3 H3 fp) ((X.pn ++ pins) ++ pinsAt fp s7.heap) σ8 H' s' -> m' < n -> W (ii + 1) m' acc' H' ->
     ∃ m,m < n /\ ∃ i acc H',Inv (cxC X scope cl N' s3.heap.objs.size s3 H3 fp) (X.pn ++ pins) (compσ nt fi σ) H' s' /\ tn i s'.heap /\ (∀ b ∈ fp,H' b = none) /\ W i m acc H':=fun {s' H' m' acc'} I' hm w'=>by
    refine ⟨m',hm,ii + 1,acc',H',I'.unpinned.weak l8.symm (compσ_weak l8 d8),T.keep _ _ _ st7 fun b hb o e=>(I'.pin (b,o) (List.mem_append_right _ (List.mem_append_right _ (mem_pinsAt hb e)))).1,fun b hb=>?_,w'⟩
    obtain ⟨o,e,d⟩:=T.obj _ _ st7 b hb
    exact (I'.pin (b,o) (List.mem_append_right _ (List.mem_append_right _ (mem_pinsAt hb e)))).2.1
   cases b with
   | false=>
    rw [if_neg Bool.false_ne_true] at q9 ⊢
    obtain ⟨m',hm,w'⟩:=q9
    exact again I9 hm w'
   | true=>
    rw [if_pos rfl] at q9 ⊢
    refine thn (he _ _ _ _ _ _ s9 σ8 H9 _ I9 q9) fun uv s10 ⟨v10,H10,I10,r10,hD,hlt,m',hm,w'⟩=>?_
    refine thn (mt_append (X:=cxC X scope cl N' s3.heap.objs.size s3 H3 fp) _ s10 σ8 H10 (.ref s2.heap.objs.size) [v10] (.ref s2.heap.objs.size) [uv] (fun _ H'=>H' = upd H10 s2.heap.objs.size (.lst (acc ++ [v10]))) I10 rfl (.cons r10 .nil) ⟨_,acc,v10,rfl,rfl,hD,hlt,rfl⟩) fun _ s11 ⟨_,H11,I11,_,e11⟩=>?_
    subst e11
    exact again I11 hm w'
 exact codeAny_compStart_list (loop _ rfl) (T.self _ 0 _ _ _ st3 (loop _ rfl))
end
structure Fly (P:Program) (w:World) (outer:List Env) (H H':Hp) (h h':Heap) (ea C:Addr):Prop where
 un:Un (frs outer) [] H H' h h'
 hok:HOk P w H' h'
 new:∀ b o,h.get? b = some o -> b ≠ ea
 fr:H' ea = none
 fl:∃ B a0,Heap.FlyingW B outer ea (.ref C) a0 h' /\ ∀ b,((∃ o,h.get? b = some o) /\ b ∉ frs outer) \/ H' b ≠ none -> ∃ o,B.get? b = some o
noncomputable def XR (P:Program) (w:World):CXT:=fun outer H s E e s'=>
 ∃ ea C H',e = .ref ea /\ 0 < s'.toks /\ s'.os = s.os /\ AllBare s'.gens /\ Fly P w outer H H' s.heap s'.heap ea C /\ E (.ref C) none H'
theorem Fly.on {P:Program} {w:World} {outer:List Env} {H H':Hp} {h h' h2:Heap} {ea C:Addr} (F:Fly P w outer H H' h h' ea C) {B:Heap} {a0:Value}
  (fl1:Heap.FlyingW B outer ea (.ref C) a0 h') (inB:∀ b,((∃ o,h.get? b = some o) /\ b ∉ frs outer) \/ H' b ≠ none -> ∃ o,B.get? b = some o)
  (ff:∀ b ∈ frs outer,H b = none) (fl2:Heap.FlyingW B outer ea (.ref C) a0 h2) (up:h'.UpToSlots h2):Fly P w outer H H' h h2 ea C:=by
 have same:∀ b o,((∃ o,h.get? b = some o) /\ b ∉ frs outer) \/ H' b ≠ none -> h'.get? b = some o -> h2.get? b = some o:=fun b o hb e=>by
  obtain ⟨o',eB⟩:=inB b hb
  have e1:=fl1.1 b o' eB
  rw [e] at e1; cases e1
  exact fl2.1 b o eB
 have sl:∀ b o,b ∈ frs outer -> h'.get? b = some o -> ∃ sl,h2.get? b = some { o with slots:=sl }:=fun b o hb e=>by
  obtain ⟨_,o',ho',hd⟩:=fl1.2.2.1.mem hb
  rw [e] at ho'; cases ho'
  exact up b o e hd
 refine ⟨⟨fun b o e n hf hx=>same b o (.inl ⟨⟨o,e⟩,hf⟩) (F.un.keep b o e n hf hx),fun b o e n hf hx=>?_,F.un.free,fun b o e hx=>?_,F.un.tups,F.un.frzs,F.un.tbls⟩,fun a o e=>?_,F.new,F.fr,B,a0,fl2,inB⟩
 ·obtain ⟨s1,e1⟩:=F.un.slot b o e n hf hx
  obtain ⟨s2,e2⟩:=sl b _ hf e1
  exact ⟨s2,e2⟩
 ·obtain ⟨o1,e1⟩:=F.un.there b o e hx
  by_cases hf:b ∈ frs outer
  ·obtain ⟨s2,e2⟩:=sl b _ hf e1
   exact ⟨_,e2⟩
  ·exact ⟨o1,same b o1 (.inl ⟨⟨o,e⟩,hf⟩) e1⟩
 ·refine (F.hok a o e).stay (fun b u hb q=>same b u (.inr ?_) q) (fun _ q=>q) fun _ _ q=>q
  rcases hb with rfl | hb
  ·rw [e]; simp
  ·rw [hb]; simp
section
variable {X:Cx} {pins:List (Addr × Obj)} {σ:St} {H:Hp} {s:Shared}
theorem frs_cons {env:Env} {l:List Env} {L:Addr} (hf:env.frame = some L):frs (env :: l) = L :: frs l:=by unfold frs; rw [List.filterMap_cons,hf]
theorem Inv.leave (I:Inv X pins σ H s) (hex:X.ex = []) {B h2:Heap} {ea C:Addr} {a0:Value} (hB:B.StaysIn s.heap) (up:s.heap.UpToSlots h2)
  (inB:∀ b,((∃ o,X.s₀.heap.get? b = some o) /\ b ∉ frs X.outer) \/ H b ≠ none -> ∃ o,B.get? b = some o) (fl:Heap.FlyingW B X.outer ea (.ref C) a0 h2)
  (new:∀ b o,X.s₀.heap.get? b = some o -> b ≠ ea) (fr:H ea = none):Fly X.prog X.w X.outer X.H₀ H X.s₀.heap h2 ea C:=by
 have nx:∀ b:Addr,b ∉ X.ex:=fun b z=>by rw [hex] at z; cases z
 have same:∀ b o,((∃ o,X.s₀.heap.get? b = some o) /\ b ∉ frs X.outer) \/ H b ≠ none -> s.heap.get? b = some o -> h2.get? b = some o:=fun b o hb e=>by
  obtain ⟨o',eB⟩:=inB b hb
  have e1:=hB b o' eB
  rw [e] at e1; cases e1
  exact fl.1 b o eB
 have sl:∀ b o,b ∈ frs X.outer -> s.heap.get? b = some o -> ∃ sl,h2.get? b = some { o with slots:=sl }:=fun b o hb e=>by
  obtain ⟨_,o',ho',hd⟩:=I.funs.mem hb
  rw [e] at ho'; cases ho'
  exact up b o e hd
 refine ⟨⟨fun b o e n hf _=>same b o (.inl ⟨⟨o,e⟩,hf⟩) (I.base.keep b o e n hf (nx b)),fun b o e n hf _=>?_,fun b o e n _=>I.base.free b o e n (nx b),fun b o e _=>?_,I.base.tups,I.base.frzs,I.base.tbls⟩,fun a o e=>?_,new,fr,B,a0,fl,inB⟩
 ·obtain ⟨s1,e1⟩:=I.base.slot b o e n hf (nx b)
  obtain ⟨s2,e2⟩:=sl b _ hf e1
  exact ⟨s2,e2⟩
 ·obtain ⟨o1,e1⟩:=I.base.there b o e (nx b)
  by_cases hf:b ∈ frs X.outer
  ·obtain ⟨s2,e2⟩:=sl b _ hf e1
   exact ⟨_,e2⟩
  ·exact ⟨o1,same b o1 (.inl ⟨⟨o,e⟩,hf⟩) e1⟩
 ·refine (I.hok a o e).stay (fun b u hb q=>same b u (.inr ?_) q) (fun _ q=>q) fun _ _ q=>q
  rcases hb with rfl | hb
  ·rw [e]; simp
  ·rw [hb]; simp
end
def Raises (X:Cx) (E:XK):Prop:=∀ (pins:List (Addr × Obj)) (σ:St) (H:Hp) (s:Shared) (h':Heap) (e C:Addr) (vs:List Value),
 Inv X pins σ H s -> Heap.MadeExcOf s.heap h' e (.ref C) vs -> E (.ref C) none H -> X.xe (.ref e) { s with heap:=h' }
section
variable {P:Program} {w:World} {K:Frag} {mg:Str -> Option Value} {base:Heap} {N:List Str} {qual:Str} {scope:Scope} {f:Addr} {cd:Value} {A:Around} {outer:List Env} {s₀:Shared} {H₀:Hp} {E:XK}
theorem raises_fn:Raises (cxOf (XR P w) P w K mg base N qual scope f cd A outer s₀ H₀ E) E:=by
 intro pins σ H s h' e C vs I M q
 let X:Cx:=cxOf (XR P w) P w K mg base N qual scope f cd A outer s₀ H₀ E
 have I:Inv X pins σ H s:=I
 have hf:X.env.frame = some X.env.locals:=rfl
 have hst:X.stack = X.env :: X.outer:=rfl
 show wpAny (model P w) X.A (leaving X.env (.ref e)) (fun _ s''=>XR P w outer H₀ s₀ E (.ref e) s'') (fun e' s''=>XR P w outer H₀ s₀ E e' s'') { s with heap:=h' }
 have hin:∀ env ∈ X.stack,∀ a,env.frame = some a -> a ∈ frs X.stack:=fun env he a ha=>List.mem_filterMap.mpr ⟨env,he,ha⟩
 refine wpAny_leaves_madeW (s:={ s with heap:=h' }) (base:=PySem.W.hideAll s.heap (frs X.stack)) (h:=s.heap) (env:=X.env) (outer:=X.outer) (L:=X.env.locals) I.ok.frames hf (fun b o z=>PySem.W.of_hideAll _ z) (PySem.W.funFrames_hide I.stack hin) M fun h2 t fl _ _ up=>?_
 have up1:s.heap.UpToSlots h2:=(Heap.UpToSlots.of_keeps M.keeps).trans up
 have ne:∀ b o,s.heap.get? b = some o -> b ≠ e:=fun b o q z=>by rw [z,M.new] at q; cases q
 refine ⟨e,C,H,rfl,I.tk,I.os,I.bare,I.leave rfl (fun b o z=>PySem.W.of_hideAll _ z) up1 (fun b hb=>?_) fl (fun b o z=>?_) ?_,q⟩
 ·rcases hb with ⟨⟨o,eo⟩,nf⟩ | hb
  ·obtain ⟨o1,e1⟩:=I.base.there b o eo (by intro z; cases z)
   refine ⟨o1,PySem.W.hideAll_get _ e1 ?_⟩
   rw [hst,frs_cons hf]
   intro z
   rcases List.mem_cons.mp z with z | z
   ·exact absurd (Nat.lt_of_lt_of_le (Heap.lt_size eo) I.ok.above) (by rw [z]; exact Nat.lt_irrefl _)
   ·exact nf z
  ·cases eb:H b with
   | none=>exact absurd eb hb
   | some u=>
    have lt:=I.hok.lt eb
    cases eo:s.heap.get? b with
    | none=>
     exfalso
     have:=(I.hok b u eb)
     cases u with
     | lst xs=>obtain ⟨_,_,_,_,e⟩:=this; rw [eo] at e; cases e
     | tup xs=>obtain ⟨_,_,_,_,e,_⟩:=this; rw [eo] at e; cases e
     | dK kvs=>obtain ⟨_,_,_,_,o,_,_,e,_⟩:=this; rw [eo] at e; cases e
     | dT kvs=>obtain ⟨_,_,_,_,o,_,_,e,_⟩:=this; rw [eo] at e; cases e
     | set S n=>obtain ⟨o,_,_,_,e,_⟩:=this; rw [eo] at e; cases e
     | ins C dx fs=>obtain ⟨_,_,_,e,_⟩:=this; rw [eo] at e; cases e
     | own y=>obtain ⟨_,e⟩:=this; rw [eo] at e; cases e
     | xd fs=>obtain ⟨_,⟨_,_,_,e,_⟩,_⟩:=this; rw [eo] at e; cases e
     | rng lo hi=>obtain ⟨_,_,_,e⟩:=this; rw [eo] at e; cases e
     | frz ob u=>obtain ⟨e,_⟩:=this; rw [eo] at e; cases e
     | tbl ps=>have e:s.heap.get? b = some _:=this; rw [eo] at e; cases e
     | met f y=>have e:s.heap.get? b = some _:=this; rw [eo] at e; cases e
     | ext φ=>obtain ⟨_,⟨_,e⟩,_⟩:=this; rw [eo] at e; cases e
    | some o=>
     refine ⟨o,PySem.W.hideAll_get _ eo fun z=>?_⟩
     exact hb (I.stkFree b z)
 ·obtain ⟨o1,e1⟩:=I.base.there b o z (by intro z; cases z)
  exact ne b o1 e1
 ·cases eb:H e with
  | none=>rfl
  | some u=>
   exfalso
   have:=(I.hok e u eb)
   have eo:=M.new
   cases u with
   | lst xs=>obtain ⟨_,_,_,_,e⟩:=this; rw [eo] at e; cases e
   | tup xs=>obtain ⟨_,_,_,_,e,_⟩:=this; rw [eo] at e; cases e
   | dK kvs=>obtain ⟨_,_,_,_,o,_,_,e,_⟩:=this; rw [eo] at e; cases e
   | dT kvs=>obtain ⟨_,_,_,_,o,_,_,e,_⟩:=this; rw [eo] at e; cases e
   | set S n=>obtain ⟨o,_,_,_,e,_⟩:=this; rw [eo] at e; cases e
   | ins C dx fs=>obtain ⟨_,_,_,e,_⟩:=this; rw [eo] at e; cases e
   | own y=>obtain ⟨_,e⟩:=this; rw [eo] at e; cases e
   | xd fs=>obtain ⟨_,⟨_,_,_,e,_⟩,_⟩:=this; rw [eo] at e; cases e
   | rng lo hi=>obtain ⟨_,_,_,e⟩:=this; rw [eo] at e; cases e
   | frz ob u=>obtain ⟨e,_⟩:=this; rw [eo] at e; cases e
   | tbl ps=>have e:s.heap.get? _ = some _:=this; rw [eo] at e; cases e
   | met f y=>have e:s.heap.get? _ = some _:=this; rw [eo] at e; cases e
   | ext φ=>obtain ⟨_,⟨_,e⟩,_⟩:=this; rw [eo] at e; cases e
theorem passes_fn:Passes (XR P w) (cxOf (XR P w) P w K mg base N qual scope f cd A outer s₀ H₀ E) E:=by
 intro pins σ H s e s' I h
 let X:Cx:=cxOf (XR P w) P w K mg base N qual scope f cd A outer s₀ H₀ E
 have I:Inv X pins σ H s:=I
 obtain ⟨ea,C,H',rfl,tk,os,bare,F,q⟩:=h
 have hf:X.env.frame = some X.env.locals:=rfl
 have hst:X.stack = X.env :: X.outer:=rfl
 show wpAny (model P w) X.A (leaving X.env (.ref ea)) (fun _ s''=>XR P w outer H₀ s₀ E (.ref ea) s'') (fun e' s''=>XR P w outer H₀ s₀ E e' s'') s'
 obtain ⟨B,a0,fl,inB⟩:=F.fl
 have I2:Inv X pins σ H' s':=I.call' os F.un F.hok bare (fun b z=>nomatch z) tk
 refine wpAny_leaves_onW (env:=X.env) (outer:=X.outer) (L:=X.env.locals) I.ok.frames hf fl fun h2 fl2 up=>?_
 refine ⟨ea,C,H',rfl,tk,os.trans I.os,bare,I2.leave rfl fl.1 up (fun b hb=>inB b ?_) fl2 (fun b o z=>?_) F.fr,q⟩
 ·rcases hb with ⟨⟨o,eo⟩,nf⟩ | hb
  ·obtain ⟨o1,e1⟩:=I.base.there b o eo (by intro z; cases z)
   refine .inl ⟨⟨o1,e1⟩,?_⟩
   show b ∉ frs X.stack
   rw [hst,frs_cons hf]
   intro z
   rcases List.mem_cons.mp z with z | z
   ·exact absurd (Nat.lt_of_lt_of_le (Heap.lt_size eo) I.ok.above) (by rw [z]; exact Nat.lt_irrefl _)
   ·exact nf z
  ·exact .inr hb
 ·obtain ⟨o1,e1⟩:=I.base.there b o z (by intro z; cases z)
  exact F.new b o1 e1
end
abbrev bmV:List Value:=[.type "ValueError",.type "Exception",.type "BaseException",.type "object"]
structure XCl (K:Frag) (C:Addr):Prop where
 ex:PySem.W.excIn K C bmV "ValueError.__new__" = true
 ty:PySem.W.typeIn K (.ref C) = some (.type "type")
 mb:PySem.W.mroIn K C (.type "BaseException") = some true
 ga:findIn K (.ref C) "__getattribute__" = some (some (.builtin "BaseException.__getattribute__"))
 gh:findIn K (.ref C) "__getattr__" = some none
 ca:findIn K (.ref C) "__class__" = some (some (.builtin "object.__class__"))
 gt:PySem.W.specialIn K (.builtin "object.__class__") "__get__" = some (some (.builtin "getset_descriptor.__get__"))
 tk:PySem.W.takesIn K (.builtin "object.__class__") = some true
 mo:PySem.W.mroIn K C (.type "object") = some true
theorem XCl.own {K:Frag} {h:Heap} {C:Addr} (c:XCl K C) (X:K.In h):OwnCls "x" C bmV "ValueError.__new__" (fun _=>some (.ref C)) h:=by
 have q:=c.ex
 refine ⟨rfl,?_⟩
 revert q
 unfold PySem.W.excIn
 rcases hk:K.lookup C with _ | ⟨oc,odd,oda,osl⟩
 ·intro q; cases q
 ·intro q
  split at q
  case h_2=>cases q
  case h_1 dd cdt sl eo=>
   cases eo
   split at q
   case h_2=>cases q
   case h_1 C' bm a0 a1 a2 a3 n a5 em es=>
    simp only [Bool.and_eq_true,beq_iff_eq,Bool.not_eq_true'] at q
    obtain ⟨⟨⟨⟨⟨e1,e2⟩,e3⟩,e4⟩,e5⟩,e6⟩:=q
    subst e1 e2
    obtain ⟨f1,f2,f3,f4,f5,f6,f7,f8,f9,f10,f11⟩:=cdt
    dsimp only at em e3 e5 e6
    subst em e3
    have el:osl = #[a0,a1,a2,a3,some (.builtin "ValueError.__new__"),a5]:=by
     rcases osl with ⟨l⟩
     simp only at es
     rw [es]
    subst el
    exact ⟨bm,f4,f1,f5,f2,f6,f7,f8,f9,f10,odd,a0,a1,a2,a3,a5,_,X _ _ hk,.of_isNs (PySem.W.isNs_of_in X e5),PySem.W.nsMap_none_of_in X e5 e6,PySem.W.tail_of_in X e4⟩
section
variable {X:Cx} {x:Str} {C:Addr} {np cpos pos:Pos} {e:Expr} {es:List Expr} {t:TA} {E:XK}
noncomputable def tRaise (C:Addr) (E:XK) (t:TA):TS:=fun _ σ H=>t σ H fun vs H1=>vs.length <= sizeLine /\ E (.ref C) none H1
theorem ps_raise (hc:X.calm = true) (hx:Raises X E) (hg:Gl X x) (hm:X.mg x = some (.ref C)) (c:XCl X.K C) (ha:PA X (e :: es) t) (hdb:(x == ("__debug__" : Str)) = false:=by decide)
  (he:starEach (e :: es) X.env = (false,eval e X.env) :: starEach es X.env:=by rfl) (hpl:(backTo cpos (starEach es X.env)).any (·.1) = false:=by rfl):
  PS X (.Raise (some (.Call (.Name x np) (e :: es) [] cpos)) none pos) (tRaise C E t):=by
 intro pins s σ H D I h
 obtain ⟨tl,N,nm,q,bs,hdct,sn,sub,ab,col,dd,k0,k1,k2,k3,k5,mN,hC,hN,hni,T⟩:=(c.own I.mod.kin).obj
 refine wpAny_Raise_call_subU (k5:=k5) (k3:=k3) (k2:=k2) (k1:=k1) (k0:=k0) (dd:=dd) (col:=col) (ab:=ab) (sub:=sub) (sn:=sn) (hdct:=hdct) (bs:=bs) (q:=q) (C:=C) (nm:=nm) (N:=N) (bm:=tl) (mN:=mN) PySem.F.excBase_ValueError (by decide) PySem.F.excBase_ValueError (T.hasType PySem.F.excBase_ValueError.hasBase) (I.ok.hd hc) ?_ hni (ld_glob I hg hm ⟨rfl,?_⟩ hdb)
 ·rw [he]
  show (false || (backTo cpos (starEach es X.env)).any (·.1)) = false
  rw [hpl]; rfl
 ·have hp:=ha cpos pins s σ H _ I h
  rw [he] at hp ⊢
  refine Calls.evalArgs_plain (wpAny_mono hp (fun us s2 hq=>?_) fun _ _ y=>y)
  obtain ⟨vs,H1,I1,r,z,q1⟩:=hq
  exact ⟨rfl,by rw [<- r.length]; exact z,I1.bk _ _ hC,hN.keeps I1.bk,T.keeps I1.bk,fun h' ea M=>hx pins σ H1 s2 h' ea C us I1 M q1⟩
end
section
variable {K:Frag} {M:Model} {h:Heap} {C D e:Addr}
theorem XCl.isType (d:XCl K D) (X:K.In h):PySem.W.Looks M h (isType (.ref D)) true:=by
 obtain ⟨tl,N,nm,q,bs,hdct,sn,sub,ab,col,dd,k0,k1,k2,k3,k5,mN,hC,hN,hni,T⟩:=(d.own X).obj
 intro A Q E s k z
 unfold PySem.isType loadHead
 exact wpAny_bind (wpAny_loadPart (k D _ hC) (wpAny_pure z))
theorem looks_excMatches (X:K.In h) (d:XCl K D) (m:PySem.W.mroIn K C (.ref D) = some true) (he:∃ o,h.get? e = some o /\ o.cls = .ref C):PySem.W.Looks M h (excMatches (.ref e) (.ref D)) true:=by
 obtain ⟨oe,e1,e2⟩:=he
 have T:PySem.W.Looks M h (typeOf (.ref e)) (.ref C):=e2 ▸ (PySem.W.Looks.ld e1).andThen .now
 have TD:PySem.W.Looks M h (typeOf (.ref D)) (.type "type"):=PySem.W.looks_typeIn X d.ty
 have S:=PySem.W.looks_mroIn (M:=M) X m
 have SB:=PySem.W.looks_mroIn (M:=M) X d.mb
 have NT:PySem.W.Looks M h (isInstance (.ref D) (.type "tuple")) false:=TD.andThen (.of_pure tc_notTuple)
 have IE:PySem.W.Looks M h (isExcClass (.ref D)) true:=by
  intro A Q E s k z
  unfold isExcClass
  refine wpAny_bind (d.isType X A _ E s k ?_)
  exact SB A Q E s k z
 intro A Q E s k q
 unfold excMatches
 refine wpAny_bind (NT A _ E s k ?_)
 simp only [Bool.false_eq_true,if_false]
 refine wpAny_bind (wpAny_pure ?_)
 simp only [List.forIn_cons,List.forIn_nil]
 refine wpAny_bind (wpAny_bind (wpAny_bind (IE A _ E s k ?_)))
 simp only [Bool.not_true,Bool.false_eq_true,if_false]
 refine wpAny_pure (wpAny_pure (wpAny_bind (T A _ E s k ?_)))
 refine wpAny_bind (wpAny_bind (wpAny_bind (S A _ E s k ?_)))
 simp only [if_true]
 exact wpAny_pure (wpAny_pure (wpAny_pure q))
end
noncomputable def Cx.tries (X:Cx) (W:St -> XK) (p:List (Addr × Obj)):Cx:=
 { X with pn:=X.pn ++ p,xe:=fun e s'=>∃ σ H s,Inv X p σ H s /\ XR X.prog X.w X.stack H s (W σ) e s' }
noncomputable def Cx.hand (X:Cx) (ea:Addr):Cx:={ X with A:=X.A.mark (some (.ref ea)),calm:=false,xe:=fun _ _=>False }
section
variable {X:Cx} {W:St -> XK} {p pins:List (Addr × Obj)} {σ:St} {H:Hp} {s:Shared}
theorem Cx.Ok.tries (k:X.Ok):(X.tries W p).Ok:=
 ⟨k.mod,k.kind,k.glob,k.blt,k.above,k.inj,k.has,k.cab,k.hd,k.frames,k.stk,k.exf,k.bs,k.bsz,k.noex,k.exfs,k.funs,k.frf⟩
theorem Cx.Ok.untries (k:(X.tries W p).Ok):X.Ok:=
 ⟨k.mod,k.kind,k.glob,k.blt,k.above,k.inj,k.has,k.cab,k.hd,k.frames,k.stk,k.exf,k.bs,k.bsz,k.noex,k.exfs,k.funs,k.frf⟩
theorem Inv.tries (I:Inv X p σ H s):Inv (X.tries W p) [] σ H s:=
 ⟨I.ok.tries,I.os,I.bare,I.base,I.loc,I.cell,I.free,I.freeC,fun q hq=>I.pin q (by rw [List.append_nil] at hq; exact hq),I.hok,I.len,I.tk⟩
theorem Inv.untries (I:Inv (X.tries W p) pins σ H s):Inv X p σ H s:=
 ⟨I.ok.untries,I.os,I.bare,I.base,I.loc,I.cell,I.free,I.freeC,fun q hq=>I.pin q (List.mem_append_left _ hq),I.hok,I.len,I.tk⟩
theorem Cx.Ok.hand (k:X.Ok) (ea:Addr):(X.hand ea).Ok:=
 ⟨k.mod,k.kind,k.glob,k.blt,k.above,k.inj,k.has,k.cab,fun z=>(nomatch z),k.frames,k.stk,k.exf,k.bs,k.bsz,k.noex,k.exfs,k.funs,k.frf⟩
theorem Inv.hand (I:Inv X p σ H s) (ea:Addr):Inv (X.hand ea) p σ H s:=
 ⟨I.ok.hand ea,I.os,I.bare,I.base,I.loc,I.cell,I.free,I.freeC,I.pin,I.hok,I.len,I.tk⟩
theorem Inv.unhand {ea:Addr} (k:X.Ok) (I:Inv (X.hand ea) p σ H s):Inv X p σ H s:=
 ⟨k,I.os,I.bare,I.base,I.loc,I.cell,I.free,I.freeC,I.pin,I.hok,I.len,I.tk⟩
end
def PassesT (CX:CXT) (X:Cx) (W:St -> XK):Prop:=∀ (pins:List (Addr × Obj)) (σ:St) (H:Hp) (s:Shared) (e:Value) (s':Shared),Inv X pins σ H s -> CX X.stack H s (W σ) e s' -> X.xe e s'
theorem passesT {X:Cx} {W:St -> XK} {p:List (Addr × Obj)}:PassesT (XR X.prog X.w) (X.tries W p) W:=fun _ σ H s _ _ I h=>⟨σ,H,s,I.untries,h⟩
section
variable {X:Cx} {CX:CXT} {k:Nat} {f:Addr} {fd:FuncData} {ps:List Str} {sp:Sp} {dvs:List V} {ds:List Value} {W:St -> XK} {x:Str} {p pos:Pos} {e:Expr} {es:List Expr} {t:TA}
noncomputable def tCallT (sp:Sp) (dvs:List V) (W:St -> XK) (t:TA):TE:=fun σ H Q=>t σ H fun vs H1=>sp (vs ++ dvs) H1 Q (W σ)
theorem run_fnT {pins:List (Addr × Obj)} {σ:St} {H:Hp} {s:Shared} {Q:VK} {us:List Value} {vs:List V} (F:FnOk X.prog X.w X.K X.mg X.base CX k f fd ps sp) (hr:Room k X.A) (hb:Binds X.K fd ps ds) (hd:Vals dvs ds) (hx:PassesT CX X W)
  (I:Inv X pins σ H s) (r:Vals vs us) (h:sp (vs ++ dvs) H Q (W σ)):wpAny (model X.prog X.w) X.A (call (.ref f) us) (EP X pins σ Q) X.xe s:=by
 have r2:Vals (vs ++ dvs) (us ++ ds):=r.append hd
 have hl:ps.length = (us ++ ds).length:=(F.len _ _ _ _ h).symm.trans r2.length
 have R:=F.run X.A X.stack s H ⟨us,[]⟩ (us ++ ds) (vs ++ dvs) Q (W σ) hr I.env0 (hb s us I.kIn hl.symm) r2 h
 refine wpAny_call (codeAny_mono R fun r s' hq=>?_)
 rcases r with er | fl
 ·exact hx pins σ H s er s' I hq
 ·cases fl with
  | ret u=>exact I.after hq
  | _=>exact hq.elim
theorem pe_callT (F:FnOk X.prog X.w X.K X.mg X.base CX k f fd ps sp) (hr:Room k X.A) (hg:Gl X x) (hm:X.mg x = some (.ref f)) (hk:keepIn X.K (.ref f) = true) (hb:Binds X.K fd ps ds) (hd:Vals dvs ds) (hx:PassesT CX X W)
  (ha:PA X (e :: es) t) (hdb:(x == ("__debug__" : Str)) = false:=by decide) (he:starEach (e :: es) X.env = (false,eval e X.env) :: starEach es X.env:=by rfl) (hpl:(backTo pos (starEach es X.env)).any (·.1) = false:=by rfl):
  PE X (.Call (.Name x p) (e :: es) [] pos) (tCallT sp dvs W t):=fun pins s σ H Q I h=>
 wpAny_Call_Name_kw (ld_glob I hg hm (PySem.W.callWith_K (h₀:=X.base) I.ok.mod.kin hk (thn (ha pos pins s σ H _ I h) fun us s1 ⟨vs,H1,I1,r,q⟩=>⟨I1.kIn,run_fnT F hr hb hd hx I1 r q⟩) he hpl) hdb)
end
noncomputable def XO (C ea:Addr):HO:=.ext fun h=>∃ o,h.get? ea = some o /\ o.cls = .ref C
theorem XO.ok {P:Program} {w:World} {H:Hp} {h:Heap} {C ea:Addr} (e:∃ o,h.get? ea = some o /\ o.cls = .ref C):ObjOk P w H h ea (XO C ea):=
 ⟨e,let ⟨o,e1,_⟩:=e; ⟨o,e1⟩,fun _ _ ⟨o,e1,e2⟩ k=>⟨o,k o e1,e2⟩⟩
structure Caught (K:Frag) (C D:Addr):Prop where
 sub:PySem.W.mroIn K C (.ref D) = some true
noncomputable def tTryAs (K:Frag) (D:Addr) (i:Nat) (tb:(St -> XK) -> TS) (th:Addr -> TS):TS:=fun R σ H=>
 tb (fun σ' cv _ H'=>∃ C,cv = .ref C /\ Caught K C D /\ ∀ ea,H' ea = none ->
  th ea { nx:=fun σ2 H2=>R.nx (σ2.set i none) H2,rt:=R.rt,bk:=fun σ2 H2=>R.bk (σ2.set i none) H2,ct:=fun σ2 H2=>R.ct (σ2.set i none) H2 } (σ'.set i (some (.ref ea))) (upd H' ea (XO C ea))) R σ H
theorem Inv.unname {M:Model} {A:Around} {E:Value -> Shared -> Prop} {X:Cx} {pins:List (Addr × Obj)} {σ:St} {H:Hp} {s:Shared} {i:Nat} {n:Str} {pos:Pos} {Q:Unit -> Shared -> Prop} (I:Inv X pins σ H s) (hN:X.N.Nodup) (hi:X.N[i]? = some n) (hl:X.env.kindOf n = some .local)
  (h:∀ s',Inv X pins (σ.set i none) H s' -> Q () s'):wpAny M A (do bindName X.env n .none; unbindBehindTheSuite X.env n pos) Q E s:=by
 obtain ⟨m,hn,hv⟩:=id I.loc
 have hiσ:i < σ.length:=by rw [I.len]; exact (List.getElem?_eq_some_iff.mp hi).1
 refine wpAny_nameGoes_keeps hl hn (by rw [I.ok.kind]; rfl) fun h' v hn' hs=>h _ ?_
 obtain ⟨oL,_,_,hoL,_⟩:=id hn
 have out:∀ b,b < X.s₀.heap.objs.size -> b ≠ X.env.locals:=fun b z q=>absurd (Nat.lt_of_lt_of_le z I.ok.above) (by rw [q]; exact Nat.lt_irrefl _)
 refine ⟨I.ok,I.os,I.bare,⟨fun b o e z hb hx=>(hs.2 b (out b (Heap.lt_size e))).trans (I.base.keep b o e z hb hx),fun b o e z hb hx=>?_,I.base.free,fun b o e hx=>?_,I.base.tups,I.base.frzs,I.base.tbls⟩,⟨_,hn',fun j y v' e1 e2 e3=>?_⟩,fun y c e=>?_,I.free,I.freeC,fun q hq=>?_,fun b ob e=>?_,by simpa using I.len,Nat.succ_pos _⟩
 ·obtain ⟨sl,e1⟩:=I.base.slot b o e z hb hx
  exact ⟨sl,(hs.2 b (out b (Heap.lt_size e))).trans e1⟩
 ·obtain ⟨o',e1⟩:=I.base.there b o e hx
  exact ⟨o',(hs.2 b (out b (Heap.lt_size e))).trans e1⟩
 ·have hj:j ≠ i:=fun z=>by subst z; rw [List.getElem?_set_self hiσ] at e2; cases e2
  rw [List.getElem?_set_ne (Ne.symm hj)] at e2
  obtain ⟨u',r',q⟩:=hv j y v' e1 e2 e3
  refine ⟨u',r',?_⟩
  rcases q with ⟨k,e⟩ | ⟨k,c,e,z⟩
  ·refine .inl ⟨k,?_⟩
   have:y ≠ n:=fun e=>hj (nodup_ix hN e1 (e ▸ hi))
   simp [this,e]
  ·exact .inr ⟨k,c,e,z.sameBut hs (I.cne y c e)⟩
 ·obtain ⟨w',z⟩:=I.cell y c e
  exact ⟨w',z.sameBut hs (I.cne y c e)⟩
 ·obtain ⟨e,z,ne,nf,d⟩:=I.pin q hq
  exact ⟨(hs.2 q.1 ne).trans e,z,ne,nf,d⟩
 ·refine (I.hok b ob e).stay (fun c w' hc q=>(hs.2 c ?_).trans q) (fun _ q=>q) fun _ _ q=>q
  rintro rfl
  rcases hc with rfl | hc
  ·rw [I.free] at e; cases e
  ·rw [I.free] at hc; cases hc
theorem ps_tryAs {X:Cx} {body suite:List Stmt} {b₀:Stmt} {x n:Str} {np hpos pos:Pos} {D:Addr} {i:Nat} {tb:(St -> XK) -> TS} {th:Addr -> TS} (hb:∀ W p,PSs (X.tries W p) body (tb W)) (hh:∀ ea,PSs (X.hand ea) (b₀ :: suite) (th ea))
  (hst:X.stack = X.env :: X.outer) (hfr:X.env.frame = some X.env.locals) (hg:Gl X x) (hm:X.mg x = some (.ref D)) (d:XCl X.K D) (hN:X.N.Nodup) (hi:X.N[i]? = some n) (hl:X.env.kindOf n = some .local) (hdb:(x == ("__debug__" : Str)) = false:=by decide):
  PS X (.Try body [.ExceptHandler (some (.Name x np)) (some n) (b₀ :: suite) hpos] [] [] pos) (tTryAs X.K D i tb th):=by
 intro pins s σ H R I h
 refine wpAny_Try_except (wpAny_mono (hb _ pins [] s σ H R I.tries h) (fun f s1 q=>?_) fun e s1 q=>?_)
 ·have q:SP X pins R f s1:=by
   cases f with
   | next=>obtain ⟨σ',H',I',z⟩:=q; exact ⟨σ',H',I'.untries,z⟩
   | brk=>obtain ⟨σ',H',I',z⟩:=q; exact ⟨σ',H',I'.untries,z⟩
   | cont=>obtain ⟨σ',H',I',z⟩:=q; exact ⟨σ',H',I'.untries,z⟩
   | ret u=>obtain ⟨v,σ',H',I',r,z⟩:=q; exact ⟨v,σ',H',I'.untries,r,z⟩
  cases f with
  | next=>exact wpAny_execs_nil q
  | _=>exact q
 ·obtain ⟨σ1,H1,s0,I1,ea,C,H',rfl,tk,os,bare,F,C',eC,cau,k⟩:=q
  cases eC
  obtain ⟨B,a0,fl,inB⟩:=F.fl
  have ff:∀ b ∈ frs X.stack,H1 b = none:=I1.stkFree
  have hfs:X.A.frames = some (X.env :: X.outer):=by rw [<- hst]; exact I1.ok.frames
  refine wpAny_looks_onW (env:=X.env) (outer:=X.outer) (L:=X.env.locals) hfs hfr (by rw [<- hst]; exact fl) fun h4 held4 up4=>?_
  refine wpAny_landsW held4 fun h5 fl5 up5=>?_
  have F5:Fly X.prog X.w X.stack H1 H' s0.heap h5 ea C:=F.on fl inB ff (by rw [hst]; exact fl5) (up4.trans up5)
  have I5:Inv X pins σ1 H' { s1 with heap:=h5 }:=I1.call' (s':={ s1 with heap:=h5 }) os F5.un F5.hok bare (fun b z=>nomatch z) tk
  refine wpAny_handleBy_cons (codeAny_handlers_test ?_) (by intro q; cases q)
  refine ld_glob (I5.hand ea) hg hm ?_ hdb
  refine looks_excMatches I5.kIn d cau.sub fl5.there _ _ _ _ (fun _ _ z=>z) ?_
  refine codeAny_handlers_suite_as ?_
  refine lands_againW fl5 fun h6 fl6 up6=>?_
  have F6:Fly X.prog X.w X.stack H1 H' s0.heap h6 ea C:=F5.on (by rw [hst]; exact fl5) inB ff (by rw [hst]; exact fl6) up6
  have ne6:∀ b,H' b ≠ none -> b ≠ ea:=fun b z q=>by rw [q,F6.fr] at z; exact z rfl
  have U6:Un (frs X.stack) [] H1 (upd H' ea (XO C ea)) s0.heap h6:=by
   refine ⟨F6.un.keep,F6.un.slot,fun b o e z hx=>?_,F6.un.there,fun b xs e=>?_,fun b o u e=>?_,fun b ps e=>?_⟩
   ·rw [upd_ne (F6.new b o e)]; exact F6.un.free b o e z hx
   ·have q:=F6.un.tups b xs e
    rw [upd_ne (ne6 b (by rw [q]; simp))]; exact q
   ·have q:=F6.un.frzs b o u e
    rw [upd_ne (ne6 b (by rw [q]; simp))]; exact q
   ·obtain ⟨more,q⟩:=F6.un.tbls b ps e
    exact ⟨more,by rw [upd_ne (ne6 b (by rw [q]; simp))]; exact q⟩
  have O6:HOk X.prog X.w (upd H' ea (XO C ea)) h6:=fun b o e=>by
   by_cases hbe:b = ea
   ·subst hbe
    rw [upd_same] at e; cases e
    exact XO.ok fl6.there
   ·rw [upd_ne hbe] at e
    refine (F6.hok b o e).stay (fun _ _ _ q=>q) (fun c q=>?_) fun c xs q=>?_
    ·rw [upd_ne (ne6 c (by rw [q]; simp))]; exact q
    ·rw [upd_ne (ne6 c (by rw [q]; simp))]; exact q
  have I6:Inv X pins σ1 (upd H' ea (XO C ea)) { s1 with heap:=h6 }:=I1.call' (s':={ s1 with heap:=h6 }) os U6 O6 bare (fun b z=>nomatch z) tk
  refine store_ok (X:=X.hand ea) (v:=.ref ea) (I6.hand ea) hN hi (.inl hl) rfl (fun s7 I7=>?_) (.inr hl)
  refine wpAny_mono (hh ea pins s7 _ _ _ I7 (k ea F6.fr)) (fun f s8 q=>?_) fun _ _ z=>z.elim
  cases f with
  | next=>obtain ⟨σ',H',I',z⟩:=q; exact (I'.unhand I.ok).unname hN hi hl fun s9 I9=>⟨_,_,I9,z⟩
  | brk=>obtain ⟨σ',H',I',z⟩:=q; exact (I'.unhand I.ok).unname hN hi hl fun s9 I9=>⟨_,_,I9,z⟩
  | cont=>obtain ⟨σ',H',I',z⟩:=q; exact (I'.unhand I.ok).unname hN hi hl fun s9 I9=>⟨_,_,I9,z⟩
  | ret u=>obtain ⟨v,σ',H',I',r,z⟩:=q; exact (I'.unhand I.ok).unname hN hi hl fun s9 I9=>⟨v,_,_,I9,r,z⟩
end L2
namespace L2
open PySem PySem.Spec PySem.Calls PyProof.Rows PySem.W Builtin Builtin.ObjectAttr Builtin.Getset_descriptor
section
variable {prog:Program} {w:World} {A:Around} {E:Value -> Shared -> Prop} {K:Frag} {x C:Addr} {o:Obj} {h:Heap} {g:Array GenState} {d:Drawn} {t:Nat} {os:OsState}
theorem xget_class {R:Result -> Shared -> Prop} (X:K.In h) (c:XCl K C) (hx:h.get? x = some o) (hc:o.cls = .ref C) (hq:R (.ok (.ret (.ref C))) ⟨h,g,d,t,os⟩):
  codeAny (model prog w) A (.call (.builtin "getset_descriptor.__get__") ⟨[.builtin "object.__class__",.ref x,.ref C],[]⟩) R ⟨h,g,d,t,os⟩:=by
 have L0:Looks (model prog w) h (typeOf (.ref x)) (.ref C):=hc ▸ (Looks.ld hx).andThen .now
 have L1:=looks_mroIn (M:=model prog w) X c.mo
 refine codeAny_call_builtin KF.slot_gs.plain KF.entry_gs (KF.slot_gs.check _ _ _ _ _ _ _ _ KF.type_class (KF.args_gs _ _ _) ?_)
 unfold Builtin.«getset_descriptor.__get__»
 unfold descrGet
 rw [dga_obj]
 apply wpAny_bind
 apply wpAny_pure
 unfold descrGetter descrCheckInstance
 unfold descrNameAndClass
 unfold isInstance
 simp only [KF.owner_class]
 repeat lk
 refine ⟨Code.quiet_builtin _ (by decide +kernel),?_⟩
 apply codeAny_builtin KF.entry_class
 unfold Builtin.«object.__class__»
 unfold shownTypeOf
 repeat lk
 exact hq
theorem xfind_class (X:K.In h) (c:XCl K C):Looks (model prog w) h (find (.ref x) (.ref C) "__class__") (Found.bind (.builtin "getset_descriptor.__get__") (.builtin "object.__class__")):=by
 have L1:=looks_findIn (M:=model prog w) X c.ca
 have L2:Looks (model prog w) h (getOf (some (.builtin "object.__class__"))) (some (.builtin "getset_descriptor.__get__")):=looks_specialIn X c.gt
 have L3:Looks (model prog w) h (dataDescriptor? (some (.builtin "object.__class__")) (some (.builtin "getset_descriptor.__get__"))) (some (.builtin "getset_descriptor.__get__",.builtin "object.__class__")):=(looks_takesIn (M:=model prog w) X c.tk).andThen .now
 exact L1.andThen (L2.andThen (L3.andThen (Looks.tag .now)))
theorem xentry_class {tk:Tok} {Q:Fin -> Shared -> Prop} (X:K.In h) (c:XCl K C) (hx:h.get? x = some o) (hc:o.cls = .ref C) (hq:Q (.done (.ret (.ref C))) ⟨h,g,d,t,os⟩):
  wpAny (model prog w) A (Builtin.«object.__getattribute__» ⟨[.ref x,.str "__class__" tk],[]⟩) Q E ⟨h,g,d,t,os⟩:=by
 have L0:Looks (model prog w) h (typeOf (.ref x)) (.ref C):=hc ▸ (Looks.ld hx).andThen .now
 have L1:=xfind_class (prog:=prog) (w:=w) (x:=x) X c
 unfold Builtin.«object.__getattribute__»
 apply wpAny_bind
 apply wpAny_pure
 dsimp only
 apply wpAny_bind
 apply wpAny_pure
 refine wpAny_bind (L0.at (wpAny_bind (L1.at ?_)))
 dsimp only
 show wpAny _ _ (holding [Value.builtin "object.__class__"] (call (Value.builtin "getset_descriptor.__get__") [Value.builtin "object.__class__",.ref x,.ref C]) >>= ret) _ _ _
 exact wpAny_bind (wpAny_holding (wpAny_call (xget_class X c hx hc (wpAny_pure hq))))
theorem xcheck_ga {M:Model} {nv:Value} {Q:Unit -> Shared -> Prop} (X:K.In h) (c:XCl K C) (hx:h.get? x = some o) (hc:o.cls = .ref C) (hq:Q () ⟨h,g,d,t,os⟩):
  wpAny M A (checkBuiltinCall "BaseException.__getattribute__" ⟨[.ref x,nv],[]⟩) Q E ⟨h,g,d,t,os⟩:=by
 have LI:Looks M h (isInstance (.ref x) (.type "BaseException")) true:=(hc ▸ (Looks.ld hx).andThen .now:Looks M h (typeOf (.ref x)) (.ref C)).andThen (looks_mroIn (M:=M) X c.mb)
 have kd:builtinKind "BaseException.__getattribute__" = some .slot:=by decide +kernel
 have sp:splitId "BaseException.__getattribute__" = some ("BaseException", "__getattribute__"):=by decide +kernel
 have ag:=PySem.F.args_bexc_ga (.ref x) nv
 simp only [checkBuiltinCall,kd,sp]
 refine wpAny_bind (LI.at ?_)
 simp only [Bool.not_true,Bool.false_eq_true,if_false]
 repeat (any_goals (first | assumption | wp_step))
theorem xclass_by {tk:Tok} {Q:Value -> Shared -> Prop} (X:K.In h) (c:XCl K C) (hx:h.get? x = some o) (hc:o.cls = .ref C) (hq:Q (.ref C) ⟨h,g,d,t,os⟩):
  wpAny (model prog w) A (getAttrBy (.ref x) (.str "__class__" tk) false) Q E ⟨h,g,d,t,os⟩:=by
 have L0:Looks (model prog w) h (typeOf (.ref x)) (.ref C):=hc ▸ (Looks.ld hx).andThen .now
 have L1:=looks_findIn (M:=model prog w) X c.ga
 have L2:=looks_findIn (M:=model prog w) X c.gh
 have L3:=looks_mroIn (M:=model prog w) X c.mb
 have LI:Looks (model prog w) h (isInstance (.ref x) (.type "BaseException")) true:=L0.andThen L3
 unfold getAttrBy
 refine wpAny_holding (wpAny_bind (L0.at (wpAny_bind (L1.at ?_))))
 dsimp only
 have nga:(Value.builtin "BaseException.__getattribute__" == Value.builtin "object.__getattribute__") = false:=by decide +kernel
 rw [if_neg (by rw [nga,Bool.and_false]; decide)]
 unfold getAttrByItsOwn hookBefore
 refine wpAny_bind (L2.at ?_)
 refine wpAny_bind (wpAny_attempt (wpAny_holding ?_))
 unfold callGetattribute
 rw [if_neg (by decide)]
 unfold boundAndCalled
 rw [PySem.F.attrBase_ValueError.ga.bind]
 refine wpAny_bind (wpAny_pure ?_)
 refine wpAny_call (codeAny_call_builtin PySem.F.attrBase_ValueError.ga.plain PySem.F.entry_bexc_ga ?_)
 refine xcheck_ga X c hx hc ?_
 have ok:wpAny (model prog w) A.in1 (Builtin.«object.__getattribute__» ⟨[.ref x,.str "__class__" tk],[]⟩) (fun fin s'=>fin = .done (.ret (.ref C)) /\ s' = ⟨h,g,d,t,os⟩) (fun _ _=>False) ⟨h,g,d,t,os⟩:=xentry_class X c hx hc ⟨rfl,rfl⟩
 refine wpAny_mono ok (fun fin s' z=>?_) fun _ _ z=>z.elim
 obtain ⟨rfl,rfl⟩:=z
 dsimp only
 exact handed_on rfl hq
theorem xclass_attr {Q:Option Value -> Shared -> Prop} (X:K.In h) (c:XCl K C) (hx:h.get? x = some o) (hc:o.cls = .ref C) (hq:Q (some (.ref C)) ⟨h,g,d,t + 1,os⟩):
  wpAny (model prog w) A (getAttr? (.ref x) "__class__") Q E ⟨h,g,d,t,os⟩:=by
 unfold getAttr? getAttrBy?
 refine wpAny_bind (wpAny_mkText ?_)
 refine wpAny_bind (wpAny_attempt (xclass_by X c hx hc ?_))
 exact wpAny_pure hq
theorem kitx_exc (c:XCl K C):KitX K (.ref x) (.ref C) (fun h=>∃ o,h.get? x = some o /\ o.cls = .ref C) where
 ty:=fun _ _ _ ⟨_,e1,e2⟩=>e2 ▸ (Looks.ld e1).andThen .now
 it:=fun _ _ X _=>c.isType X
 ne:=fun h tp dd its n sl X htp=>by
  obtain ⟨tl,N,nm,q,bs,hdct,sn,sub,ab,col,dd',k0,k1,k2,k3,k5,mN,hC,_⟩:=(c.own X).obj
  refine Bool.eq_false_iff.mpr fun q=>?_
  have e:C = tp:=Value.ref.inj (beq_iff_eq.mp q)
  rw [e] at hC
  have z:=congrArg Obj.data (Option.some.inj (hC.symm.trans htp))
  cases z
 ca:=fun {_ _ _ _ _ s} X ⟨_,e1,e2⟩ k=>by
  obtain ⟨h,g,d,t,os⟩:=s
  exact xclass_attr X c e1 e2 k
end
theorem kit_exc {K:Frag} {C D:Addr} {b:Bool} (c:XCl K D) (m:mroIn K C (.ref D) = some b) (hb:b = false -> C ≠ D):kitOne K (.ref C) (.ref D) = some b:=by
 unfold kitOne
 by_cases q:((Value.ref C == Value.ref D) = true)
 ·rw [if_pos q]
  have e:C = D:=Value.ref.inj (beq_iff_eq.mp q)
  cases b with
  | true=>rfl
  | false=>exact absurd e (hb rfl)
 ·rw [if_neg q]
  unfold kitCls
  dsimp only
  have hc:(clsIn K D).isSome = true:=by
   have:=c.mb
   unfold mroIn at this
   cases e:clsIn K D with
   | none=>rw [e] at this; cases this
   | some cd=>rfl
  rw [if_pos (by rw [hc,c.ty]; simp)]
  exact m
theorem kit_excV {K:Frag} {C:Addr} {b:Bool} (m:mroIn K C (.type "ValueError") = some b):kitOne K (.ref C) (.type "ValueError") = some b:=by
 unfold kitOne
 rw [if_neg (by intro q; cases beq_iff_eq.mp q)]
 unfold kitCls
 dsimp only
 rw [if_pos (by decide +kernel)]
 exact m
section
variable {X:Cx} {pins:List (Addr × Obj)} {σ:St} {H:Hp} {s:Shared}
theorem Inv.exc (I:Inv X pins σ H s) {ea C:Addr} (e:H ea = some (XO C ea)):∃ o,s.heap.get? ea = some o /\ o.cls = .ref C:=(I.hok ea _ e).1
noncomputable def V.cv:V -> Option Value
 | .ref a=>some (.ref a)
 | .ty n=>some (.type n)
 | _=>none
theorem V.cv_of {v:V} {u c:Value} (r:RelV v u) (e:v.cv = some c):u = c:=by
 cases v with
 | ref a=>cases e; exact r
 | ty n=>cases e; exact r
 | _=>cases e
theorem call_isiX:CallR X (.builtin "isinstance") (fun xs H Q=>∃ ea C v d b,xs = [.ref ea,v] /\ v.cv = some d /\ H ea = some (XO C ea) /\ XCl X.K C /\ kitOne X.K (.ref C) d = some b /\ Q (.bl b) H):=by
 intro pins s σ H xs us Q I r h
 obtain ⟨ea,C,v,d,b,rfl,ev,e,c,m,q⟩:=h
 obtain ⟨u,u',rfl,r1,r2⟩:=vals2 r
 cases r1
 cases V.cv_of r2 ev
 exact tokQ I.tk (kia_one (kitx_exc c) I.kIn (I.exc e) m (fun z=>nomatch z) fun tk (htk:0 < tk)=>⟨.bl b,H,I.tok _,rfl,q⟩)
end
end L2
namespace L2
open PySem PySem.Spec PyProof.Rows
def CalleeX (P:Program) (w:World) (K:Frag) (mg:Str -> Option Value) (base:Heap) (k:Nat) (x:Str) (ps:List Str) (sp:Sp):Prop:=
 ∃ f fd,FnOk P w K mg base (XR P w) k f fd ps sp /\ Binds K fd ps [] /\ keepIn K (.ref f) = true /\ mg x = some (.ref f)
theorem Fn.calX {P:Program} {w:World} {K:Frag} {mg:Str -> Option Value} {base:Heap} {x:Str} {st:Stmt} {N ps:List Str} {k:Nat} {sp:Sp} (F:Fn K mg x st) (S:FnScope N ps (defScope st)) (len:∀ vs H Q E,sp vs H Q E -> vs.length = ps.length)
  (hb:∀ (kV doc pm:Value) (an:Option Addr) (cdv ct:Value) (us:List Value),us.length = ps.length -> bindArgs (fnOf x x (defArgs st) (defBody st) (defScope st) .none kV doc pm an cdv ct) ⟨us,[]⟩ = pure (ps.zip us))
  (hbody:∀ (f:Addr) (cdv:Value) (A:Around) (outer:List Env) (s:Shared) (H:Hp) (vs:List V) (Q:VK) (E:XK),Room k (A.deeper (envOfC x (defScope st) s.heap.objs.size f cdv)) -> sp vs H Q E ->
   ∃ t,PSs (cxOf (XR P w) P w K mg base N x (defScope st) f cdv A outer s H E) (defBody st) t /\ t { nx:=fun _ H'=>Q .non H',rt:=Q } (start N vs) H):CalleeX P w K mg base (k + 1) x ps sp:=by
 obtain ⟨f,fd,F,m⟩:=F
 have hB:=F.binds hb
 have hK:=F.kp
 obtain ⟨oc,od,kV,doc,pm,an,cdv,ct,osl,rfl,lk,hcd⟩:=F.ex
 exact ⟨f,_,fn_of lk hcd S len (hbody f cdv),hB,hK,m⟩
section
variable {X:Cx} {k:Nat} {x:Str} {ps:List Str} {sp:Sp} {p pos:Pos} {e:Expr} {es:List Expr} {t:TA} {E:XK} {W:St -> XK}
theorem pe_fnX (C:CalleeX X.prog X.w X.K X.mg X.base k x ps sp) (hr:Room k X.A) (hx:Passes (XR X.prog X.w) X E) (hg:Gl X x) (ha:PA X (e :: es) t)
  (he:starEach (e :: es) X.env = (false,eval e X.env) :: starEach es X.env:=by rfl) (hpl:(backTo pos (starEach es X.env)).any (·.1) = false:=by rfl) (hd:(x == ("__debug__" : Str)) = false:=by decide):PE X (.Call (.Name x p) (e :: es) [] pos) (tCall sp [] E t):=by
 obtain ⟨f,fd,F,b,kp,m⟩:=C
 exact pe_call F hr hg m kp b .nil hx ha (hdb:=hd) (he:=he) (hpl:=hpl)
theorem pe_fnT (C:CalleeX X.prog X.w X.K X.mg X.base k x ps sp) (hr:Room k X.A) (hx:PassesT (XR X.prog X.w) X W) (hg:Gl X x) (ha:PA X (e :: es) t)
  (he:starEach (e :: es) X.env = (false,eval e X.env) :: starEach es X.env:=by rfl) (hpl:(backTo pos (starEach es X.env)).any (·.1) = false:=by rfl) (hd:(x == ("__debug__" : Str)) = false:=by decide):PE X (.Call (.Name x p) (e :: es) [] pos) (tCallT sp [] W t):=by
 obtain ⟨f,fd,F,b,kp,m⟩:=C
 exact pe_callT F hr hg m kp b .nil hx ha (hdb:=hd) (he:=he) (hpl:=hpl)
theorem CalleeX.calm {P:Program} {w:World} {K:Frag} {mg:Str -> Option Value} {base:Heap} {k:Nat} {x:Str} {ps:List Str} {sp:Sp} (C:CalleeX P w K mg base k x ps sp):
  Callee P w K mg base k x ps (fun vs H Q _=>sp vs H Q E0):=by
 obtain ⟨f,fd,F,b,kp,m⟩:=C
 refine ⟨f,fd,⟨fun vs H Q _ h=>F.len vs H Q E0 h,fun A outer s H args us vs Q E hr e0 hb hv h=>?_⟩,b,kp,m⟩
 refine codeAny_mono (F.run A outer s H args us vs Q E0 hr e0 hb hv h) fun r s' q=>?_
 rcases r with er | fl
 ·obtain ⟨_,_,_,_,_,_,_,_,z⟩:=q
  exact z.elim
 ·cases fl with
  | ret u=>exact q
  | _=>exact q.elim
end
theorem PS.nox {X:Cx} {st:Stmt} {t:TS} (h:PS X.nox st t):PS X st t:=fun pins s σ H D I hw=>
 wpAny_mono (h pins s σ H D (I.wish _) hw) (fun _ _ q=>q.unwish) fun _ _ z=>z.elim
theorem PS.calm {X:Cx} {st:Stmt} {t:TS} (h:PS X.nox st t):PS X st t:=PS.nox h
section
variable {X:Cx} {a c:Expr} {es:List Expr} {ta:TE} {pos p tpos:Pos} {x1:Nat}
noncomputable def cIsX (K:Frag) (d:Value) (ta:TE):TE:=fun σ H Q=>ta σ H fun x H1=>match x with
 | .ref ea=>∃ C b,H1 ea = some (XO C ea) /\ XCl K C /\ PySem.W.kitOne K (.ref C) d = some b /\ Q (.bl b) H1
 | _=>False
theorem qe_isiX {v:V} {d:Value} (K:Frag) (hK:X.K = K) (ev:v.cv = some d) (hg:Gl X "isinstance") (hm:X.mg "isinstance" = none) (ha:PE X a ta) (hc:PE X c (tC v))
  (hs:starEach [a,c] X.env = (false,eval a X.env) :: starEach [c] X.env:=by rfl) (hs2:starEach [c] X.env = (false,eval c X.env) :: starEach [] X.env:=by rfl) (hpl:(backTo pos (starEach [c] X.env)).any (·.1) = false:=by rfl):PE X (.Call (.Name "isinstance" p) [a,c] [] pos) (cIsX K d ta):=by
 subst hK
 refine (pe_callB call_isiX hg hm bb_isinstance (pa_cons ha.mono (pa_cons hc pa_nil hs2) hs) (he:=hs) (hpl:=hpl)).imp fun σ H Q q=>⟨_,q,fun x H1 z=>?_⟩
 split at z
 ·obtain ⟨C,b,h1,h2,h3,z⟩:=z
  exact ⟨_,C,v,d,b,rfl,ev,h1,h2,h3,z⟩
 ·exact z.elim
end
noncomputable abbrev TJ:=Nat -> St -> Hp -> (Hp -> Prop) -> Prop
def PJ (X:Cx) (es:List Expr) (t:TJ):Prop:=∀ (acc:Str) (pins:List (Addr × Obj)) (s:Shared) (σ:St) (H:Hp) (Q:Hp -> Prop),acc.length <= sizeLine -> Inv X pins σ H s -> t acc.length σ H Q ->
 Joins (model X.prog X.w) X.A X.xe (evalEach es X.env) acc (fun out s1=>out.length <= sizeLine /\ ∃ H1,Inv X pins σ H1 s1 /\ Q H1) s
noncomputable def jNil:TJ:=fun _ _ H Q=>Q H
noncomputable def jCons (te:TE) (tj:TJ):TJ:=fun n σ H Q=>te σ H fun x H1=>match x with
 | .str y=>n + y.length <= sizeLine /\ tj (n + y.length) σ H1 Q
 | _=>False
section
variable {X:Cx} {e v1 v2:Expr} {es rest:List Expr} {te:TE} {tj:TJ} {pos:Pos}
theorem pj_nil:PJ X [] jNil:=fun acc pins s σ H Q hz I q=>⟨hz,H,I,q⟩
theorem pj_cons (he:PE X e te) (hr:PJ X es tj) (hs:evalEach (e :: es) X.env = eval e X.env :: evalEach es X.env:=by rfl):PJ X (e :: es) (jCons te tj):=by
 intro acc pins s σ H Q hz I q
 rw [hs]
 refine thn (he pins s σ H _ I q) fun u s1 ⟨x,H1,I1,r,z⟩=>?_
 dsimp only at z
 split at z
 ·rename_i y
  obtain ⟨t,rfl⟩:=r
  have hl:(acc ++ y).length = acc.length + y.length:=strLen_append _ _
  exact ⟨y,t,rfl,by rw [hl]; exact z.1,hr (acc ++ y) pins s1 σ H1 Q (by rw [hl]; exact z.1) I1 (by rw [hl]; exact z.2)⟩
 ·exact z.elim
noncomputable def cFS (tj:TJ):TE:=fun σ H Q=>tj 0 σ H fun H1=>∀ z,Q (.str z) H1
theorem pe_fs (h:PJ X (v1 :: v2 :: rest) tj):PE X (.JoinedStr (v1 :: v2 :: rest) pos) (cFS tj):=by
 intro pins s σ H Q I q
 have J:=h Str.empty pins s σ H _ (by decide) I q
 refine wpAny_JoinedStr ?_
 have mono:∀ {P R:Str -> Shared -> Prop} (l:List (Sem Value)) (acc:Str) (s:Shared),(∀ o s,P o s -> R o s) -> Joins (model X.prog X.w) X.A X.xe l acc P s -> Joins (model X.prog X.w) X.A X.xe l acc R s:=by
  intro P R l
  induction l with
  | nil=>intro acc s k z; exact k _ _ z
  | cons x r ih=>
   intro acc s k z
   exact thn z fun v s1 ⟨y,t,e,hz,z⟩=>⟨y,t,e,hz,ih _ _ k z⟩
 exact mono _ _ _ (fun out s1 ⟨hz,H1,I1,z⟩=>⟨hz,⟨.str out,H1,I1.tok _,⟨_,rfl⟩,z out⟩⟩) J
noncomputable def cFmtR (tv:TE):TE:=fun σ H Q=>tv σ H fun x H1=>match x with
 | .str y=>(∀ c ∈ y.cps.toList,c < 16 ^ 8) /\ y.length <= 100000 /\ ∀ z:Str,z.length <= 10 * y.length + 2 -> Q (.str z) H1
 | _=>False
theorem pe_fmtR (hv:PE X e te):PE X (.FormattedValue e 114 none pos) (cFmtR te):=by
 intro pins s σ H Q I q
 refine wpAny_FormattedValue_repr (thn (hv pins s σ H _ I q) fun u s1 ⟨x,H1,I1,r,z⟩=>?_)
 dsimp only at z
 split at z
 ·rename_i y
  obtain ⟨t,rfl⟩:=r
  obtain ⟨h1,h2,z⟩:=z
  have hl:=PySem.StrLaws.reprText_len y h1
  have hs:(reprText y).length <= sizeLine:=Nat.le_trans hl (Nat.le_trans (by omega:10 * y.length + 2 <= 1000002) (by decide))
  refine wpAny_pyReprObj_str ?_ hs
  exact tokQ (Nat.succ_pos _) (formatField_str (fun t' tk (htk:0 < tk)=>⟨.str (reprText y),H1,I1.tok _,⟨_,rfl⟩,z _ hl⟩) hs)
 ·exact z.elim
end
noncomputable def xA (K:Frag) (x:Str):Addr:=match nsIn K mainGlobals x with
 | some (some (.ref a))=>a
 | _=>0
theorem xA_eq {K:Frag} {x:Str} {C:Addr} (e:nsIn K mainGlobals x = some (some (.ref C))):xA K x = C:=by unfold xA; rw [e]
def Xn (K:Frag) (mg:Str -> Option Value) (x:Str):Prop:=mg x = some (.ref (xA K x)) /\ XCl K (xA K x)
def Xm (K:Frag) (x y:Str) (b:Bool):Prop:=PySem.W.mroIn K (xA K x) (.ref (xA K y)) = some b /\ (b = false -> xA K x ≠ xA K y)
def Xv (K:Frag) (x:Str):Prop:=PySem.W.mroIn K (xA K x) (.type "ValueError") = some true
theorem Xn.kit {K:Frag} {mg:Str -> Option Value} {x y:Str} {b:Bool} (m:Xm K x y b) (n:Xn K mg y):PySem.W.kitOne K (.ref (xA K x)) (.ref (xA K y)) = some b:=kit_exc n.2 m.1 m.2
theorem Xv.kit {K:Frag} {x:Str} (m:Xv K x):PySem.W.kitOne K (.ref (xA K x)) (.type "ValueError") = some true:=kit_excV m
theorem Xm.caught {K:Frag} {x y:Str} (m:Xm K x y true):Caught K (xA K x) (xA K y):=⟨m.1⟩
theorem bb_ValueError:bootBuiltins "ValueError" = some (.type "ValueError"):=by decide +kernel
section
variable {K:Frag} {h:Heap} {mg:Str -> Option Value} {x y:Str} {C D:Addr}
theorem xn_mk (X:K.In h) (G:h.Ns mainGlobals mg) (n:nsIn K mainGlobals x = some (some (.ref C))) (ex:PySem.W.excIn K C bmV "ValueError.__new__" = true) (ty:PySem.W.typeIn K (.ref C) = some (.type "type")) (mb:PySem.W.mroIn K C (.type "BaseException") = some true)
  (ga:findIn K (.ref C) "__getattribute__" = some (some (.builtin "BaseException.__getattribute__"))) (gh:findIn K (.ref C) "__getattr__" = some none) (ca:findIn K (.ref C) "__class__" = some (some (.builtin "object.__class__"))) (mo:PySem.W.mroIn K C (.type "object") = some true)
  (gt:PySem.W.specialIn K (.builtin "object.__class__") "__get__" = some (some (.builtin "getset_descriptor.__get__"))) (tk:PySem.W.takesIn K (.builtin "object.__class__") = some true):Xn K mg x:=by
 unfold Xn
 rw [xA_eq n]
 exact ⟨mg_of X G n,⟨ex,ty,mb,ga,gh,ca,gt,tk,mo⟩⟩
theorem xm_mk {b:Bool} (n:nsIn K mainGlobals x = some (some (.ref C))) (n':nsIn K mainGlobals y = some (some (.ref D))) (m:PySem.W.mroIn K C (.ref D) = some b) (d:b = false -> C ≠ D):Xm K x y b:=by
 unfold Xm
 rw [xA_eq n,xA_eq n']
 exact ⟨m,d⟩
theorem xv_mk (n:nsIn K mainGlobals x = some (some (.ref C))) (m:PySem.W.mroIn K C (.type "ValueError") = some true):Xv K x:=by
 unfold Xv
 rw [xA_eq n]
 exact m
end
theorem qe_cls {X:Cx} {K:Frag} {x:Str} {pos:Pos} (n:Xn K X.mg x) (hg:Gl X x) (hd:(x == ("__debug__" : Str)) = false:=by decide):PE X (.Name x pos) (tC (.ref (xA K x))):=pe_glob (v:=.ref (xA K x)) hg n.1 rfl hd
theorem a_tCallT {sp:Sp} {W:St -> XK} {t:TA} {σ:St} {H:Hp} {Q:VK}:tCallT sp [] W t σ H Q = t σ H fun vs H1=>sp vs H1 Q (W σ):=by
 unfold tCallT
 simp only [List.append_nil]
theorem a_tRaise {C:Addr} {E:XK} {t:TA} {D:Ends} {σ:St} {H:Hp}:tRaise C E t D σ H = t σ H fun vs H1=>vs.length <= sizeLine /\ E (.ref C) none H1:=rfl
theorem a_cFS {tj:TJ} {σ:St} {H:Hp} {Q:VK}:cFS tj σ H Q = tj 0 σ H fun H1=>∀ z,Q (.str z) H1:=rfl
theorem a_jNil {n:Nat} {σ:St} {H:Hp} {Q:Hp -> Prop}:jNil n σ H Q = Q H:=rfl
theorem a_jCons {te:TE} {tj:TJ} {n:Nat} {σ:St} {H:Hp} {Q:Hp -> Prop}:jCons te tj n σ H Q = te σ H fun x H1=>match x with
 | .str y=>n + y.length <= sizeLine /\ tj (n + y.length) σ H1 Q
 | _=>False:=rfl
theorem a_cFmtR {tv:TE} {σ:St} {H:Hp} {Q:VK}:cFmtR tv σ H Q = tv σ H fun x H1=>match x with
 | .str y=>(∀ c ∈ y.cps.toList,c < 16 ^ 8) /\ y.length <= 100000 /\ ∀ z:Str,z.length <= 10 * y.length + 2 -> Q (.str z) H1
 | _=>False:=rfl
theorem a_cIsX {K:Frag} {d:Value} {ta:TE} {σ:St} {H:Hp} {Q:VK}:cIsX K d ta σ H Q = ta σ H fun x H1=>match x with
 | .ref ea=>∃ C b,H1 ea = some (XO C ea) /\ XCl K C /\ PySem.W.kitOne K (.ref C) d = some b /\ Q (.bl b) H1
 | _=>False:=rfl
theorem a_tTryAs {K:Frag} {D:Addr} {i:Nat} {tb:(St -> XK) -> TS} {th:Addr -> TS} {R:Ends} {σ:St} {H:Hp}:tTryAs K D i tb th R σ H =
 tb (fun σ' cv _ H'=>∃ C,cv = .ref C /\ Caught K C D /\ ∀ ea,H' ea = none ->
  th ea { nx:=fun σ2 H2=>R.nx (σ2.set i none) H2,rt:=R.rt,bk:=fun σ2 H2=>R.bk (σ2.set i none) H2,ct:=fun σ2 H2=>R.ct (σ2.set i none) H2 } (σ'.set i (some (.ref ea))) (upd H' ea (XO C ea))) R σ H:=rfl
end L2
namespace L2
open PySem PySem.Spec PyProof.Rows PySem.Builtin PySem.Builtin.Str
section
variable {X:Cx}
end
end L2
namespace L2
open PySem PySem.Spec PyProof.Rows
section
variable {K:Frag} {g:TG} {tc:TT} {te:TE} {σc:St} {D:Addr} {Q:VK} {H:Hp}
theorem paired_snoc' {α β:Type} {F:α -> β -> Prop} {l:List α} {m:List β} {x:α} {y:β} (h:Paired F l m) (r:F x y):Paired F (l ++ [x]) (m ++ [y]):=by
 induction h with
 | nil=>exact .cons r .nil
 | cons r' _ ih=>exact .cons r' ih
theorem comp_relR {lo:Int} {n:Nat} (R:Nat -> V -> Hp -> Prop) (hfree:H D = none) (hn:n <= 100000)
  (mono:∀ x v H1 H2 acc,H1 D = some (.lst acc) -> (∀ b o,b ≠ D -> H1 b = some o -> H2 b = some o) -> R x v H1 -> R x v H2)
  (hs:∀ i H1 (out:VK) (non:Hp -> Prop),i < n -> Same H H1 -> (∀ v H6,Same H1 H6 -> R i v H6 -> out v H6) ->
   g (.int (lo + i)) σc H1 fun σ4 H4=>tc σ4 H4 fun b H5=>if b = true then te σ4 H5 out else non H5)
  (hq:∀ H' vs,Same H H' -> H' D = some (.lst vs) -> Paired (fun x v=>R x v H') (List.range n) vs -> Q (.ref D) H'):compW (Itr lo n) g tc te σc D Q H:=by
 refine ⟨fun i m acc H2=>m = n - i /\ i <= n /\ Paired (fun x v=>R x v H2) (List.range i) acc /\ Same H H2 /\ H2 D = some (.lst acc),⟨n,by simp,Nat.zero_le _,.nil,same_new hfree _,upd_same⟩,?_⟩
 rintro i m acc H2 ⟨rfl,hi,pr,sm,hD⟩
 have len:acc.length = i:=by rw [<- pr.length,List.length_range]
 by_cases hlt:i < n
 ·refine .inr ⟨hlt,fun x H3 y=>?_⟩
  obtain ⟨rfl,rfl⟩:=y
  refine hs i _ _ _ hlt sm fun v H6 s6 r=>?_
  refine ⟨s6 _ _ hD,Nat.lt_of_le_of_lt (Nat.le_of_eq len) (sizeBig (by omega)),n - (i + 1),by omega,rfl,hlt,?_,same_upd (sm.trans s6) hfree,upd_same⟩
  have lift:∀ {l:List Nat} {vs:List V},Paired (fun x v=>R x v H3) l vs -> Paired (fun x v'=>R x v' (upd H6 D (.lst (acc ++ [v])))) l vs:=fun pp=>
   L2.Paired.mapP pp fun _ _ r=>mono _ _ H3 _ acc hD (fun b o nb q=>by rw [upd_ne nb]; exact s6 _ _ q) r
  rw [List.range_succ]
  exact paired_snoc' (lift pr) (mono _ _ H6 _ acc (s6 _ _ hD) (fun b o nb q=>by rw [upd_ne nb]; exact q) r)
 ·have e:i = n:=by omega
  subst e
  exact .inl ⟨Nat.le_refl _,hq H2 acc sm hD pr⟩
end
structure RoomH (k:Nat) (A:Around):Prop where
 dp:A.depth + 3 * k + 5 < recursionLimit
 un:A.units + 16 * k + 200 < cLine
theorem Room.h {k:Nat} {A:Around} (r:Room k A):RoomH k A:=⟨r.dp,r.un⟩
theorem RoomH.mark {k:Nat} {A:Around} (r:RoomH k A) (v:Option Value):RoomH k (A.mark v):=⟨r.dp,r.un⟩
theorem RoomH.mono {j k:Nat} {A:Around} (r:RoomH k A) (h:j <= k):RoomH j A:=⟨by have:=r.dp; omega,by have:=r.un; omega⟩
noncomputable def Cx.loud (X:Cx):Cx:={ X with calm:=false,xe:=fun _ _=>False }
theorem Inv.loud {X:Cx} {p:List (Addr × Obj)} {σ:St} {H:Hp} {s:Shared} (I:Inv X p σ H s):Inv X.loud p σ H s:=
 ⟨⟨I.ok.mod,I.ok.kind,I.ok.glob,I.ok.blt,I.ok.above,I.ok.inj,I.ok.has,I.ok.cab,fun z=>(nomatch z),I.ok.frames,I.ok.stk,I.ok.exf,I.ok.bs,I.ok.bsz,I.ok.noex,I.ok.exfs,I.ok.funs,I.ok.frf⟩,I.os,I.bare,I.base,I.loc,I.cell,I.free,I.freeC,I.pin,I.hok,I.len,I.tk⟩
structure FnOkH (P:Program) (w:World) (K:Frag) (mg:Str -> Option Value) (base:Heap) (k:Nat) (f:Addr) (fd:FuncData) (ps:List Str) (sp:Sp):Prop where
 len:∀ vs H Q E,sp vs H Q E -> vs.length = ps.length
 run:∀ (A:Around) (outer:List Env) (s:Shared) (H:Hp) (args:Args) (us:List Value) (vs:List V) (Q:VK) (E:XK),RoomH k A -> Env0 P w K mg base A outer s H -> BindsTo s fd args (ps.zip us) -> Vals vs us -> sp vs H Q E ->
  codeAny (model P w) A (.call (.ref f) args) (CR CX0 outer P w H s Q E) s
theorem fn_ofH {P:Program} {w:World} {K:Frag} {mg:Str -> Option Value} {base:Heap} {k:Nat} {f:Addr} {name qual:Str} {params:Arguments} {body:List Stmt} {scope:Scope} {dV kV doc pm cdv ct oc:Value} {an od:Option Addr}
  {osl:Array (Option Value)} {N ps:List Str} {sp:Sp} (lk:K.lookup f = some ⟨oc,od,.func (fnOf name qual params body scope dV kV doc pm an cdv ct),osl⟩) (hcd:codeIn K cdv qual = true) (S:FnScope N ps scope)
  (len:∀ vs H Q E,sp vs H Q E -> vs.length = ps.length)
  (hbody:∀ (A:Around) (outer:List Env) (s:Shared) (H:Hp) (vs:List V) (Q:VK) (E:XK),RoomH k (A.deeper (envOfC qual scope s.heap.objs.size f cdv)) -> sp vs H Q E ->
   ∃ t,PSs (cxOf CX0 P w K mg base N qual scope f cdv A outer s H E).loud body t /\ t { nx:=fun _ H'=>Q .non H',rt:=Q } (start N vs) H):
  FnOkH P w K mg base (k + 1) f (fnOf name qual params body scope dV kV doc pm an cdv ct) ps sp where
 len:=len
 run:=fun A outer s H args us vs Q E hr e0 hb r hsp=>by
  have hl:=len _ _ _ _ hsp
  have keep:∀ b o,base.get? b = some o -> s.heap.get? b = some o:=fun b o e=>(e0.bs b o e).1
  have KX:K.In s.heap:=e0.mod.kin.keeps keep
  have lim:s.heap.NoLimit:=e0.mod.nolimit.keeps keep
  have loc:∀ y ∈ ps.zip us,scope.names.lookup y.1 = some .local \/ (scope.names.lookup y.1 = some .cell /\ ((cellsFrom (s.heap.objs.size + 1) scope.names []).lookup y.1).isSome = true):=by
   rintro ⟨n,v⟩ hy
   exact (S.par n (List.of_mem_zip hy).1).imp id fun q=>⟨q,PySem.W.cellsFrom_some _ _ _ (.inl q)⟩
  have hd:A.depth < recursionLimit:=by have:=hr.dp; omega
  refine codeAny_call_function hd (KX _ _ lk) rfl S.co S.gen rfl (PySem.W.codeRec_of KX hcd) (hb _ _ _ _ (tokQ e0.tk (wpAny_newFunctionEnv_cells S.kind loc fun env he s1 x htk=>?_)))
  subst he
  refine ⟨lim.keeps x.toInCall.keep,codeAny_func ?_⟩
  have hr2:RoomH k (A.deeper (envOfC qual scope s.heap.objs.size f cdv)):=⟨by have:=hr.dp; show A.depth + 1 + 3 * k + 5 < _; omega,by have:=hr.un; show A.units + 3 + 16 * k + 200 < _; omega⟩
  obtain ⟨t,ht,hq⟩:=hbody A outer s H vs Q E hr2 hsp
  have e1:Env0 P w K mg base { A with handled:=none } outer s H:=⟨e0.frames,e0.mod,e0.bs,e0.bsz,e0.funs,e0.frf,e0.hok,e0.bare,e0.tk⟩
  have I0:Inv (cxOf CX0 P w K mg base N qual scope f cdv { A with handled:=none } outer s H E) [] (start N vs) H s1:=inv_start S rfl e1 hl r x htk
  have I1:=I0.loud
  have I:Inv (cxOf CX0 P w K mg base N qual scope f cdv A outer s H E).loud [] (start N vs) H s1:=
   ⟨⟨I1.ok.mod,I1.ok.kind,I1.ok.glob,I1.ok.blt,I1.ok.above,I1.ok.inj,I1.ok.has,I1.ok.cab,fun z=>(nomatch z),Around.frames_deeper e0.frames,I1.ok.stk,I1.ok.exf,I1.ok.bs,I1.ok.bsz,I1.ok.noex,I1.ok.exfs,I1.ok.funs,I1.ok.frf⟩,I1.os,I1.bare,I1.base,I1.loc,I1.cell,I1.free,I1.freeC,I1.pin,I1.hok,I1.len,I1.tk⟩
  refine wpAny_mono (ht [] s1 (start N vs) H _ I hq) (fun fl s' hs=>?_) fun e s' hs=>hs.elim
  have fin:∀ {σ':St} {H':Hp} {v:V} {u:Value},Inv (cxOf CX0 P w K mg base N qual scope f cdv A outer s H E).loud [] σ' H' s' -> RelV v u -> Q v H' -> CE outer P w H s Q u s':=
   fun {σ' H' v u} J rv q=>⟨v,H',J.tk,J.os,J.bare,J.base,J.hok,rv,q⟩
  cases fl with
  | ret u=>obtain ⟨v,σ',H',J,rv,q⟩:=hs; exact fin J rv q
  | next=>obtain ⟨σ',H',J,q⟩:=hs; exact fin (v:=V.non) (u:=Value.none) J rfl q
  | brk=>obtain ⟨_,_,_,q⟩:=hs; exact q.elim
  | cont=>obtain ⟨_,_,_,q⟩:=hs; exact q.elim
def CalleeH (P:Program) (w:World) (K:Frag) (mg:Str -> Option Value) (base:Heap) (k:Nat) (x:Str) (ps:List Str) (sp:Sp):Prop:=
 ∃ f fd,FnOkH P w K mg base k f fd ps sp /\ Binds K fd ps [] /\ keepIn K (.ref f) = true /\ mg x = some (.ref f)
theorem Fn.calH {P:Program} {w:World} {K:Frag} {mg:Str -> Option Value} {base:Heap} {x:Str} {st:Stmt} {N ps:List Str} {k:Nat} {sp:Sp} (F:Fn K mg x st) (S:FnScope N ps (defScope st)) (len:∀ vs H Q E,sp vs H Q E -> vs.length = ps.length)
  (hb:∀ (kV doc pm:Value) (an:Option Addr) (cdv ct:Value) (us:List Value),us.length = ps.length -> bindArgs (fnOf x x (defArgs st) (defBody st) (defScope st) .none kV doc pm an cdv ct) ⟨us,[]⟩ = pure (ps.zip us))
  (hbody:∀ (f:Addr) (cdv:Value) (A:Around) (outer:List Env) (s:Shared) (H:Hp) (vs:List V) (Q:VK) (E:XK),RoomH k (A.deeper (envOfC x (defScope st) s.heap.objs.size f cdv)) -> sp vs H Q E ->
   ∃ t,PSs (cxOf CX0 P w K mg base N x (defScope st) f cdv A outer s H E).loud (defBody st) t /\ t { nx:=fun _ H'=>Q .non H',rt:=Q } (start N vs) H):CalleeH P w K mg base (k + 1) x ps sp:=by
 obtain ⟨f,fd,F,m⟩:=F
 have hB:=F.binds hb
 have hK:=F.kp
 obtain ⟨oc,od,kV,doc,pm,an,cdv,ct,osl,rfl,lk,hcd⟩:=F.ex
 exact ⟨f,_,fn_ofH lk hcd S len (hbody f cdv),hB,hK,m⟩
section
variable {X:Cx} {k:Nat} {x:Str} {ps:List Str} {sp:Sp} {p pos:Pos} {e:Expr} {es:List Expr} {t:TA}
theorem pe_fnH (C:CalleeH X.prog X.w X.K X.mg X.base k x ps sp) (hr:RoomH k X.A) (hg:Gl X x) (ha:PA X (e :: es) t)
  (he:starEach (e :: es) X.env = (false,eval e X.env) :: starEach es X.env:=by rfl) (hpl:(backTo pos (starEach es X.env)).any (·.1) = false:=by rfl) (hd:(x == ("__debug__" : Str)) = false:=by decide):PE X (.Call (.Name x p) (e :: es) [] pos) (tCall sp [] E0 t):=by
 obtain ⟨f,fd,F,b,kp,m⟩:=C
 intro pins s σ H Q I h
 refine wpAny_Call_Name_kw (ld_glob I hg m (PySem.W.callWith_K (h₀:=X.base) I.ok.mod.kin kp (thn (ha pos pins s σ H _ I h) fun us s1 ⟨vs,H1,I1,r,q⟩=>⟨I1.kIn,?_⟩) he hpl) hd)
 have q:sp vs H1 Q E0:=by dsimp only at q; rw [List.append_nil] at q; exact q
 have hl:(us ++ []).length = ps.length:=by rw [List.append_nil,<- r.length]; exact F.len _ _ _ _ q
 have bd:=b s1 us I1.kIn hl
 rw [List.append_nil] at bd
 refine wpAny_call (codeAny_mono (F.run X.A X.stack s1 H1 ⟨us,[]⟩ us vs Q E0 hr I1.env0 bd r q) fun r s' hq=>?_)
 rcases r with er | fl
 ·exact hq.elim
 ·cases fl with
  | ret u=>exact I1.after hq
  | _=>exact hq.elim
end
section
variable {κ:Type} [DecidableEq κ]
noncomputable def valV (kvs:List (κ × V)) (k:κ):Option V:=(kvs.find? fun kv=>decide (kv.1 = k)).map (·.2)
noncomputable def putK (kvs:List (κ × V)) (k:κ) (v:V):List (κ × V):=
 if (kvs.any fun kv=>decide (kv.1 = k)) = true then kvs.map (fun kv=>if kv.1 = k then (kv.1,v) else kv) else kvs ++ [(k,v)]
noncomputable def dropK (kvs:List (κ × V)) (k:κ):List (κ × V):=kvs.filter fun kv=>decide (kv.1 ≠ k)
theorem valV_pos {p:κ × V} {r:List (κ × V)} {k:κ} (e:p.1 = k):valV (p :: r) k = some p.2:=by simp [valV,List.find?_cons,e]
theorem valV_neg {p:κ × V} {r:List (κ × V)} {k:κ} (e:¬ p.1 = k):valV (p :: r) k = valV r k:=by simp [valV,List.find?_cons,e]
theorem valV_any (k:κ):∀ kvs:List (κ × V),(kvs.any fun kv=>decide (kv.1 = k)) = (valV kvs k).isSome
 | []=>rfl
 | p :: r=>by
  rw [List.any_cons]
  by_cases e:p.1 = k
  ·simp only [valV_pos e,decide_eq_true e,Bool.true_or,Option.isSome_some]
  ·rw [valV_neg e,decide_eq_false e,Bool.false_or]; exact valV_any k r
theorem valV_map (k j:κ) (y:V):∀ kvs:List (κ × V),valV (kvs.map fun kv=>if kv.1 = k then (kv.1,y) else kv) j = (valV kvs j).map fun x=>if j = k then y else x
 | []=>rfl
 | p :: r=>by
  have ih:=valV_map k j y r
  rw [List.map_cons]
  by_cases h:p.1 = k
  ·rw [if_pos h]
   by_cases e:p.1 = j
   ·rw [valV_pos (p:=(p.1,y)) e,valV_pos e,Option.map_some,if_pos (e.symm.trans h)]
   ·rw [valV_neg (p:=(p.1,y)) e,valV_neg e,ih]
  ·rw [if_neg h]
   by_cases e:p.1 = j
   ·rw [valV_pos (p:=p) e,valV_pos e,Option.map_some,if_neg (fun z=>h (e.trans z))]
   ·rw [valV_neg (p:=p) e,valV_neg e,ih]
theorem valV_snoc (k j:κ) (y:V):∀ kvs:List (κ × V),valV kvs k = none -> valV (kvs ++ [(k,y)]) j = if j = k then some y else valV kvs j
 | [],_=>by
  by_cases e:k = j
  ·rw [if_pos e.symm]; exact valV_pos (p:=(k,y)) e
  ·rw [if_neg (fun z=>e z.symm)]; exact valV_neg (p:=(k,y)) e
 | p :: r,hn=>by
  rw [List.cons_append]
  have hk:¬ p.1 = k:=fun z=>by rw [valV_pos z] at hn; cases hn
  rw [valV_neg hk] at hn
  have ih:=valV_snoc k j y r hn
  by_cases e:p.1 = j
  ·rw [valV_pos e,valV_pos e,if_neg (fun z=>hk (e.trans z))]
  ·rw [valV_neg e,valV_neg e,ih]
theorem valV_put (kvs:List (κ × V)) (k j:κ) (y:V):valV (putK kvs k y) j = if j = k then some y else valV kvs j:=by
 unfold putK
 by_cases a:(kvs.any fun kv=>decide (kv.1 = k)) = true
 ·rw [if_pos a,valV_map]
  rw [valV_any] at a
  by_cases e:j = k
  ·obtain ⟨x,hx⟩:=Option.isSome_iff_exists.mp a
   rw [if_pos e,e,hx,Option.map_some,if_pos rfl]
  ·rw [if_neg e]
   cases valV kvs j with
   | none=>rfl
   | some x=>rw [Option.map_some,if_neg e]
 ·rw [if_neg a]
  refine valV_snoc k j y kvs ?_
  rw [valV_any] at a
  cases q:valV kvs k with
  | none=>rfl
  | some x=>rw [q] at a; exact (a rfl).elim
theorem length_putK (kvs:List (κ × V)) (k:κ) (v:V):(putK kvs k v).length <= kvs.length + 1:=by
 unfold putK
 split
 ·rw [List.length_map]; omega
 ·rw [List.length_append,List.length_cons,List.length_nil]; omega
theorem RelO.isSome_eq {o:Option V} {u:Option Value} (r:RelO o u):o.isSome = u.isSome:=by
 cases o with
 | none=>cases u with
  | none=>rfl
  | some _=>exact (show False from r).elim
 | some _=>cases u with
  | none=>exact (show False from r).elim
  | some _=>rfl
theorem RelO.getD {o:Option V} {u:Option Value} {d:V} {d':Value} (r:RelO o u) (rd:RelV d d'):RelV (o.getD d) (u.getD d'):=by
 cases o with
 | none=>cases u with
  | none=>exact rd
  | some _=>exact (show False from r).elim
 | some _=>cases u with
  | none=>exact (show False from r).elim
  | some _=>exact r
theorem KV.val {kvs:List (κ × V)} {vs:List (κ × Value)} (r:KV kvs vs) (k:κ):RelO (valV kvs k) (valueAt vs k):=by
 unfold KV at r
 induction r with
 | nil=>exact True.intro
 | @cons p q ps qs h t ih=>
  obtain ⟨h1,h2⟩:=h
  by_cases e:p.1 = k
  ·have e':q.1 = k:=h1.symm.trans e
   have b:valueAt (q :: qs) k = some q.2:=by simp [valueAt,List.find?_cons,e']
   rw [valV_pos e,b]; exact h2
  ·have e':¬ q.1 = k:=fun z=>e (h1.trans z)
   have b:valueAt (q :: qs) k = valueAt qs k:=by simp [valueAt,List.find?_cons,e']
   rw [valV_neg e,b]; exact ih
theorem KV.any {kvs:List (κ × V)} {vs:List (κ × Value)} (r:KV kvs vs) (k:κ):(kvs.any fun kv=>decide (kv.1 = k)) = vs.any fun kv=>decide (kv.1 = k):=by
 unfold KV at r
 induction r with
 | nil=>rfl
 | cons h t ih=>rw [List.any_cons,List.any_cons,ih,h.1]
theorem KV.repl {kvs:List (κ × V)} {vs:List (κ × Value)} (r:KV kvs vs) (k:κ) {y:V} {u:Value} (ry:RelV y u):
  KV (kvs.map fun kv=>if kv.1 = k then (kv.1,y) else kv) (vs.map fun kv=>if kv.1 = k then (kv.1,u) else kv):=by
 unfold KV at r ⊢
 induction r with
 | nil=>exact .nil
 | @cons p q ps qs h t ih=>
  rw [List.map_cons,List.map_cons]
  refine .cons ?_ ih
  obtain ⟨h1,h2⟩:=h
  by_cases e:p.1 = k
  ·rw [if_pos e,if_pos (h1.symm.trans e)]; exact ⟨h1,ry⟩
  ·rw [if_neg e,if_neg (fun z=>e (h1.trans z))]; exact ⟨h1,h2⟩
theorem KV.put {kvs:List (κ × V)} {vs:List (κ × Value)} (r:KV kvs vs) (k:κ) {y:V} {u:Value} (ry:RelV y u):KV (putK kvs k y) (stored vs k u):=by
 unfold putK stored
 rw [r.any k]
 by_cases e:(vs.any fun kv=>decide (kv.1 = k)) = true
 ·rw [if_pos e,if_pos e]; exact r.repl k ry
 ·rw [if_neg e,if_neg e]; exact Paired.snoc r ⟨rfl,ry⟩
theorem KV.drop {kvs:List (κ × V)} {vs:List (κ × Value)} (r:KV kvs vs) (k:κ):KV (dropK kvs k) (without vs k):=by
 unfold KV at r ⊢
 unfold dropK without
 induction r with
 | nil=>exact .nil
 | @cons p q ps qs h t ih=>
  obtain ⟨h1,h2⟩:=h
  rw [List.filter_cons,List.filter_cons]
  by_cases e:p.1 = k
  ·have a:¬ decide (p.1 ≠ k) = true:=by simp [e]
   have b:¬ decide (q.1 ≠ k) = true:=by simp [h1.symm.trans e]
   rw [if_neg a,if_neg b]; exact ih
  ·have e':¬ q.1 = k:=fun z=>e (h1.trans z)
   have a:decide (p.1 ≠ k) = true:=by simp [e]
   have b:decide (q.1 ≠ k) = true:=by simp [e']
   rw [if_pos a,if_pos b]; exact .cons ⟨h1,h2⟩ ih
theorem KV.keys {kvs:List (κ × V)} {vs:List (κ × Value)} (r:KV kvs vs):kvs.map (·.1) = vs.map (·.1):=by
 unfold KV at r
 induction r with
 | nil=>rfl
 | cons h t ih=>rw [List.map_cons,List.map_cons,ih,h.1]
theorem KV.length {kvs:List (κ × V)} {vs:List (κ × Value)} (r:KV kvs vs):kvs.length = vs.length:=Paired.length r
end
theorem kV_is {P:Program} {w:World} {k:Key} {u:Value} (r:RelV (kV k) u):(mixKind P w).is k u = true:=by
 cases k with
 | inl i=>obtain ⟨t,e⟩:=(show ∃ t,u = Value.int i t from r); subst e; exact mixKind_int P w i t
 | inr x=>obtain ⟨t,e⟩:=(show ∃ t,u = Value.str x t from r); subst e; exact mixKind_str P w x t
theorem items_are {P:Program} {w:World}:∀ {ks:List Key} {us:List Value},Vals (ks.map kV) us -> ItemsAre (mixKind P w) ks us
 | [],_,r=>by rw [List.map_nil] at r; cases r; exact .nil
 | k :: ks,_,r=>by
  rw [List.map_cons] at r
  cases r with
  | cons h t=>exact .cons (kV_is h) (items_are t)
noncomputable abbrev KT (H:Hp):List (List Key × V) -> List (List Key × Addr × Value) -> Prop:=Paired fun p q=>p.1 = q.1 /\ H q.2.1 = some (.tup (p.1.map kV)) /\ RelV p.2 q.2.2
theorem KT.val {H:Hp} {kvs:List (List Key × V)} {xs:List (List Key × Addr × Value)} (r:KT H kvs xs) (k:List Key):RelO (valV kvs k) ((atKey xs k).map (·.2)):=by
 induction r with
 | nil=>exact True.intro
 | @cons p q ps qs h t ih=>
  obtain ⟨h1,_,h2⟩:=h
  by_cases e:p.1 = k
  ·have e':q.1 = k:=h1.symm.trans e
   have b:atKey (q :: qs) k = some q.2:=by simp [atKey,List.find?_cons,e']
   rw [valV_pos e,b]; exact h2
  ·have e':¬ q.1 = k:=fun z=>e (h1.trans z)
   have b:atKey (q :: qs) k = atKey qs k:=by simp [atKey,List.find?_cons,e']
   rw [valV_neg e,b]; exact ih
theorem KT.repl {H:Hp} {kvs:List (List Key × V)} {xs:List (List Key × Addr × Value)} (r:KT H kvs xs) (k:List Key) {y:V} {u:Value} (ry:RelV y u):
  KT H (kvs.map fun kv=>if kv.1 = k then (kv.1,y) else kv) (xs.map (putAt k u)):=by
 induction r with
 | nil=>exact .nil
 | @cons p q ps qs h t ih=>
  rw [List.map_cons,List.map_cons]
  refine .cons ?_ ih
  obtain ⟨h1,h2,h3⟩:=h
  unfold putAt
  by_cases e:p.1 = k
  ·rw [if_pos e,if_pos (h1.symm.trans e)]; exact ⟨h1,h2,ry⟩
  ·rw [if_neg e,if_neg (fun z=>e (h1.trans z))]; exact ⟨h1,h2,h3⟩
theorem KT.put {H:Hp} {kvs:List (List Key × V)} {xs:List (List Key × Addr × Value)} (r:KT H kvs xs) (k:List Key) {b:Addr} {y:V} {u:Value} (hb:H b = some (.tup (k.map kV))) (ry:RelV y u):
  KT H (putK kvs k y) (storedH xs k b u):=by
 have e:(kvs.any fun kv=>decide (kv.1 = k)) = (atKey xs k).isSome:=by
  rw [valV_any,(r.val k).isSome_eq,Option.isSome_map]
 unfold putK storedH
 rw [e]
 by_cases q:(atKey xs k).isSome = true
 ·rw [if_pos q,if_pos q]; exact r.repl k ry
 ·rw [if_neg q,if_neg q]; exact Paired.snoc r ⟨rfl,hb,ry⟩
theorem KT.keeps {H H':Hp} {kvs:List (List Key × V)} {xs:List (List Key × Addr × Value)} (r:KT H kvs xs) (ht:∀ b ys,H b = some (.tup ys) -> H' b = some (.tup ys)):KT H' kvs xs:=
 Paired.mapP r fun _ _ z=>⟨z.1,ht _ _ z.2.1,z.2.2⟩
section
variable {P:Program} {w:World} {H:Hp} {h:Heap} {a:Addr}
theorem rd_of {u:HO} (ok:HOk P w H h) (e:Rd H a u):ObjOk P w H h a u:=e.ok ok
theorem dk_rd {kvs:List (Key × V)} (ok:HOk P w H h) (e:Rd H a (.dK kvs)):kvs.length <= sizeLine /\ (a == sysModules) = false /\ ∃ vs,KV kvs vs /\ h.DictOf (mixKind P w) a vs:=
 show ObjOk P w H h a (.dK kvs) from rd_of ok e
theorem dk_of {kvs:List (Key × V)} (ok:HOk P w H h) (e:H a = some (.dK kvs)):kvs.length <= sizeLine /\ (a == sysModules) = false /\ ∃ vs,KV kvs vs /\ h.DictOf (mixKind P w) a vs:=dk_rd ok (.inl e)
theorem key_of {ks:List Key} (ok:HOk P w H h) (e:H a = some (.tup (ks.map kV))):(tupleKind (mixKind P w)).is h ks a:=by
 obtain ⟨_,its,r,o,h1,h2,n,h3⟩:=(show ObjOk P w H h a (.tup (ks.map kV)) from ok a _ e)
 exact ⟨o,its.toArray,n,h1,h2,h3,by simpa using items_are r⟩
theorem dt_rd {kvs:List (List Key × V)} (ok:HOk P w H h) (e:Rd H a (.dT kvs)):kvs.length <= sizeLine /\ (a == sysModules) = false /\
  ∃ xs,KT H kvs xs /\ h.DictOfH (tupleKind (mixKind P w)) a xs:=by
 obtain ⟨z,y,xs,r,o,es,ep,h1,h2,h3,h4,h5⟩:=(show ObjOk P w H h a (.dT kvs) from rd_of ok e)
 refine ⟨z,y,xs,r,o,es,ep,h1,h2,h3,h4,fun x hx=>?_,h5⟩
 have all:∀ {l:List (List Key × V)} {m:List (List Key × Addr × Value)},KT H l m -> ∀ x ∈ m,(tupleKind (mixKind P w)).is h x.1 x.2.1:=by
  intro l m q
  induction q with
  | nil=>intro x hx; exact nomatch hx
  | @cons p q ps qs hq t ih=>
   intro x hx
   rcases List.mem_cons.mp hx with e | hx
   ·subst e
    exact key_of ok (by rw [<- hq.1]; exact hq.2.1)
   ·exact ih x hx
 exact all r x hx
theorem dt_of {kvs:List (List Key × V)} (ok:HOk P w H h) (e:H a = some (.dT kvs)):kvs.length <= sizeLine /\ (a == sysModules) = false /\
  ∃ xs,KT H kvs xs /\ h.DictOfH (tupleKind (mixKind P w)) a xs:=dt_rd ok (.inl e)
end
def DGet (H:Hp) (a:Addr) (y:V) (r:Option V):Prop:=
 (∃ kvs k,Rd H a (.dK kvs) /\ y = kV k /\ r = valV kvs k) \/ ∃ kvs k b,Rd H a (.dT kvs) /\ y = .ref b /\ H b = some (.tup (k.map kV)) /\ r = valV kvs k
def DPut (H:Hp) (a:Addr) (y v:V) (H':Hp):Prop:=
 (∃ kvs k,H a = some (.dK kvs) /\ y = kV k /\ kvs.length < sizeLine /\ H' = upd H a (.dK (putK kvs k v))) \/
 ∃ kvs k b,H a = some (.dT kvs) /\ y = .ref b /\ H b = some (.tup (k.map kV)) /\ kvs.length < sizeLine /\ H' = upd H a (.dT (putK kvs k v))
theorem DGet.k {H:Hp} {a:Addr} {kvs:List (Key × V)} {k:Key} (e:H a = some (.dK kvs)):DGet H a (kV k) (valV kvs k):=.inl ⟨kvs,k,.inl e,rfl,rfl⟩
theorem DGet.t {H:Hp} {a b:Addr} {kvs:List (List Key × V)} {k:List Key} (e:H a = some (.dT kvs)) (eb:H b = some (.tup (k.map kV))):DGet H a (.ref b) (valV kvs k):=.inr ⟨kvs,k,b,.inl e,rfl,eb,rfl⟩
theorem DPut.k {H:Hp} {a:Addr} {kvs:List (Key × V)} {k:Key} {v:V} (e:H a = some (.dK kvs)) (hl:kvs.length < sizeLine):DPut H a (kV k) v (upd H a (.dK (putK kvs k v))):=.inl ⟨kvs,k,e,rfl,hl,rfl⟩
theorem DPut.t {H:Hp} {a b:Addr} {kvs:List (List Key × V)} {k:List Key} {v:V} (e:H a = some (.dT kvs)) (eb:H b = some (.tup (k.map kV))) (hl:kvs.length < sizeLine):
  DPut H a (.ref b) v (upd H a (.dT (putK kvs k v))):=.inr ⟨kvs,k,b,e,rfl,eb,hl,rfl⟩
section
variable {X:Cx} {pins:List (Addr × Obj)} {σ:St} {H:Hp} {s:Shared} {a:Addr} {y v:V} {u r:Value} {o:Option V} {A:Around} {E:Value -> Shared -> Prop}
theorem Inv.big (I:Inv X pins σ H s):sysModules < s.heap.objs.size:=by
 have h:mainGlobals < s.heap.objs.size:=(I.mod.glob.keeps I.bk).lt
 exact Nat.lt_trans (by decide) h
theorem d_notIn {Q:Value -> Shared -> Prop} (hu:A.units + 1 < cLine) (I:Inv X pins σ H s) (g:DGet H a y o) (ry:RelV y u) (h:∀ s',Inv X pins σ H s' -> Q (.bool (!o.isSome)) s'):
  wpAny (model X.prog X.w) A (compareOp .NotIn u (.ref a)) Q E s:=by
 rcases g with ⟨kvs,k,e,ey,l⟩ | ⟨kvs,k,b,e,ey,eb,l⟩
 ·subst ey
  obtain ⟨z,hd,vs,rel,dd⟩:=dk_rd I.hok e
  refine wpAny_notIn_of (kV_is ry) hd dd.mapOf ?_
  rw [<- (rel.val k).isSome_eq,<- l]
  exact h _ (I.tok _)
 ·subst ey
  cases (show u = Value.ref b from ry)
  obtain ⟨z,hd,xs,rel,dd⟩:=dt_rd I.hok e
  refine wpAny_notIn_heap (tupleKind_room_in1 hu) (key_of I.hok eb) hd dd ?_
  have q:=(rel.val k).isSome_eq
  rw [Option.isSome_map] at q
  rw [<- q,<- l]
  exact h _ (I.tok _)
theorem d_write {h':Heap} {t':Nat} {ob:HO} (I:Inv X pins σ H s) (mu:Mut (H a)) (hs:Heap.SameBut a s.heap h') (he:∃ q,h'.get? a = some q) (new:ObjOk X.prog X.w (upd H a ob) h' a ob) (ht:0 < t':=by first | assumption | exact Nat.succ_pos _ | (apply Inv.tk; assumption) | omega):
  Inv X pins σ (upd H a ob) { s with heap:=h',toks:=t' }:=
 I.write (x:=a) (e:=a) mu (.inl rfl) (fun b q hb z=>(hs.2 b hb).trans z) he new
theorem dk_new {P:Program} {w:World} {H':Hp} {h':Heap} {kvs:List (Key × V)} {vs:List (Key × Value)} (z:kvs.length <= sizeLine) (hd:(a == sysModules) = false) (rel:KV kvs vs) (dd:h'.DictOf (mixKind P w) a vs):
  ObjOk P w H' h' a (.dK kvs):=⟨z,hd,vs,rel,dd⟩
theorem d_setItem {H':Hp} {Q:Unit -> Shared -> Prop} (hu:A.units + 1 < cLine) (I:Inv X pins σ H s) (g:DPut H a y v H') (ry:RelV y u) (rv:RelV v r) (h:∀ s',Inv X pins σ H' s' -> Q () s'):
  wpAny (model X.prog X.w) A (setItem (.ref a) u r) Q E s:=by
 rcases g with ⟨kvs,k,e,ey,l,eH⟩ | ⟨kvs,k,b,e,ey,eb,l,eH⟩
 ·subst ey eH
  obtain ⟨z,hd,vs,rel,dd⟩:=dk_of I.hok e
  have hz:vs.length <= sizeLine:=by rw [<- rel.length]; exact z
  have hl:(putK kvs k v).length <= sizeLine:=by have:=length_putK kvs k v; omega
  refine wpAny_setItem_pairs (hsz:=hz) (kV_is ry) dd fun h' dd' hs=>h _ ?_
  have he:∃ q,h'.get? a = some q:=let ⟨q,_,_,hq,_⟩:=dd'; ⟨q,hq⟩
  exact d_write I (by rw [e]; exact True.intro) hs he (dk_new hl hd (rel.put k rv) dd')
 ·subst ey eH
  cases (show u = Value.ref b from ry)
  obtain ⟨z,hd,xs,rel,dd⟩:=dt_of I.hok e
  have hz:xs.length <= sizeLine:=by rw [<- Paired.length rel]; exact z
  have hl:(putK kvs k v).length <= sizeLine:=by have:=length_putK kvs k v; omega
  refine wpAny_setItem_heap (hsz:=hz) (tupleKind_room_in1 hu) (key_of I.hok eb) dd fun h' dd' hs=>h _ ?_
  obtain ⟨q,es,ep,hq,h2,h3,h4,_,h5⟩:=dd'
  refine d_write I (by rw [e]; exact True.intro) hs ⟨q,hq⟩ ⟨hl,hd,_,(rel.put k eb rv).keeps fun c ys ec=>?_,q,es,ep,hq,h2,h3,h4,h5⟩
  rw [upd_ne (ne_of ec e (fun z=>nomatch z))]
  exact ec
end
section
variable {X:Cx} {pins:List (Addr × Obj)} {σ:St} {H:Hp} {s:Shared} {a:Addr} {kvs:List (Key × V)} {k:Key} {u:Value} {A:Around} {E:Value -> Shared -> Prop}
end
noncomputable def tDNotIn (ty td:TE):TE:=fun σ H Q=>ty σ H fun y H1=>td σ H1 fun x H2=>∃ a o,x = .ref a /\ DGet H2 a y o /\ Q (.bl (!o.isSome)) H2
noncomputable def sDPut (td ty tv:TE):TS:=fun D σ H=>tv σ H fun v H1=>td σ H1 fun x H2=>ty σ H2 fun y H3=>∃ a H4,x = .ref a /\ DPut H3 a y v H4 /\ D.nx σ H4
section
variable {X:Cx} {o i e value:Expr} {pos pos' tpos:Pos} {td ty tv:TE}
theorem pc_dnotin (hu:X.A.units + 1 < cLine) (hi:PE X i ty) (ho:PE X o td):PC X .NotIn i o (tDNotIn ty td):=by
 intro pins s σ H Q I h
 refine thn (hi pins s σ H _ I h) fun iv s1 ⟨y,H1,I1,ry,q1⟩=>thn (ho pins s1 σ H1 _ I1 q1) fun u s2 ⟨x,H2,I2,rx,a,ov,ex,g,q2⟩=>?_
 subst ex
 obtain rfl:u = Value.ref a:=rx
 exact d_notIn hu I2 g ry fun s3 I3=>⟨.bl (!ov.isSome),H2,I3,rfl,q2⟩
theorem ps_dput (hu:X.A.units + 1 < cLine) (ho:PE X o td) (hi:PE X i ty) (hv:PE X value tv) (hs:swapsWith value (some (.Subscript o i pos')) pos.line X.env = pure false):
  PS X (.Assign [.Subscript o i pos'] value pos) (sDPut td ty tv):=by
 intro pins s σ H D I h
 refine wpAny_Assign_Subscript (thn (hv pins s σ H _ I h) fun r s1 ⟨v,H1,I1,rv,q1⟩=>thn (ho pins s1 σ H1 _ I1 q1) fun u s2 ⟨x,H2,I2,rx,q2⟩=>thn (hi pins s2 σ H2 _ I2 q2) fun iv s3 ⟨y,H3,I3,ry,a,H4,ex,g,q3⟩=>?_) hs
 subst ex
 obtain rfl:u = Value.ref a:=rx
 exact d_setItem hu I3 g ry rv fun s4 I4=>⟨σ,H4,I4,q3⟩
end
theorem dt_empty {P:Program} {w:World} {H:Hp} (h:Heap) (hb:sysModules < h.objs.size):ObjOk P w H (h.push { cls:=.type "dict",data:=.dict #[] }) h.objs.size (.dT []):=
 ⟨Nat.zero_le _,beq_eq_false_iff_ne.mpr (Ne.symm (Nat.ne_of_lt hb)),[],.nil,_,#[],0,Heap.get?_push_size _ rfl,⟨rfl,rfl,rfl⟩,rfl,rfl,List.nodup_nil⟩
noncomputable def tDNewT:TE:=fun _ H Q=>∀ p,H p = none -> Q (.ref p) (upd H p (.dT []))
section
variable {X:Cx} {pos:Pos}
theorem pe_dnewT:PE X (.Dict [] [] pos) tDNewT:=fun pins s σ H Q I h=>
 wpAny_Dict_empty ⟨.ref s.heap.objs.size,_,I.laid (a:=s.heap.objs.size) (o:=.dT []) (t':=s.toks) (fun _ _ q=>Heap.get?_push_of_some _ q) (Nat.le_refl _) (dt_empty s.heap I.big),rfl,h _ (I.hok.fresh (Nat.le_refl _))⟩
end
structure M1 (X:Cx) (o:Expr) (m:Str) (apos:Pos) (e:Expr) (cpos:Pos):Prop where
 base:attributeBase o m X.env (eval o X.env) = eval o X.env
 few:((backTo cpos (starEach [e] X.env)).all (fun x=>!x.1) && (backToKw cpos (keywordEach [] X.env)).all (fun x=>x.1.isSome)
  && decide (([e]:List Expr).length + ([]:List Keyword).length + (if ([]:List Keyword).isEmpty then 0 else 1) < 30)) = true
 line:(apos.endLine == cpos.line) = true
 trees:backTo cpos (starEach [e] X.env) = [(false,eval e X.env)]
structure M2 (X:Cx) (o:Expr) (m:Str) (apos:Pos) (e f:Expr) (cpos:Pos):Prop where
 base:attributeBase o m X.env (eval o X.env) = eval o X.env
 few:((backTo cpos (starEach [e,f] X.env)).all (fun x=>!x.1) && (backToKw cpos (keywordEach [] X.env)).all (fun x=>x.1.isSome)
  && decide (([e,f]:List Expr).length + ([]:List Keyword).length + (if ([]:List Keyword).isEmpty then 0 else 1) < 30)) = true
 line:(apos.endLine == cpos.line) = true
 trees:backTo cpos (starEach [e,f] X.env) = [(false,eval e X.env),(false,eval f X.env)]
def IsD (H:Hp) (a:Addr):Prop:=(∃ kvs,Rd H a (.dK kvs)) \/ ∃ kvs,Rd H a (.dT kvs)
theorem isD_at {X:Cx} {pins:List (Addr × Obj)} {σ:St} {H:Hp} {s:Shared} {a:Addr} (I:Inv X pins σ H s) (d:IsD H a):
  s.TypeIs (.ref a) "dict" /\ (∀ b,Value.ref a = .ref b -> ∃ ob,s.heap.get? b = some ob /\ ob.dict = none) /\ (a == sysModules) = false:=by
 rcases d with ⟨kvs,e⟩ | ⟨kvs,e⟩
 ·obtain ⟨_,hd,vs,_,dd⟩:=dk_rd I.hok e
  refine ⟨dd.typeIs,fun b q=>?_,hd⟩
  cases q
  obtain ⟨ob,_,_,h1,h2,_⟩:=dd
  exact ⟨ob,h1,h2.2.1⟩
 ·obtain ⟨_,hd,xs,_,dd⟩:=dt_rd I.hok e
  refine ⟨dd.typeIs,fun b q=>?_,hd⟩
  cases q
  obtain ⟨ob,_,_,h1,h2,_⟩:=dd
  exact ⟨ob,h1,h2.2.1⟩
section
variable {X:Cx} {pins:List (Addr × Obj)} {σ:St} {H:Hp} {s:Shared} {a:Addr} {y d:V} {u r:Value} {o:Option V} {A:Around} {E:Value -> Shared -> Prop}
theorem d_get1 {Q:Value -> Shared -> Prop} (hu:A.units + 1 < cLine) (I:Inv X pins σ H s) (g:DGet H a y o) (ry:RelV y u) (h:∀ w' s',Inv X pins σ H s' -> RelV (o.getD .non) w' -> Q w' s'):
  wpAny (model X.prog X.w) A (call (.builtin "dict.get") [.ref a,u]) Q E s:=by
 rcases g with ⟨kvs,k,e,ey,l⟩ | ⟨kvs,k,b,e,ey,eb,l⟩
 ·subst ey
  obtain ⟨z,hd,vs,rel,dd⟩:=dk_rd I.hok e
  refine call_meetsIn PySem.F.slot_dict_get dd.typeIs PySem.F.entry_dict_get (PySem.F.args_dict_get_2 _ _) (meets_dict_get (mixKind X.prog X.w) a (kV_is ry) hd) ⟨_,dd.mapOf,h _ _ (I.tok _) ?_⟩
  rw [l]
  exact (rel.val k).getD rfl
 ·subst ey
  cases (show u = Value.ref b from ry)
  obtain ⟨z,hd,xs,rel,dd⟩:=dt_rd I.hok e
  refine call_meetsIn PySem.F.slot_dict_get dd.typeIs PySem.F.entry_dict_get (PySem.F.args_dict_get_2 _ _) (meetsH_dict_get (tupleKind (mixKind X.prog X.w)) a b hd) ⟨tupleKind_room_in1 hu,k,xs,key_of I.hok eb,dd,h _ _ (I.tok _) ?_⟩
  rw [l]
  exact (rel.val k).getD rfl
end
noncomputable def tDGet1 (td ty:TE):TE:=fun σ H Q=>td σ H fun x H1=>∃ a,x = .ref a /\ IsD H1 a /\ ty σ H1 fun y H2=>∃ o,DGet H2 a y o /\ Q (o.getD .non) H2
section
variable {X:Cx} {o e f:Expr} {apos cpos:Pos} {td ty tx:TE}
theorem pe_dget1 (hu:X.A.units + 1 < cLine) (ho:PE X o td) (he:PE X e ty) (m:M1 X o "get" apos e cpos):PE X (.Call (.Attribute o "get" apos) [e] [] cpos) (tDGet1 td ty):=by
 intro pins s σ H Q I h
 refine wpAny_Call_method m.base m.few m.line PySem.F.plainAttrs_dict PySem.F.slot_dict_get PySem.F.type_dict_get (thn (ho pins s σ H _ I h) fun u s1 ⟨x,H1,I1,rx,a,ex,d,q1⟩=>?_)
 subst ex
 obtain rfl:u = Value.ref a:=rx
 obtain ⟨t1,t2,_⟩:=isD_at I1 d
 refine ⟨t1,t2,?_⟩
 rw [m.trees]
 refine Calls.callWith_builtin rfl (Calls.evalArgs_plain (Calls.spliced_cons (thn (he pins s1 σ H1 _ I1 q1) fun iv s2 ⟨y,H2,I2,ry,ov,g,q2⟩=>Calls.spliced_nil ?_)))
 exact d_get1 hu I2 g ry fun w' s3 I3 rw'=>⟨_,H2,I3,rw',q2⟩
end
section
variable {X:Cx} {pins:List (Addr × Obj)} {σ:St} {H:Hp} {s:Shared} {a:Addr} {kvs:List (Key × V)} {A:Around} {E:Value -> Shared -> Prop}
end
section
variable {X:Cx} {pins:List (Addr × Obj)} {σ:St} {H:Hp} {s:Shared} {a:Addr} {y:V} {u:Value} {A:Around} {E:Value -> Shared -> Prop}
end
section
variable {X:Cx}
end
section
variable {κ:Type} [DecidableEq κ]
end
section
variable {X:Cx} {o i e value:Expr} {pos pos' apos cpos:Pos} {td ty tv ta:TE}
noncomputable def cDIn (neg:Bool) (ty td:TE):TE:=fun σ H Q=>ty σ H fun y H1=>td σ H1 fun x H2=>match x with
 | .ref a=>∃ v,DGet H2 a y v /\ Q (.bl (neg ^^ v.isSome)) H2
 | _=>False
theorem qt_dnotin (hu:X.A.units + 1 < cLine) (hi:PE X i ty) (ho:PE X o td) (h1:behindInMarks .NotIn o = false:=by rfl):PT X (.Compare i [.NotIn] [o] pos) (cTest (cDIn true ty td)):=
 (pt_cmp (pc_dnotin hu hi.mono ho.mono) h1).imp fun σ H Q q=>⟨_,q,fun y H1 z=>⟨_,z,fun x H2 z=>by
  split at z
  ·obtain ⟨v,g,q⟩:=z
   exact ⟨_,v,rfl,g,blK_ex (by simpa using q)⟩
  ·exact z.elim⟩⟩
noncomputable def cDPut (td ty tv:TE):TS:=fun D σ H=>tv σ H fun v H1=>td σ H1 fun x H2=>ty σ H2 fun y H3=>match x with
 | .ref a=>∃ H4,DPut H3 a y v H4 /\ D.nx σ H4
 | _=>False
theorem qs_dput (hu:X.A.units + 1 < cLine) (ho:PE X o td) (hi:PE X i ty) (hv:PE X value tv) (hs:swapsWith value (some (.Subscript o i pos')) pos.line X.env = pure false:=by rfl):
  PS X (.Assign [.Subscript o i pos'] value pos) (cDPut td ty tv):=fun pins s σ H D I h=>
 ps_dput hu ho.mono hi.mono hv.mono hs pins s σ H D I ⟨_,h,fun v H1 z=>⟨_,z,fun x H2 z=>⟨_,z,fun y H3 z=>by
  split at z
  ·obtain ⟨H4,g,q⟩:=z
   exact ⟨_,H4,rfl,g,q⟩
  ·exact z.elim⟩⟩⟩
theorem a_cDIn {neg:Bool} {σ:St} {H:Hp} {Q:VK}:cDIn neg ty td σ H Q = ty σ H fun y H1=>td σ H1 fun x H2=>match x with
 | .ref a=>∃ v,DGet H2 a y v /\ Q (.bl (neg ^^ v.isSome)) H2
 | _=>False:=rfl
theorem a_cDPut {D:Ends} {σ:St} {H:Hp}:cDPut td ty tv D σ H = tv σ H fun v H1=>td σ H1 fun x H2=>ty σ H2 fun y H3=>match x with
 | .ref a=>∃ H4,DPut H3 a y v H4 /\ D.nx σ H4
 | _=>False:=rfl
theorem a_dNewT {σ:St} {H:Hp} {Q:VK}:tDNewT σ H Q = ∀ p,H p = none -> Q (.ref p) (upd H p (.dT [])):=rfl
end
section
variable {X:Cx} {e:Expr} {te:TE} {pos:Pos}
end
section
variable {X:Cx}
variable {o e f:Expr} {to te tf:TE} {apos cpos:Pos}
end
section
variable {X:Cx} {e:Expr} {te:TE} {apos cpos:Pos}
end
section
variable {X:Cx}
end
section
variable {X:Cx} {pins:List (Addr × Obj)} {σ:St} {H:Hp} {s:Shared} {a:Addr} {y v:V} {u r:Value} {A:Around} {E:Value -> Shared -> Prop}
end
section
variable {X:Cx} {o e f:Expr} {apos cpos:Pos} {td ty tx:TE}
theorem Inv.frozen {pins:List (Addr × Obj)} {σ:St} {H:Hp} {s:Shared} {a:Addr} {kvs:List (Key × V)} (I:Inv X pins σ H s) (e:H a = some (.dK kvs)):∃ ob,Inv X pins σ (upd H a (.frz ob (.dK kvs))) s:=by
 obtain ⟨z,hd,vs,rel,dd⟩:=dk_of I.hok e
 obtain ⟨ob,es,ep,hq,r⟩:=id dd
 refine ⟨ob,?_⟩
 exact d_write (h':=s.heap) (t':=s.toks) I (by rw [e]; exact True.intro) ⟨rfl,fun _ _=>rfl⟩ ⟨ob,hq⟩ ⟨hq,dk_new z hd rel dd⟩
end
section
variable {X:Cx} {o:Expr} {to:TE} {apos cpos:Pos}
end
section
variable {X:Cx}
end
section
variable {K:Frag} {g:TG} {tc:TT} {te:TE} {σc:St} {D:Addr} {Q:VK} {H:Hp} {td ty:TE}
end
section
variable {K:Frag} {J:It} {g:TG} {tc:TT} {te:TE} {σc:St} {D:Addr} {Q:VK} {H:Hp}
theorem comp_gen {α:Type} (xs:List α) (keep:α -> Bool) (R:α -> V -> Hp -> Prop) (hfree:H D = none) (hn:xs.length <= 100000) (hgo:∀ i H1,i < xs.length -> Same H H1 -> J.go i H1) (hst:∀ H1,Same H H1 -> J.stop xs.length H1)
  (hy:∀ i H1 v H2,i < xs.length -> J.yld i H1 v H2 -> Same H1 H2)
  (mono:∀ x v H1 H2 acc,H1 D = some (.lst acc) -> (∀ b o,b ≠ D -> H1 b = some o -> H2 b = some o) -> R x v H1 -> R x v H2)
  (hs:∀ i x v H1 H2 (out:VK) (non:Hp -> Prop),xs[i]? = some x -> Same H H1 -> J.yld i H1 v H2 -> (∀ v H6,keep x = true -> Same H2 H6 -> R x v H6 -> out v H6) -> (∀ H5,keep x = false -> Same H2 H5 -> non H5) ->
   g v σc H2 fun σ4 H4=>tc σ4 H4 fun b H5=>if b = true then te σ4 H5 out else non H5)
  (hq:∀ H' vs,Same H H' -> H' D = some (.lst vs) -> Paired (fun x v=>R x v H') (xs.filter keep) vs -> Q (.ref D) H'):compW J g tc te σc D Q H:=by
 refine ⟨fun i m acc H2=>m = xs.length - i /\ i <= xs.length /\ Paired (fun x v=>R x v H2) ((xs.take i).filter keep) acc /\ Same H H2 /\ H2 D = some (.lst acc),⟨xs.length,by simp,Nat.zero_le _,.nil,same_new hfree _,upd_same⟩,?_⟩
 rintro i m acc H2 ⟨rfl,hi,pr,sm,hD⟩
 have len:acc.length <= i:=by
  have a:=pr.length
  have b:=List.length_filter_le keep (xs.take i)
  rw [List.length_take] at b
  omega
 by_cases hlt:i < xs.length
 ·refine .inr ⟨hgo i H2 hlt sm,fun x H3 y=>?_⟩
  have s3:=hy i H2 x H3 hlt y
  have ht:xs.take (i + 1) = xs.take i ++ [xs[i]]:=by rw [List.take_add_one,List.getElem?_eq_getElem hlt]; rfl
  have hD3:=s3 _ _ hD
  refine hs i xs[i] x _ _ _ _ (List.getElem?_eq_getElem hlt) sm y (fun v H6 k s6 r=>?_) fun H5 k s5=>?_
  ·refine ⟨s6 _ _ hD3,Nat.lt_of_le_of_lt len (sizeBig (by omega)),xs.length - (i + 1),by omega,rfl,hlt,?_,?_,upd_same⟩
   ·have m1:∀ x v,R x v H6 -> R x v (upd H6 D (.lst (acc ++ [v]))):=fun x v r=>mono x v H6 _ acc (s6 _ _ hD3) (fun b o nb q=>by rw [upd_ne nb]; exact q) r
    rw [ht,List.filter_append]
    have f1:[xs[i]].filter keep = [xs[i]]:=by simp [k]
    rw [f1]
    have lift:∀ {l:List α} {vs:List V},Paired (fun x v=>R x v H2) l vs -> Paired (fun x v'=>R x v' (upd H6 D (.lst (acc ++ [v])))) l vs:=by
     intro l vs pp
     induction pp with
     | nil=>exact .nil
     | cons r _ ih=>exact .cons (mono _ _ H2 _ acc hD (fun b o nb q=>by rw [upd_ne nb]; exact s6 _ _ (s3 _ _ q)) r) ih
    have app:∀ {l:List α} {vs:List V} {x:α} {v':V} {F:α -> V -> Prop},Paired F l vs -> F x v' -> Paired F (l ++ [x]) (vs ++ [v']):=by
     intro l vs x v' F pp r
     induction pp with
     | nil=>exact .cons r .nil
     | cons r' _ ih=>exact .cons r' ih
    exact app (lift pr) (m1 _ _ r)
   ·exact same_upd (sm.trans (s3.trans s6)) hfree
  ·refine ⟨xs.length - (i + 1),by omega,rfl,hlt,?_,sm.trans (s3.trans s5),s5 _ _ hD3⟩
   rw [ht,List.filter_append]
   have f1:[xs[i]].filter keep = []:=by simp [k]
   rw [f1,List.append_nil]
   have lift:∀ {l:List α} {vs:List V},Paired (fun x v=>R x v H2) l vs -> Paired (fun x v'=>R x v' H5) l vs:=by
    intro l vs pp
    induction pp with
    | nil=>exact .nil
    | cons r _ ih=>exact .cons (mono _ _ H2 _ acc hD (fun b o _ q=>s5 _ _ (s3 _ _ q)) r) ih
   exact lift pr
 ·have e:i = xs.length:=by omega
  subst e
  rw [List.take_length] at pr
  exact .inl ⟨hst H2 sm,hq H2 acc sm hD pr⟩
end
section
variable {X:Cx} {e:Expr} {te:TE} {pos:Pos}
end
section
variable {X:Cx} {o e:Expr} {to te:TE} {apos cpos:Pos}
noncomputable def cPopAt (to te:TE):TE:=fun σ H Q=>to σ H fun x H1=>match x with
 | .ref l=>(∃ xs,H1 l = some (.lst xs)) /\ te σ H1 fun y H2=>match y with
  | .int i=>∃ (xs:List V) (k:Nat) (v:V),i = (k:Int) /\ H2 l = some (.lst xs) /\ xs.length <= 100000 /\ xs[k]? = some v /\ Q v (upd H2 l (.lst (xs.eraseIdx k)))
  | _=>False
 | _=>False
theorem qe_popAt (ho:PE X o to) (he:PE X e te) (hbase:attributeBase o "pop" X.env (eval o X.env) = eval o X.env:=by rfl)
  (hfew:((backTo cpos (starEach [e] X.env)).all (fun x=>!x.1) && (backToKw cpos (keywordEach [] X.env)).all (fun x=>x.1.isSome) && decide ([e].length + ([]:List Keyword).length + (if ([]:List Keyword).isEmpty then 0 else 1) < 30)) = true:=by rfl)
  (hline:(apos.endLine == cpos.line) = true:=by rfl) (hs:starEach [e] X.env = (false,eval e X.env) :: starEach [] X.env:=by rfl) (hplain:(backTo cpos (starEach [] X.env)).any (·.1) = false:=by rfl):
  PE X (.Call (.Attribute o "pop" apos) [e] [] cpos) (cPopAt to te):=
 (pe_bm PySem.F.plainAttrs_list PySem.F.slot_list_pop PySem.F.type_list_pop mt_popAt ho.mono (pa_cons he.mono pa_nil hs) hbase hfew hline hs hplain).imp fun σ H Q q=>⟨_,q,fun x H1 z=>by
  split at z
  ·rename_i l
   obtain ⟨⟨xs,h⟩,z⟩:=z
   refine ⟨.inl ⟨rfl,_,SqL.of h⟩,_,z,fun y H2 z2=>?_⟩
   split at z2
   ·obtain ⟨xs2,k,v,rfl,h2,h3,h4,z3⟩:=z2
    have hk:k < xs2.length:=(List.getElem?_eq_some_iff.mp h4).1
    exact ⟨l,xs2,k,k,v,rfl,rfl,h2,by omega,by omega,by unfold seqIndex?; simp; omega,h4,z3⟩
   ·exact z2.elim
  ·exact z.elim⟩
theorem a_cPopAt {σ:St} {H:Hp} {Q:VK}:cPopAt to te σ H Q = to σ H fun x H1=>match x with
 | .ref l=>(∃ xs,H1 l = some (.lst xs)) /\ te σ H1 fun y H2=>match y with
  | .int i=>∃ (xs:List V) (k:Nat) (v:V),i = (k:Int) /\ H2 l = some (.lst xs) /\ xs.length <= 100000 /\ xs[k]? = some v /\ Q v (upd H2 l (.lst (xs.eraseIdx k)))
  | _=>False
 | _=>False:=rfl
end
end L2
namespace L2
open PySem PySem.Spec PyProof.Rows PySem.W
def Xt (K:Frag) (mg:Str -> Option Value) (x:Str):Prop:=mg x = some (.ref (xA K x)) /\ typeIn K (.ref (xA K x)) = some (.type "type") /\ mroIn K (xA K x) (.type "BaseException") = some true
theorem Xn.t {K:Frag} {mg:Str -> Option Value} {x:Str} (n:Xn K mg x):Xt K mg x:=⟨n.1,n.2.ty,n.2.mb⟩
theorem Xt.kit {K:Frag} {mg:Str -> Option Value} {x y:Str} {b:Bool} (m:Xm K x y b) (n:Xt K mg y):kitOne K (.ref (xA K x)) (.ref (xA K y)) = some b:=by
 obtain ⟨_,ty,mb⟩:=n
 have known:(clsIn K (xA K y)).isSome = true:=by
  cases e:clsIn K (xA K y) with
  | some _=>rfl
  | none=>unfold mroIn at mb; rw [e] at mb; cases mb
 unfold kitOne
 split
 ·rename_i q
  cases b with
  | true=>rfl
  | false=>exact absurd (Value.ref.inj (eq_of_beq q)) (m.2 rfl)
 ·unfold kitCls
  dsimp only
  rw [if_pos (by rw [known,ty]; simp)]
  exact m.1
end L2
namespace L2
open PySem PySem.Spec PyProof.Rows
section
variable {prog:Program} {w:World} {A:Around} {s:Shared} {E:Value -> Shared -> Prop}
end
theorem ObjOk.there {P:Program} {w:World} {H:Hp} {h:Heap} {a:Addr} {o:HO} (x:ObjOk P w H h a o):∃ ob,h.get? a = some ob:=by
 induction o with
 | lst xs=>obtain ⟨_,_,_,_,e⟩:=x; exact ⟨_,e⟩
 | tup xs=>obtain ⟨_,_,_,_,e,_⟩:=x; exact ⟨_,e⟩
 | dK kvs=>obtain ⟨_,_,_,_,_,_,_,e,_⟩:=x; exact ⟨_,e⟩
 | dT kvs=>obtain ⟨_,_,_,_,_,_,_,e,_⟩:=x; exact ⟨_,e⟩
 | set S n=>obtain ⟨_,_,_,_,e,_⟩:=x; exact ⟨_,e⟩
 | ins C dx fs=>obtain ⟨_,_,_,e,_⟩:=x; exact ⟨_,e⟩
 | own y=>exact x
 | xd fs=>obtain ⟨_,⟨_,_,_,e,_⟩,_⟩:=x; exact ⟨_,e⟩
 | rng lo hi=>obtain ⟨_,_,_,e⟩:=x; exact ⟨_,e⟩
 | frz ob u ih=>obtain ⟨e,_⟩:=x; exact ⟨_,e⟩
 | tbl ps=>exact ⟨_,x⟩
 | met f y=>exact ⟨_,x⟩
 | ext φ=>obtain ⟨_,e,_⟩:=x; exact e
section
variable {X:Cx} {pins:List (Addr × Obj)} {σ:St} {H:Hp} {s:Shared}
end
theorem paired_perm {α β:Type} {R:α -> β -> Prop} {l l':List α} (p:l'.Perm l):∀ {m:List β},Paired R l m -> ∃ m':List β,m'.Perm m /\ Paired R l' m':=by
 induction p with
 | nil=>exact fun {m} h=>⟨m,.refl _,h⟩
 | cons x _ ih=>
  intro m h
  cases h with
  | cons a r=>
   obtain ⟨m',q1,q2⟩:=ih r
   exact ⟨_ :: m',q1.cons _,.cons a q2⟩
 | swap x y l=>
  intro m h
  cases h with
  | cons a r=>
   cases r with
   | cons b r=>exact ⟨_,.swap _ _ _,.cons b (.cons a r)⟩
 | trans _ _ ih1 ih2=>
  intro m h
  obtain ⟨m1,q1,q2⟩:=ih2 h
  obtain ⟨m2,q3,q4⟩:=ih1 q2
  exact ⟨m2,q3.trans q1,q4⟩
theorem paired_memr {α β:Type} {R:α -> β -> Prop}:∀ {l:List α} {m:List β},Paired R l m -> ∀ b ∈ m,∃ a ∈ l,R a b
 | _,_,.nil,b,h=>absurd h List.not_mem_nil
 | _,_,.cons q r,b,h=>by
  rcases List.mem_cons.mp h with e | h
  ·rw [e]; exact ⟨_,List.mem_cons_self ..,q⟩
  ·obtain ⟨a,h1,h2⟩:=paired_memr r b h
   exact ⟨a,List.mem_cons_of_mem _ h1,h2⟩
theorem paired_pairwise {α β:Type} {R:α -> β -> Prop} {S:α -> α -> Prop} {S':β -> β -> Prop} (f:∀ a b c d,R a b -> R c d -> S a c -> S' b d):∀ {l:List α} {m:List β},Paired R l m -> l.Pairwise S -> m.Pairwise S'
 | _,_,.nil,_=>.nil
 | _,_,.cons a r,h=>by
  obtain ⟨h1,h2⟩:=List.pairwise_cons.mp h
  refine List.pairwise_cons.mpr ⟨fun d hd=>?_,paired_pairwise f r h2⟩
  obtain ⟨c,hc,rc⟩:=paired_memr r d hd
  exact f _ _ _ _ a rc (h1 c hc)
theorem paired_zip {key:V -> Nat}:∀ {xs:List V} {vs:List Value},Vals xs vs -> Paired (fun (p:Int × Value) x=>p.1 = key x /\ RelV x p.2) ((xs.map fun x=>(key x:Int)).zip vs) xs
 | _,_,.nil=>.nil
 | _,_,.cons a r=>.cons ⟨rfl,a⟩ (paired_zip r)
structure LamAt (K:Frag) (mg:Str -> Option Value) (c P:Addr):Prop where
 code:∃ od vs sl file tf flags tg inF text tt,K.lookup c = some ⟨.type "code",od,.fields vs,sl⟩ /\ vs[11]? = some (.ref P) /\ vs.getD 11 .none = .ref P /\ vs.getD 18 .none = .str file tf /\
  vs.getD 7 .none = .int flags tg /\ vs.getD 9 .none = .bool inF /\ vs.getD 10 .none = .int text tt
 ne:c ≠ P
 bm:∃ b sl,mg "__builtins__" = some (.ref b) /\ b ≠ builtinsNs /\ b ≠ mainGlobals /\ K.lookup b = some ⟨.type "module",some builtinsNs,.plain,sl⟩
theorem LamAt.hd {K:Frag} {mg:Str -> Option Value} {c P:Addr} {h:Heap} (L:LamAt K mg c P) (X:K.In h):PySem.W.CodeHd h c P:=by
 obtain ⟨od,vs,sl,file,tf,flags,tg,inF,text,tt,e1,e2,e3,e4,e5,e6,e7⟩:=L.code
 exact ⟨_,vs,file,tf,flags,tg,inF,text,tt,X _ _ e1,rfl,rfl,e2,e3,e4,e5,e6,e7,L.ne⟩
section
variable {X:Cx}
end
noncomputable def isTab (o:Obj):Bool:=match o.cls,o.data with
 | .none,.fields vs=>vs.isEmpty
 | _,_=>false
noncomputable def cut (K:Frag):Frag:=K.filter fun p=>!isTab p.2
theorem cut_lookup:∀ {K:Frag} {a:Addr} {o:Obj},K.lookup a = some o -> isTab o = false -> (cut K).lookup a = some o
 | [],_,_,e,_=>by cases e
 | (b,x) :: K,a,o,e,h=>by
  unfold cut
  rw [List.lookup_cons] at e
  rw [List.filter_cons]
  cases hb:a == b with
  | true=>
   rw [hb] at e
   cases e
   rw [if_pos (by simp [h]),List.lookup_cons,hb]
  | false=>
   rw [hb] at e
   have:=cut_lookup e h
   by_cases hx:(!isTab x) = true
   ·rw [if_pos hx,List.lookup_cons,hb]; exact this
   ·rw [if_neg hx]; exact this
theorem cut_ns {K:Frag} {n:Addr} {x:Str} {r:Option Value} (h:nsIn K n x = some r):nsIn (cut K) n x = some r:=by
 unfold nsIn at h ⊢
 cases q:K.lookup n with
 | none=>rw [q] at h; cases h
 | some o=>
  rw [q] at h
  obtain ⟨cl,od,da,sl⟩:=o
  cases da with
  | dict es ep=>rw [cut_lookup q (by unfold isTab; cases cl <;> rfl)]; exact h
  | _=>cases h
theorem cut_tab {K:Frag} {x:Str} {c P:Addr} (h:PySem.W.tabIn K x = some (c,P)):PySem.W.tabIn (cut K) x = some (c,P):=by
 unfold PySem.W.tabIn at h ⊢
 split at h
 ·rename_i f hf
  simp only [cut_ns hf]
  split at h
  ·rename_i hfo
   simp only [cut_lookup hfo (by unfold isTab; split <;> first | rfl | (rename_i q; cases q))]
   split at h
   ·rename_i c₂ hc
    split at h
    ·rename_i vs _ hco
     split at h
     ·rename_i P₂ hv
      have hn:∀ cl od sl,isTab ⟨cl,od,.fields vs,sl⟩ = false:=fun cl od sl=>by
       unfold isTab
       cases cl <;> try rfl
       show vs.isEmpty = false
       cases z:vs.isEmpty with
       | false=>rfl
       | true=>
        have z:vs = #[]:=by simpa using z
        rw [z] at hv
        cases hv
      simp only [cut_lookup hco (hn _ _ _),hv]
      exact h
     ·cases h
    ·cases h
   ·cases h
  ·cases h
 ·cases h
structure LamFn (K:Frag) (mg:Str -> Option Value) (x:Str) (c P:Addr):Prop where
 tb:PySem.W.tabIn K x = some (c,P)
 cd:∀ f fd oc od sl,mg x = some (.ref f) -> K.lookup f = some ⟨oc,od,.func fd,sl⟩ -> fd.code = .ref c
 lam:LamAt K mg c P
theorem lamfn_mk {K:Frag} {h:Heap} {mg:Str -> Option Value} {x:Str} {c P b:Addr} {od:Option Addr} {vs:Array Value} {sl sl2:Array (Option Value)} {file:Str} {tf tg tt:Tok} {flags text:Int} {inF:Bool} (X:K.In h) (G:h.Ns mainGlobals mg)
  (tb:PySem.W.tabIn K x = some (c,P)) (e1:K.lookup c = some ⟨.type "code",od,.fields vs,sl⟩) (e2:vs[11]? = some (.ref P)) (e4:vs.getD 18 .none = .str file tf) (e5:vs.getD 7 .none = .int flags tg) (e6:vs.getD 9 .none = .bool inF) (e7:vs.getD 10 .none = .int text tt) (ne:c ≠ P)
  (b1:nsIn K mainGlobals "__builtins__" = some (some (.ref b))) (b2:b ≠ builtinsNs) (b3:b ≠ mainGlobals) (b4:K.lookup b = some ⟨.type "module",some builtinsNs,.plain,sl2⟩):LamFn K mg x c P where
 tb:=tb
 cd:=fun f fd oc od sl hm ho=>PySem.W.law_code X G tb hm (X _ _ ho) rfl
 lam:=⟨⟨od,vs,sl,file,tf,flags,tg,inF,text,tt,e1,e2,by
   have:vs.getD 11 .none = (vs[11]?).getD .none:=by simp [Array.getD_eq_getD_getElem?]
   rw [this,e2]; rfl,e4,e5,e6,e7⟩,ne,b,sl2,mg_of X G b1,b2,b3,b4⟩
section
variable {X:Cx}
end
structure LamOk (K:Frag) (x:Str) (c T:Addr):Prop where
 tb:PySem.W.tabIn K x = some (c,T)
 code:∃ od vs sl file tf flags tg inF text tt,K.lookup c = some ⟨.type "code",od,.fields vs,sl⟩ /\ vs[11]? = some (.ref T) /\ vs.getD 18 .none = .str file tf /\ vs.getD 7 .none = .int flags tg /\ vs.getD 9 .none = .bool inF /\ vs.getD 10 .none = .int text tt
 ne:c ≠ T
 bm:∃ b sl,nsIn K mainGlobals "__builtins__" = some (some (.ref b)) /\ b ≠ builtinsNs /\ b ≠ mainGlobals /\ K.lookup b = some ⟨.type "module",some builtinsNs,.plain,sl⟩
 tab:K.lookup T = some (PySem.W.tabObj #[])
theorem not_tab {o:Obj} (h:o.cls ≠ .none):isTab o = false:=by
 unfold isTab
 split
 ·rename_i a b; exact absurd a h
 ·rfl
theorem LamOk.fn {K:Frag} {x:Str} {c T:Addr} {h:Heap} {mg:Str -> Option Value} (L:LamOk K x c T) (X:(cut K).In h) (G:h.Ns mainGlobals mg):LamFn (cut K) mg x c T:=by
 obtain ⟨od,vs,sl,file,tf,flags,tg,inF,text,tt,e1,e2,e4,e5,e6,e7⟩:=L.code
 obtain ⟨b,sl2,b1,b2,b3,b4⟩:=L.bm
 exact lamfn_mk X G (cut_tab L.tb) (cut_lookup e1 (not_tab (by nofun))) e2 e4 e5 e6 e7 L.ne (cut_ns b1) b2 b3 (cut_lookup b4 (not_tab (by nofun)))
theorem deep_flats {K:Frag} {H:Hp}:∀ {ys:List V},ys.all flatV = true -> Paired (Deep K H 0) ys (ys.map D.f)
 | [],_=>.nil
 | y :: ys,h=>by
  rw [List.all_cons,Bool.and_eq_true] at h
  exact .cons ⟨rfl,h.1⟩ (deep_flats h.2)
section
variable {X:Cx}
end
structure ClsT (K:Frag) (mg:Str -> Option Value) (x:Str):Prop where
 m:mg x = some (.ref (xA K x))
 c:Cls K (xA K x)
def MethT (K:Frag) (x m qual:Str) (st:Stmt):Prop:=∃ f fd,Meth K (xA K x) m f /\ Fun K m qual st f fd
def MkT (K:Frag) (x qual:Str) (st:Stmt):Prop:=∃ f fd,Mk K (xA K x) f /\ Fun K "__init__" qual st f fd
def MCal (P:Program) (w:World) (K:Frag) (mg:Str -> Option Value) (base:Heap) (k:Nat) (x m:Str) (ps:List Str) (sp:Sp):Prop:=
 ∃ f fd,FnOk P w K mg base CX0 k f fd ps sp /\ Binds K fd ps [] /\ Meth K (xA K x) m f
def KCal (P:Program) (w:World) (K:Frag) (mg:Str -> Option Value) (base:Heap) (k:Nat) (x:Str) (ps:List Str) (sp:Sp):Prop:=
 ∃ f fd,FnOk P w K mg base CX0 k f fd ps sp /\ Binds K fd ps [] /\ Mk K (xA K x) f
theorem MethT.cal {P:Program} {w:World} {K:Frag} {mg:Str -> Option Value} {base:Heap} {x m qual:Str} {st:Stmt} {N ps:List Str} {k:Nat} {sp:Sp} (F:MethT K x m qual st) (S:FnScope N ps (defScope st)) (len:∀ vs H Q E,sp vs H Q E -> vs.length = ps.length)
  (hb:∀ (kV doc pm:Value) (an:Option Addr) (cdv ct:Value) (us:List Value),us.length = ps.length -> bindArgs (fnOf m qual (defArgs st) (defBody st) (defScope st) .none kV doc pm an cdv ct) ⟨us,[]⟩ = pure (ps.zip us))
  (hbody:∀ (f:Addr) (cdv:Value) (A:Around) (outer:List Env) (s:Shared) (H:Hp) (vs:List V) (Q:VK) (E:XK),Room k (A.deeper (envOfC qual (defScope st) s.heap.objs.size f cdv)) -> sp vs H Q E ->
   ∃ t,PSs (cxOf CX0 P w K mg base N qual (defScope st) f cdv A outer s H E).nox (defBody st) t /\ t { nx:=fun _ H'=>Q .non H',rt:=Q } (start N vs) H):MCal P w K mg base (k + 1) x m ps sp:=by
 obtain ⟨f,fd,M,F⟩:=F
 exact ⟨f,fd,F.ok S len (hbody f),F.binds hb,M⟩
theorem MkT.cal {P:Program} {w:World} {K:Frag} {mg:Str -> Option Value} {base:Heap} {x qual:Str} {st:Stmt} {N ps:List Str} {k:Nat} {sp:Sp} (F:MkT K x qual st) (S:FnScope N ps (defScope st)) (len:∀ vs H Q E,sp vs H Q E -> vs.length = ps.length)
  (hb:∀ (kV doc pm:Value) (an:Option Addr) (cdv ct:Value) (us:List Value),us.length = ps.length -> bindArgs (fnOf "__init__" qual (defArgs st) (defBody st) (defScope st) .none kV doc pm an cdv ct) ⟨us,[]⟩ = pure (ps.zip us))
  (hbody:∀ (f:Addr) (cdv:Value) (A:Around) (outer:List Env) (s:Shared) (H:Hp) (vs:List V) (Q:VK) (E:XK),Room k (A.deeper (envOfC qual (defScope st) s.heap.objs.size f cdv)) -> sp vs H Q E ->
   ∃ t,PSs (cxOf CX0 P w K mg base N qual (defScope st) f cdv A outer s H E).nox (defBody st) t /\ t { nx:=fun _ H'=>Q .non H',rt:=Q } (start N vs) H):KCal P w K mg base (k + 1) x ps sp:=by
 obtain ⟨f,fd,M,F⟩:=F
 exact ⟨f,fd,F.ok S len (hbody f),F.binds hb,M⟩
section
variable {X:Cx} {k:Nat} {x m:Str} {ps:List Str} {sp:Sp} {p pos apos:Pos} {e o:Expr} {es:List Expr} {ta:TE} {t:TA}
noncomputable def kTupL (K:Frag):List V -> Hp -> VK -> Prop:=fun xs H Q=>match xs with
 | [.ref p]=>∃ ys,SqL K H p ys /\ ∀ l,H l = none -> Q (.ref l) (upd H l (.tup ys))
 | _=>False
theorem call_tupL (K:Frag) (hK:X.K = K):CallR X (.type "tuple") (kTupL K):=by
 subst hK
 intro pins s σ H xs us Q I r q
 unfold kTupL at q
 split at q
 ·obtain ⟨ys,h,q⟩:=q
  exact call_tuple_of pins s σ H _ us Q I r ⟨_,ys,rfl,.inl ⟨h,q⟩⟩
 ·exact q.elim
theorem a_kTupL {K:Frag} {p:Addr} {H:Hp} {Q:VK}:kTupL K [.ref p] H Q = ∃ ys,SqL K H p ys /\ ∀ l,H l = none -> Q (.ref l) (upd H l (.tup ys)):=rfl
end
section
variable {X:Cx}
noncomputable def kMax2:List V -> Hp -> VK -> Prop:=fun xs H Q=>match xs with
 | [.int a,.int b]=>Q (.int (if a < b then b else a)) H
 | _=>False
noncomputable def kMin2:List V -> Hp -> VK -> Prop:=fun xs H Q=>match xs with
 | [.int a,.int b]=>Q (.int (if b < a then b else a)) H
 | _=>False
theorem call_max2K (hc:X.calm = true):CallR X (.builtin "max") kMax2:=by
 intro pins s σ H xs us Q I r q
 unfold kMax2 at q
 split at q
 ·exact call_max2 hc pins s σ H _ us Q I r ⟨_,_,rfl,q⟩
 ·exact q.elim
theorem call_min2K (hc:X.calm = true):CallR X (.builtin "min") kMin2:=by
 intro pins s σ H xs us Q I r q
 unfold kMin2 at q
 split at q
 ·exact call_min2 hc pins s σ H _ us Q I r ⟨_,_,rfl,q⟩
 ·exact q.elim
theorem a_kMax2 {a b:Int} {H:Hp} {Q:VK}:kMax2 [.int a,.int b] H Q = Q (.int (if a < b then b else a)) H:=rfl
theorem a_kMin2 {a b:Int} {H:Hp} {Q:VK}:kMin2 [.int a,.int b] H Q = Q (.int (if b < a then b else a)) H:=rfl
noncomputable def cListRng2 (te tf:TE):TE:=fun σ H Q=>te σ H fun x H1=>tf σ H1 fun y H2=>match x,y with
 | .int i,.int j=>-1000 <= i /\ i <= 1000 /\ -1000 <= j /\ j <= 100000 /\ ∀ p,H2 p = none -> Q (.ref p) (upd H2 p (.lst ((List.range (j - i).toNat).map fun (k:Nat)=>V.int (i + k))))
 | _,_=>False
theorem vals_range2 {acc:Array Value} {n:Nat} {a:Int} (h:ItemsOf (fun i v=>∃ t,v = Value.int (a + (i:Int) * 1) t) acc n):Vals ((List.range n).map fun (i:Nat)=>V.int (a + i)) acc.toList:=by
 obtain ⟨hs,hi⟩:=h
 have:∀ (l:List Value) (k:Nat),(∀ (j:Nat) (v:Value),l[j]? = some v -> ∃ t,v = Value.int (a + ((k + j:Nat):Int)) t) -> Vals ((List.range' k l.length).map fun (i:Nat)=>V.int (a + i)) l:=by
  intro l
  induction l with
  | nil=>intro k _; exact .nil
  | cons v l ih=>
   intro k hv
   rw [List.length_cons,List.range'_succ,List.map_cons]
   refine .cons ?_ (ih (k + 1) fun j u hu=>?_)
   ·obtain ⟨t,e⟩:=hv 0 v rfl
    exact ⟨t,by simpa using e⟩
   ·obtain ⟨t,e⟩:=hv (j + 1) u (by simpa using hu)
    exact ⟨t,by rw [e]; congr 3; omega⟩
 have:=this acc.toList 0 fun j v hv=>by
  obtain ⟨t,e⟩:=hi j v (by simpa using hv)
  exact ⟨t,by rw [e]; simp⟩
 rw [Array.length_toList,hs,<- List.range_eq_range'] at this
 exact this
theorem qe_listrng2 {e f:Expr} {te tf:TE} {p p2 pos pos2:Pos} (hc:X.calm = true) (hg:Gl X "list") (hm:X.mg "list" = none) (hg2:Gl X "range") (hm2:X.mg "range" = none) (he:PE X e te) (hf:PE X f tf)
  (hs:starEach [e,f] X.env = [(false,eval e X.env),(false,eval f X.env)]:=by rfl)
  (hs2:starEach [Expr.Call (.Name "range" p2) [e,f] [] pos2] X.env = [(false,eval (Expr.Call (.Name "range" p2) [e,f] [] pos2) X.env)]:=by rfl)
  (hs3:starEach [e,f] X.env = (false,eval e X.env) :: starEach [f] X.env:=by rfl) (hs4:(backTo pos2 (starEach [f] X.env)).any (·.1) = false:=by rfl):
  PE X (.Call (.Name "list" p) [.Call (.Name "range" p2) [e,f] [] pos2] [] pos) (cListRng2 te tf):=by
 intro pins s σ H Q I h
 refine wpAny_Call_Name_kw (ld_blt I hg hm bb_list ?_ (by decide) (by decide))
 refine PyProof.Rows.callWith_type1 ?_ hs2 rfl
 rw [hs2]
 show wpAny _ _ (spliced [(false,eval (Expr.Call (.Name "range" p2) [e,f] [] pos2) X.env)]) _ _ s
 refine Calls.spliced_cons ?_
 refine wpAny_Call_Name_kw (ld_blt I hg2 hm2 boot_range ?_ (by decide) (by decide))
 refine PyProof.Rows.callWith_type1 ?_ hs3 hs4
 rw [hs]
 show wpAny _ _ (spliced [(false,eval e X.env),(false,eval f X.env)]) _ _ s
 refine Calls.spliced_cons (thn (he pins s σ H _ I h) fun u s1 ⟨x,H1,I1,r1,q1⟩=>Calls.spliced_cons (thn (hf pins s1 σ H1 _ I1 q1) fun u2 s2 ⟨y,H2,I2,r2,q2⟩=>Calls.spliced_nil ?_))
 match x,y,r1,r2,q2 with
 | .int i,.int j,⟨t,ht⟩,⟨t2,ht2⟩,⟨a0,a1,a2,a3,a4⟩=>
  subst ht
  subst ht2
  refine call_range_2 (Calls.spliced_nil ?_)
  have I3:Inv X pins σ H2 { s2 with heap:=s2.heap.push { cls:=.type "range",data:=.fields #[.int i t,.int j t2,.int 1 s2.toks] },toks:=s2.toks + 1 }:=I2.kept fun b o q=>Heap.get?_push_of_some _ q
  have hsz:Builtin.Range.rangeSize i j 1 = (((j - i).toNat:Nat):Int):=by rw [rangeSize_one]; split <;> omega
  refine tokQ I3.tk (call_list_range (n:=(j - i).toNat) (I.ok.hd hc) (IsRange.new ..) (small_one (by omega) (by omega) (by omega) (by omega)) hsz (by omega) fun h' tk acc c' old ho hi (htk:0 < tk)=>?_)
  exact ⟨.ref _,_,I3.laid (o:=.lst ((List.range (j - i).toNat).map fun (k:Nat)=>V.int (i + k))) (t':=tk) old (Nat.le_refl _) ⟨by rw [List.length_map,List.length_range,sizeLine_eq]; omega,acc.toList,c',vals_range2 hi,by simpa using ho⟩,rfl,a4 _ (I3.hok.fresh (Nat.le_refl _))⟩
theorem a_cListRng2 {te tf:TE} {σ:St} {H:Hp} {Q:VK}:cListRng2 te tf σ H Q = te σ H fun x H1=>tf σ H1 fun y H2=>match x,y with
 | .int i,.int j=>-1000 <= i /\ i <= 1000 /\ -1000 <= j /\ j <= 100000 /\ ∀ p,H2 p = none -> Q (.ref p) (upd H2 p (.lst ((List.range (j - i).toNat).map fun (k:Nat)=>V.int (i + k))))
 | _,_=>False:=rfl
end
section
variable {X:Cx} {a b c:Expr} {ta tb tc:TE} {pos:Pos}
theorem a_tTest {te:TE} {σ:St} {H:Hp} {Q:Bool -> Hp -> Prop}:tTest te σ H Q = te σ H fun z H3=>∃ k,z = .bl k /\ Q k H3:=rfl
end
section
variable {K:Frag} {α:Type} {xs:List α} {item:α -> V} {h:α -> List V} {H:Hp} {D:Addr} {σc:St} {Q:VK}
end
end L2
namespace L2
open PySem
section
variable {K:Frag} {h:Heap} {mg:Str -> Option Value} {x m qual:Str} {C f:Addr} {fd:FuncData} {st:Stmt}
end
end L2
namespace L2
open PySem PySem.Spec PyProof.Rows
section
variable {X:Cx} {o e f:Expr} {to te tf:TE} {apos cpos:Pos}
noncomputable def insAt (xs:List V) (k:Nat) (y:V):List V:=xs.take k ++ y :: xs.drop k
noncomputable def rInsert:V -> List V -> Hp -> VK -> Prop:=fun x vs H Q=>∃ (l:Addr) (xs:List V) (i:Int) (k:Nat) (y:V),x = .ref l /\ vs = [.int i,y] /\ i = (k:Int) /\ H l = some (.lst xs) /\ k <= xs.length /\ xs.length < 100000 /\ Q .non (upd H l (.lst (insAt xs k y)))
theorem ins_arr (l:List Value) (k:Nat) (y:Value):(l.toArray.extract 0 k).push y ++ l.toArray.extract k = (l.take k ++ y :: l.drop k).toArray:=by
 apply Array.toList_inj.mp
 have:(l.drop k).take (l.length - k) = l.drop k:=List.take_of_length_le (by simp)
 simp [this]
theorem mt_insert:MtM X "list.insert" rInsert:=by
 intro pins s σ H x vs v us Q I rx rv h
 obtain ⟨l,xs,i,k,y,rfl,rfl,hi,hH,hk,hz,q⟩:=h
 cases rx
 obtain ⟨u,u2,rfl,ru,ru2⟩:=Vals.two rv
 obtain ⟨t,rfl⟩:=ru
 obtain ⟨z,its,n,r,hl,e⟩:=I.lstM hH
 have hb:=big5
 have h1:-(2 ^ 63) <= i:=by rw [hi]; exact Int.le_trans (by decide) (Int.natCast_nonneg k)
 have h2:i < 2 ^ 63:=by rw [hi]; exact Int.lt_of_le_of_lt (Int.ofNat_le.mpr (Nat.le_trans hk (Nat.le_of_lt hz))) (by decide)
 have h3:¬(!Builtin.List.listFitsIndex i) = true:=by rw [show Builtin.List.listFitsIndex i = true from fitsIndex_both h1 h2]; decide
 have h4:its.toArray.size <= sizeLine:=by rw [List.size_toArray]; omega
 refine call_meets F.slot_list_insert ⟨_,e,rfl⟩ F.entry_list_insert (F.args_list_insert_3 _ _ _) (AutoSeq1.list_insert_list_int_val_1 l its.toArray n i t u2 h3 h4) ⟨e,?_⟩
 refine ⟨.non,_,I.lset (its':=its.take k ++ u2 :: its.drop k) hH e ?_ ((r.take k).append (.cons ru2 (r.drop k))) ?_,rfl,q⟩
 ·show (its.toArray.extract 0 (if i < 0 then (i + (its.toArray.size:Int)).toNat else min i.toNat its.toArray.size)).push u2 ++ its.toArray.extract (if i < 0 then (i + (its.toArray.size:Int)).toNat else min i.toNat its.toArray.size) = _
  rw [if_neg (by omega),show min i.toNat its.toArray.size = k by rw [List.size_toArray]; omega,ins_arr]
 ·rw [List.length_append,List.length_cons,List.length_take,List.length_drop]
  omega
noncomputable def cInsert (to te tf:TE):TE:=fun σ H Q=>to σ H fun x H1=>match x with
 | .ref l=>(∃ xs,H1 l = some (.lst xs)) /\ te σ H1 fun y H2=>tf σ H2 fun z H3=>match y with
  | .int i=>∃ (xs:List V) (k:Nat),i = (k:Int) /\ H3 l = some (.lst xs) /\ k <= xs.length /\ xs.length < 100000 /\ Q .non (upd H3 l (.lst (insAt xs k z)))
  | _=>False
 | _=>False
theorem qe_insert (ho:PE X o to) (he:PE X e te) (hf:PE X f tf) (hbase:attributeBase o "insert" X.env (eval o X.env) = eval o X.env:=by rfl)
  (hfew:((backTo cpos (starEach [e,f] X.env)).all (fun x=>!x.1) && (backToKw cpos (keywordEach [] X.env)).all (fun x=>x.1.isSome) && decide ([e,f].length + ([]:List Keyword).length + (if ([]:List Keyword).isEmpty then 0 else 1) < 30)) = true:=by rfl)
  (hline:(apos.endLine == cpos.line) = true:=by rfl) (hs:starEach [e,f] X.env = (false,eval e X.env) :: starEach [f] X.env:=by rfl) (hs2:starEach [f] X.env = (false,eval f X.env) :: starEach [] X.env:=by rfl) (hplain:(backTo cpos (starEach [f] X.env)).any (·.1) = false:=by rfl):PE X (.Call (.Attribute o "insert" apos) [e,f] [] cpos) (cInsert to te tf):=
 (pe_bm PySem.F.plainAttrs_list PySem.F.slot_list_insert PySem.F.type_list_insert mt_insert ho.mono (pa_cons he.mono (pa_cons hf.mono pa_nil hs2) hs) hbase hfew hline hs hplain).imp fun σ H Q q=>⟨_,q,fun x H1 z=>by
  split at z
  ·rename_i l
   obtain ⟨⟨xs,h⟩,z⟩:=z
   refine ⟨.inl ⟨rfl,_,SqL.of h⟩,_,z,fun y H2 z2=>⟨_,z2,fun w H3 z3=>?_⟩⟩
   split at z3
   ·obtain ⟨xs2,k,rfl,h2,h3,h4,z4⟩:=z3
    exact ⟨l,xs2,_,k,w,rfl,rfl,rfl,h2,h3,h4,z4⟩
   ·exact z3.elim
  ·exact z.elim⟩
theorem a_cInsert {σ:St} {H:Hp} {Q:VK}:cInsert to te tf σ H Q = to σ H fun x H1=>match x with
 | .ref l=>(∃ xs,H1 l = some (.lst xs)) /\ te σ H1 fun y H2=>tf σ H2 fun z H3=>match y with
  | .int i=>∃ (xs:List V) (k:Nat),i = (k:Int) /\ H3 l = some (.lst xs) /\ k <= xs.length /\ xs.length < 100000 /\ Q .non (upd H3 l (.lst (insAt xs k z)))
  | _=>False
 | _=>False:=rfl
noncomputable def kAll (K:Frag):List V -> Hp -> VK -> Prop:=fun xs H Q=>match xs with
 | [.ref p]=>∃ bs:List Bool,SqL K H p (bs.map V.bl) /\ Q (.bl (bs.all id)) H
 | _=>False
theorem call_allK (K:Frag) (hK:X.K = K) (hc:X.calm = true):CallR X (.builtin "all") (kAll K):=by
 subst hK
 intro pins s σ H xs us Q I r q
 unfold kAll at q
 split at q
 ·rename_i p
  obtain ⟨bs,hq,q⟩:=q
  obtain ⟨u,rfl,ru⟩:=vals1 r
  cases ru
  obtain ⟨its,rv,pl,_⟩:=I.list hq
  obtain rfl:=vals_bools rv
  have hl:s.heap.IsList p (bs.map Value.bool).toArray:=pl.isList
  have hp:p < s.heap.objs.size:=by obtain ⟨o,ho,_⟩:=hl; exact Heap.lt_size ho
  refine tokQ I.tk (call_all_walk (wpAny_pyIter_list hl ?_))
  refine ⟨_,_,_,_,_,_,fun i=>(bs[i]?).getD true,rfl,Walks.list (A:=X.A.in1) (I.ok.hd hc) _ p (Nat.ne_of_lt hp) (bs.map Value.bool).toArray,⟨⟨_,Heap.get?_push_size _ rfl,rfl,rfl⟩,hl.push _⟩,?_,fun h' tk k (htk:0 < tk)=>?_⟩
  ·intro i v s' Q' E' hP hQ'
   have hi:bs[i]?.map Value.bool = some v:=by simpa using hP
   cases hb:bs[i]? with
   | none=>rw [hb] at hi; cases hi
   | some b=>
    have e:(fun i=>(bs[i]?).getD true) i = b:=by simp [hb]
    rw [e] at hQ'
    rw [hb] at hi
    cases hi
    exact wpAny_truthy_bool hQ'
  ·have e:((List.range (bs.map Value.bool).toArray.size).all fun i=>(bs[i]?).getD true) = bs.all id:=by
    simp only [List.size_toArray,List.length_map]
    rw [Bool.eq_iff_iff,List.all_eq_true,List.all_eq_true]
    constructor
    ·intro h b hb
     obtain ⟨i,hi,rfl⟩:=List.getElem_of_mem hb
     have:=h i (by simpa using hi)
     rw [List.getElem?_eq_getElem hi] at this
     exact this
    ·intro h i hi
     have hi:i < bs.length:=by simpa using hi
     rw [List.getElem?_eq_getElem hi]
     exact h _ (List.getElem_mem hi)
   rw [e]
   refine ⟨.bl _,H,I.kept (fun b o q=>k b o ?_ (Heap.get?_push_of_some _ q)),rfl,q⟩
   intro z
   have:=Heap.lt_size q
   rw [List.mem_singleton.mp z] at this
   exact Nat.lt_irrefl _ this
 ·exact q.elim
theorem a_kAll {K:Frag} {p:Addr} {H:Hp} {Q:VK}:kAll K [.ref p] H Q = ∃ bs:List Bool,SqL K H p (bs.map V.bl) /\ Q (.bl (bs.all id)) H:=rfl
noncomputable def kStr:List V -> Hp -> VK -> Prop:=fun xs H Q=>match xs with
 | [.int i]=>(i = 0 \/ i = 1) /\ Q (.str (st [48 + i.toNat])) H
 | _=>False
theorem call_strK:CallR X (.type "str") kStr:=by
 intro pins s σ H xs us Q I r q
 unfold kStr at q
 split at q
 ·rename_i i
  obtain ⟨hi,q⟩:=q
  obtain ⟨u,rfl,t,rfl⟩:=vals1 r
  refine P.str_of_int ?_ ⟨.str (st [48 + i.toNat]),H,I.tok _,⟨s.toks,?_⟩,q⟩
  ·rcases hi with rfl | rfl <;> decide
  ·rcases hi with rfl | rfl
   ·exact congrArg (Value.str · s.toks) (by decide +kernel)
   ·exact congrArg (Value.str · s.toks) (by decide +kernel)
 ·exact q.elim
theorem a_kStr {i:Int} {H:Hp} {Q:VK}:kStr [.int i] H Q = ((i = 0 \/ i = 1) /\ Q (.str (st [48 + i.toNat])) H):=rfl
end
section
variable {X:Cx} {e:Expr} {te:TE} {lo hi:Option Expr} {st:Expr} {tl th ts:TO} {p2 pos:Pos}
end
def Rise (xs:Array Nat):Prop:=∀ a b,a < b -> ∀ (hb:b < xs.size) (ha:a < xs.size),xs[a] < xs[b]
theorem below_go {xs:Array Nat} {j:Nat} (hr:Rise xs):∀ (fuel lo hi:Nat),hi - lo <= fuel -> lo <= hi -> hi <= xs.size -> (∀ i (h:i < xs.size),i < lo -> xs[i] < j) -> (∀ i (h:i < xs.size),hi <= i -> j <= xs[i]) ->
  SetTable.below.go xs j fuel lo hi <= xs.size /\ (∀ i (h:i < xs.size),i < SetTable.below.go xs j fuel lo hi -> xs[i] < j) /\ (∀ i (h:i < xs.size),SetTable.below.go xs j fuel lo hi <= i -> j <= xs[i])
 | 0,lo,hi,hf,h1,h2,h3,h4=>by
  have:lo = hi:=by omega
  subst this
  unfold SetTable.below.go
  exact ⟨h2,h3,h4⟩
 | fuel + 1,lo,hi,hf,h1,h2,h3,h4=>by
  unfold SetTable.below.go
  by_cases hlt:lo < hi
  ·rw [if_pos hlt]
   have hm:(lo + hi) / 2 < xs.size:=by omega
   have hg:xs.getD ((lo + hi) / 2) j = xs[(lo + hi) / 2]:=by simp [hm]
   simp only [hg]
   by_cases hx:xs[(lo + hi) / 2] < j
   ·rw [if_pos hx]
    refine below_go hr fuel _ hi (by omega) (by omega) h2 (fun i h hi'=>?_) h4
    rcases Nat.lt_or_ge i ((lo + hi) / 2) with z | z
    ·exact Nat.lt_trans (hr i _ z hm h) hx
    ·obtain rfl:i = (lo + hi) / 2:=by omega
     exact hx
   ·rw [if_neg hx]
    refine below_go hr fuel lo _ (by omega) (by omega) (by omega) h3 (fun i h hi'=>?_)
    rcases Nat.lt_or_ge ((lo + hi) / 2) i with z | z
    ·have:=hr _ i z h hm
     omega
    ·obtain rfl:i = (lo + hi) / 2:=by omega
     omega
  ·rw [if_neg hlt]
   obtain rfl:lo = hi:=by omega
   exact ⟨h2,h3,h4⟩
theorem below_is {xs:Array Nat} (hr:Rise xs) (j:Nat):SetTable.below xs j <= xs.size /\ (∀ i (h:i < xs.size),i < SetTable.below xs j -> xs[i] < j) /\ (∀ i (h:i < xs.size),SetTable.below xs j <= i -> j <= xs[i]):=by
 unfold SetTable.below
 exact below_go hr xs.size 0 xs.size (by omega) (by omega) (Nat.le_refl _) (fun i _ h=>absurd h (by omega)) (fun i h z=>absurd h (by omega))
theorem below_at {xs:Array Nat} (hr:Rise xs) {i:Nat} (h:i < xs.size):SetTable.below xs (xs[i] + 1) = i + 1:=by
 obtain ⟨b0,b1,b2⟩:=below_is hr (xs[i] + 1)
 rcases Nat.lt_trichotomy (SetTable.below xs (xs[i] + 1)) (i + 1) with z | z | z
 ·have:=b2 i h (by omega)
  omega
 ·exact z
 ·have h1:i + 1 < xs.size:=by omega
  have:=b1 (i + 1) h1 z
  have:=hr i (i + 1) (by omega) h1 h
  omega
theorem below_zero {xs:Array Nat} (hr:Rise xs):SetTable.below xs 0 = 0:=by
 obtain ⟨b0,b1,b2⟩:=below_is hr 0
 rcases Nat.eq_zero_or_pos (SetTable.below xs 0) with z | z
 ·exact z
 ·exact absurd (b1 0 (by omega) z) (by omega)
theorem rise_list {xs:Array Nat}:Rise xs ↔ xs.toList.Pairwise (· < ·):=by
 rw [List.pairwise_iff_getElem]
 constructor
 ·intro h a b ha hb hab
  have:=h a b hab (by simpa using hb) (by simpa using ha)
  simpa using this
 ·intro h a b hab hb ha
  have:=h a b (by simpa using ha) (by simpa using hb) hab
  simpa using this
theorem rise_insert {xs:Array Nat} (hr:Rise xs) {j:Nat} (hj:¬ xs[SetTable.below xs j]? = some j):Rise (SetTable.insertAt xs (SetTable.below xs j) j):=by
 obtain ⟨b0,b1,b2⟩:=below_is hr j
 generalize SetTable.below xs j = p at *
 have hlt:∀ i (h:i < xs.size),p <= i -> j < xs[i]:=fun i h z=>by
  have h0:=b2 i h z
  rcases Nat.lt_or_ge j xs[i] with q | q
  ·exact q
  ·exfalso
   have e:xs[i] = j:=by omega
   rcases Nat.lt_or_ge p i with z2 | z2
   ·have hp:p < xs.size:=by omega
    have:=hr p i z2 h hp
    have:=b2 p hp (Nat.le_refl _)
    omega
   ·obtain rfl:i = p:=by omega
    exact hj (by rw [Array.getElem?_eq_getElem h,e])
 have hl:=rise_list.mp hr
 rw [rise_list,SetTable.toList_insertAt]
 have A:∀ a ∈ xs.toList.take p,a < j:=fun a ha=>by
  obtain ⟨i,hi,rfl⟩:=List.mem_take_iff_getElem.mp ha
  have:=b1 i (by simp at hi; omega) (by omega)
  simpa using this
 have B:∀ b ∈ xs.toList.drop p,j < b:=fun b hb=>by
  obtain ⟨i,hi,rfl⟩:=List.mem_drop_iff_getElem.mp hb
  have:=hlt (p + i) (by simp at hi; omega) (by omega)
  simpa using this
 have hl':=hl
 rw [<- List.take_append_drop p xs.toList,List.pairwise_append] at hl'
 refine List.pairwise_append.mpr ⟨hl'.1,List.pairwise_cons.mpr ⟨B,hl'.2.1⟩,fun a ha b hb=>?_⟩
 rcases List.mem_cons.mp hb with rfl | hb
 ·exact A a ha
 ·exact Nat.lt_trans (A a ha) (B b hb)
def Laid0 (t:SetTable):Prop:=Rise t.place /\ t.dummies = #[]
theorem has_nil (j:Nat):SetTable.has #[] j = false:=by
 unfold SetTable.has
 simp
theorem probe_free {t:SetTable} (h0:t.dummies = #[]) (f:Nat -> Int) (h:Int):∀ (n:Nat) (p:SetTable.Probe) (j:Nat) (d:Option Nat),p.dummy = none -> SetTable.probe.go t f h n p = some (.empty j d) -> d = none /\ ¬ t.place[SetTable.below t.place j]? = some j
 | 0,p,j,d,_,e=>by simp [SetTable.probe.go] at e
 | n + 1,p,j,d,hp,e=>by
  unfold SetTable.probe.go at e
  have hs:t.slot p.j = if t.place[SetTable.below t.place p.j]? == some p.j then .live (SetTable.below t.place p.j) else .empty:=by
   unfold SetTable.slot
   rw [h0,has_nil]
   rfl
  rw [hs] at e
  by_cases z:t.place[SetTable.below t.place p.j]? = some p.j
  ·rw [if_pos (by rw [z]; exact beq_self_eq_true _)] at e
   dsimp only at e
   split at e
   ·cases e
   ·refine probe_free h0 f h n _ j d ?_ e
    unfold SetTable.advance
    split
    ·exact hp
    ·exact hp
  ·rw [if_neg (by simpa using z)] at e
   dsimp only at e
   injection e with e
   injection e with e1 e2
   subst e1 e2
   exact ⟨hp,z⟩
theorem rise_range (n:Nat):Rise (Array.range n):=fun a b h hb ha=>by simpa using h
theorem laid0_standIn (t:SetTable) (n:Nat):Laid0 (t.standIn n):=⟨rise_range n,rfl⟩
theorem laid0_or {t:SetTable} (h:Laid0 t) (n:Nat):Laid0 (t.orStandIn n):=by
 unfold SetTable.orStandIn
 split
 ·exact h
 ·exact laid0_standIn t n
theorem laid0_new {t:SetTable} (L:Laid0 t) (es:Array (Int × Value)) (h:Int) (x:Value):Laid0 (layNew t es h x).2.1:=by
 unfold layNew
 split
 ·rename_i slot wd e
  refine laid0_or ?_ _
  unfold SetTable.freeSlot at e
  split at e
  ·rename_i j d e2
   obtain ⟨rfl,hj⟩:=probe_free L.2 _ h _ _ j d rfl e2
   cases e
   refine ⟨rise_insert L.1 hj,?_⟩
   show (if SetTable.has t.dummies _ then _ else t.dummies) = #[]
   rw [L.2,has_nil]
   rfl
  ·cases e
 ·exact laid0_standIn t _
theorem laid0_laid {mask finger moves:Nat} {led plain:Bool} {hs:Array Int} {r:SetTable × Array Nat} (h:SetTable.laid mask finger moves led plain hs = some r):Laid0 r.1:=by
 unfold SetTable.laid at h
 cases q:SetTable.layClean mask hs with
 | none=>rw [q] at h; cases h
 | some ow=>
  rw [q] at h
  cases h
  refine ⟨?_,rfl⟩
  have:(((List.range (mask + 1)).filterMap fun j=>(ow.getD j none).map (j,·)).map (·.1)).Pairwise (· < ·):=by
   rw [List.pairwise_map,List.pairwise_filterMap]
   refine List.pairwise_lt_range.imp fun {a b} hab x hx y hy=>?_
   obtain ⟨_,_,rfl⟩:=Option.map_eq_some_iff.mp hx
   obtain ⟨_,_,rfl⟩:=Option.map_eq_some_iff.mp hy
   exact hab
  intro a b hab hb ha
  have:=List.pairwise_iff_getElem.mp this a b (by simpa using ha) (by simpa using hb) hab
  simpa using this
theorem laid0_relay {t:SetTable} (es:Array (Int × Value)) (n:Nat):Laid0 (relayAll t es n).2.1:=by
 unfold relayAll
 split
 ·rename_i t' order e
  have q:=laid0_laid e
  dsimp only
  split
  ·exact q
  ·exact laid0_standIn t _
 ·exact laid0_standIn t _
noncomputable def intOf:Value -> Int
 | .int x _=>x
 | _=>0
def IsInts (w:World) (h:Heap) (a:Addr) (led:Bool) (ss:List Int):Prop:=
 ∃ es ep t,h.get? a = some { cls:=.type "set",dict:=none,data:=.set es ep t,slots:=#[] } /\ (∀ e ∈ es.toList,∃ x u,e = (hashInt x,Value.int x u)) /\
  (es.toList.map fun e=>intOf e.2).Perm ss /\ t.fits es.size = true /\ t.led = led /\ Laid0 t
section
variable {prog:Program} {w:World} {A:Around} {E:Value -> Shared -> Prop} {s:Shared}
theorem isInt_self (x:Int) (u:Tok):Value.isInt x (Value.int x u) = true:=by simp [Value.isInt]
theorem ints_elems {es:Array (Int × Value)} (h:∀ e ∈ es.toList,∃ x u,e = (hashInt x,Value.int x u)):ElemsOf (PySem.intKind prog w) es.toList:=fun e he=>by
 obtain ⟨x,u,rfl⟩:=h e he
 exact ⟨⟨x,isInt_self x u,rfl⟩,rfl⟩
theorem ints_find {es:List (Int × Value)} (h:∀ e ∈ es,∃ x u,e = (hashInt x,Value.int x u)) (x:Int):
  (es.findIdx? fun e=>(PySem.intKind prog w).is x e.2) = none ↔ x ∉ es.map fun e=>intOf e.2:=by
 rw [List.findIdx?_eq_none_iff]
 constructor
 ·intro q hm
  obtain ⟨e,he,rfl⟩:=List.mem_map.mp hm
  obtain ⟨y,u,rfl⟩:=h e he
  have:=q _ he
  rw [show (PySem.intKind prog w).is (intOf (hashInt y,Value.int y u).2) (hashInt y,Value.int y u).2 = true from isInt_self y u] at this
  cases this
 ·intro q e he
  obtain ⟨y,u,rfl⟩:=h e he
  cases hb:(PySem.intKind prog w).is x (Value.int y u) with
  | false=>rfl
  | true=>
   have e2:y = x:=by
    obtain ⟨t,q⟩:=Value.isInt_shape (v:=Value.int y u) hb
    injection q
   exact absurd (List.mem_map.mpr ⟨_,he,by rw [<- e2]; rfl⟩) q
noncomputable def addI (ss:List Int) (x:Int):List Int:=if x ∈ ss then ss else ss ++ [x]
theorem add_int {a:Addr} {led:Bool} {ss:List Int} {x:Int} {u:Tok} {Q:Bool -> Shared -> Prop} (hS:IsInts w s.heap a led ss) (room:ss.length + 1 < scanBound)
  (h:∀ h' b,Heap.SameBut a s.heap h' -> IsInts w h' a led (addI ss x) -> Q b { s with heap:=h' }):
  wpAny (model prog w) A (setAddHashed a (.int x u) (hashInt x)) Q E s:=by
 obtain ⟨es,ep,t,ho,hel,hp,hf,hl,hL⟩:=hS
 have hE:=ints_elems (prog:=prog) (w:=w) hel
 have hk:(PySem.intKind prog w).is x (Value.int x u) = true:=isInt_self x u
 have hsz:es.size = ss.length:=by have:=hp.length_eq; simpa using this
 have hb:es.size < scanBound:=by omega
 unfold setAddHashed setAddHashedIn
 refine wpAny_holding (wpAny_bind (wpAny_setState_of ho rfl hf ?_))
 dsimp only
 rw [byScan_of (knd:=PySem.intKind prog w) rfl hb hE,if_pos rfl]
 unfold setAddByScan
 refine wpAny_bind (wpAny_bind (wpAny_rule (wpAny_bind (wpAny_setScan_of (knd:=PySem.intKind prog w) hk ho rfl hf hE ?_))))
 have hfind:=ints_find (prog:=prog) (w:=w) hel x
 cases hr:es.toList.findIdx? (fun e=>(PySem.intKind prog w).is x e.2) with
 | some j=>
  have hin:x ∈ ss:=by
   rw [<- hp.mem_iff]
   apply Classical.byContradiction
   intro z
   rw [hfind.mpr z] at hr
   cases hr
  refine wpAny_pure (wpAny_pure ?_)
  have:=h s.heap false (Heap.SameBut.refl a s.heap) ⟨es,ep,t,ho,hel,by unfold addI; rw [if_pos hin]; exact hp,hf,hl,hL⟩
  exact this
 | none=>
  have hin:x ∉ ss:=by
   rw [<- hp.mem_iff]
   exact hfind.mp hr
  dsimp only
  have p1:=layNew_perm t es (hashInt x) (Value.int x u)
  have p2:=layNew_fits t es (hashInt x) (Value.int x u)
  have p3:=tab_layNew t es (hashInt x) (Value.int x u)
  have p4:=laid0_new hL es (hashInt x) (Value.int x u)
  generalize layNew t es (hashInt x) (Value.int x u) = L at p1 p2 p3 p4 ⊢
  obtain ⟨es1,t1,wd,gave⟩:=L
  dsimp only at p1 p2 p3 p4 ⊢
  rw [Array.toList_push] at p1
  have hel1:∀ e ∈ es1.toList,∃ x u,e = (hashInt x,Value.int x u):=fun e he=>by
   rcases List.mem_append.mp (p1.mem_iff.mp he) with q | q
   ·exact hel e q
   ·rw [List.mem_singleton.mp q]; exact ⟨x,u,rfl⟩
  have hp1:(es1.toList.map fun e=>intOf e.2).Perm (addI ss x):=by
   refine (p1.map _).trans ?_
   unfold addI
   rw [if_neg hin,List.map_append]
   exact hp.append_right _
  have hz1:es1.size = ss.length + 1:=by
   have:=p1.length_eq
   simp only [Array.length_toList,List.length_append,List.length_singleton] at this
   omega
  have gw:∀ (b:Bool) (s₁:Shared) (Q':Unit -> Shared -> Prop),Q' () s₁ -> wpAny (model prog w) A (match b with | true=>rule "set.scan.the-table-gave-way" | false=>pure ()) Q' E s₁:=fun b s₁ Q' q=>by
   cases b
   ·exact wpAny_pure q
   ·exact wpAny_rule q
  refine wpAny_bind (gw _ _ _ ?_)
  split
  ·refine wpAny_bind ?_
   rw [hashByValue_scannable 8 (x:=Value.int x u) rfl]
   refine wpAny_pure ?_
   have pk:plainKind (Value.int x u) = true:=rfl
   simp only [pk,↓reduceIte]
   obtain ⟨t2,et,f2,l2,L2'⟩:∃ t2:SetTable,t2 = t1 /\ t2.fits es1.size = true /\ t2.led = led /\ Laid0 t2:=⟨_,rfl,p2,p3.1.trans hl,p4⟩
   rw [<- et]
   refine wpAny_bind (wpAny_storeSet_of ho rfl ?_ (fits_of_scanBound (by omega)))
   have o1:=set_put (es':=es1) (t':=t2) ho
   have sb1:=Heap.SameBut.update s.heap a (Obj.putSet es1 t2)
   refine wpAny_ite_split (fun _=>?_) fun _=>?_
   ·have q1:=relayAll_perm t2 es1 (SetTable.grown es1.size)
    have q2:=relayAll_fits t2 es1 (SetTable.grown es1.size)
    have q3:=tab_relay t2 es1 (SetTable.grown es1.size)
    have q4:=laid0_relay (t:=t2) es1 (SetTable.grown es1.size)
    generalize relayAll t2 es1 (SetTable.grown es1.size) = R at q1 q2 q3 q4 ⊢
    obtain ⟨es2,t3,g2⟩:=R
    dsimp only at q1 q2 q3 q4 ⊢
    have z2:es2.size = es1.size:=by have:=q1.length_eq; simpa using this
    refine wpAny_bind (gw _ _ _ ?_)
    refine wpAny_bind (wpAny_storeSet_of o1 rfl ?_ (fits_of_scanBound (by omega)))
    have o2:=set_put (s:={ s with heap:=s.heap.update a (Obj.putSet es1 t2) }) (es':=es2) (t':=t3) o1
    exact wpAny_pure (wpAny_pure (h _ _ (sb1.trans (Heap.SameBut.update _ a _)) ⟨es2,_,t3,o2,fun e he=>hel1 e (q1.mem_iff.mp he),(q1.map _).trans hp1,q2,q3.1.trans l2,q4⟩))
   ·exact wpAny_pure (wpAny_pure (h _ _ sb1 ⟨es1,_,t2,o1,hel1,hp1,f2,l2,L2'⟩))
  ·rename_i np
   refine wpAny_bind (wpAny_pure ?_)
   simp only [↓reduceIte]
   obtain ⟨t2,et,f2,l2,L2'⟩:∃ t2:SetTable,t2 = t1 /\ t2.fits es1.size = true /\ t2.led = led /\ Laid0 t2:=⟨_,rfl,p2,p3.1.trans hl,p4⟩
   rw [<- et]
   refine wpAny_bind (wpAny_storeSet_of ho rfl ?_ (fits_of_scanBound (by omega)))
   have o1:=set_put (es':=es1) (t':=t2) ho
   have sb1:=Heap.SameBut.update s.heap a (Obj.putSet es1 t2)
   refine wpAny_ite_split (fun _=>?_) fun _=>?_
   ·have q1:=relayAll_perm t2 es1 (SetTable.grown es1.size)
    have q2:=relayAll_fits t2 es1 (SetTable.grown es1.size)
    have q3:=tab_relay t2 es1 (SetTable.grown es1.size)
    have q4:=laid0_relay (t:=t2) es1 (SetTable.grown es1.size)
    generalize relayAll t2 es1 (SetTable.grown es1.size) = R at q1 q2 q3 q4 ⊢
    obtain ⟨es2,t3,g2⟩:=R
    dsimp only at q1 q2 q3 q4 ⊢
    have z2:es2.size = es1.size:=by have:=q1.length_eq; simpa using this
    refine wpAny_bind (gw _ _ _ ?_)
    refine wpAny_bind (wpAny_storeSet_of o1 rfl ?_ (fits_of_scanBound (by omega)))
    have o2:=set_put (s:={ s with heap:=s.heap.update a (Obj.putSet es1 t2) }) (es':=es2) (t':=t3) o1
    exact wpAny_pure (wpAny_pure (h _ _ (sb1.trans (Heap.SameBut.update _ a _)) ⟨es2,_,t3,o2,fun e he=>hel1 e (q1.mem_iff.mp he),(q1.map _).trans hp1,q2,q3.1.trans l2,q4⟩))
   ·exact wpAny_pure (wpAny_pure (h _ _ sb1 ⟨es1,_,t2,o1,hel1,hp1,f2,l2,L2'⟩))
end
noncomputable def dI (l:List Int):List Int:=l.foldl addI []
theorem addI_len (ss:List Int) (x:Int):(addI ss x).length <= ss.length + 1:=by
 unfold addI
 split <;> simp
theorem dI_take {l:List Int} {i:Nat} {x:Int} (h:l[i]? = some x):dI (l.take (i + 1)) = addI (dI (l.take i)) x:=by
 unfold dI
 rw [List.take_add_one,h,List.foldl_append]
 rfl
theorem foldl_addI_len (l:List Int):∀ ss:List Int,(l.foldl addI ss).length <= ss.length + l.length:=by
 induction l with
 | nil=>intro ss; simp
 | cons x l ih=>
  intro ss
  have h1:=ih (addI ss x)
  have h2:=addI_len ss x
  simp only [List.foldl_cons,List.length_cons]
  omega
theorem dI_len (l:List Int):(dI l).length <= l.length:=by
 have:=foldl_addI_len l []
 simpa [dI] using this
theorem addI_mem {ss:List Int} {x y:Int}:y ∈ addI ss x ↔ y ∈ ss \/ y = x:=by
 unfold addI
 split
 ·rename_i h
  exact ⟨.inl,fun q=>q.elim id fun e=>e ▸ h⟩
 ·simp
theorem foldl_addI_mem (l:List Int):∀ (ss:List Int) (y:Int),y ∈ l.foldl addI ss ↔ y ∈ ss \/ y ∈ l:=by
 induction l with
 | nil=>intro ss y; simp
 | cons x l ih=>
  intro ss y
  rw [List.foldl_cons,ih,addI_mem,List.mem_cons]
  exact ⟨fun q=>q.elim (fun z=>z.elim .inl fun e=>.inr (.inl e)) fun z=>.inr (.inr z),fun q=>q.elim (fun z=>.inl (.inl z)) fun z=>z.elim (fun e=>.inl (.inr e)) .inr⟩
theorem dI_mem {l:List Int} {y:Int}:y ∈ dI l ↔ y ∈ l:=by
 unfold dI
 rw [foldl_addI_mem]
 simp
theorem addI_nodup {ss:List Int} (h:ss.Nodup) (x:Int):(addI ss x).Nodup:=by
 unfold addI
 split
 ·exact h
 ·rename_i n
  rw [List.nodup_append]
  exact ⟨h,by simp,fun a ha b hb=>by rw [List.mem_singleton.mp hb]; exact fun e=>n (e ▸ ha)⟩
theorem foldl_addI_nodup (l:List Int):∀ ss:List Int,ss.Nodup -> (l.foldl addI ss).Nodup:=by
 induction l with
 | nil=>intro ss h; exact h
 | cons x l ih=>intro ss h; exact ih _ (addI_nodup h x)
theorem dI_nodup (l:List Int):(dI l).Nodup:=foldl_addI_nodup l [] List.nodup_nil
theorem IsInts.at {w:World} {h h':Heap} {a:Addr} {led:Bool} {ss:List Int} (x:IsInts w h a led ss) (k:∀ o,h.get? a = some o -> h'.get? a = some o):IsInts w h' a led ss:=by
 obtain ⟨es,ep,t,ho,r⟩:=x
 exact ⟨es,ep,t,k _ ho,r⟩
section
variable {prog:Program} {w:World} {A:Around} {R:Result -> Shared -> Prop} {I:Addr} {fp wr:List Addr} {G:Array GenState -> Array GenState -> Prop} {n:Nat} {P:Nat -> Value -> Prop} {St:Nat -> Shared -> Prop}
theorem fill_ints (W:WalksS prog w A.in1 I fp wr G n P St) (S:Addr) (hSf:S ∉ fp) (ss:List Int) (led:Bool) (hn:ss.length = n)
  (hval:∀ i v,P i v -> ∃ x t,ss[i]? = some x /\ v = .int x t) (hb:n + 1 < scanBound):
  ∀ (k i:Nat) (s:Shared),n - i = k -> i <= n -> St i s -> IsInts w s.heap S led (dI (ss.take i)) ->
   (∀ s',Moved (S :: wr) G s s' -> IsInts w s'.heap S led (dI ss) -> R (.ok (.ret .none)) s') ->
   codeAny (model prog w) A (.builtin "set.update.loop" ⟨[.ref S,.ref I],[]⟩) R s:=by
 have hSw:S ∉ wr:=fun h=>hSf (W.sub _ h)
 have up:∀ b ∈ wr,b ∈ S :: wr:=fun b hb=>List.mem_cons_of_mem _ hb
 intro k
 induction k with
 | zero=>
  intro i s hk hi hst hS hR
  obtain rfl:i = n:=by omega
  refine codeAny_builtin PyProof.Rows.F.entry_set_update_loop ?_
  rw [Around.under_plainId PyProof.Rows.F.plain_set_update_loop _]
  show wpAny _ A.in1 (pyNext (.ref I) >>= _) _ _ s
  refine wpAny_bind (W.done s _ _ hst fun s' hm=>?_)
  rw [List.take_of_length_le (Nat.le_of_eq hn)] at hS
  exact wpAny_pure (hR s' (hm.mono up) (hS.at fun o e=>hm.heap S o hSw e))
 | succ k ih=>
  intro i s hk hi hst hS hR
  have hlt:i < n:=by omega
  refine codeAny_builtin PyProof.Rows.F.entry_set_update_loop ?_
  rw [Around.under_plainId PyProof.Rows.F.plain_set_update_loop _]
  show wpAny _ A.in1 (pyNext (.ref I) >>= _) _ _ s
  refine wpAny_bind (W.item i s _ _ hlt hst fun v s' hP hst' hm=>?_)
  obtain ⟨x,t,hx,rfl⟩:=hval i v hP
  have hS':IsInts w s'.heap S led (dI (ss.take i)):=hS.at fun o e=>hm.heap S o hSw e
  show wpAny _ A.in1 (holding [Value.int x t] (setAdd S (.int x t)) >>= _) _ _ s'
  refine wpAny_bind (wpAny_holding ?_)
  unfold setAdd
  refine wpAny_holding (wpAny_bind (wpAny_pyHash_int ?_))
  have hroom:(dI (ss.take i)).length + 1 < scanBound:=by
   have h1:=dI_len (ss.take i)
   rw [List.length_take] at h1
   omega
  refine add_int (s:={ s' with toks:=s'.toks + 1 }) hS' hroom fun h' b hsb hS2=>?_
  rw [<- dI_take hx] at hS2
  refine wpAny_pure ⟨plainId_quiet PyProof.Rows.F.plain_set_update_loop _,ih (i + 1) _ (by omega) hlt (W.frame _ s' _ _ hst' (Nat.le_succ _) fun b hb o e=>?_) hS2 fun s'' hm'' hS''=>?_⟩
  ·rw [hsb.2 b (fun h:b = S=>hSf (h ▸ hb))]
   exact e
  ·refine hR s'' (Moved.trans W.gtrans ((hm.mono up).then_heap (Nat.le_succ _) fun b o hb e=>?_) hm'') hS''
   rw [hsb.2 b (fun h:b = S=>hb (h ▸ List.mem_cons_self))]
   exact e
end
section
variable {prog:Program} {w:World} {A:Around} {E:Value -> Shared -> Prop} {s:Shared}
theorem isInts0 {w:World} {h:Heap} {a:Addr} (ho:h.get? a = some (setObj0 w)):IsInts w h a (ledW w) []:=
 ⟨#[],0,_,ho,fun e he=>by simp at he,by simp,rfl,rfl,⟨fun a b _ hb _=>absurd hb (by simp [SetTable.fresh]),rfl⟩⟩
set_option maxHeartbeats 3200000 in
theorem set_of_ints {l:Addr} {items:Array Value} {ss:List Int} {Q:Value -> Shared -> Prop} (hh:A.handled = none) (hl:s.heap.IsList l items) (hn:ss.length = items.size)
  (hv:∀ (i:Nat) (v:Value),items[i]? = some v -> ∃ x t,ss[i]? = some x /\ v = .int x t) (hb:items.size + 1 < scanBound)
  (h:∀ (h':Heap) (tk:Nat),IsInts w h' s.heap.objs.size (ledW w) (dI ss) -> (∀ b o,s.heap.get? b = some o -> h'.get? b = some o) -> Q (.ref s.heap.objs.size) { s with heap:=h',toks:=tk }):
  wpAny (model prog w) A (call (.type "set") [.ref l]) Q E s:=by
 apply set_by_halves
 intro A₁ _
 apply new_texts
 have hS:(s.heap.push (setObj0 w)).get? s.heap.objs.size = some (setObj0 w):=Heap.get?_push_size _ rfl
 have hT:Shared.TypeIs { s with heap:=s.heap.push (setObj0 w) } (.ref s.heap.objs.size) "set" := ⟨_,hS,rfl⟩
 refine ⟨⟨_,rfl⟩,hT,fun A₂ h2=>?_⟩
 apply codeAny_call_builtin PySem.F.called_set.init.plain PySem.F.entry_set_init
 apply check_set_init_1 hT
 obtain ⟨⟨ocls,odict,odata,oslots⟩,hol,hcl,nl,hdl⟩:=hl
 change ocls = .type "list" at hcl
 change odata = .seq items nl at hdl
 subst hcl hdl
 have hol':(s.heap.push (setObj0 w)).get? l = some { cls:=.type "list",dict:=odict,data:=.seq items nl,slots:=oslots }:=Heap.get?_push_of_some _ hol
 have k1:=PySem.F.sub_list_set
 have k2:=PySem.F.sub_list_frozenset
 have k3:(Value.type "list" == Value.type "dict") = false:=by decide
 have hl1:(s.heap.push (setObj0 w)).IsList l items:=⟨_,hol',rfl,nl,rfl⟩
 unfold Builtin.«set.__init__» noKeywords Builtin.Frozenset.updateFrom
 generalize hPI:pyIter = PI
 wp_walk
 subst hPI
 refine wpAny_pyIter_list hl1 ?_
 apply wpAny_bind
 apply wpAny_runValue
 have hlS:l < s.heap.objs.size:=Heap.lt_size hol
 have hsz:(s.heap.push (setObj0 w)).objs.size = s.heap.objs.size + 1:=Heap.size_push ..
 have hSf:s.heap.objs.size ∉ [(s.heap.push (setObj0 w)).objs.size,l]:=by
  rw [hsz]
  intro z
  rcases List.mem_cons.mp z with z | z
  ·exact Nat.succ_ne_self _ z.symm
  ·exact Nat.ne_of_gt hlS (List.mem_singleton.mp z)
 have W:=Walks.list (prog:=prog) (w:=w) (A:=A₂.in1.in1) (by simp [h2,hh]) (s.heap.push (setObj0 w)).objs.size l (by rw [hsz]; exact Nat.ne_of_lt (Nat.lt_succ_of_lt hlS)) items
 refine fill_ints W.toS s.heap.objs.size hSf ss (ledW w) hn hv hb (items.size - 0) 0 _ (by omega) (Nat.zero_le _) ⟨⟨_,Heap.get?_push_size _ rfl,rfl,rfl⟩,hl1.push _⟩ (isInts0 (Heap.get?_push_of_some _ hS)) fun s' hm hS'=>?_
 obtain ⟨h',g',d',tk',os'⟩:=s'
 obtain rfl:g' = s.gens:=hm.gens
 obtain rfl:d' = s.drawn:=hm.drawn
 obtain rfl:os' = s.os:=hm.os
 apply wpAny_pure
 apply wpAny_pure
 refine ⟨rfl,h h' tk' hS' fun b o e=>?_⟩
 have hbs:=Heap.lt_size e
 apply hm.heap b o
 ·intro z
  rcases List.mem_cons.mp z with z | z
  ·exact Nat.ne_of_lt hbs z
  ·have z:=List.mem_singleton.mp z
   rw [hsz] at z
   exact Nat.ne_of_lt (Nat.lt_succ_of_lt hbs) z
 ·exact Heap.get?_push_of_some _ (Heap.get?_push_of_some _ e)
section
variable {it a:Addr} {es:Array (Int × Value)} {n ep i:Nat} {t:SetTable}
theorem setNext_plain {slot:Nat} {Q:Option (Value × Nat) -> Shared -> Prop} (hb:w.params.followText "set-order" = false) (ha:s.heap.get? a = some (setObj es ep t)) (hf:t.fits es.size = true) (hl:t.led = true) (h1:(!t.plain && decide (es.size > 1)) = false)
  (h:Q (match es[SetTable.below t.place slot]?,t.place[SetTable.below t.place slot]? with | some (_,x),some j=>some (x,j + 1) | _,_=>none) s):wpAny (model prog w) A (setNext a slot i ep) Q E s:=by
 unfold setNext
 refine wpAny_bind (wpAny_setState_of ha rfl hf ?_)
 dsimp only
 refine wpAny_bind (by_text ?_)
 rw [hb]
 show wpAny _ _ (if (!t.plain && decide (es.size > 1)) = true then _ else _) _ _ _
 rw [h1]
 have d2:(!t.led && !es.isEmpty) = false:=by rw [hl]; rfl
 show wpAny _ _ ((if (!t.led && !es.isEmpty) = true then _ else pure ()) >>= _) _ _ _
 rw [d2]
 exact wpAny_bind (wpAny_pure (wpAny_pure h))
theorem walks_places (hh:A.handled = none) (hne:a ≠ it) (hb:w.params.followText "set-order" = false) (hf:t.fits es.size = true) (hz:es.size = n) (hl:t.led = true) (h1:(!t.plain && decide (es.size > 1)) = false) (hL:Laid0 t):
  Walks prog w A it [it,a] [it] n (fun i v=>(es[i]?).map (·.2) = some v) (fun i h=>(∃ sl,h.get? it = some (itObj (.int (sl:Nat) 0) i a n ep) /\ SetTable.below t.place sl = i) /\ h.get? a = some (setObj es ep t)) where
 sub:=fun b hb=>by simp at hb; simp [hb]
 frame:=fun _ _ _ ⟨⟨sl,st,r⟩,st2⟩ k=>⟨⟨sl,k it (by simp) _ st,r⟩,k a (by simp) _ st2⟩
 item:=fun i s Q E hi ⟨⟨sl,st,r⟩,st2⟩ hQ=>by
  have hp:i < t.place.size:=by rw [fits_size hf]; omega
  have hi':i < es.size:=by omega
  have e1:es[i]? = some es[i]:=Array.getElem?_eq_getElem hi'
  have e2:t.place[i]? = some t.place[i]:=Array.getElem?_eq_getElem hp
  refine next_int_item (slot:=sl) (nx:=t.place[i] + 1) (x:=es[i].2) st st2 hf hz (fun E' Q' q=>setNext_plain hb st2 hf hl h1 ?_) fun h' g sb=>?_
  ·rw [r,e1,e2]
   exact q
  ·exact hQ _ h' s.toks (by rw [e1]; rfl) ⟨⟨_,g,below_at hL.1 hp⟩,sb.extBut _ _ hne st2⟩ fun b o hb e=>sb.extBut b o (fun z=>hb (by simp [z])) e
 done:=fun s Q E ⟨⟨sl,st,r⟩,st2⟩ hQ=>by
  refine next_int_end (slot:=sl) hh st st2 hf hz (fun E' Q' q=>setNext_plain hb st2 hf hl h1 ?_) fun h' k=>hQ h' s.toks fun b o hb e=>k b o (fun z=>hb (by simp [z])) e
  rw [r,Array.getElem?_eq_none (by omega)]
  exact q
 self:=fun i s Q E ⟨⟨sl,st,_⟩,_⟩ hQ=>self_setit ⟨_,st,rfl⟩ hQ
end
structure WalkedI (prog:Program) (w:World) (A:Around) (h:Heap) (a:Addr) (ss:List Int) (it:Addr) (h':Heap):Prop where
 old:∀ b o,h.get? b = some o -> h'.get? b = some o
 new:h.objs.size <= it
 walk:∃ fp St,∃ xs:List Value,Walks prog w A it fp [it] xs.length (fun i v=>xs[i]? = some v) St /\ St 0 h' /\ (∀ b ∈ fp,b = a \/ h.objs.size <= b) /\ (∀ v ∈ xs,∃ x u,v = Value.int x u) /\ (xs.map intOf).Perm ss
theorem iter_ints {a:Addr} {ss:List Int} {Q:Value -> Shared -> Prop} (hh:A.handled = none) (hS:IsInts w s.heap a (ledW w) ss) (hb:ss.length <= 100000)
  (h:∀ it h' d,WalkedI prog w A s.heap a ss it h' -> Q (.ref it) { s with heap:=h',drawn:=d }):wpAny (model prog w) A (pyIter (.ref a)) Q E s:=by
 obtain ⟨es,ep,t,ho,hel,hp,hf,hl,hpl⟩:=hS
 have hT:s.TypeIs (.ref a) "set" := ⟨_,ho,rfl⟩
 have hlt:=Heap.lt_size ho
 have hsz:es.size = ss.length:=by have:=hp.length_eq; simpa using this
 have hvs:∀ v ∈ es.toList.map (·.2),∃ x u,v = Value.int x u:=fun v hv=>by
  obtain ⟨e,he,rfl⟩:=List.mem_map.mp hv
  obtain ⟨x,u,rfl⟩:=hel e he
  exact ⟨x,u,rfl⟩
 have hps:((es.toList.map (·.2)).map intOf).Perm ss:=by rw [List.map_map]; exact hp
 have mk:∀ (xs:List Value),xs.Perm (es.toList.map (·.2)) -> (∀ v ∈ xs,∃ x u,v = Value.int x u) /\ (xs.map intOf).Perm ss:=fun xs q=>
  ⟨fun v hv=>hvs v (q.mem_iff.mp hv),(q.map _).trans hps⟩
 refine wpAny_pyIter_slot hT PySem.F.slot_set_iter (wpAny_call_entry PySem.F.slot_set_iter hT entry_set_iter ?_ (PySem.F.args_set_iter_1 _))
 unfold Builtin.«frozenset.__iter__» Builtin.Frozenset.slot0 slotArgs
 simp only [List.isEmpty_nil,Bool.not_true,Bool.false_eq_true,↓reduceIte,bind_assoc,List.length_nil,bne_self_eq_false]
 unfold Builtin.Frozenset.addrOf Builtin.Frozenset.sizeOf
 refine wpAny_bind (wpAny_pure ?_)
 try dsimp only
 refine wpAny_bind (wpAny_pure ?_)
 refine wpAny_bind (wpAny_bind (wpAny_setEntries_of ho rfl hf (wpAny_pure ?_)))
 unfold setDrawn
 refine wpAny_bind (wpAny_bind (wpAny_setState_of ho rfl hf ?_))
 dsimp only
 refine wpAny_bind (by_text (wpAny_pure ?_))
 change wpAny _ _ (if (!w.params.followText "set-order" && (!t.plain && decide (es.size > 1))) = true then _ else _) _ _ _
 have ne1:∀ (h1:Heap),s.heap.objs.size <= h1.objs.size -> a ≠ h1.objs.size:=fun h1 q=>Nat.ne_of_lt (Nat.lt_of_lt_of_le hlt q)
 by_cases hd:(!w.params.followText "set-order" && (!t.plain && decide (es.size > 1))) = true
 ·rw [if_pos hd]
  refine wpAny_bind (draw_order es.size (List.range es.size) s _ (by simp) fun ys d hy=>?_)
  have hyl:ys.length = es.size:=by have:=hy.length_eq; simpa using this
  refine wpAny_bind (wpAny_newTuple ?_ (by rw [List.length_map,hyl,sizeLine_eq]; omega))
  refine wpAny_bind (wpAny_setEpoch_of (Heap.get?_push_of_some _ ho) rfl hf ?_)
  refine wpAny_bind (wpAny_newObj_type (wpAny_pure ⟨_,rfl, "set_iterator",_,⟨_,Heap.get?_push_size _ rfl,rfl⟩,slot_setit_next.lookup,?_⟩))
  have hq:(atPlaces es ys).Perm (es.toList.map (·.2)):=by
   rw [<- places_all]
   exact hy.map _
  have hlen:es.size = (atPlaces es ys).length:=by unfold atPlaces; rw [List.length_map,hyl]
  have e1:(s.heap.push (seqObj "tuple" (ys.map fun (k:Nat)=>rawInt k).toArray 0)).objs.size = s.heap.objs.size + 1:=size_push' ..
  refine h _ _ d ⟨fun b o e=>Heap.get?_push_of_some _ (Heap.get?_push_of_some _ e),Nat.le_trans (Nat.le_succ _) (Nat.le_of_eq e1.symm),_,_,_,
   Walks.cast (walks_drawn (A:=A) (a:=a) (T:=s.heap.objs.size) (ep:=ep) hh (ne1 _ (Nat.le_trans (Nat.le_succ _) (Nat.le_of_eq e1.symm))) ?_ hf rfl hy) hlen fun _ _=>Iff.rfl,?_,?_,(mk _ hq).1,(mk _ hq).2⟩
  ·exact Nat.ne_of_lt (Nat.lt_of_lt_of_le (Nat.lt_succ_self _) (Nat.le_of_eq e1.symm))
  ·exact ⟨Heap.get?_push_size _ rfl,Heap.get?_push_of_some _ (Heap.get?_push_of_some _ ho),Heap.get?_push_of_some _ (Heap.get?_push_size _ rfl)⟩
  ·intro b hb
   simp only [List.mem_cons,List.not_mem_nil,or_false] at hb
   rcases hb with rfl | rfl | rfl
   ·exact .inr (Nat.le_trans (Nat.le_succ _) (Nat.le_of_eq e1.symm))
   ·exact .inl rfl
   ·exact .inr (Nat.le_refl _)
 ·rw [if_neg hd]
  refine wpAny_bind (wpAny_pure ?_)
  refine wpAny_bind (wpAny_setEpoch_of ho rfl hf ?_)
  refine wpAny_bind (wpAny_newObj_type (wpAny_pure ⟨_,rfl, "set_iterator",_,⟨_,Heap.get?_push_size _ rfl,rfl⟩,slot_setit_next.lookup,?_⟩))
  have fpo:∀ b ∈ [s.heap.objs.size,a],b = a \/ s.heap.objs.size <= b:=fun b hb=>by
   simp only [List.mem_cons,List.not_mem_nil,or_false] at hb
   rcases hb with rfl | rfl
   ·exact .inr (Nat.le_refl _)
   ·exact .inl rfl
  refine h _ _ s.drawn ⟨fun b o e=>Heap.get?_push_of_some _ e,Nat.le_refl _,?_⟩
  cases hbt:w.params.followText "set-order" with
  | true=>
   have hq:((pickOrder (w.params.setOrder a ep) es).toList.map (·.2)).Perm (es.toList.map (·.2)):=(pick_perm (w.params.setOrder a ep) es).map _
   refine ⟨_,_,_,Walks.cast (walks_text (A:=A) (a:=a) (ep:=ep) (t:=t) hh (ne1 _ (Nat.le_refl _)) hbt hf rfl) (by have:=hq.length_eq; simpa using this.symm) (fun i v=>?_),⟨Heap.get?_push_size _ rfl,Heap.get?_push_of_some _ ho⟩,fpo,(mk _ hq).1,(mk _ hq).2⟩
   rw [List.getElem?_map,Array.getElem?_toList]
  | false=>
   have h1:(!t.plain && decide (es.size > 1)) = false:=by
    rw [hbt] at hd
    simpa using hd
   have hq:=List.Perm.refl (es.toList.map (·.2))
   refine ⟨_,_,_,Walks.cast (walks_places (A:=A) (a:=a) (ep:=ep) (t:=t) hh (ne1 _ (Nat.le_refl _)) hbt hf rfl (by rw [hl]; unfold ledW; rw [hbt]; rfl) h1 hpl) (by simp) (fun i v=>?_),⟨⟨0,Heap.get?_push_size _ rfl,below_zero hpl.1⟩,Heap.get?_push_of_some _ ho⟩,fpo,(mk _ hq).1,(mk _ hq).2⟩
   rw [List.getElem?_map,Array.getElem?_toList]
theorem collect_ints {a:Addr} {ss:List Int} {R:List Value -> Shared -> Prop} (hh:A.handled = none) (hS:IsInts w s.heap a (ledW w) ss) (hb:ss.length <= 100000)
  (h:∀ (h':Heap) (tk:Nat) (d:Drawn) (vs:List Value),s.heap.objs.size < h'.objs.size -> (∀ b o,s.heap.get? b = some o -> h'.get? b = some o) -> (∀ v ∈ vs,∃ x u,v = Value.int x u) -> (vs.map intOf).Perm ss -> R vs { s with heap:=h',toks:=tk,drawn:=d }):
  wpAny (model prog w) A (collect (.ref a)) R E s:=by
 unfold collect
 refine wpAny_bind (wpAny_runValue (codeAny_builtin entry_proto_collect' ?_))
 rw [Around.under_plainId PySem.F.plain_proto_collect _]
 show wpAny _ A.in1 (newList [] >>= fun l=>again (.builtin "list.__iadd__" ⟨[l,.ref a],[]⟩)) _ _ s
 refine wpAny_bind (wpAny_newObj_type ?_)
 refine wpAny_pure ⟨plainId_quiet PySem.F.plain_list_iadd _,codeAny_builtin entry_list_iadd' ?_⟩
 rw [Around.under_plainId PySem.F.plain_list_iadd _]
 generalize hL:s.heap.objs.size = S
 have hS1:(s.heap.push { cls:=.type "list",data:=.seq ([]:List Value).toArray }).get? S = some { cls:=.type "list",data:=.seq #[] }:=hL ▸ Heap.get?_push_size _ rfl
 have hkeep:∀ b o,s.heap.get? b = some o -> (s.heap.push { cls:=.type "list",data:=.seq ([]:List Value).toArray }).get? b = some o:=fun b o e=>Heap.get?_push_of_some _ e
 have haS:a < S:=by obtain ⟨es,ep,t,ho,_⟩:=hS; rw [<- hL]; exact Heap.lt_size ho
 have hz1:(s.heap.push { cls:=.type "list",data:=.seq ([]:List Value).toArray }).objs.size = S + 1:=by rw [size_push',hL]
 have hS':IsInts w (s.heap.push { cls:=.type "list",data:=.seq ([]:List Value).toArray }) a (ledW w) ss:=hS.at fun o e=>hkeep _ _ e
 generalize hg:s.heap.push { cls:=.type "list",data:=.seq ([]:List Value).toArray } = g at hS1 hkeep hz1 hS'
 have hT:Shared.TypeIs { s with heap:=g } (.ref a) "set" := by obtain ⟨es,ep,t,ho,_⟩:=hS'; exact ⟨_,ho,rfl⟩
 show wpAny _ A.in1 (Builtin.List.listExtendWith (.ref S) (.ref a) (.ref S)) _ _ { s with heap:=g }
 unfold Builtin.List.listExtendWith
 refine wpAny_bind (wpAny_typeOf (T := "set") hT ?_)
 have h1:Builtin.List.listSameRef (.ref S) (.ref a) = false:=by simp [Builtin.List.listSameRef,Nat.ne_of_gt haS]
 have h2:(Value.type "set" == Value.type "list") = false:=by decide
 have h3:(Value.type "set" == Value.type "tuple") = false:=by decide
 simp only [h1,h2,h3,Bool.or_false,Bool.false_eq_true,if_false]
 refine wpAny_bind (iter_ints (A:=A.in1) (s:={ s with heap:=g }) hh hS' hb fun it g' d W=>?_)
 obtain ⟨old,new,fp,St,xs,Wk,st,hfp,hxs,hpx⟩:=W
 have hxl:xs.length = ss.length:=by have:=hpx.length_eq; simpa using this
 have hS2:=old _ _ hS1
 have hSf:S ∉ fp:=fun z=>by
  rcases hfp S z with q | q
  ·exact Nat.lt_irrefl _ (q ▸ haS)
  ·rw [show ({ s with heap:=g }:Shared).heap.objs.size = S + 1 from hz1] at q
   exact absurd q (Nat.not_le.mpr (Nat.lt_succ_self _))
 have itS:it ≠ S:=fun z=>by
  subst z
  rw [show ({ s with heap:=g }:Shared).heap.objs.size = it + 1 from hz1] at new
  exact absurd new (Nat.not_le.mpr (Nat.lt_succ_self _))
 have key:∀ (h:Heap) (c₁ tk:Nat),St 0 h -> (∀ b o,b ≠ S -> g'.get? b = some o -> h.get? b = some o) -> h.get? S = some { cls:=.type "list",data:=.seq #[] c₁ } ->
   codeAny (model prog w) A (.builtin "list.extend.loop" ⟨[.ref S,.ref it,.ref S],[]⟩) (fun r s'=>∃ vs c' k1 k2,r = .ok (.ret (.ref S)) /\ s' = { s with heap:=k1,toks:=k2,drawn:=d } /\ k1.get? S = some { cls:=.type "list",dict:=none,data:=.seq vs c',slots:=#[] } /\ vs.toList = xs /\
    (∀ b o,s.heap.get? b = some o -> k1.get? b = some o)) { s with heap:=h,toks:=tk,drawn:=d }:=by
  intro h c₁ tk hst hk hl
  refine codeAny_extend_loopS (Wk.toS) (by rw [hxl,sizeLine_eq]; omega) S hSf (.ref S) xs.length 0 _ #[] c₁ rfl (Nat.zero_le _) hst hl (ItemsOf.nil _) fun s' acc c' hm hl' hacc=>?_
  obtain ⟨k1,gg,dd',k2,oo⟩:=s'
  obtain rfl:gg = s.gens:=hm.gens
  obtain rfl:dd' = d:=hm.drawn
  obtain rfl:oo = s.os:=hm.os
  refine ⟨acc,c',k1,k2,rfl,rfl,hl',?_,fun b o e=>hm.heap b o (fun z=>?_) (hk b o (fun z=>?_) (old b o (hkeep b o e)))⟩
  ·apply List.ext_getElem?
   intro j
   by_cases hj:j < xs.length
   ·have hj':j < acc.size:=by rw [hacc.1]; exact hj
    have:=hacc.2 j _ (Array.getElem?_eq_getElem hj')
    rw [this,Array.getElem?_toList,Array.getElem?_eq_getElem hj']
   ·rw [List.getElem?_eq_none (by rw [Array.length_toList,hacc.1]; omega),List.getElem?_eq_none (by omega)]
  ·have hbs:=Heap.lt_size e
   rw [hL] at hbs
   rcases List.mem_cons.mp z with q | q
   ·exact Nat.lt_irrefl _ (q ▸ hbs)
   ·rw [List.mem_singleton.mp q] at hbs
    rw [show ({ s with heap:=g }:Shared).heap.objs.size = S + 1 from hz1] at new
    exact absurd (Nat.lt_of_le_of_lt new hbs) (Nat.not_lt.mpr (Nat.le_succ _))
  ·have hbs:=Heap.lt_size e
   rw [hL] at hbs
   exact Nat.lt_irrefl _ (z ▸ hbs)
 have hT2:Shared.TypeIs { s with heap:=g',drawn:=d } (.ref a) "set" := by obtain ⟨es,ep,t,ho,_⟩:=hS'; exact ⟨_,old _ _ ho,rfl⟩
 refine wpAny_bind (wpAny_holding (hint_set hT2 ?_))
 have last:∀ (r:Result) (s':Shared),(∃ vs c' k1 k2,r = .ok (.ret (.ref S)) /\ s' = { s with heap:=k1,toks:=k2,drawn:=d } /\ k1.get? S = some { cls:=.type "list",dict:=none,data:=.seq vs c',slots:=#[] } /\ vs.toList = xs /\
    (∀ b o,s.heap.get? b = some o -> k1.get? b = some o)) -> ∃ vs c' k1 k2,r = .ok (.ret (.ref S)) /\ s' = { s with heap:=k1,toks:=k2,drawn:=d } /\ k1.get? S = some { cls:=.type "list",dict:=none,data:=.seq vs c',slots:=#[] } /\ R vs.toList s':=by
  rintro r s' ⟨vs,c',k1,k2,rfl,rfl,hl,hv,hk⟩
  exact ⟨vs,c',k1,k2,rfl,rfl,hl,h k1 k2 d vs.toList (hL ▸ Heap.lt_size hl) hk (hv ▸ hxs) (hv ▸ hpx)⟩
 refine wpAny_ite_split (fun _=>?_) (fun _=>wpAny_pure ⟨plainId_quiet PySem.F.plain_extend_loop _,codeAny_mono (key g' 0 s.toks st (fun _ _ _ e=>e) hS2) fun r s' q=>?_⟩)
 ·refine wpAny_bind (wpAny_rule ?_)
  refine wpAny_bind ?_
  show wpAny _ _ (updateSeq S (·.push .none) >>= fun _=>updateSeq S (·.pop)) _ _ _
  refine wpAny_bind (wpAny_updateSeq hS2 rfl ?_)
  have hS3:=Heap.get?_update_self (Obj.mapSeq (·.push Value.none)) hS2 rfl
  refine wpAny_updateSeq (hz:=by seq_fits) hS3 rfl ?_
  have hS4:=Heap.get?_update_self (Obj.mapSeq (·.pop)) hS3 rfl
  have up:∀ b o,b ≠ S -> g'.get? b = some o -> ((g'.update S (Obj.mapSeq (·.push Value.none))).update S (Obj.mapSeq (·.pop))).get? b = some o:=fun b o nb e=>
   (Heap.get?_update_other _ _ (Ne.symm nb)).trans ((Heap.get?_update_other _ _ (Ne.symm nb)).trans e)
  refine wpAny_pure ⟨plainId_quiet PySem.F.plain_extend_loop _,codeAny_mono (key _ _ s.toks (Wk.frame 0 _ _ st fun b hb o e=>up b o (fun z=>hSf (z ▸ hb)) e) up hS4) fun r s' q=>?_⟩
  obtain ⟨vs,c',k1,k2,rfl,rfl,hl,hr⟩:=last r s' q
  exact wpAny_bind (wpAny_load hl (wpAny_pure hr))
 ·obtain ⟨vs,c',k1,k2,rfl,rfl,hl,hr⟩:=last r s' q
  exact wpAny_bind (wpAny_load hl (wpAny_pure hr))
end
section
variable {prog:Program} {w:World} {A:Around} {E:Value -> Shared -> Prop} {s:Shared}
theorem intsAre_vals:∀ {vs:List Value},(∀ v ∈ vs,∃ x u,v = Value.int x u) -> IntsAre vs (vs.map intOf)
 | [],_=>.nil
 | v :: vs,h=>by
  obtain ⟨x,u,rfl⟩:=h v List.mem_cons_self
  exact .cons x u (intsAre_vals fun v hv=>h v (List.mem_cons_of_mem _ hv))
theorem sorted_intset {a:Addr} {ss:List Int} {Q:Value -> Shared -> Prop} (hh:A.handled = none) (hS:IsInts w s.heap a (ledW w) ss) (hb:ss.length < 64)
  (h:∀ (D:Addr) (h':Heap) (tk:Nat) (d:Drawn) (out:List Value) (ss':List Int) (e:Nat),(∀ b o,s.heap.get? b = some o -> h'.get? b = some o) -> s.heap.objs.size <= D -> h'.get? D = some (seqObj "list" out.toArray e) ->
   IntsAre out ss' -> ss'.Perm ss -> ss'.Pairwise (· <= ·) -> Q (.ref D) { s with heap:=h',toks:=tk,drawn:=d }):
  wpAny (model prog w) A (call (.builtin "sorted") [.ref a]) Q E s:=by
 refine Calls.call_function_entry kind_sorted plain_sorted entry_sorted (args_sorted1 _) ?_
 unfold Builtin.«sorted»
 refine wpAny_bind (m:=checkCount "sorted" 1 1 _) (wpAny_pure ?_)
 refine wpAny_bind (collect_ints (A:=A.in1) hh hS (by omega) fun h1 tk d vs more old hv hp=>?_)
 have hl:vs.length = ss.length:=by have:=hp.length_eq; simpa using this
 refine wpAny_bind (wpAny_newList ?_ (by rw [hl,sizeLine_eq]; omega))
 have hD:(h1.push (seqObj "list" vs.toArray 0)).get? h1.objs.size = some (seqObj "list" vs.toArray 0):=Heap.get?_push_size _ rfl
 have hSA:=intsAre_vals hv
 refine wpAny_bind (wpAny_holding (wpAny_call_entry slot_list_sort ⟨_,hD,rfl⟩ entry_list_sort (list_sort_tree hD hSA (by omega) fun out ns' a1 a2 a3=>⟨_,rfl,?_⟩) (args_list_sort _)))
 obtain ⟨e,he⟩:=sortedHeap_at (out:=out) hD
 refine wpAny_pure ⟨_,rfl,h _ _ tk d out.toList ns' e (fun b o q=>?_) ?_ (by rw [Array.toArray_toList]; exact he) a1 (a2.trans hp) a3⟩
 ·have hb1:=Heap.lt_size (old b o q)
  rw [sortedHeap_old (Nat.ne_of_lt hb1) (by rw [size_push']; exact Nat.lt_succ_of_lt hb1)]
  exact Heap.get?_push_of_some _ (old b o q)
 ·exact Nat.le_of_lt more
end
section
variable {X:Cx}
theorem ints_at:∀ {vs:List Value} {ys:List Int},IntsAre vs ys -> ∀ (i:Nat) (v:Value),vs[i]? = some v -> ∃ x t,ys[i]? = some x /\ v = .int x t
 | _,_,.nil,i,v,h=>by simp at h
 | _,_,.cons y t r,0,v,h=>by simp at h; exact ⟨y,t,rfl,h.symm⟩
 | _,_,.cons y t r,i + 1,v,h=>by simpa using ints_at r i v (by simpa using h)
noncomputable def cSortInts (K:Frag) (te:TE):TE:=fun σ H Q=>te σ H fun x H1=>match x with
 | .ref p=>∃ ns:List Int,SqL K H1 p (ns.map V.int) /\ ns.length < 64 /\ ∀ (q:Addr) (ms:List Int),H1 q = none -> (∀ n,n ∈ ms ↔ n ∈ ns) -> ms.length <= ns.length -> ms.Pairwise (· <= ·) -> ms.Nodup -> Q (.ref q) (upd H1 q (.lst (ms.map V.int)))
 | _=>False
theorem call_set_sortedI {K:Frag} (hK:X.K = K) (hc:X.calm = true) {pins:List (Addr × Obj)} {s:Shared} {σ:St} {H:Hp} {p:Addr} {ns:List Int} {Q:VK} (I:Inv X pins σ H s)
  (h:SqL K H p (ns.map V.int)) (h1:ns.length < 64) (q:∀ (q:Addr) (ms:List Int),H q = none -> (∀ n,n ∈ ms ↔ n ∈ ns) -> ms.length <= ns.length -> ms.Pairwise (· <= ·) -> ms.Nodup -> Q (.ref q) (upd H q (.lst (ms.map V.int)))):
  wpAny (model X.prog X.w) X.A (call (.type "set") [.ref p]) (fun v s1=>wpAny (model X.prog X.w) X.A (call (.builtin "sorted") [v]) (EP X pins σ Q) X.xe s1) X.xe s:=by
 subst hK
 obtain ⟨its,rv,pl,_⟩:=I.list h
 have hss:IntsAre its ns:=intsAre_of rv
 have hlen:its.length = ns.length:=by have:=rv.length; simpa using this.symm
 have e63:scanBound = 4096:=rfl
 refine tokQ I.tk (set_of_ints (items:=its.toArray) (ss:=ns) (I.ok.hd hc) pl.isList (by simp [hlen]) (fun i v hv=>ints_at hss i v (by simpa using hv)) (by simp only [List.size_toArray,hlen,e63]; omega) fun h' tk hS old (htk:0 < tk)=>?_)
 have I1:Inv X pins σ H { s with heap:=h',toks:=tk }:=I.kept old
 have hdl:=dI_len ns
 refine tokQ I1.tk (sorted_intset (s:={ s with heap:=h',toks:=tk }) (I.ok.hd hc) hS (by omega) fun D h2 tk2 d out ss' e old2 hD ho hso hp hsd (htk2:0 < tk2)=>?_)
 have hl2:ss'.length = (dI ns).length:=hp.length_eq
 have I2:=I1.laid (a:=D) (o:=.lst (ss'.map V.int)) (t':=tk2) old2 hD ⟨by rw [List.length_map,sizeLine_eq]; omega,out,e,vals_ints hso,ho⟩
 exact ⟨.ref D,_,I2.drew d,rfl,q D ss' (I1.hok.fresh hD) (fun n=>by rw [hp.mem_iff,dI_mem]) (by omega) hsd (hp.nodup_iff.mpr (dI_nodup ns))⟩
theorem qe_sortsetI {K:Frag} {e:Expr} {te:TE} {p p2 pos pos2:Pos} (hK:X.K = K) (hc:X.calm = true) (hg:Gl X "sorted") (hm:X.mg "sorted" = none) (hg2:Gl X "set") (hm2:X.mg "set" = none) (he:PE X e te)
  (hs:starEach [e] X.env = [(false,eval e X.env)]:=by rfl)
  (hs2:starEach [Expr.Call (.Name "set" p2) [e] [] pos2] X.env = [(false,eval (Expr.Call (.Name "set" p2) [e] [] pos2) X.env)]:=by rfl):
  PE X (.Call (.Name "sorted" p) [.Call (.Name "set" p2) [e] [] pos2] [] pos) (cSortInts K te):=by
 intro pins s σ H Q I h
 refine wpAny_Call_Name_kw (ld_blt I hg hm bb_sorted ?_ (by decide) (by decide))
 refine PyProof.Rows.callWith_builtin1 ?_ hs2 rfl
 rw [hs2]
 show wpAny _ _ (spliced [(false,eval (Expr.Call (.Name "set" p2) [e] [] pos2) X.env)]) _ _ s
 refine Calls.spliced_cons ?_
 refine wpAny_Call_Name_kw (ld_blt I hg2 hm2 bb_set ?_ (by decide) (by decide))
 refine PyProof.Rows.callWith_type1 ?_ hs rfl
 rw [hs]
 show wpAny _ _ (spliced [(false,eval e X.env)]) _ _ s
 refine Calls.spliced_cons (thn (he pins s σ H _ I h) fun u s1 ⟨x,H1,I1,r1,q1⟩=>Calls.spliced_nil ?_)
 match x,r1,q1 with
 | .ref p,rfl,⟨ls,a1,a2,a3⟩=>exact thn (call_set_sortedI hK hc I1 a1 a2 a3) fun v s2 q=>Calls.spliced_nil q
theorem a_cSortInts {K:Frag} {te:TE} {σ:St} {H:Hp} {Q:VK}:cSortInts K te σ H Q = te σ H fun x H1=>match x with
 | .ref p=>∃ ns:List Int,SqL K H1 p (ns.map V.int) /\ ns.length < 64 /\ ∀ (q:Addr) (ms:List Int),H1 q = none -> (∀ n,n ∈ ms ↔ n ∈ ns) -> ms.length <= ns.length -> ms.Pairwise (· <= ·) -> ms.Nodup -> Q (.ref q) (upd H1 q (.lst (ms.map V.int)))
 | _=>False:=rfl
end
section
variable {prog:Program} {w:World} {A:Around} {E:Value -> Shared -> Prop} {s:Shared}
theorem nextOf_tup {it:Addr} {Q:Value -> Shared -> Prop} (ty:s.TypeIs (.ref it) "tuple_iterator")
  (q:wpAny (model prog w) A.in1 (Builtin.«tuple_iterator.__next__» ⟨[.ref it],[]⟩) (fun fin s'=>∃ v,fin = .done (.ret v) /\ Q v s') E s):wpAny (model prog w) A (Builtin.SmallTypes.nextOf (.ref it)) Q E s:=by
 have sl:=F.slot_tuple_iterator_next
 unfold Builtin.SmallTypes.nextOf
 refine wpAny_bind (wpAny_callSpecial?_slot (name:=Str.ofString "__next__") ty sl (wpAny_call_entry sl ty F.entry_tuple_iterator_next (wpAny_mono q (fun fin s' ⟨v,e,z⟩=>⟨v,e,wpAny_pure z⟩) fun _ _ z=>z) (F.args_tuple_iterator_next_1 _)))
theorem nextOf_tup_item {it t:Addr} {i:Nat} {ys:Array Value} {x:Value} {Q:Value -> Shared -> Prop} (st:s.heap.IsTupleIter it t i) (tu:s.heap.IsTuple t ys) (e:ys[i]? = some x)
  (q:∀ h',h'.IsTupleIter it t (i + 1) -> Heap.SameBut it s.heap h' -> Q x { s with heap:=h' }):wpAny (model prog w) A (Builtin.SmallTypes.nextOf (.ref it)) Q E s:=by
 apply nextOf_tup st.typeIs
 obtain ⟨ob,g1,g2,g3⟩:=st
 obtain ⟨tb,k1,_,kn,k2⟩:=tu
 change wpAny _ _ (field (.ref it) 0 >>= _) _ _ _
 apply wpAny_bind
 apply wpAny_field g1 g3 (x:=.ref t) rfl
 have nn:(Value.ref t == Value.none) = false:=rfl
 simp only [nn,Bool.false_eq_true,if_false]
 apply wpAny_bind
 apply wpAny_field g1 g3 (x:=.int i 0) rfl
 apply wpAny_bind
 apply wpAny_seqItems k1 k2
 simp only [Int.toNat_natCast,e]
 apply wpAny_bind
 apply wpAny_setField g1 g3 (by simp)
 apply wpAny_pure
 refine ⟨x,rfl,q _ ⟨_,Heap.get?_update_self _ g1 (Obj.isFreed_of_fields (Obj.data_mapFields g3 _)),(Obj.cls_mapFields ..).trans g2,?_⟩ (Heap.SameBut.update ..)⟩
 rw [Obj.data_mapFields g3]
 simp [rawInt]
theorem nextOf_tup_end {it t:Addr} {i:Nat} {ys:Array Value} {Q:Value -> Shared -> Prop} (hh:A.handled = none) (st:s.heap.IsTupleIter it t i) (tu:s.heap.IsTuple t ys) (e:ys[i]? = none)
  (q:∀ h' e,Heap.ExtBut it s.heap h' -> (∃ o,h'.get? e = some o /\ o.cls = .type "StopIteration") -> E (.ref e) { s with heap:=h' }):wpAny (model prog w) A (Builtin.SmallTypes.nextOf (.ref it)) Q E s:=by
 apply nextOf_tup st.typeIs
 obtain ⟨ob,g1,g2,g3⟩:=st
 obtain ⟨tb,k1,_,kn,k2⟩:=tu
 change wpAny _ _ (field (.ref it) 0 >>= _) _ _ _
 apply wpAny_bind
 apply wpAny_field g1 g3 (x:=.ref t) rfl
 have nn:(Value.ref t == Value.none) = false:=rfl
 simp only [nn,Bool.false_eq_true,if_false]
 apply wpAny_bind
 apply wpAny_field g1 g3 (x:=.int i 0) rfl
 apply wpAny_bind
 apply wpAny_seqItems k1 k2
 simp only [Int.toNat_natCast,e]
 apply wpAny_bind
 apply wpAny_rule
 apply wpAny_bind
 apply wpAny_setField g1 g3 (by simp)
 have hh1:A.in1.handled = none:=hh
 exact raise_stop hh1 fun h2 x k c=>q h2 x (fun b o nb z=>k b o ((Heap.SameBut.update s.heap it _).extBut b o nb z)) c
end
def TGo (H:Hp) (a:Addr) (i:Nat):Prop:=∃ xs v,H a = some (.tup xs) /\ xs[i]? = some v
def TAt (H:Hp) (a:Addr) (i:Nat) (v:V):Prop:=∀ xs,H a = some (.tup xs) -> xs[i]? = some v
def TEnd (H:Hp) (a:Addr) (i:Nat):Prop:=∃ xs,H a = some (.tup xs) /\ xs.length <= i
theorem tupIt_obj {h:Heap} {a it:Addr} {i:Nat} (st:h.IsTupleIter it a i):∃ o,h.get? it = some o /\ (∀ v,o.data ≠ .cell v) /\ o.cls ≠ .type "list" /\ o.cls ≠ .type "zip" /\ o.cls ≠ .type "tuple" := by
 obtain ⟨o,e,c,d⟩:=st
 refine ⟨o,e,(fun v z=>by rw [d] at z; cases z),?_⟩
 rw [c]
 decide
section
variable {X:Cx} {pins:List (Addr × Obj)} {σ:St} {H:Hp} {s:Shared} {A:Around}
theorem tup_nx (I:Inv X pins σ H s) {a it:Addr} {i:Nat} (st:s.heap.IsTupleIter it a i) (go:TGo H a i):
  ∃ (f:List Addr) (Sa Sb:Heap -> Prop) (P:Value -> Prop),Nx X.prog X.w A it f Sa Sb P /\ Sa s.heap /\ (∀ c ∈ f,c = it \/ ((∃ o,s.heap.get? c = some o /\ o.cls = .type "tuple") /\ H c ≠ none)) /\ (∀ h,Sb h -> h.IsTupleIter it a (i + 1)) /\ ∀ v,P v -> ∃ x,RelV x v /\ TAt H a i x:=by
 obtain ⟨xs,v,hq,hv⟩:=go
 obtain ⟨its,rv,pl,hz⟩:=I.tuple (SqT.of hq)
 obtain ⟨u,hu,ru⟩:=rv.get hv
 have pl:s.heap.IsTuple a its.toArray:=pl
 obtain ⟨o,e,c,n,hd⟩:=id pl
 have hne:a ≠ it:=by
  rintro rfl
  obtain ⟨o',e',c',_⟩:=st
  rw [e] at e'
  cases e'
  rw [c] at c'
  exact absurd c' (by decide)
 refine ⟨[it,a],fun h=>h.IsTupleIter it a i /\ h.IsTuple a its.toArray,fun h=>h.IsTupleIter it a (i + 1) /\ h.IsTuple a its.toArray,fun z=>z = u,⟨?_,?_,?_⟩,⟨st,pl⟩,?_,fun h q=>q.1,?_⟩
 ·rintro h h' ⟨⟨o1,s1,r1⟩,⟨o2,s2,r2⟩⟩ k
  exact ⟨⟨o1,k it (by simp) o1 s1,r1⟩,⟨o2,k a (by simp) o2 s2,r2⟩⟩
 ·rintro h h' ⟨⟨o1,s1,r1⟩,⟨o2,s2,r2⟩⟩ k
  exact ⟨⟨o1,k it (by simp) o1 s1,r1⟩,⟨o2,k a (by simp) o2 s2,r2⟩⟩
 ·intro s Q E st hQ
  exact nextOf_tup_item st.1 st.2 (x:=u) (by simpa using hu) fun h' st' sb=>hQ _ h' s.toks rfl ⟨st',st.2.extBut sb.extBut hne⟩ sb
 ·intro c' hc
  rcases (by simpa using hc:c' = it \/ c' = a) with z | z
  ·exact .inl z
  ·subst z
   exact .inr ⟨⟨o,e,c⟩,by rw [hq]; simp⟩
 ·rintro z rfl
  exact ⟨v,ru,fun ys hy=>by rw [hq] at hy; cases hy; exact hv⟩
theorem tup_nd (I:Inv X pins σ H s) (hh:A.handled = none) {a it:Addr} {i:Nat} (st:s.heap.IsTupleIter it a i) (en:TEnd H a i):
  ∃ (f:List Addr) (Sa:Heap -> Prop),Nd X.prog X.w A it f Sa /\ Sa s.heap /\ (∀ c ∈ f,c = it \/ ((∃ o,s.heap.get? c = some o /\ o.cls = .type "tuple") /\ H c ≠ none)):=by
 obtain ⟨xs,hq,hv⟩:=en
 obtain ⟨its,rv,pl,hz⟩:=I.tuple (SqT.of hq)
 have pl:s.heap.IsTuple a its.toArray:=pl
 obtain ⟨o,e,c,n,hd⟩:=id pl
 have hl:=rv.length
 refine ⟨[it,a],fun h=>h.IsTupleIter it a i /\ h.IsTuple a its.toArray,⟨?_,?_⟩,⟨st,pl⟩,?_⟩
 ·rintro h h' ⟨⟨o1,s1,r1⟩,⟨o2,s2,r2⟩⟩ k
  exact ⟨⟨o1,k it (by simp) o1 s1,r1⟩,⟨o2,k a (by simp) o2 s2,r2⟩⟩
 ·intro s Q E st hE
  exact nextOf_tup_end hh st.1 st.2 (by simp; omega) hE
 ·intro c' hc
  rcases (by simpa using hc:c' = it \/ c' = a) with z | z
  ·exact .inl z
  ·subst z
   exact .inr ⟨⟨o,e,c⟩,by rw [hq]; simp⟩
end
noncomputable def ItzT (a b:Addr):It:=⟨fun i H=>TGo H a i /\ TGo H b i,fun i H v H'=>∃ T x y,v = .ref T /\ H T = none /\ H' = upd H T (.tup [x,y]) /\ TAt H a i x /\ TAt H b i y,
 fun i H=>TEnd H a i \/ (TGo H a i /\ TEnd H b i)⟩
def ZipTt (z TI TO i1 i2:Addr) (S1 S2:Addr) (i:Nat) (h:Heap):Prop:=∃ a b,IsZip h z TI TO .none /\ IsPair h TI (.ref i1) (.ref i2) /\ IsPair h TO a b /\ h.IsTupleIter i1 S1 i /\ h.IsTupleIter i2 S2 i
theorem off_ofT {H:Hp} {h:Heap} {f:List Addr} {z TI TO i1 i2:Addr} {S2:Addr} {k:Nat} (hTn:H TO = none) (hz:IsZip h z TI TO .none) (h2:h.IsTupleIter i2 S2 k) (n1:i1 ≠ z) (n2:i1 ≠ TO) (n3:i1 ≠ i2)
  (m:∀ c ∈ f,c = i1 \/ ((∃ o,h.get? c = some o /\ o.cls = .type "tuple") /\ H c ≠ none)):∀ c ∈ f,c ≠ z /\ c ≠ TO /\ c ≠ i2:=fun c hc=>by
 rcases m c hc with e | ⟨⟨o,e,c1⟩,hn⟩
 ·subst e
  exact ⟨n1,n2,n3⟩
 ·refine ⟨?_,?_,?_⟩
  ·rintro rfl
   rw [hz] at e
   cases e
   exact absurd (show Value.type "zip" = Value.type "tuple" from c1) (by decide)
  ·rintro rfl
   exact hn hTn
  ·rintro rfl
   obtain ⟨o',e',_,_,_,q⟩:=tupIt_obj h2
   rw [e] at e'
   cases e'
   exact q c1
theorem turn_zipT {P:Program} {w:World} {K:Frag} {elts:List Expr} {kk:Nat} {pos:Pos} {z TI TO i1 i2:Addr} (D:ZAp z TI TO i1 i2) (S1 S2:Addr):
  Turn P w K (.Tuple elts kk pos) (ItzT S1 S2) [z,TI,TO,i1,i2] z (ZipTt z TI TO i1 i2 S1 S2) where
 mem:=by simp
 obj:=fun i h st b hb=>by
  obtain ⟨a,c,hz,hTI,hTO,h1,h2⟩:=st
  simp only [List.mem_cons,List.not_mem_nil,or_false] at hb
  rcases hb with rfl | rfl | rfl | rfl | rfl
  ·exact ⟨_,hz,fun v q=>by have q':Data.fields _ = Data.cell v:=q; cases q'⟩
  ·exact ⟨_,hTI,fun v q=>by have q':Data.seq _ _ = Data.cell v:=q; cases q'⟩
  ·exact ⟨_,hTO,fun v q=>by have q':Data.seq _ _ = Data.cell v:=q; cases q'⟩
  ·obtain ⟨o,e,q,_⟩:=(tupIt_obj h1)
   exact ⟨o,e,q⟩
  ·obtain ⟨o,e,q,_⟩:=(tupIt_obj h2)
   exact ⟨o,e,q⟩
 keep:=fun i h h' st k=>by
  obtain ⟨a,c,hz,hTI,hTO,h1,h2⟩:=st
  exact ⟨a,c,k z (by simp) _ hz,k TI (by simp) _ hTI,k TO (by simp) _ hTO,h1.at fun o e=>k i1 (by simp) o e,h2.at fun o e=>k i2 (by simp) o e⟩
 item:=by
  intro X hP hw hK hc i pins s σ H E I hf st hg
  subst hP hw hK
  obtain ⟨a,b,hz,hTI,hTO,h1,h2⟩:=st
  have hTn:H TO = none:=(hf TO (by simp)).1
  obtain ⟨g1,g2⟩:=hg
  obtain ⟨f1,Sa,Sb,P1,n1,a1,m1,b1,r1⟩:=tup_nx (A:=X.A.in1) I h1 g1
  obtain ⟨f2,Sc,Sd,P2,n2,a2,m2,b2,r2⟩:=tup_nx (A:=X.A.in1) I h2 g2
  refine tokQ I.tk (pyNext_zip_item hz rfl (zip_next_itemN D n1 n2 (off_ofT hTn hz h2 D.i1z D.TOi1.symm D.i12 m1) (off_ofT hTn hz h1 D.i2z D.TOi2.symm D.i12.symm m2) hz hTI hTO a1 a2 fun x y h' tk p1 p2 z1 z2 q1 q2 z3 z4 kp (htk:0 < tk)=>?_))
  obtain ⟨vx,rx,ax⟩:=r1 x p1
  obtain ⟨vy,ry,ay⟩:=r2 y p2
  have fresh:H s.heap.objs.size = none:=I.hok.fresh (Nat.le_refl _)
  have off:∀ {c o},s.heap.get? c = some o -> c ≠ s.heap.objs.size:=fun e=>Nat.ne_of_lt (Heap.lt_size e)
  refine ⟨_,rfl,wpAny_letOwnedTupleGo_zip z1 fun h'' z1' sb=>?_⟩
  replace sb:Heap.SameBut z h' h'':=sb
  have hT:IsPair h'' s.heap.objs.size x y:=sb.extBut _ _ (Ne.symm (off hz)) z3
  have I1:Inv X pins σ (upd H s.heap.objs.size (.tup [vx,vy])) { s with heap:=h'',toks:=tk }:=by
   refine I.turnedLaid (its:=[z,TO,i1,i2]) (fun c o hc' e=>?_) (fun c hc'=>hf c ?_) (Nat.le_refl _) ?_
   ·simp only [List.mem_cons,List.not_mem_nil,or_false,not_or] at hc'
    exact sb.extBut _ _ hc'.1 (kp c o hc'.1 hc'.2.1 hc'.2.2.1 hc'.2.2.2 e)
   ·simp only [List.mem_cons,List.not_mem_nil,or_false] at hc' ⊢
    rcases hc' with q | q | q | q
    ·exact .inl q
    ·exact .inr (.inr (.inl q))
    ·exact .inr (.inr (.inr (.inl q)))
    ·exact .inr (.inr (.inr (.inr q)))
   ·exact ⟨by show 2 <= sizeLine; decide,[x,y],.cons rx (.cons ry .nil),_,hT,rfl,_,rfl⟩
  refine ⟨.ref s.heap.objs.size,_,I1,rfl,⟨_,vx,vy,rfl,fresh,rfl,ax,ay⟩,⟨x,y,z1',?_,?_,?_,?_⟩,fun c hc'=>?_⟩
  ·exact sb.extBut _ _ D.TIz (kp _ _ D.TIz D.TITO D.TIi1 D.TIi2 hTI)
  ·exact sb.extBut _ _ D.TOz z2
  ·exact (b1 h' q1).at fun o e=>sb.extBut _ _ D.i1z e
  ·exact (b2 h' q2).at fun o e=>sb.extBut _ _ D.i2z e
  ·have ne:c ≠ s.heap.objs.size:=by
    simp only [List.mem_cons,List.not_mem_nil,or_false] at hc'
    rcases hc' with rfl | rfl | rfl | rfl | rfl
    ·exact off hz
    ·exact off hTI
    ·exact off hTO
    ·obtain ⟨o,e,_⟩:=(tupIt_obj h1)
     exact off e
    ·obtain ⟨o,e,_⟩:=(tupIt_obj h2)
     exact off e
   rw [upd_ne ne]
   exact (hf c hc').1
 done:=by
  intro X hP hw hK hc i pins s σ H E I hf st hg
  subst hP hw hK
  obtain ⟨a,b,hz,hTI,hTO,h1,h2⟩:=st
  have hTn:H TO = none:=(hf TO (by simp)).1
  have hh:X.A.in1.handled = none:=I.ok.hd hc
  have fin:∀ (h':Heap) (tk:Nat),0 < tk -> (∀ c o,c ≠ z -> c ≠ TO -> c ≠ i1 -> c ≠ i2 -> s.heap.get? c = some o -> h'.get? c = some o) -> Inv X pins σ H { s with heap:=h',toks:=tk }:=fun h' tk htk kp=>
   I.turnedL (its:=[z,TO,i1,i2]) (fun c o hc' e=>by
    simp only [List.mem_cons,List.not_mem_nil,or_false,not_or] at hc'
    exact kp c o hc'.1 hc'.2.1 hc'.2.2.1 hc'.2.2.2 e) (fun c hc'=>hf c (by
    simp only [List.mem_cons,List.not_mem_nil,or_false] at hc' ⊢
    rcases hc' with q | q | q | q
    ·exact .inl q
    ·exact .inr (.inr (.inl q))
    ·exact .inr (.inr (.inr (.inl q)))
    ·exact .inr (.inr (.inr (.inr q)))))
  rcases hg with e1 | ⟨g1,e2⟩
  ·obtain ⟨f1,Sa,n1,a1,m1⟩:=tup_nd I hh h1 e1
   exact tokQ I.tk (pyNext_zip_end hz rfl (zip_next_end1 D n1 (off_ofT hTn hz h2 D.i1z D.TOi1.symm D.i12 m1) hz hTI a1 fun h' e tk kp he=>⟨e,rfl,he,fun htk=>⟨rfl,fin h' tk htk kp⟩⟩))
  ·obtain ⟨f1,Sa,Sb,P1,n1,a1,m1,b1,r1⟩:=tup_nx (A:=X.A.in1) I h1 g1
   obtain ⟨f2,Sc,n2,a2,m2⟩:=tup_nd I hh h2 e2
   exact tokQ I.tk (pyNext_zip_end hz rfl (zip_next_end2 D n1 n2 (off_ofT hTn hz h2 D.i1z D.TOi1.symm D.i12 m1) (off_ofT hTn hz h1 D.i2z D.TOi2.symm D.i12.symm m2) hz hTI hTO a1 a2 fun h' e tk kp he=>⟨e,rfl,he,fun htk=>⟨rfl,fin h' tk htk kp⟩⟩))
 self:=fun _ _ _ _ _ st h=>by
  obtain ⟨a,b,hz,_⟩:=st
  exact wpAny_pyIter_zip hz h
noncomputable abbrev tupIt0 (a:Addr):Obj:={ cls:=.type "tuple_iterator",data:=.fields #[.ref a,.int 0 0] }
noncomputable abbrev yH1 (h:Heap) (a:Addr):Heap:=h.push (tupIt0 a)
noncomputable abbrev yH2 (h:Heap) (a b:Addr):Heap:=(yH1 h a).push (tupIt0 b)
noncomputable abbrev yH3 (h:Heap) (a b:Addr):Heap:=(yH2 h a b).push { cls:=.type "tuple",data:=.seq #[.ref h.objs.size,.ref (yH1 h a).objs.size] }
noncomputable abbrev yH4 (h:Heap) (a b:Addr):Heap:=(yH3 h a b).push { cls:=.type "tuple",data:=.seq #[.none,.none] }
noncomputable abbrev yH5 (h:Heap) (a b:Addr):Heap:=(yH4 h a b).push { cls:=.type "zip",data:=.fields #[.none,.bool false,.bool false,.ref (yH2 h a b).objs.size,.ref (yH3 h a b).objs.size] }
theorem meets_zip_newT (a b:Addr):
  Meets (Builtin.«zip.__new__» ⟨[.type "zip",.ref a,.ref b],[]⟩) (fun _ R s=>(∃ x,s.heap.IsTuple a x) /\ (∃ x,s.heap.IsTuple b x) /\
   R (.ok (.ret (.ref (yH4 s.heap a b).objs.size))) { s with heap:=yH5 s.heap a b }):=
 .of_wp fun prog w A R s h=>by
  obtain ⟨hp,g,d,tk,os⟩:=s; obtain ⟨⟨x1,hl1⟩,⟨x2,hl2⟩,h⟩:=h
  have hsub:=sub_zip
  have hL1:Heap.IsTuple (Shared.heap ⟨hp,g,d,tk,os⟩) a x1:=hl1
  have hL2:Heap.IsTuple (Shared.heap ⟨hp.push (tupIt0 a),g,d,tk,os⟩) b x2:=hl2.push _
  wp_walk using wpAny_pyIter_tuple hL1,wpAny_pyIter_tuple hL2
  exact ⟨_,rfl,h⟩
section
variable {prog:Program} {w:World} {A:Around} {E:Value -> Shared -> Prop} {s:Shared}
theorem call_zipT {a b:Addr} {Q:Value -> Shared -> Prop} (hl1:∃ x,s.heap.IsTuple a x) (hl2:∃ x,s.heap.IsTuple b x)
  (h:∀ h',ZipTt (s.heap.objs.size + 4) (s.heap.objs.size + 2) (s.heap.objs.size + 3) s.heap.objs.size (s.heap.objs.size + 1) a b 0 h' -> (∀ c o,s.heap.get? c = some o -> h'.get? c = some o) -> Q (.ref (s.heap.objs.size + 4)) { s with heap:=h' }):
  wpAny (model prog w) A (call (.type "zip") [.ref a,.ref b]) Q E s:=by
 refine callType_new F.called_zip (by decide) (F.typeCall_zip_2 _ _) (F.newCall_zip_2 _ _) (fun obj=>F.args_object_init_3 obj _ _) F.entry_zip_new
  (meets_zip_newT a b) ⟨hl1,hl2,?_⟩
 have z1:(yH1 s.heap a).objs.size = s.heap.objs.size + 1:=Heap.size_push ..
 have z2:(yH2 s.heap a b).objs.size = s.heap.objs.size + 2:=by rw [Heap.size_push,z1]
 have z3:(yH3 s.heap a b).objs.size = s.heap.objs.size + 3:=by rw [Heap.size_push,z2]
 have z4:(yH4 s.heap a b).objs.size = s.heap.objs.size + 4:=by rw [Heap.size_push,z3]
 have g5:(yH5 s.heap a b).get? (yH4 s.heap a b).objs.size = some _:=Heap.get?_push_size _ rfl
 have g4:(yH5 s.heap a b).get? (yH3 s.heap a b).objs.size = some _:=Heap.get?_push_of_some _ (Heap.get?_push_size _ rfl)
 have g3:(yH5 s.heap a b).get? (yH2 s.heap a b).objs.size = some _:=Heap.get?_push_of_some _ (Heap.get?_push_of_some _ (Heap.get?_push_size _ rfl))
 have g2:(yH5 s.heap a b).get? (yH1 s.heap a).objs.size = some (tupIt0 b):=Heap.get?_push_of_some _ (Heap.get?_push_of_some _ (Heap.get?_push_of_some _ (Heap.get?_push_size _ rfl)))
 have g1:(yH5 s.heap a b).get? s.heap.objs.size = some (tupIt0 a):=Heap.get?_push_of_some _ (Heap.get?_push_of_some _ (Heap.get?_push_of_some _ (Heap.get?_push_of_some _ (Heap.get?_push_size _ rfl))))
 show _ /\ _
 rw [z2,z3,z4] at g5
 rw [z1,z2] at g3
 rw [z3] at g4
 rw [z1] at g2
 rw [z4]
 exact ⟨⟨_,g5,rfl⟩,h _ ⟨_,_,g5,g3,g4,⟨_,g1,rfl,rfl⟩,⟨_,g2,rfl,rfl⟩⟩ fun c o x=>
  Heap.get?_push_of_some _ (Heap.get?_push_of_some _ (Heap.get?_push_of_some _ (Heap.get?_push_of_some _ (Heap.get?_push_of_some _ x))))⟩
end
section
variable {X:Cx}
noncomputable def cZipA (K:Frag) (ta tb:TE):TI:=fun σ H R=>ta σ H fun x H1=>tb σ H1 fun y H2=>(srcK K H2 x fun S1=>srcK K H2 y fun S2=>R (Itz K S1 S2) H2) \/ ∃ a b,x = .ref a /\ y = .ref b /\ (∃ xs,H2 a = some (.tup xs)) /\ (∃ xs,H2 b = some (.tup xs)) /\ R (ItzT a b) H2
theorem qi_zipA {a b:Expr} {ta tb:TE} {elts:List Expr} {kk:Nat} {tpos p pos:Pos} {K:Frag} (hK:X.K = K) (hg:Gl X "zip") (hm:X.mg "zip" = none) (ha:PE X a ta) (hb:PE X b tb) (hs:starEach [a,b] X.env = [(false,eval a X.env),(false,eval b X.env)]:=by rfl) (hs2:starEach [b] X.env = [(false,eval b X.env)]:=by rfl):
  PI X (.Tuple elts kk tpos) (.Call (.Name "zip" p) [a,b] [] pos) (cZipA K ta tb):=by
 subst hK
 intro pins s σ H R I h
 have hA:PA X [a,b] _:=pa_cons ha.mono (pa_cons hb.mono pa_nil hs2) (by rw [hs,hs2])
 refine Call_ (ld_blt I hg hm boot_zip (PyProof.Rows.callWith_type1 (thn (hA pos pins s σ H (fun vs H2=>∃ x y,vs = [x,y] /\ ((srcK X.K H2 x fun S1=>srcK X.K H2 y fun S2=>R (Itz X.K S1 S2) H2) \/ ∃ a b,x = .ref a /\ y = .ref b /\ (∃ xs,H2 a = some (.tup xs)) /\ (∃ xs,H2 b = some (.tup xs)) /\ R (ItzT a b) H2)) I ⟨_,h,fun x H1 z=>⟨_,z,fun y H2 z=>⟨x,y,rfl,z⟩⟩⟩) fun us s1 ⟨vs,H1,I1,r1,q1⟩=>?_) (by rw [hs,hs2]) (by rw [hs2]; rfl)))
 obtain ⟨v1,v2,e,q⟩:=q1
 subst e
 cases r1 with
 | cons r rr=>
  cases rr with
  | cons r' rr=>
   cases rr
   have fp:∀ c ∈ [s1.heap.objs.size + 4,s1.heap.objs.size + 2,s1.heap.objs.size + 3,s1.heap.objs.size,s1.heap.objs.size + 1],FpOk X pins H1 c:=fun c hc=>by
    have hc':s1.heap.objs.size <= c:=by
     simp only [List.mem_cons,List.not_mem_nil,or_false] at hc
     rcases hc with rfl | rfl | rfl | rfl | rfl <;> omega
    exact I1.fpOk hc' (I1.hok.fresh hc')
   rcases q with q | ⟨a1,b1,rfl,rfl,⟨xs,e1⟩,⟨ys,e2⟩,q⟩
   ·obtain ⟨S1,o1,q⟩:=srcK_ex q
    obtain ⟨S2,o2,q⟩:=srcK_ex q
    obtain ⟨t1,rfl,k1⟩:=srcOf_val I1 o1 r
    obtain ⟨t2,rfl,k2⟩:=srcOf_val I1 o2 r'
    refine call_zipS k1 k2 fun h' st kp=>?_
    have st':=st
    obtain ⟨_,_,hz,_⟩:=st'
    exact wpAny_pyIter_zip hz ⟨_,_,_,Itz X.K S1 S2,H1,rfl,I1.kept (t':=s1.toks) kp,turn_zip (zap_new _) S1 S2,st,fp,q⟩
   ·cases r
    cases r'
    obtain ⟨_,_,p1,_⟩:=I1.tuple (SqT.of e1)
    obtain ⟨_,_,p2,_⟩:=I1.tuple (SqT.of e2)
    refine call_zipT ⟨_,p1⟩ ⟨_,p2⟩ fun h' st kp=>?_
    have st':=st
    obtain ⟨_,_,hz,_⟩:=st'
    exact wpAny_pyIter_zip hz ⟨_,_,_,ItzT a1 b1,H1,rfl,I1.kept (t':=s1.toks) kp,turn_zipT (zap_new _) a1 b1,st,fp,q⟩
theorem a_cZipA {K:Frag} {ta tb:TE} {σ:St} {H:Hp} {R:It -> Hp -> Prop}:cZipA K ta tb σ H R = ta σ H fun x H1=>tb σ H1 fun y H2=>(srcK K H2 x fun S1=>srcK K H2 y fun S2=>R (Itz K S1 S2) H2) \/ ∃ a b,x = .ref a /\ y = .ref b /\ (∃ xs,H2 a = some (.tup xs)) /\ (∃ xs,H2 b = some (.tup xs)) /\ R (ItzT a b) H2:=rfl
end
theorem bb_all:bootBuiltins "all" = some (.builtin "all"):=by decide +kernel
section
variable {K:Frag} {J:It} {g:TG} {tc:TT} {te:TE} {σc:St} {D:Addr} {Q:VK} {H:Hp}
theorem comp_genD {α:Type} (xs:List α) (R:α -> V -> Hp -> Prop) (hfree:H D = none) (hn:xs.length <= 100000) (hgo:∀ i H1,i < xs.length -> Same H H1 -> J.go i H1) (hst:∀ H1,Same H H1 -> J.stop xs.length H1)
  (hy:∀ i H1 v H2,i < xs.length -> J.yld i H1 v H2 -> Same H1 H2)
  (mono:∀ x v H1 H2 acc,H1 D = some (.lst acc) -> (∀ b o,b ≠ D -> H1 b = some o -> H2 b = some o) -> R x v H1 -> R x v H2)
  (hs:∀ i x v H1 H2 (out:VK) (non:Hp -> Prop),xs[i]? = some x -> Same H H1 -> (∀ b,H1 b = none -> b ≠ D) -> J.yld i H1 v H2 -> (∀ v H6,Same H2 H6 -> R x v H6 -> out v H6) ->
   g v σc H2 fun σ4 H4=>tc σ4 H4 fun b H5=>if b = true then te σ4 H5 out else non H5)
  (hq:∀ H' vs,Same H H' -> H' D = some (.lst vs) -> Paired (fun x v=>R x v H') xs vs -> Q (.ref D) H'):compW J g tc te σc D Q H:=by
 refine ⟨fun i m acc H2=>m = xs.length - i /\ i <= xs.length /\ Paired (fun x v=>R x v H2) (xs.take i) acc /\ Same H H2 /\ H2 D = some (.lst acc),⟨xs.length,by simp,Nat.zero_le _,.nil,same_new hfree _,upd_same⟩,?_⟩
 rintro i m acc H2 ⟨rfl,hi,pr,sm,hD⟩
 have len:acc.length <= i:=by
  have a:=pr.length
  rw [List.length_take] at a
  omega
 by_cases hlt:i < xs.length
 ·refine .inr ⟨hgo i H2 hlt sm,fun x H3 y=>?_⟩
  have s3:=hy i H2 x H3 hlt y
  have hD3:=s3 _ _ hD
  refine hs i xs[i] x _ _ _ _ (List.getElem?_eq_getElem hlt) sm (fun b hb z=>by rw [z,hD] at hb; cases hb) y fun v H6 s6 r=>?_
  refine ⟨s6 _ _ hD3,Nat.lt_of_le_of_lt len (sizeBig (by omega)),xs.length - (i + 1),by omega,rfl,hlt,?_,same_upd (sm.trans (s3.trans s6)) hfree,upd_same⟩
  rw [List.take_add_one,List.getElem?_eq_getElem hlt]
  have lift:∀ {l:List α} {vs:List V} {z:α} {u:V} {F G:α -> V -> Prop},(∀ a b,F a b -> G a b) -> Paired F l vs -> G z u -> Paired G (l ++ [z]) (vs ++ [u]):=by
   intro l vs z u F G f pp r
   induction pp with
   | nil=>exact .cons r .nil
   | cons r' _ ih=>exact .cons (f _ _ r') ih
  exact lift (fun _ _ r'=>mono _ _ H2 _ acc hD (fun b o nb q=>by rw [upd_ne nb]; exact s6 _ _ (s3 _ _ q)) r') pr (mono _ _ H6 _ acc (s6 _ _ hD3) (fun b o nb q=>by rw [upd_ne nb]; exact q) r)
 ·have hi':i = xs.length:=by omega
  subst hi'
  rw [List.take_length] at pr
  exact .inl ⟨hst H2 sm,hq H2 acc sm hD pr⟩
end
section
variable {X:Cx} {o e:Expr} {to te:TE} {apos cpos:Pos}
noncomputable def cExtend (to te:TE):TE:=fun σ H Q=>to σ H fun x H1=>match x with
 | .ref l=>(∃ xs,H1 l = some (.lst xs)) /\ te σ H1 fun y H2=>match y with
  | .ref b=>∃ xs zs,H2 l = some (.lst xs) /\ H2 b = some (.lst zs) /\ xs.length + zs.length <= sizeLine /\ Q .non (upd H2 l (.lst (xs ++ zs)))
  | _=>False
 | _=>False
theorem qe_extend (ho:PE X o to) (he:PE X e te) (hbase:attributeBase o "extend" X.env (eval o X.env) = eval o X.env:=by rfl)
  (hfew:((backTo cpos (starEach [e] X.env)).all (fun x=>!x.1) && (backToKw cpos (keywordEach [] X.env)).all (fun x=>x.1.isSome) && decide ([e].length + ([]:List Keyword).length + (if ([]:List Keyword).isEmpty then 0 else 1) < 30)) = true:=by rfl)
  (hline:(apos.endLine == cpos.line) = true:=by rfl) (hs:starEach [e] X.env = (false,eval e X.env) :: starEach [] X.env:=by rfl) (hplain:(backTo cpos (starEach [] X.env)).any (·.1) = false:=by rfl):
  PE X (.Call (.Attribute o "extend" apos) [e] [] cpos) (cExtend to te):=
 (pe_bm PySem.F.plainAttrs_list PySem.F.slot_list_extend PySem.F.type_list_extend mt_extend ho.mono (pa_cons he.mono pa_nil hs) hbase hfew hline hs hplain).imp fun σ H Q q=>⟨_,q,fun x H1 z=>by
  split at z
  ·rename_i l
   obtain ⟨⟨xs,h⟩,z⟩:=z
   refine ⟨.inl ⟨rfl,_,SqL.of h⟩,_,z,fun y H2 z2=>?_⟩
   split at z2
   ·obtain ⟨xs2,zs,h2,h3,h4,z3⟩:=z2
    exact ⟨l,_,xs2,zs,rfl,rfl,h2,h3,h4,z3⟩
   ·exact z2.elim
  ·exact z.elim⟩
theorem a_cExtend {σ:St} {H:Hp} {Q:VK}:cExtend to te σ H Q = to σ H fun x H1=>match x with
 | .ref l=>(∃ xs,H1 l = some (.lst xs)) /\ te σ H1 fun y H2=>match y with
  | .ref b=>∃ xs zs,H2 l = some (.lst xs) /\ H2 b = some (.lst zs) /\ xs.length + zs.length <= sizeLine /\ Q .non (upd H2 l (.lst (xs ++ zs)))
  | _=>False
 | _=>False:=rfl
end
end L2
namespace L2
open PySem PyProof.Rows
section
variable {α:Type} {le:α -> α -> Prop}
def Srt (le:α -> α -> Prop) (l:List α):Prop:=l.Pairwise le
structure MInv (le:α -> α -> Prop) (A B out:List α) (ia ib:Nat):Prop where
 ha:ia <= A.length
 hb:ib <= B.length
 srt:Srt le out
 low:∀ x ∈ out,(∀ y ∈ A.drop ia,le x y) /\ ∀ y ∈ B.drop ib,le x y
 perm:(out ++ (A.drop ia ++ B.drop ib)).Perm (A ++ B)
theorem MInv.len {A B out:List α} {ia ib:Nat} (m:MInv le A B out ia ib):out.length = ia + ib:=by
 have:=m.perm.length_eq
 simp only [List.length_append,List.length_drop] at this
 have:=m.ha
 have:=m.hb
 omega
theorem MInv.swap {A B out:List α} {ia ib:Nat} (m:MInv le A B out ia ib):MInv le B A out ib ia:=
 ⟨m.hb,m.ha,m.srt,fun x hx=>⟨(m.low x hx).2,(m.low x hx).1⟩,((List.perm_append_comm.append_left out).trans m.perm).trans List.perm_append_comm⟩
theorem MInv.start {A B:List α}:MInv le A B [] 0 0:=⟨Nat.zero_le _,Nat.zero_le _,List.Pairwise.nil,fun x hx=>absurd hx List.not_mem_nil,by simp⟩
theorem srt_drop {A:List α} (h:Srt le A) (i:Nat):Srt le (A.drop i):=h.sublist (List.drop_sublist i A)
theorem MInv.as {A B out:List α} {ia ib:Nat} (m:MInv le A B out ia ib) (hA:Srt le A) (k:Nat) (hk:ia + k <= A.length) (h:∀ x ∈ (A.drop ia).take k,∀ y ∈ B.drop ib,le x y):MInv le A B (out ++ (A.drop ia).take k) (ia + k) ib:=by
 have hA':=srt_drop hA ia
 have e:A.drop ia = (A.drop ia).take k ++ A.drop (ia + k):=by rw [<- List.drop_drop,List.take_append_drop]
 have hA'':=hA'
 unfold Srt at hA''
 rw [e,List.pairwise_append] at hA''
 refine ⟨hk,m.hb,List.pairwise_append.mpr ⟨m.srt,hA''.1,fun x hx y hy=>(m.low x hx).1 y (List.mem_of_mem_take hy)⟩,fun x hx=>?_,?_⟩
 ·rcases List.mem_append.mp hx with hx | hx
  ·exact ⟨fun y hy=>(m.low x hx).1 y (by rw [e]; exact List.mem_append_right _ hy),(m.low x hx).2⟩
  ·exact ⟨fun y hy=>hA''.2.2 x hx y hy,h x hx⟩
 ·have:=m.perm
  rw [e] at this
  simpa using this
theorem MInv.bs {A B out:List α} {ia ib:Nat} (m:MInv le A B out ia ib) (hB:Srt le B) (k:Nat) (hk:ib + k <= B.length) (h:∀ x ∈ (B.drop ib).take k,∀ y ∈ A.drop ia,le x y):MInv le A B (out ++ (B.drop ib).take k) ia (ib + k):=
 (m.swap.as hB k hk h).swap
theorem drop_take1 {A:List α} {i:Nat} {x:α} (h:A[i]? = some x):(A.drop i).take 1 = [x]:=by
 obtain ⟨hl,rfl⟩:=List.getElem?_eq_some_iff.mp h
 rw [List.drop_eq_getElem_cons hl]
 rfl
theorem MInv.a1 {A B out:List α} {ia ib:Nat} {x:α} (m:MInv le A B out ia ib) (hA:Srt le A) (hx:A[ia]? = some x) (h:∀ y ∈ B.drop ib,le x y):MInv le A B (out ++ [x]) (ia + 1) ib:=by
 have:=m.as hA 1 (by have:=(List.getElem?_eq_some_iff.mp hx).1; omega) (by rw [drop_take1 hx]; intro z hz; rw [List.mem_singleton.mp hz]; exact h)
 rwa [drop_take1 hx] at this
theorem MInv.b1 {A B out:List α} {ia ib:Nat} {x:α} (m:MInv le A B out ia ib) (hB:Srt le B) (hx:B[ib]? = some x) (h:∀ y ∈ A.drop ia,le x y):MInv le A B (out ++ [x]) ia (ib + 1):=
 (m.swap.a1 hB hx h).swap
def Merged (le:α -> α -> Prop) (A B l:List α):Prop:=Srt le l /\ l.Perm (A ++ B)
theorem MInv.done {A B out:List α} {ia ib:Nat} (m:MInv le A B out ia ib) (hA:Srt le A) (hB:Srt le B) (h:ia = A.length \/ ib = B.length):Merged le A B (out ++ A.drop ia ++ B.drop ib):=by
 refine ⟨?_,by rw [List.append_assoc]; exact m.perm⟩
 rcases h with h | h
 ·rw [h,List.drop_length,List.append_nil]
  exact List.pairwise_append.mpr ⟨m.srt,srt_drop hB _,fun x hx y hy=>(m.low x hx).2 y hy⟩
 ·rw [h,List.drop_length,List.append_nil]
  exact List.pairwise_append.mpr ⟨m.srt,srt_drop hA _,fun x hx y hy=>(m.low x hx).1 y hy⟩
theorem MInv.last {A B out:List α} {ia ib:Nat} (m:MInv le A B out ia ib) (hA:Srt le A) (hB:Srt le B) (h:∀ x ∈ B,∀ y ∈ A.drop ia,le x y):Merged le A B (out ++ B.drop ib ++ A.drop ia):=by
 refine ⟨List.pairwise_append.mpr ⟨List.pairwise_append.mpr ⟨m.srt,srt_drop hB _,fun x hx y hy=>(m.low x hx).2 y hy⟩,srt_drop hA _,fun x hx y hy=>?_⟩,?_⟩
 ·rcases List.mem_append.mp hx with hx | hx
  ·exact (m.low x hx).1 y hy
  ·exact h x (List.mem_of_mem_drop hx) y hy
 ·rw [List.append_assoc]
  exact (List.perm_append_comm.append_left out).trans m.perm
end
section
variable {α:Type} {le:α -> α -> Prop}
structure HInv (le:α -> α -> Prop) (A B out:List α) (na nb:Nat):Prop where
 ha:na <= A.length
 hb:nb <= B.length
 srt:Srt le out.reverse
 low:∀ x ∈ out,(∀ y ∈ A.take na,le y x) /\ ∀ y ∈ B.take nb,le y x
 perm:(A.take na ++ B.take nb ++ out).Perm (A ++ B)
theorem HInv.len {A B out:List α} {na nb:Nat} (m:HInv le A B out na nb):na + nb + out.length = A.length + B.length:=by
 have:=m.perm.length_eq
 simp only [List.length_append,List.length_take] at this
 have:=m.ha
 have:=m.hb
 omega
theorem HInv.swap {A B out:List α} {na nb:Nat} (m:HInv le A B out na nb):HInv le B A out nb na:=
 ⟨m.hb,m.ha,m.srt,fun x hx=>⟨(m.low x hx).2,(m.low x hx).1⟩,((List.perm_append_comm.append_right out).trans m.perm).trans List.perm_append_comm⟩
theorem HInv.start {A B:List α}:HInv le A B [] A.length B.length:=⟨Nat.le_refl _,Nat.le_refl _,List.Pairwise.nil,fun x hx=>absurd hx List.not_mem_nil,by simp⟩
theorem srt_take {A:List α} (h:Srt le A) (i:Nat):Srt le (A.take i):=h.sublist (List.take_sublist i A)
theorem HInv.as {A B out:List α} {na nb:Nat} (m:HInv le A B out na nb) (hA:Srt le A) (k:Nat) (hk:k <= na) (h:∀ x ∈ (A.take na).drop k,∀ y ∈ B.take nb,le y x):HInv le A B (out ++ ((A.take na).drop k).reverse) k nb:=by
 have e:A.take na = A.take k ++ (A.take na).drop k:=by
  conv=>lhs; rw [<- List.take_append_drop k (A.take na),List.take_take,Nat.min_eq_left hk]
 have hA':=srt_take hA na
 unfold Srt at hA'
 rw [e,List.pairwise_append] at hA'
 refine ⟨Nat.le_trans hk m.ha,m.hb,?_,fun x hx=>?_,?_⟩
 ·unfold Srt
  rw [List.reverse_append,List.reverse_reverse]
  refine List.pairwise_append.mpr ⟨hA'.2.1,m.srt,fun x hx y hy=>(m.low y (List.mem_reverse.mp hy)).1 x (List.mem_of_mem_drop hx)⟩
 ·rcases List.mem_append.mp hx with hx | hx
  ·exact ⟨fun y hy=>(m.low x hx).1 y (by rw [e]; exact List.mem_append_left _ hy),(m.low x hx).2⟩
  ·have hx:=List.mem_reverse.mp hx
   exact ⟨fun y hy=>hA'.2.2 y hy x hx,h x hx⟩
 ·refine List.Perm.trans ?_ m.perm
  generalize (A.take na).drop k = d at e
  rw [e]
  refine List.Perm.trans (l₂:=A.take k ++ (d ++ (B.take nb ++ out))) ?_ (by simp)
  rw [List.append_assoc]
  refine List.Perm.append_left _ ?_
  refine List.Perm.trans (l₂:=B.take nb ++ (d ++ out)) (List.Perm.append_left _ (List.perm_append_comm.trans ((List.reverse_perm d).append_right out))) ?_
  rw [<- List.append_assoc,<- List.append_assoc]
  exact List.perm_append_comm.append_right out
theorem HInv.bs {A B out:List α} {na nb:Nat} (m:HInv le A B out na nb) (hB:Srt le B) (k:Nat) (hk:k <= nb) (h:∀ x ∈ (B.take nb).drop k,∀ y ∈ A.take na,le y x):HInv le A B (out ++ ((B.take nb).drop k).reverse) na k:=
 (m.swap.as hB k hk h).swap
theorem take_drop1 {A:List α} {i:Nat} {x:α} (h:A[i]? = some x):(A.take (i + 1)).drop i = [x]:=by
 obtain ⟨hl,rfl⟩:=List.getElem?_eq_some_iff.mp h
 rw [List.take_succ_eq_append_getElem hl,List.drop_left' (by rw [List.length_take]; omega)]
theorem HInv.a1 {A B out:List α} {na nb:Nat} {x:α} (m:HInv le A B out (na + 1) nb) (hA:Srt le A) (hx:A[na]? = some x) (h:∀ y ∈ B.take nb,le y x):HInv le A B (out ++ [x]) na nb:=by
 have:=m.as hA na (by omega) (by rw [take_drop1 hx]; intro z hz; rw [List.mem_singleton.mp hz]; exact h)
 rwa [take_drop1 hx,List.reverse_singleton] at this
theorem HInv.b1 {A B out:List α} {na nb:Nat} {x:α} (m:HInv le A B out na (nb + 1)) (hB:Srt le B) (hx:B[nb]? = some x) (h:∀ y ∈ A.take na,le y x):HInv le A B (out ++ [x]) na nb:=
 (m.swap.a1 hB hx h).swap
theorem HInv.done {A B out:List α} {na nb:Nat} (m:HInv le A B out na nb) (hA:Srt le A) (hB:Srt le B) (h:na = 0 \/ nb = 0):Merged le A B (A.take na ++ B.take nb ++ out.reverse):=by
 refine ⟨?_,((List.reverse_perm out).append_left _).trans m.perm⟩
 rcases h with h | h
 ·rw [h,List.take_zero,List.nil_append]
  exact List.pairwise_append.mpr ⟨srt_take hB _,m.srt,fun x hx y hy=>(m.low y (List.mem_reverse.mp hy)).2 x hx⟩
 ·rw [h,List.take_zero,List.append_nil]
  exact List.pairwise_append.mpr ⟨srt_take hA _,m.srt,fun x hx y hy=>(m.low y (List.mem_reverse.mp hy)).1 x hx⟩
theorem HInv.first {A B out:List α} {na nb:Nat} (m:HInv le A B out na nb) (hA:Srt le A) (hB:Srt le B) (h:∀ x ∈ B.take nb,∀ y ∈ A,le x y):Merged le A B (B.take nb ++ A.take na ++ out.reverse):=by
 refine ⟨List.pairwise_append.mpr ⟨List.pairwise_append.mpr ⟨srt_take hB _,srt_take hA _,fun x hx y hy=>h x hx y (List.mem_of_mem_take hy)⟩,m.srt,fun x hx y hy=>?_⟩,?_⟩
 ·rcases List.mem_append.mp hx with hx | hx
  ·exact (m.low y (List.mem_reverse.mp hy)).2 x hx
  ·exact (m.low y (List.mem_reverse.mp hy)).1 x hx
 ·exact ((List.reverse_perm out).append_left _).trans ((List.perm_append_comm.append_right out).trans m.perm)
end
section
variable {prog:Program} {w:World} {A:Around} {E:Value -> Shared -> Prop} {s:Shared}
def CmpBy (prog:Program) (w:World) (A:Around) (E:Value -> Shared -> Prop) (s:Shared) (kd:SortKind) (S:Keyed -> Prop) (b:Keyed -> Keyed -> Bool):Prop:=
 ∀ (x y:Keyed) (st:SortSt) (Q:Option Bool -> SortSt -> Prop),S x -> S y -> kindOf st = kd -> Q (some (b x y)) st -> wpS (model prog w) A E s (lt' x y) Q st
abbrev At2 (st:SortSt) (P:Nat -> Nat -> Prop) (c:Option (Option Nat) × Nat × Nat) (st':SortSt):Prop:=st' = st /\ ∃ l o,c = (none,l,o) /\ P l o
@[elab_as_elim] theorem At2.el {st:SortSt} {P:Nat -> Nat -> Prop} {motive:Option (Option Nat) × Nat × Nat -> SortSt -> Prop} {c:Option (Option Nat) × Nat × Nat} {st':SortSt} (h:At2 st P c st') (k:∀ l o,P l o -> motive (none,l,o) st):motive c st':=by
 obtain ⟨rfl,l,o,rfl,h⟩:=h
 exact k l o h
end
structure SameSt (st st':SortSt):Prop where
 k:kindOf st' = kindOf st
 a:arrOf st' = arrOf st
 p:pendingOf st' = pendingOf st
 f:failedOf st' = failedOf st
theorem SameSt.refl (st:SortSt):SameSt st st:=⟨rfl,rfl,rfl,rfl⟩
theorem SameSt.trans {a b c:SortSt} (h:SameSt a b) (k:SameSt b c):SameSt a c:=⟨k.k.trans h.k,k.a.trans h.a,k.p.trans h.p,k.f.trans h.f⟩
structure LtOk (lt:Keyed -> Keyed -> Bool):Prop where
 rf:∀ x,lt x x = false
 tr:∀ x y z,lt y x = false -> lt z y = false -> lt z x = false
 as:∀ x y,lt x y = true -> lt y x = false
noncomputable abbrev leB (lt:Keyed -> Keyed -> Bool):Keyed -> Keyed -> Prop:=fun x y=>lt y x = false
section
variable {prog:Program} {w:World} {A:Around} {E:Value -> Shared -> Prop} {s:Shared}
theorem wp_elem {arr:Array Keyed} {i:Nat} {x:Keyed} {st:SortSt} {Q:Keyed -> SortSt -> Prop} (h:arr[i]? = some x) (q:Q x st):wpS (model prog w) A E s (elem' arr i) Q st:=by
 rw [elem'_eq,h]
 exact wpS_pure q
theorem at_arr {arr:Array Keyed} {i:Nat} (h:i < arr.size):∃ x,arr[i]? = some x /\ arr.toList[i]? = some x /\ x ∈ arr.toList:=
 ⟨arr[i],getElem?_pos arr i h,by rw [Array.getElem?_toList]; exact getElem?_pos arr i h,by simp⟩
abbrev Lo0 (lt:Keyed -> Keyed -> Bool) (a b:Array Keyed) (n:Nat) (c:Option (Array Keyed) × Array Keyed × Nat × Nat × Nat):Prop:=∃ out ia ib g,c = (none,out,ia,ib,g) /\ MInv (leB lt) a.toList b.toList out.toList ia ib /\ ia + 1 < a.size /\ ib < b.size /\ n < ia + ib
@[elab_as_elim] theorem Lo0.el {lt:Keyed -> Keyed -> Bool} {a b:Array Keyed} {n:Nat} {motive:Option (Array Keyed) × Array Keyed × Nat × Nat × Nat -> Prop} {c:Option (Array Keyed) × Array Keyed × Nat × Nat × Nat} (h:Lo0 lt a b n c) (k:∀ out ia ib g,MInv (leB lt) a.toList b.toList out.toList ia ib -> ia + 1 < a.size -> ib < b.size -> n < ia + ib -> motive (none,out,ia,ib,g)):motive c:=by
 obtain ⟨out,ia,ib,g,rfl,h1,h2,h3,h4⟩:=h
 exact k _ _ _ _ h1 h2 h3 h4
abbrev Lo1 (lt:Keyed -> Keyed -> Bool) (a b:Array Keyed) (n:Nat) (c:Option (Array Keyed) × Array Keyed × Nat × Nat × Nat × Nat):Prop:=∃ out ia ib ac bc,c = (none,out,ia,ib,ac,bc) /\ MInv (leB lt) a.toList b.toList out.toList ia ib /\ ia + 1 < a.size /\ ib < b.size /\ n <= ia + ib
@[elab_as_elim] theorem Lo1.el {lt:Keyed -> Keyed -> Bool} {a b:Array Keyed} {n:Nat} {motive:Option (Array Keyed) × Array Keyed × Nat × Nat × Nat × Nat -> Prop} {c:Option (Array Keyed) × Array Keyed × Nat × Nat × Nat × Nat} (h:Lo1 lt a b n c) (k:∀ out ia ib ac bc,MInv (leB lt) a.toList b.toList out.toList ia ib -> ia + 1 < a.size -> ib < b.size -> n <= ia + ib -> motive (none,out,ia,ib,ac,bc)):motive c:=by
 obtain ⟨out,ia,ib,ac,bc,rfl,h1,h2,h3,h4⟩:=h
 exact k _ _ _ _ _ h1 h2 h3 h4
abbrev Lo2 (lt:Keyed -> Keyed -> Bool) (a b:Array Keyed) (n:Nat) (c:Option (Array Keyed) × Array Keyed × Nat × Nat × Nat × Nat × Nat):Prop:=∃ out ia ib g ac bc,c = (none,out,ia,ib,g,ac,bc) /\ MInv (leB lt) a.toList b.toList out.toList ia ib /\ ia + 1 < a.size /\ ib < b.size /\ n <= ia + ib
@[elab_as_elim] theorem Lo2.el {lt:Keyed -> Keyed -> Bool} {a b:Array Keyed} {n:Nat} {motive:Option (Array Keyed) × Array Keyed × Nat × Nat × Nat × Nat × Nat -> Prop} {c:Option (Array Keyed) × Array Keyed × Nat × Nat × Nat × Nat × Nat} (h:Lo2 lt a b n c) (k:∀ out ia ib g ac bc,MInv (leB lt) a.toList b.toList out.toList ia ib -> ia + 1 < a.size -> ib < b.size -> n <= ia + ib -> motive (none,out,ia,ib,g,ac,bc)):motive c:=by
 obtain ⟨out,ia,ib,g,ac,bc,rfl,h1,h2,h3,h4⟩:=h
 exact k _ _ _ _ _ _ h1 h2 h3 h4
end
section
variable {prog:Program} {w:World} {A:Around} {E:Value -> Shared -> Prop} {s:Shared}
abbrev Hi0 (lt:Keyed -> Keyed -> Bool) (a b:Array Keyed) (x n:Nat) (c:Option (Array Keyed) × Nat × Nat × Array Keyed × Nat):Prop:=∃ na nb out g,c = (none,na,nb,out,g) /\ HInv (leB lt) a.toList b.toList out.toList na nb /\ 0 < na /\ 1 < nb /\ na + nb + x < n
@[elab_as_elim] theorem Hi0.el {lt:Keyed -> Keyed -> Bool} {a b:Array Keyed} {x n:Nat} {motive:Option (Array Keyed) × Nat × Nat × Array Keyed × Nat -> Prop} {c:Option (Array Keyed) × Nat × Nat × Array Keyed × Nat} (h:Hi0 lt a b x n c) (k:∀ na nb out g,HInv (leB lt) a.toList b.toList out.toList na nb -> 0 < na -> 1 < nb -> na + nb + x < n -> motive (none,na,nb,out,g)):motive c:=by
 obtain ⟨na,nb,out,g,rfl,h1,h2,h3,h4⟩:=h
 exact k _ _ _ _ h1 h2 h3 h4
abbrev Hi1 (lt:Keyed -> Keyed -> Bool) (a b:Array Keyed) (x n:Nat) (c:Option (Array Keyed) × Nat × Nat × Array Keyed × Nat × Nat):Prop:=∃ na nb out ac bc,c = (none,na,nb,out,ac,bc) /\ HInv (leB lt) a.toList b.toList out.toList na nb /\ 0 < na /\ 1 < nb /\ na + nb + x <= n
@[elab_as_elim] theorem Hi1.el {lt:Keyed -> Keyed -> Bool} {a b:Array Keyed} {x n:Nat} {motive:Option (Array Keyed) × Nat × Nat × Array Keyed × Nat × Nat -> Prop} {c:Option (Array Keyed) × Nat × Nat × Array Keyed × Nat × Nat} (h:Hi1 lt a b x n c) (k:∀ na nb out ac bc,HInv (leB lt) a.toList b.toList out.toList na nb -> 0 < na -> 1 < nb -> na + nb + x <= n -> motive (none,na,nb,out,ac,bc)):motive c:=by
 obtain ⟨na,nb,out,ac,bc,rfl,h1,h2,h3,h4⟩:=h
 exact k _ _ _ _ _ h1 h2 h3 h4
abbrev Hi2 (lt:Keyed -> Keyed -> Bool) (a b:Array Keyed) (x n:Nat) (c:Option (Array Keyed) × Nat × Nat × Array Keyed × Nat × Nat × Nat):Prop:=∃ na nb out g ac bc,c = (none,na,nb,out,g,ac,bc) /\ HInv (leB lt) a.toList b.toList out.toList na nb /\ 0 < na /\ 1 < nb /\ na + nb + x <= n
@[elab_as_elim] theorem Hi2.el {lt:Keyed -> Keyed -> Bool} {a b:Array Keyed} {x n:Nat} {motive:Option (Array Keyed) × Nat × Nat × Array Keyed × Nat × Nat × Nat -> Prop} {c:Option (Array Keyed) × Nat × Nat × Array Keyed × Nat × Nat × Nat} (h:Hi2 lt a b x n c) (k:∀ na nb out g ac bc,HInv (leB lt) a.toList b.toList out.toList na nb -> 0 < na -> 1 < nb -> na + nb + x <= n -> motive (none,na,nb,out,g,ac,bc)):motive c:=by
 obtain ⟨na,nb,out,g,ac,bc,rfl,h1,h2,h3,h4⟩:=h
 exact k _ _ _ _ _ _ h1 h2 h3 h4
end
def countRunX:Nat -> Nat -> StateT SortSt Sem (Option Nat):=sortPriv% PySem.Builtin.countRun
def binarySortX:Nat -> Nat -> Nat -> StateT SortSt Sem Bool:=sortPriv% PySem.Builtin.binarySort
def Apart (lt:Keyed -> Keyed -> Bool) (l:List Keyed):Prop:=l.Pairwise fun x y=>lt x y = true \/ lt y x = true
structure LocSt (kd:SortKind) (S:Keyed -> Prop) (lt:Keyed -> Keyed -> Bool) (lo:Nat) (a₀:Array Keyed) (st₀ st:SortSt):Prop where
 k:kindOf st = kd
 f:failedOf st = failedOf st₀
 p:pendingOf st = pendingOf st₀
 perm:(arrOf st).toList.Perm a₀.toList
 pre:∀ i:Nat,i < lo -> (arrOf st)[i]? = a₀[i]?
 s:∀ x ∈ a₀.toList,S x
 d:Apart lt a₀.toList
theorem LocSt.size {kd:SortKind} {S:Keyed -> Prop} {lt:Keyed -> Keyed -> Bool} {lo:Nat} {a₀:Array Keyed} {st₀ st:SortSt} (h:LocSt kd S lt lo a₀ st₀ st):(arrOf st).size = a₀.size:=by
 have:=h.perm.length_eq
 simpa using this
theorem LocSt.at_ {kd:SortKind} {S:Keyed -> Prop} {lt:Keyed -> Keyed -> Bool} {lo:Nat} {a₀:Array Keyed} {st₀ st:SortSt} (h:LocSt kd S lt lo a₀ st₀ st) {i:Nat} (hi:i < a₀.size):∃ x,(arrOf st)[i]? = some x /\ S x:=by
 obtain ⟨x,h1,_,h3⟩:=at_arr (show i < (arrOf st).size by rw [h.size]; exact hi)
 exact ⟨x,h1,h.s x (h.perm.mem_iff.mp h3)⟩
theorem LocSt.apart {kd:SortKind} {S:Keyed -> Prop} {lt:Keyed -> Keyed -> Bool} {lo:Nat} {a₀:Array Keyed} {st₀ st:SortSt} (h:LocSt kd S lt lo a₀ st₀ st) {i j:Nat} {x y:Keyed} (hij:i ≠ j) (hx:(arrOf st)[i]? = some x) (hy:(arrOf st)[j]? = some y):lt x y = true \/ lt y x = true:=by
 have hd:Apart lt (arrOf st).toList:=(h.perm.pairwise_iff (fun {a b} (q:lt a b = true \/ lt b a = true)=>q.symm)).mpr h.d
 rw [<- Array.getElem?_toList] at hx hy
 obtain ⟨hi,rfl⟩:=List.getElem?_eq_some_iff.mp hx
 obtain ⟨hj,rfl⟩:=List.getElem?_eq_some_iff.mp hy
 rcases Nat.lt_or_gt_of_ne hij with q | q
 ·exact List.pairwise_iff_getElem.mp hd i j hi hj q
 ·exact (List.pairwise_iff_getElem.mp hd j i hj hi q).symm
theorem LocSt.set {kd:SortKind} {S:Keyed -> Prop} {lt:Keyed -> Keyed -> Bool} {lo:Nat} {a₀:Array Keyed} {st₀ st:SortSt} (h:LocSt kd S lt lo a₀ st₀ st) {xs:Array Keyed} (hp:xs.Perm (arrOf st)) (hl:∀ i:Nat,i < lo -> xs[i]? = (arrOf st)[i]?):LocSt kd S lt lo a₀ st₀ (setArr st xs):=
 ⟨h.k,h.f,h.p,(Array.perm_iff_toList_perm.mp hp).trans h.perm,fun i hi=>(hl i hi).trans (h.pre i hi),h.s,h.d⟩
def UpIn (lt:Keyed -> Keyed -> Bool) (xs:Array Keyed) (lo n:Nat):Prop:=∀ (i j:Nat) (x y:Keyed),lo <= i -> i <= j -> j < lo + n -> xs[i]? = some x -> xs[j]? = some y -> lt y x = false
def DownIn (lt:Keyed -> Keyed -> Bool) (xs:Array Keyed) (lo n:Nat):Prop:=∀ (i j:Nat) (x y:Keyed),lo <= i -> i < j -> j < lo + n -> xs[i]? = some x -> xs[j]? = some y -> lt y x = true
theorem up_snoc {lt:Keyed -> Keyed -> Bool} (hL:LtOk lt) {xs:Array Keyed} {lo n:Nat} (h:UpIn lt xs lo n) (h1:1 <= n) {u v:Keyed} (hu:xs[lo + n - 1]? = some u) (hv:xs[lo + n]? = some v) (e:lt v u = false):UpIn lt xs lo (n + 1):=fun i j x y hi hij hj hx hy=>by
 by_cases hjn:j < lo + n
 ·exact h i j x y hi hij hjn hx hy
 ·obtain rfl:j = lo + n:=by omega
  rw [hv] at hy
  cases hy
  by_cases hin:i = lo + n
  ·rw [hin,hv] at hx
   cases hx
   exact hL.rf _
  ·exact hL.tr _ _ _ (h i (lo + n - 1) x u hi (by omega) (by omega) hx hu) e
theorem down_snoc {lt:Keyed -> Keyed -> Bool} (hL:LtOk lt) {xs:Array Keyed} {lo n:Nat} (h:DownIn lt xs lo n) (h1:1 <= n) {u v:Keyed} (hu:xs[lo + n - 1]? = some u) (hv:xs[lo + n]? = some v) (e:lt v u = true):DownIn lt xs lo (n + 1):=fun i j x y hi hij hj hx hy=>by
 by_cases hjn:j < lo + n
 ·exact h i j x y hi hij hjn hx hy
 ·obtain rfl:j = lo + n:=by omega
  rw [hv] at hy
  cases hy
  by_cases hin:i = lo + n - 1
  ·rw [hin,hu] at hx
   cases hx
   exact e
  ·have q:=h i (lo + n - 1) x u hi (by omega) (by omega) hx hu
   cases r:lt v x
   ·have:=hL.tr x v u r (hL.as _ _ e)
    rw [q] at this
    cases this
   ·rfl
theorem up_one {lt:Keyed -> Keyed -> Bool} (hL:LtOk lt) {xs:Array Keyed} {lo:Nat}:UpIn lt xs lo 1:=fun i j x y hi hij hj hx hy=>by
 obtain rfl:i = j:=by omega
 rw [hx] at hy
 cases hy
 exact hL.rf _
section
variable {prog:Program} {w:World} {A:Around} {E:Value -> Shared -> Prop} {s:Shared}
theorem wp_ltAt {kd:SortKind} {S:Keyed -> Prop} {lt:Keyed -> Keyed -> Bool} (hC:CmpBy prog w A E s kd S lt) {lo:Nat} {a₀:Array Keyed} {st₀ st:SortSt} (h:LocSt kd S lt lo a₀ st₀ st) {i j:Nat} {Q:Option Bool -> SortSt -> Prop} (hi:i < a₀.size) (hj:j < a₀.size)
  (q:∀ x y,(arrOf st)[i]? = some x -> (arrOf st)[j]? = some y -> Q (some (lt x y)) st):wpS (model prog w) A E s (ltAt' i j) Q st:=by
 obtain ⟨x,hx,sx⟩:=h.at_ hi
 obtain ⟨y,hy,sy⟩:=h.at_ hj
 rw [ltAt'_eq]
 refine wpS_bind (wpS_get ?_)
 exact wpS_bind (wp_elem hx (wpS_bind (wp_elem hy (hC x y _ _ sx sy h.k (q x y hx hy)))))
theorem wp_countRun {kd:SortKind} {S:Keyed -> Prop} {lt:Keyed -> Keyed -> Bool} (hC:CmpBy prog w A E s kd S lt) (hL:LtOk lt) {lo nrem:Nat} {a₀:Array Keyed} {st₀ st:SortSt} {Q:Option Nat -> SortSt -> Prop} (h:LocSt kd S lt lo a₀ st₀ st) (h1:1 <= nrem) (hn:lo + nrem <= a₀.size)
  (q:∀ n st',LocSt kd S lt lo a₀ st₀ st' -> 1 <= n -> n <= nrem -> UpIn lt (arrOf st') lo n -> Q (some n) st'):wpS (model prog w) A E s (countRunX lo nrem) Q st:=by
 unfold countRunX
 refine wpS_bind (wpS_mono (wpS_forRange (I:=fun x c st'=>st' = st /\ c = (none,x) /\ UpIn lt (arrOf st) lo x)
  (Q:=fun c st'=>st' = st /\ ∃ n,c = (none,n) /\ 1 <= n /\ n <= nrem /\ UpIn lt (arrOf st) lo n /\ (n = nrem \/ ∀ x y,(arrOf st)[lo + n]? = some x -> (arrOf st)[lo + n - 1]? = some y -> lt x y = true)) ?step ?fin ⟨rfl,rfl,up_one hL⟩) ?post)
 case fin=>
  rintro c st' ⟨rfl,rfl,hu⟩
  rw [show max 1 nrem = nrem by omega] at hu ⊢
  exact ⟨rfl,nrem,rfl,h1,Nat.le_refl _,hu,.inl rfl⟩
 case step=>
  rintro x c st' hx1 hx ⟨rfl,rfl,hu⟩
  dsimp only
  refine wpS_bind (wp_ltAt hC h (by omega) (by omega) fun u v hu' hv'=>?_)
  cases e:lt u v
  ·simp only [Bool.false_eq_true,if_false]
   exact wpS_pure ⟨rfl,rfl,up_snoc hL hu hx1 hv' hu' e⟩
  ·simp only [if_true]
   refine wpS_pure ⟨rfl,x,rfl,hx1,by omega,hu,.inr fun a b ha hb=>?_⟩
   rw [hu'] at ha
   rw [hv'] at hb
   cases ha
   cases hb
   exact e
 case post=>
  rintro c st' ⟨rfl,n,rfl,n1,n2,hu,hor⟩
  dsimp only
  by_cases c1:(n == nrem) = true
  ·rw [if_pos c1]
   exact wpS_pure (q n st' h n1 n2 hu)
  rw [if_neg c1]
  have c1':¬ n = nrem:=by simpa using c1
  have hlt:=hor.resolve_left c1'
  by_cases c2:n > 1
  ·rw [if_pos c2]
   refine wpS_bind (wp_ltAt hC h (by omega) (by omega) fun u v hu' hv'=>?_)
   have:lt u v = true:=by
    rcases h.apart (show lo ≠ lo + n - 1 by omega) hu' hv' with r | r
    ·exact r
    ·rw [hu lo (lo + n - 1) u v (Nat.le_refl _) (by omega) (by omega) hu' hv'] at r
     cases r
   rw [this]
   simp only [if_true]
   exact wpS_pure (q n st' h n1 n2 hu)
  ·rw [if_neg c2]
   obtain rfl:n = 1:=by omega
   refine wpS_bind (wpS_lift (wpAny_rule ⟨rfl,?_⟩))
   have d2:DownIn lt (arrOf st') lo (1 + 1):=fun i j x y hi hij hj hx hy=>by
    obtain rfl:i = lo:=by omega
    obtain rfl:j = i + 1:=by omega
    exact hlt y x hy (by rw [Nat.add_sub_cancel]; exact hx)
   refine wpS_bind (wpS_mono (wpS_forRange (I:=fun x c st''=>st'' = st' /\ c = (none,x,0) /\ DownIn lt (arrOf st') lo x)
    (Q:=fun c st''=>st'' = st' /\ ∃ n,c = (none,n,0) /\ 2 <= n /\ n <= nrem /\ DownIn lt (arrOf st') lo n) ?dstep ?dfin ⟨rfl,rfl,d2⟩) ?dpost)
   case dfin=>
    rintro c st'' ⟨rfl,rfl,hd⟩
    rw [show max (1 + 1) nrem = nrem by omega] at hd ⊢
    exact ⟨rfl,nrem,rfl,by omega,Nat.le_refl _,hd⟩
   case dstep=>
    rintro x c st'' hx1 hx ⟨rfl,rfl,hd⟩
    dsimp only
    refine wpS_bind (wp_ltAt hC h (by omega) (by omega) fun u v hu' hv'=>?_)
    cases e:lt u v
    ·simp only [Bool.false_eq_true,if_false]
     refine wpS_bind (wp_ltAt hC h (by omega) (by omega) fun u2 v2 hu2 hv2=>?_)
     have:lt u2 v2 = true:=by
      rw [hv'] at hu2
      rw [hu'] at hv2
      cases hu2
      cases hv2
      rcases h.apart (show lo + x ≠ lo + x - 1 by omega) hu' hv' with r | r
      ·rw [e] at r
       cases r
      ·exact r
     rw [this]
     simp only [if_true]
     exact wpS_pure ⟨rfl,x,rfl,by omega,by omega,hd⟩
    ·simp only [if_true]
     rw [if_neg (Nat.lt_irrefl 0)]
     exact wpS_pure ⟨rfl,rfl,down_snoc hL hd (by omega) hv' hu' e⟩
   case dpost=>
    rintro c st'' ⟨rfl,n,rfl,m1,m2,hd⟩
    dsimp only
    rw [if_neg (Nat.lt_irrefl 0)]
    refine wpS_bind (wpS_reverse ?_)
    have hsz:lo + n <= (arrOf st'').size:=by rw [h.size]; omega
    have h':LocSt kd S lt lo a₀ st₀ (setArr st'' (mirror (arrOf st'') lo (lo + n) ((lo + n - lo) / 2))):=h.set (mirror_perm _ _ _ _) fun i hi=>by rw [getElem?_mirror_all hsz,if_neg (by omega)]
    have hup:UpIn lt (mirror (arrOf st'') lo (lo + n) ((lo + n - lo) / 2)) lo n:=fun i j x y hi hij hj hx hy=>by
     rw [getElem?_mirror_all hsz,if_pos (by omega)] at hx hy
     by_cases e:i = j
     ·rw [e,hy] at hx
      cases hx
      exact hL.rf _
     ·exact hL.as _ _ (hd _ _ y x (by omega) (by omega) (by omega) hy hx)
    have hup:UpIn lt (arrOf (setArr st'' (mirror (arrOf st'') lo (lo + n) ((lo + n - lo) / 2)))) lo n:=hup
    generalize setArr st'' (mirror (arrOf st'') lo (lo + n) ((lo + n - lo) / 2)) = st3 at h' hup
    refine wpS_bind (wpS_mono (wpS_forRange (I:=fun x c st4=>st4 = st3 /\ c = (none,x) /\ UpIn lt (arrOf st3) lo x)
     (Q:=fun c st4=>st4 = st3 /\ ∃ n,c = (none,n) /\ 1 <= n /\ n <= nrem /\ UpIn lt (arrOf st3) lo n) ?estep ?efin ⟨rfl,rfl,hup⟩) ?epost)
    case efin=>
     rintro c st4 ⟨rfl,rfl,hu⟩
     rw [show max n nrem = nrem by omega] at hu ⊢
     exact ⟨rfl,nrem,rfl,h1,Nat.le_refl _,hu⟩
    case estep=>
     rintro x c st4 hx1 hx ⟨rfl,rfl,hu⟩
     dsimp only
     refine wpS_bind (wp_ltAt hC h' (by omega) (by omega) fun u v hu' hv'=>?_)
     cases e:lt u v
     ·simp only [Bool.false_eq_true,if_false]
      exact wpS_pure ⟨rfl,rfl,up_snoc hL hu (by omega) hv' hu' e⟩
     ·simp only [if_true]
      exact wpS_pure ⟨rfl,x,rfl,by omega,by omega,hu⟩
    case epost=>
     rintro c st4 ⟨rfl,n,rfl,k1,k2,hu⟩
     exact wpS_pure (q n st4 h' k1 k2 hu)
theorem wp_binarySort {kd:SortKind} {S:Keyed -> Prop} {lt:Keyed -> Keyed -> Bool} (hC:CmpBy prog w A E s kd S lt) (hL:LtOk lt) {lo n ok:Nat} {a₀:Array Keyed} {st₀ st:SortSt} {Q:Bool -> SortSt -> Prop} (h:LocSt kd S lt lo a₀ st₀ st) (hn:lo + n <= a₀.size) (hok:ok <= n) (h1:1 <= ok) (hs:UpIn lt (arrOf st) lo ok)
  (q:∀ st',LocSt kd S lt lo a₀ st₀ st' -> UpIn lt (arrOf st') lo n -> Q true st'):wpS (model prog w) A E s (binarySortX lo n ok) Q st:=by
 unfold binarySortX
 refine wpS_bind (wpS_mono (wpS_forRange (I:=fun k c st'=>c = (none,()) /\ LocSt kd S lt lo a₀ st₀ st' /\ UpIn lt (arrOf st') lo k)
  (Q:=fun c st'=>c = (none,()) /\ LocSt kd S lt lo a₀ st₀ st' /\ UpIn lt (arrOf st') lo n) ?step ?fin ?init) ?post)
 case post=>
  rintro c st' ⟨rfl,hB',hs'⟩
  exact wpS_pure (q st' hB' hs')
 case init=>exact ⟨rfl,h,by rw [show max ok 1 = ok by omega]; exact hs⟩
 case fin=>
  rintro c st' ⟨hc,hB',hs'⟩
  rw [show max (max ok 1) n = n by omega] at hs'
  exact ⟨hc,hB',hs'⟩
 case step=>
  rintro k c st' hak hkn ⟨rfl,hB',hs'⟩
  dsimp only
  obtain ⟨u,hu,_⟩:=hB'.at_ (show lo + k < a₀.size by omega)
  refine wpS_bind (wpS_mono (wpS_forRange (I:=fun x c st''=>st'' = st' /\ ∃ l r,c = (none,l,r) /\ l <= r /\ r <= k /\ r - l <= k - x /\
    (∀ (i:Nat) x,i < l -> (arrOf st')[lo + i]? = some x -> lt u x = false) /\ (∀ (i:Nat) x,r <= i -> i < k -> (arrOf st')[lo + i]? = some x -> lt u x = true))
   (Q:=fun c st''=>st'' = st' /\ ∃ l r,c = (none,l,r) /\ l <= k /\
    (∀ (i:Nat) x,i < l -> (arrOf st')[lo + i]? = some x -> lt u x = false) /\ (∀ (i:Nat) x,l <= i -> i < k -> (arrOf st')[lo + i]? = some x -> lt u x = true)) ?istep ?ifin ?iinit) ?ipost)
  case iinit=>exact ⟨rfl,0,k,rfl,by omega,by omega,by omega,fun i _ hi=>by omega,fun i _ h1 h2=>by omega⟩
  case ifin=>
   rintro c st'' ⟨rfl,l,r,rfl,hlr,hrk,hm,hlo,hhi⟩
   obtain rfl:l = r:=by omega
   exact ⟨rfl,l,l,rfl,hrk,hlo,hhi⟩
  case istep=>
   rintro x c st'' _ hxk ⟨rfl,l,r,rfl,hlr,hrk,hm,hlo,hhi⟩
   dsimp only
   by_cases hge:l >= r
   ·rw [if_pos hge]
    obtain rfl:l = r:=by omega
    exact wpS_pure ⟨rfl,l,l,rfl,hrk,hlo,hhi⟩
   ·rw [if_neg hge]
    refine wpS_bind (wp_ltAt hC hB' (by omega) (by omega) fun u' v hu' hv=>?_)
    rw [hu] at hu'
    cases hu'
    cases e:lt u v
    ·simp only [Bool.false_eq_true,if_false]
     refine wpS_pure ⟨rfl,(l + r) / 2 + 1,r,rfl,by omega,by omega,by omega,fun i z h1 hz=>?_,hhi⟩
     exact hL.tr _ _ _ (hs' (lo + i) (lo + (l + r) / 2) z v (by omega) (by omega) (by omega) hz hv) e
    ·simp only [if_true]
     refine wpS_pure ⟨rfl,l,(l + r) / 2,rfl,by omega,by omega,by omega,hlo,fun i z h1 h2 hz=>?_⟩
     have o:=hs' (lo + (l + r) / 2) (lo + i) v z (by omega) (by omega) (by omega) hv hz
     cases r':lt u z
     ·have:=hL.tr v z u o r'
      rw [e] at this
      cases this
     ·rfl
  case ipost=>
   rintro c st'' ⟨rfl,l,r,rfl,hlk,hlo,hhi⟩
   have hks:lo + k < (arrOf st'').size:=by rw [hB'.size]; omega
   have hat:∀ i:Nat,(bubble (arrOf st'') (lo + k) (lo + k - (lo + l)))[i]? = if i = lo + l then (arrOf st'')[lo + k]? else if lo + l < i /\ i <= lo + k then (arrOf st'')[i - 1]? else (arrOf st'')[i]?:=fun i=>by
    have:=getElem?_bubble hks (lo + k - (lo + l)) (by omega) i
    rwa [show lo + k - (lo + k - (lo + l)) = lo + l by omega] at this
   have mv:∀ (Q:PUnit -> SortSt -> Prop),Q ⟨⟩ (setArr st'' (bubble (arrOf st'') (lo + k) (lo + k - (lo + l)))) -> wpS (model prog w) A E s (moveDown' (lo + k) (lo + l)) Q st'':=fun Q hq=>by
    rw [moveDown'_eq]
    exact wpS_modify hq
   refine wpS_bind (mv _ (wpS_pure ⟨rfl,hB'.set (bubble_perm _ _ _) fun i hi=>?_,?_⟩))
   ·rw [hat,if_neg (by omega),if_neg (by omega)]
   ·intro i j x y hi hij hj hx hy
    have hx:(bubble (arrOf st'') (lo + k) (lo + k - (lo + l)))[i]? = some x:=hx
    have hy:(bubble (arrOf st'') (lo + k) (lo + k - (lo + l)))[j]? = some y:=hy
    rw [hat] at hx hy
    have sub:∀ {i:Nat},lo <= i -> lo + (i - lo) = i:=by omega
    by_cases ci:i = lo + l
    ·rw [if_pos ci,hu] at hx
     cases hx
     by_cases cj:j = lo + l
     ·rw [if_pos cj,hu] at hy
      cases hy
      exact hL.rf _
     ·rw [if_neg cj,if_pos (by omega)] at hy
      exact hL.as _ _ (hhi (j - 1 - lo) y (by omega) (by omega) (by rw [show lo + (j - 1 - lo) = j - 1 by omega]; exact hy))
    ·rw [if_neg ci] at hx
     by_cases cj:j = lo + l
     ·rw [if_pos cj,hu] at hy
      cases hy
      rw [if_neg (by omega)] at hx
      exact hlo (i - lo) x (by omega) (by rw [show lo + (i - lo) = i by omega]; exact hx)
     ·rw [if_neg cj] at hy
      by_cases di:lo + l < i /\ i <= lo + k
      ·rw [if_pos di] at hx
       rw [if_pos (by omega)] at hy
       exact hs' (i - 1) (j - 1) x y (by omega) (by omega) (by omega) hx hy
      ·rw [if_neg di] at hx
       by_cases dj:lo + l < j /\ j <= lo + k
       ·rw [if_pos dj] at hy
        exact hs' i (j - 1) x y (by omega) (by omega) (by omega) hx hy
       ·rw [if_neg dj] at hy
        exact hs' i j x y (by omega) (by omega) (by omega) hx hy
end
end L2
namespace L2
open PySem PySem.Spec PyProof.Rows
section
variable {X:Cx} {pins:List (Addr × Obj)} {σ:St} {H:Hp} {s:Shared} {a:Addr} {e o:Expr} {te to ty:TE}
end
section
variable {prog:Program} {w:World} {A:Around} {E:Value -> Shared -> Prop} {s:Shared}
end
section
variable {X:Cx}
end
section
variable {prog:Program} {w:World} {A:Around} {E:Value -> Shared -> Prop} {s:Shared}
theorem wp_sortFew {kd:SortKind} {S:Keyed -> Prop} {lt:Keyed -> Keyed -> Bool} (hC:CmpBy prog w A E s kd S lt) (hL:LtOk lt) {st:SortSt} {Q:Unit -> SortSt -> Prop} {n:Nat} (hn:(arrOf st).size = n) (hk:kindOf st = kd) (hf:failedOf st = none) (hp:pendingOf st = #[])
  (hS:∀ x ∈ (arrOf st).toList,S x) (hd:Apart lt (arrOf st).toList) (h2:2 <= n) (h64:n < 64) (h:∀ st',failedOf st' = none -> (arrOf st').toList.Perm (arrOf st).toList -> UpIn lt (arrOf st') 0 n -> Q () st'):wpS (model prog w) A E s sortRuns' Q st:=by
 have hm:minRun' n n 0 = n:=by
  obtain ⟨k,rfl⟩:∃ k,n = k + 1:=⟨n - 1,by omega⟩
  rw [minRun'_succ,if_pos h64,Nat.add_zero]
 have l0:LocSt kd S lt 0 (arrOf st) st st:=⟨hk,rfl,rfl,List.Perm.refl _,fun _ _=>rfl,hS,hd⟩
 have fin:∀ st',LocSt kd S lt 0 (arrOf st) st st' -> pendingOf st' = #[]:=fun st' l=>l.p.trans hp
 rw [sortRuns'_eq]
 refine wpS_bind (wpS_get ?_)
 dsimp only
 rw [hn,hm]
 refine wpS_bind (wpS_mono (wpS_forRange (I:=fun x c st'=>(x = 0 /\ c = (none,0) /\ st' = st) \/ (x ≠ 0 /\ c = (none,n) /\ failedOf st' = none /\ (pendingOf st').size = 1 /\ (arrOf st').toList.Perm (arrOf st).toList /\ UpIn lt (arrOf st') 0 n))
  (Q:=fun c st'=>c = (none,n) /\ failedOf st' = none /\ (pendingOf st').size = 1 /\ (arrOf st').toList.Perm (arrOf st).toList /\ UpIn lt (arrOf st') 0 n) ?turn ?out (.inl ⟨rfl,rfl,rfl⟩)) ?more)
 case out=>
  rintro c st' (⟨hx,_⟩ | ⟨_,z⟩)
  ·omega
  ·exact z
 case turn=>
  rintro x c st' _ hx (⟨rfl,rfl,rfl⟩ | ⟨_,rfl,z⟩)
  ·dsimp only
   rw [if_neg (show ¬ 0 >= n by omega)]
   refine wpS_bind (wp_countRun hC hL l0 (by omega) (by omega) fun m st2 l2 m1 m2 hu=>?_)
   dsimp only
   have ends:∀ st3,LocSt kd S lt 0 (arrOf st') st' st3 -> UpIn lt (arrOf st3) 0 n -> ∀ (pd:Array (Nat × Nat × Nat)),pd.size = 1 -> (0 + 1 ≠ 0 /\ ((none:Option Unit),0 + n) = (none,n) /\ failedOf (setPending st3 pd) = none /\ (pendingOf (setPending st3 pd)).size = 1 /\ (arrOf (setPending st3 pd)).toList.Perm (arrOf st').toList /\ UpIn lt (arrOf (setPending st3 pd)) 0 n):=
    fun st3 l3 u3 pd hpd=>⟨by omega,by rw [Nat.zero_add],l3.f.trans hf,hpd,l3.perm,u3⟩
   by_cases c1:m < n
   ·rw [if_pos c1]
    refine wpS_bind (wpS_lift (wpAny_rule ⟨rfl,?_⟩))
    refine wpS_bind (wp_binarySort hC hL l2 (by omega) (by omega) m1 hu fun st3 l3 u3=>?_)
    simp only [Bool.not_true,Bool.false_eq_true,if_false]
    refine wpS_bind (wpS_get ?_)
    rw [show (pendingOf st3).back? = none by rw [fin st3 l3]; rfl]
    dsimp only
    have en:min (n - 0) n = n:=by omega
    rw [en] at u3
    refine wpS_bind (wpS_modify (wpS_pure (.inr ?_)))
    have e3:=ends st3 l3 u3 ((pendingOf st3).push (0,n,0)) (by rw [fin st3 l3]; rfl)
    rw [en]
    exact ⟨e3.1,by rw [Nat.zero_add],e3.2.2⟩
   ·rw [if_neg c1]
    obtain rfl:m = n:=by omega
    refine wpS_bind (wpS_get ?_)
    rw [show (pendingOf st2).back? = none by rw [fin st2 l2]; rfl]
    dsimp only
    refine wpS_bind (wpS_modify (wpS_pure (.inr ?_)))
    have e3:=ends st2 l2 hu ((pendingOf st2).push (0,m,0)) (by rw [fin st2 l2]; rfl)
    exact ⟨e3.1,by rw [Nat.zero_add],e3.2.2⟩
  ·dsimp only
   rw [if_pos (Nat.le_refl n)]
   exact wpS_pure ⟨rfl,z⟩
 case more=>
  rintro c st' ⟨rfl,f,pz,pm,u⟩
  dsimp only
  refine wpS_bind (wpS_mono (wpS_forRange (I:=fun _ c st2=>c = (none,()) /\ st2 = st') (Q:=fun c st2=>c = (none,()) /\ st2 = st') ?go (fun c st2 z=>z) ⟨rfl,rfl⟩) ?fine)
  case go=>
   rintro y c st2 _ _ ⟨rfl,rfl⟩
   refine wpS_bind (wpS_get ?_)
   rw [if_pos (show (pendingOf st2).size <= 1 by omega)]
   exact wpS_pure ⟨rfl,rfl⟩
  case fine=>
   rintro c st2 ⟨rfl,rfl⟩
   exact wpS_pure (h st2 f pm u)
end
noncomputable def txtIn (o:Option Value):List Nat:=match o with
 | some (.str x _)=>x.cps.toList
 | _=>[]
def PairIn (h:Heap) (ws:List (List Nat × List Nat)) (x:Value):Prop:=∃ t w u v,x = .ref t /\ w ∈ ws /\ IsTup h t #[.str (st w.1) u,.str (st w.2) v]
section
variable {prog:Program} {w:World} {A:Around} {E:Value -> Shared -> Prop} {s:Shared}
end
theorem paired_meml {α β:Type} {R:α -> β -> Prop}:∀ {l:List α} {m:List β},Paired R l m -> ∀ a ∈ l,∃ b ∈ m,R a b
 | _,_,.nil,_,h=>by cases h
 | _,_,.cons r t,a,h=>by
  rcases List.mem_cons.mp h with rfl | h
  ·exact ⟨_,List.mem_cons_self,r⟩
  ·obtain ⟨b,hb,rb⟩:=paired_meml t a h
   exact ⟨b,List.mem_cons_of_mem _ hb,rb⟩
theorem paired_flip {α β:Type} {R:α -> β -> Prop}:∀ {l:List α} {m:List β},Paired R l m -> Paired (fun b a=>R a b) m l
 | _,_,.nil=>.nil
 | _,_,.cons r t=>.cons r (paired_flip t)
theorem paired_pairwise2 {α β:Type} {R:α -> β -> Prop} {S:β -> β -> Prop} {S':α -> α -> Prop} (f:∀ a b c d,R a b -> R c d -> S b d -> S' a c) {l:List α} {m:List β} (p:Paired R l m) (h:m.Pairwise S):l.Pairwise S':=
 paired_pairwise (fun a b c d h1 h2 z=>f b a d c h1 h2 z) (paired_flip p) h
def TxP (H:Hp) (x:List Nat × List Nat) (v:V):Prop:=∃ t,v = .ref t /\ H t = some (.tup [V.str (st x.1),V.str (st x.2)])
section
variable {X:Cx}
end
section
variable {prog:Program} {w:World} {A:Around} {E:Value -> Shared -> Prop} {s:Shared} {a:Addr} {δ:Type} {R:δ -> Value -> Prop} {D:List (Str × δ)} {k:Str} {tk:Tok}
end
section
variable {X:Cx} {i:Expr} {p pos:Pos} {ty:TE} {x:Str}
end
theorem look_relabel {env:Env} {x:Str}:∀ {l:List (Str × NameKind)},(l.lookup x = some .cell \/ l.lookup x = some .free) ->
  ((l.map fun (n,k)=>if (k == .free && env.scope.kind == .function && env.kindOf n == some .cell) then (n,NameKind.cell) else (n,k)).lookup x = some .cell \/ (l.map fun (n,k)=>if (k == .free && env.scope.kind == .function && env.kindOf n == some .cell) then (n,NameKind.cell) else (n,k)).lookup x = some .free)
 | [],h=>by simp at h
 | (n,k) :: l,h=>by
  rw [List.map_cons]
  by_cases hx:x = n
  ·subst hx
   have hk:k = .cell \/ k = .free:=by simpa [List.lookup] using h
   dsimp only
   split
   ·exact .inl (by simp [List.lookup])
   ·rcases hk with z | z
    ·exact .inl (by simp [List.lookup,z])
    ·exact .inr (by simp [List.lookup,z])
  ·have hn:(x == n) = false:=by simpa using hx
   have h':l.lookup x = some .cell \/ l.lookup x = some .free:=by simpa only [List.lookup,hn] using h
   have ih:=look_relabel (env:=env) h'
   dsimp only
   split
   ·simpa only [List.lookup,hn] using ih
   ·simpa only [List.lookup,hn] using ih
theorem cnamesC {X:Cx} {scope0 scope:Scope} {cl:List (Str × Addr)} {N0:List Str} {C:Addr} {s:Shared} {H:Hp} {ex:List Addr} {nt:Nat} {fi:List Nat} {N':List Str} (h:cnOk N0 scope0 scope nt fi N' = true):CNames (cxC X scope0 cl N0 C s H ex) scope nt fi N':=by
 have c:=cnames (X:={ cxC X scope0 cl N0 C s H ex with env:={ (cxC X scope0 cl N0 C s H ex).env with scope:=scope0 } }) (N:=N0) (sc:=scope0) rfl rfl h
 exact ⟨c.len,c.cap,fun y hy e=>look_relabel (c.fre y hy e)⟩
section
variable {X:Cx} {k:Nat} {x:Str} {ps:List Str} {sp:Sp} {p pos:Pos} {e:Expr} {es:List Expr} {t:TA}
end
noncomputable def enc (x:List Nat × List Nat):List Nat:=x.1.map (· + 1) ++ 0 :: x.2
theorem cons_lt' {a b:Nat} {l m:List Nat}:(a :: l < b :: m) ↔ a < b \/ a = b /\ l < m:=List.cons_lt_cons_iff
theorem enc_lt1:∀ {a b:List Nat} {c d:List Nat},a ≠ b -> (enc (a,c) < enc (b,d) ↔ a < b)
 | [],[],_,_,h=>absurd rfl h
 | [],y :: b,c,d,_=>by
  unfold enc
  simp only [List.map_nil,List.nil_append,List.map_cons,List.cons_append,cons_lt']
  exact ⟨fun _=>List.nil_lt_cons _ _,fun _=>.inl (Nat.succ_pos _)⟩
 | x :: a,[],c,d,_=>by
  unfold enc
  simp only [List.map_nil,List.nil_append,List.map_cons,List.cons_append,cons_lt']
  refine ⟨fun h=>?_,fun h=>absurd h (List.not_lt_nil _)⟩
  rcases h with h | ⟨h,_⟩ <;> omega
 | x :: a,y :: b,c,d,h=>by
  have ih:a ≠ b -> _:=fun k=>enc_lt1 (a:=a) (b:=b) (c:=c) (d:=d) k
  unfold enc at ih ⊢
  simp only [List.map_cons,List.cons_append,cons_lt'] at ih ⊢
  by_cases e:x = y
  ·subst e
   have hab:a ≠ b:=fun z=>h (by rw [z])
   constructor
   ·rintro (k | ⟨_,k⟩)
    ·omega
    ·exact .inr ⟨rfl,(ih hab).mp k⟩
   ·rintro (k | ⟨_,k⟩)
    ·omega
    ·exact .inr ⟨rfl,(ih hab).mpr k⟩
  ·constructor
   ·rintro (k | ⟨k,_⟩)
    ·exact .inl (by omega)
    ·omega
   ·rintro (k | ⟨k,_⟩)
    ·exact .inl (by omega)
    ·exact absurd k e
theorem enc_lt2:∀ {a c d:List Nat},enc (a,c) < enc (a,d) ↔ c < d
 | [],c,d=>by
  unfold enc
  rw [List.map_nil,List.nil_append,List.nil_append,cons_lt']
  refine ⟨fun h=>?_,fun h=>.inr ⟨rfl,h⟩⟩
  rcases h with h | ⟨_,h⟩
  ·omega
  ·exact h
 | x :: a,c,d=>by
  have ih:=enc_lt2 (a:=a) (c:=c) (d:=d)
  unfold enc at ih ⊢
  rw [List.map_cons,List.cons_append,List.cons_append,cons_lt']
  refine ⟨fun h=>?_,fun h=>.inr ⟨rfl,ih.mpr h⟩⟩
  rcases h with h | ⟨_,h⟩
  ·omega
  ·exact ih.mp h
theorem enc_inj {x y:List Nat × List Nat} (h:enc x = enc y):x = y:=by
 obtain ⟨a,c⟩:=x
 obtain ⟨b,d⟩:=y
 have ll:∀ l:List Nat,¬ l < l:=fun l=>List.lt_irrefl l
 by_cases e:a = b
 ·subst e
  have:c = d:=by
   have hh:a.map (· + 1) ++ 0 :: c = a.map (· + 1) ++ 0 :: d:=h
   have:=List.append_cancel_left hh
   exact (List.cons.inj this).2
  rw [this]
 ·exfalso
  by_cases k:a < b
  ·have z:=(enc_lt1 (c:=c) (d:=d) e).mpr k
   rw [h] at z
   exact ll _ z
  ·have z:=(enc_lt1 (c:=d) (d:=c) (Ne.symm e)).mpr (lt_tri _ _ e k)
   rw [h] at z
   exact ll _ z
noncomputable def encIn (o:Option Obj):List Nat:=match o with
 | some o=>match o.data with
  | .seq xs _=>enc (txtIn (xs[0]?:Option Value),txtIn (xs[1]?:Option Value))
  | _=>[]
 | none=>[]
noncomputable def encOf (h:Heap) (v:Value):List Nat:=match v with
 | .ref t=>encIn (h.get? t)
 | _=>[]
theorem encOf_eq {h:Heap} {t:Addr} {a b:List Nat} {u v:Tok} (e:IsTup h t #[.str (st a) u,.str (st b) v]):encOf h (.ref t) = enc (a,b):=by
 obtain ⟨o,ho,_,n,hd⟩:=e
 unfold encOf encIn
 simp only [ho,hd]
 rfl
noncomputable def encLt (h:Heap) (x y:Keyed):Bool:=strKind.blt (encOf h x.1) (encOf h y.1)
theorem encLt_ok (h:Heap):LtOk (encLt h):=
 ⟨fun x=>strKind.irrefl _,fun x y z h k=>KeyOrd.kle_trans (O:=strKind.toKeyOrd) h k,fun x y h=>KeyOrd.kle_of_klt (O:=strKind.toKeyOrd) h⟩
section
variable {prog:Program} {w:World} {A:Around} {E:Value -> Shared -> Prop} {s:Shared}
theorem enc_cmp {ws:List (List Nat × List Nat)}:CmpBy prog w A E s (tuples' true) (fun x=>PairIn s.heap ws x.1) (encLt s.heap):=fun x y st Q hx hy hk q=>by
 obtain ⟨x,p⟩:=x
 obtain ⟨y,r⟩:=y
 obtain ⟨t1,w1,u1,v1,rfl,m1,i1⟩:=hx
 obtain ⟨t2,w2,u2,v2,rfl,m2,i2⟩:=hy
 have f1:=encOf_eq i1
 have f2:=encOf_eq i2
 obtain ⟨o1,h1,_,n1,d1⟩:=i1
 obtain ⟨o2,h2,_,n2,d2⟩:=i2
 have q:Q (some (decide (encOf s.heap (.ref t1) < encOf s.heap (.ref t2)))) st:=q
 rw [f1,f2] at q
 rw [lt'_eq]
 refine wpS_bind (wpS_get ?_)
 rw [hk]
 refine wpS_bind (wpS_lift (wpAny_attempt (PySem.W.kat_lt h1 d1 h2 d2 (PySem.W.kat_cons (wpAny_eqBool_str ?_)))))
 obtain ⟨a1,b1⟩:=w1
 obtain ⟨a2,b2⟩:=w2
 dsimp only at q ⊢
 by_cases c:a1 = a2
 ·subst c
  have e:decide (enc (a1,b1) < enc (a1,b2)) = decide (b1 < b2):=decide_eq_decide.mpr enc_lt2
  rw [e] at q
  rw [decide_eq_true rfl]
  refine PySem.W.kat_yes (PySem.W.kat_cons (wpAny_eqBool_str ?_))
  by_cases c2:b1 = b2
  ·subst c2
   rw [decide_eq_true rfl]
   refine PySem.W.kat_yes (PySem.W.kat_nil ⟨rfl,wpS_pure ?_⟩)
   have e2:decide (b1 < b1) = false:=decide_eq_false (List.lt_irrefl _)
   rw [e2] at q
   exact q
  ·rw [decide_eq_false (fun z=>c2 (st_inj.mp z))]
   exact PySem.W.kat_no (PySem.W.kat_one _ _ (PyProof.Rows.lt_str ⟨rfl,wpS_pure q⟩))
 ·rw [decide_eq_false (fun z=>c (st_inj.mp z))]
  have e:decide (enc (a1,b1) < enc (a2,b2)) = decide (a1 < a2):=decide_eq_decide.mpr (enc_lt1 c)
  rw [e] at q
  exact PySem.W.kat_no (oneLt_str ⟨rfl,wpS_pure q⟩)
theorem list_sort_enc {a:Addr} {vs:List Value} {ws:List (List Nat × List Nat)} {n:Nat} {P:Fin -> Shared -> Prop} (ho:s.heap.get? a = some (seqObj "list" vs.toArray n)) (hp:∀ v ∈ vs,PairIn s.heap ws v)
  (ap:vs.Pairwise fun x y=>encOf s.heap x ≠ encOf s.heap y) (h64:vs.length < 64)
  (h:∀ out:Array Value,out.toList.Perm vs -> out.toList.Pairwise (fun x y=>encOf s.heap x < encOf s.heap y) -> P (.done (.ret .none)) { s with heap:=sortedHeap s.heap a vs out }):
  wpAny (model prog w) A (Builtin.«list.sort» ⟨[.ref a],[]⟩) P E s:=by
 have hlt:=Heap.lt_size ho
 have pairs:(vs.toArray.zip vs.toArray).toList = vs.map fun v=>(v,v):=by
  have:∀ l:List Value,l.zip l = l.map fun v=>(v,v):=fun l=>by
   induction l with
   | nil=>rfl
   | cons x l ih=>rw [List.zip_cons_cons,ih,List.map_cons]
  simp [this]
 rw [list_sort_plain]
 refine wpAny_bind (listItems_at ho rfl (wpAny_bind (listUpdate_at ho rfl ?_)))
 obtain ⟨n1,o1⟩:∃ n1,(s.heap.update a (Obj.mapSeq fun _=>#[])).get? a = some (seqObj "list" #[] n1):=⟨_,get?_update_seq ho fun _=>(#[]:Array Value)⟩
 refine wpAny_bind (seqEpoch_at o1 rfl (wpAny_bind (wpAny_newTuple (wpAny_bind (wpAny_newList (wpAny_holding ?_))))))
 have hl1:a < (s.heap.update a (Obj.mapSeq fun _=>#[])).objs.size:=Nat.lt_of_lt_of_eq hlt (Heap.size_update ..).symm
 generalize hM:((s.heap.update a (Obj.mapSeq fun _=>#[])).push (seqObj "tuple" vs.toArray 0)).push (seqObj "list" #[] 0) = M
 have kp:∀ b o,b ≠ a -> s.heap.get? b = some o -> M.get? b = some o:=fun b o hb e=>by
  rw [<- hM]
  refine Heap.get?_push_of_some _ (Heap.get?_push_of_some _ ?_)
  rw [Heap.get?_update_other _ _ (Ne.symm hb)]
  exact e
 have o6:M.get? a = some (seqObj "list" #[] n1):=by
  rw [<- hM]
  exact Heap.get?_push_of_some _ (Heap.get?_push_of_some _ o1)
 have nota:∀ t its,IsTup s.heap t its -> t ≠ a:=fun t its i z=>by
  obtain ⟨o,hq,hc,_⟩:=i
  rw [z,ho] at hq
  have hq:=Option.some.inj hq
  rw [<- hq] at hc
  exact absurd hc (by simp [seqObj])
 have tupM:∀ t its,IsTup s.heap t its -> IsTup M t its:=fun t its i=>by
  have ne:=nota t its i
  obtain ⟨o,hq,r⟩:=i
  exact ⟨o,kp t o ne hq,r⟩
 have inM:∀ v ∈ vs,PairIn M ws v:=fun v hv=>by
  obtain ⟨t,w,u,x,e,m,i⟩:=hp v hv
  exact ⟨t,w,u,x,e,m,tupM t _ i⟩
 have firstM:∀ v ∈ vs,encOf M v = encOf s.heap v:=fun v hv=>by
  obtain ⟨t,w,u,x,rfl,m,i⟩:=hp v hv
  rw [encOf_eq i,encOf_eq (tupM t _ i)]
 have put:∀ out:Array Value,sortedHeap s.heap a vs out = M.update a (Obj.mapSeq fun _=>out):=fun out=>by
  rw [<- hM]
  rfl
 show wpAny (model prog w) A _ P E { s with heap:=M }
 dsimp only
 by_cases two:vs.toArray.size < 2
 ·rw [if_pos two,if_pos two]
  refine wpAny_bind (wpAny_pure ?_)
  rw [StateT.run_pure]
  refine wpAny_bind (wpAny_pure ?_)
  dsimp only
  have e0:((vs.toArray.zip vs.toArray).map (·.2)).toList = vs:=by
   rw [Array.toList_map,pairs,List.map_map]
   exact List.map_id vs
  have ez:((vs.toArray.zip vs.toArray).map (·.2)).size <= sizeLine + 1:=by
   rw [<- Array.length_toList,e0,sizeLine_eq]
   omega
  refine wpAny_bind (seqEpoch_at o6 rfl (wpAny_bind (listUpdate_at o6 rfl ?_ (hsz2:=ez))))
  simp only [bne_self_eq_false,Bool.false_eq_true,if_false]
  have hh:=h ((vs.toArray.zip vs.toArray).map (·.2)) (by rw [e0]) (by
   rw [e0]
   match vs,two with
   | [],_=>exact List.Pairwise.nil
   | [x],_=>simp
   | x :: y :: l,z=>exact absurd z (by simp))
  rw [put] at hh
  exact wpAny_pure hh
 ·rw [if_neg two,if_neg two]
  have two':2 <= vs.length:=by simpa using two
  have kt:∀ l:List Value,(∀ v ∈ l,PairIn M ws v) -> ∃ fs,PySem.W.KatTups M l fs /\ fs.length = l.length /\ ∀ f ∈ fs,∃ x u,f = Value.str x u:=fun l hl=>by
   induction l with
   | nil=>exact ⟨[],trivial,rfl,fun f hf=>absurd hf List.not_mem_nil⟩
   | cons v l ih=>
    obtain ⟨fs,a1,a2,a3⟩:=ih fun x hx=>hl x (List.mem_cons_of_mem _ hx)
    obtain ⟨t,w,u,x,rfl,m,⟨o,b1,b2,k,b3⟩⟩:=hl v List.mem_cons_self
    refine ⟨.str (st w.1) u :: fs,PySem.W.KatTups.cons b1 b2 b3 rfl a1,by simp [a2],fun f hf=>?_⟩
    rcases List.mem_cons.mp hf with rfl | hf
    ·exact ⟨_,_,rfl⟩
    ·exact a3 f hf
  obtain ⟨fs,t1,t2,t3⟩:=kt vs inM
  refine wpAny_bind (PySem.W.kat_kind (T:=.type "str") t1 (by omega) (fun v hv=>by
   obtain ⟨x,u,rfl⟩:=t3 v hv
   exact PySem.W.Looks.now) rfl ?_)
  refine wpAny_bind (wpAny_mono (wp_sortFew (s:={ s with heap:=M }) (Q:=fun _ st'=>failedOf st' = none /\ (arrOf st').toList.Perm (vs.map fun v=>(v,v)) /\ UpIn (encLt M) (arrOf st') 0 vs.length) (enc_cmp (ws:=ws)) (encLt_ok M)
   (n:=vs.length) (by show (vs.toArray.zip vs.toArray).size = _; rw [<- Array.length_toList,pairs,List.length_map]) rfl rfl rfl ?_ ?_ two' h64 fun st' f p u=>⟨f,by rw [<- pairs]; exact p,u⟩) ?_ fun _ _ z=>z)
  ·intro x hx
   have hx:x ∈ (vs.toArray.zip vs.toArray).toList:=hx
   rw [pairs] at hx
   obtain ⟨v,hv,rfl⟩:=List.mem_map.mp hx
   exact inM v hv
  ·show Apart (encLt M) (vs.toArray.zip vs.toArray).toList
   rw [pairs]
   refine List.pairwise_map.mpr (ap.imp_of_mem fun {x y} hx hy ne=>?_)
   show decide (encOf M x < encOf M y) = true \/ decide (encOf M y < encOf M x) = true
   rw [decide_eq_true_eq,decide_eq_true_eq,firstM x hx,firstM y hy]
   by_cases c:encOf s.heap x < encOf s.heap y
   ·exact .inl c
   ·exact .inr (lt_tri _ _ ne c)
  rintro ⟨⟨⟩,st'⟩ s' ⟨rfl,f,p,u⟩
  dsimp only
  have pl:=p.length_eq
  rw [List.length_map,Array.length_toList] at pl
  have ez:((arrOf st').map (·.2)).size <= sizeLine + 1:=by
   rw [Array.size_map,pl,sizeLine_eq]
   omega
  refine wpAny_bind (seqEpoch_at o6 rfl (wpAny_bind (listUpdate_at o6 rfl ?_ (hsz2:=ez))))
  rw [f]
  simp only [bne_self_eq_false,Bool.false_eq_true,if_false]
  have p2:((arrOf st').map (·.2)).toList.Perm vs:=by
   rw [Array.toList_map]
   have:=p.map (·.2)
   rw [List.map_map,show ((fun x:Value × Value=>x.2) ∘ fun v=>(v,v)) = id from rfl,List.map_id] at this
   exact this
  have hh:=h ((arrOf st').map (·.2)) p2 (by
   rw [List.pairwise_iff_getElem]
   intro i j hi hj hij
   have ap2:((arrOf st').map (·.2)).toList.Pairwise fun x y=>encOf s.heap x ≠ encOf s.heap y:=(p2.pairwise_iff (fun {a b} (q:encOf s.heap a ≠ encOf s.heap b)=>q.symm)).mpr ap
   have ne:=List.pairwise_iff_getElem.mp ap2 i j hi hj hij
   have hi':i < (arrOf st').size:=by simpa using hi
   have hj':j < (arrOf st').size:=by simpa using hj
   have one:∀ k (hk:k < (arrOf st').size),∃ v ∈ vs,(arrOf st')[k] = (v,v):=fun k hk=>by
    have:(arrOf st')[k] ∈ (arrOf st').toList:=by simp
    obtain ⟨v,hv,e⟩:=List.mem_map.mp (p.mem_iff.mp this)
    exact ⟨v,hv,e.symm⟩
   obtain ⟨v,hv,ev⟩:=one i hi'
   obtain ⟨z,hz,ez⟩:=one j hj'
   have up:=u i j _ _ (Nat.zero_le _) (Nat.le_of_lt hij) (by rw [Nat.zero_add,<- pl]; exact hj') (getElem?_pos (arrOf st') i hi') (getElem?_pos (arrOf st') j hj')
   rw [ev,ez] at up
   have up:decide (encOf M z < encOf M v) = false:=up
   rw [decide_eq_false_iff_not,firstM v hv,firstM z hz] at up
   simp only [Array.getElem_toList,Array.getElem_map,ev,ez] at ne ⊢
   exact Classical.byContradiction fun c=>up (lt_tri _ _ ne c))
  rw [put] at hh
  exact wpAny_pure hh
theorem sorted_enc {l:Addr} {vs:List Value} {ws:List (List Nat × List Nat)} {Q:Value -> Shared -> Prop} (hl:s.heap.IsList l vs.toArray) (hp:∀ v ∈ vs,PairIn s.heap ws v)
  (ap:vs.Pairwise fun x y=>encOf s.heap x ≠ encOf s.heap y) (h64:vs.length < 64)
  (h:∀ (D:Addr) (h':Heap) (tk:Nat) (out:List Value) (e:Nat),(∀ b o,s.heap.get? b = some o -> h'.get? b = some o) -> s.heap.objs.size <= D -> h'.get? D = some (seqObj "list" out.toArray e) -> out.Perm vs -> out.Pairwise (fun x y=>encOf s.heap x < encOf s.heap y) ->
   Q (.ref D) { s with heap:=h',toks:=tk }):
  wpAny (model prog w) A (call (.builtin "sorted") [.ref l]) Q E s:=by
 refine Calls.call_function_entry kind_sorted plain_sorted entry_sorted (args_sorted1 _) ?_
 unfold Builtin.«sorted»
 refine wpAny_bind (m:=checkCount "sorted" 1 1 _) (wpAny_pure ?_)
 refine wpAny_bind (collect_list hl ?_ (by rw [sizeLine_eq]; omega))
 refine wpAny_bind (wpAny_newList ?_ (by rw [sizeLine_eq]; omega))
 generalize hM:(s.heap.push (seqObj "list" #[] 0)).update s.heap.objs.size (Obj.mapSeq (· ++ vs.toArray)) = M
 have kp:∀ b o,s.heap.get? b = some o -> M.get? b = some o:=fun b o q=>by
  rw [<- hM,Heap.get?_update_other _ _ (Nat.ne_of_gt (Heap.lt_size q))]
  exact Heap.get?_push_of_some _ q
 have hsz:s.heap.objs.size <= M.objs.size:=by
  rw [<- hM,Heap.size_update,size_push']
  exact Nat.le_succ _
 have hD:(M.push (seqObj "list" vs.toArray 0)).get? M.objs.size = some (seqObj "list" vs.toArray 0):=Heap.get?_push_size _ rfl
 have tupM:∀ t its,IsTup s.heap t its -> IsTup (M.push (seqObj "list" vs.toArray 0)) t its:=fun t its ⟨o,hq,r⟩=>⟨o,Heap.get?_push_of_some _ (kp t o hq),r⟩
 have firstM:∀ v ∈ vs,encOf (M.push (seqObj "list" vs.toArray 0)) v = encOf s.heap v:=fun v hv=>by
  obtain ⟨t,w,u,x,rfl,m,i⟩:=hp v hv
  rw [encOf_eq i,encOf_eq (tupM t _ i)]
 show wpAny _ _ _ _ _ { s with heap:=M.push (seqObj "list" vs.toArray 0) }
 refine wpAny_bind (wpAny_holding (wpAny_call_entry slot_list_sort ⟨_,hD,rfl⟩ entry_list_sort (list_sort_enc (s:={ s with heap:=M.push (seqObj "list" vs.toArray 0) }) hD (ws:=ws) (fun v hv=>?_) (ap.imp_of_mem fun {x y} hx hy ne=>?_) h64 fun out p u=>⟨_,rfl,?_⟩) (args_list_sort _)))
 ·obtain ⟨t,w,u,x,e,m,i⟩:=hp v hv
  exact ⟨t,w,u,x,e,m,tupM t _ i⟩
 ·show encOf (M.push (seqObj "list" vs.toArray 0)) x ≠ encOf (M.push (seqObj "list" vs.toArray 0)) y
  rw [firstM x hx,firstM y hy]
  exact ne
 obtain ⟨e,he⟩:=sortedHeap_at (out:=out) hD
 refine wpAny_pure ⟨_,rfl,h _ _ s.toks out.toList e (fun b o q=>?_) hsz (by rw [Array.toArray_toList]; exact he) p (u.imp_of_mem fun {x y} hx hy lt=>?_)⟩
 ·have hb1:=Heap.lt_size (kp b o q)
  show (sortedHeap (M.push (seqObj "list" vs.toArray 0)) M.objs.size vs out).get? b = some o
  rw [sortedHeap_old (Nat.ne_of_lt hb1) (by rw [size_push']; exact Nat.lt_succ_of_lt hb1)]
  exact Heap.get?_push_of_some _ (kp b o q)
 ·have lt:encOf (M.push (seqObj "list" vs.toArray 0)) x < encOf (M.push (seqObj "list" vs.toArray 0)) y:=lt
  rw [firstM x (p.mem_iff.mp hx),firstM y (p.mem_iff.mp hy)] at lt
  exact lt
end
noncomputable def kSortQ (K:Frag):List V -> Hp -> VK -> Prop:=fun xs H Q=>match xs with
 | [.ref p]=>∃ (ws:List (List Nat × List Nat)) (vs:List V),SqL K H p vs /\ Paired (TxP H) ws vs /\ ws.Nodup /\ ws.length < 64 /\ ∀ q ws' vs',H q = none -> ws'.Perm ws -> ws'.Pairwise (fun x y=>enc x < enc y) -> Paired (TxP H) ws' vs' -> Q (.ref q) (upd H q (.lst vs'))
 | _=>False
section
variable {X:Cx}
theorem call_sortedQ (K:Frag) (hK:X.K = K):CallR X (.builtin "sorted") (kSortQ K):=by
 subst hK
 intro pins s σ H xs us Q I r q
 unfold kSortQ at q
 split at q
 ·rename_i p
  obtain ⟨ws,vs,hs,pr,nd,h64,q⟩:=q
  obtain ⟨u,rfl,ru⟩:=vals1 r
  cases ru
  obtain ⟨its,rv,pl,hz⟩:=I.list hs
  let R:Value -> (List Nat × List Nat) × V -> Prop:=fun u x=>RelV x.2 u /\ TxP H x.1 x.2 /\ encOf s.heap u = enc x.1 /\ ∀ ws,x.1 ∈ ws -> PairIn s.heap ws u
  have one:∀ x v u,TxP H x v -> RelV v u -> R u (x,v):=fun x v u ht ru=>by
   obtain ⟨t,rfl,e⟩:=id ht
   obtain rfl:u = Value.ref t:=ru
   obtain ⟨_,its,vr,i⟩:=(show ObjOk X.prog X.w H s.heap t (.tup [V.str (st x.1),V.str (st x.2)]) from I.hok t _ e)
   obtain ⟨a,b,rfl,⟨u1,rfl⟩,⟨u2,rfl⟩⟩:=vals2 vr
   exact ⟨rfl,ht,encOf_eq i,fun ws hm=>⟨t,x,u1,u2,rfl,hm,i⟩⟩
  have zip:∀ {ws:List (List Nat × List Nat)} {vs:List V} {its:List Value},Paired (TxP H) ws vs -> Vals vs its -> Paired R its (ws.zip vs):=fun {ws vs its} a=>by
   induction a generalizing its with
   | nil=>intro b; cases b; exact .nil
   | cons h _ ih=>intro b; cases b with | cons h2 t2=>exact .cons (one _ _ _ h h2) (ih t2)
  have Z:=zip pr rv
  have hl:=pr.length
  have hl2:=rv.length
  have fz:(ws.zip vs).map Prod.fst = ws:=List.map_fst_zip (by omega)
  refine tokQ I.tk (sorted_enc (ws:=ws) pl.isList (fun v hv=>?_) ?_ (by omega) fun D h' tk out e old hD ho hp hu (htk:0 < tk)=>?_)
  ·obtain ⟨x,hx,_,_,_,z⟩:=paired_meml Z v hv
   exact z ws (List.of_mem_zip hx).1
  ·refine paired_pairwise2 (fun a b c d h1 h2 (ne:enc b.1 ≠ enc d.1)=>?_) Z ?_
   ·rw [h1.2.2.1,h2.2.2.1]
    exact ne
   ·have this:((ws.zip vs).map Prod.fst).Pairwise fun x y=>enc x ≠ enc y:=by
     rw [fz]
     exact List.Pairwise.imp (fun {a b} h z=>h (enc_inj z)) nd
    exact (List.pairwise_map (R:=fun x y:List Nat × List Nat=>enc x ≠ enc y)).mp this
  ·obtain ⟨m',pm,Zm⟩:=paired_perm hp Z
   have v2:Vals (m'.map Prod.snd) out:=by
    clear pm hu ho hp
    induction Zm with
    | nil=>exact .nil
    | cons h _ ih=>exact .cons h.1 ih
   have t2:Paired (TxP H) (m'.map Prod.fst) (m'.map Prod.snd):=by
    clear pm hu ho hp v2
    induction Zm with
    | nil=>exact .nil
    | cons h _ ih=>exact .cons h.2.1 ih
   have ol:(m'.map Prod.snd).length <= sizeLine:=by
    rw [List.length_map,pm.length_eq,List.length_zip,sizeLine_eq]
    omega
   have I2:=I.laid (a:=D) (o:=.lst (m'.map Prod.snd)) (t':=tk) old hD ⟨ol,out,e,v2,ho⟩
   refine ⟨.ref D,_,I2,rfl,q D (m'.map Prod.fst) _ (I.hok.fresh hD) (by rw [<- fz]; exact pm.map _) ?_ t2⟩
   refine List.pairwise_map.mpr (paired_pairwise (fun a b c d h1 h2 lt=>?_) Zm hu)
   rw [h1.2.2.1,h2.2.2.1] at lt
   exact lt
 ·exact q.elim
theorem a_kSortQ {K:Frag} {p:Addr} {H:Hp} {Q:VK}:kSortQ K [.ref p] H Q = ∃ (ws:List (List Nat × List Nat)) (vs:List V),SqL K H p vs /\ Paired (TxP H) ws vs /\ ws.Nodup /\ ws.length < 64 /\ ∀ q ws' vs',H q = none -> ws'.Perm ws -> ws'.Pairwise (fun x y=>enc x < enc y) -> Paired (TxP H) ws' vs' -> Q (.ref q) (upd H q (.lst vs')):=rfl
end
section
variable {X:Cx} {o e:Expr} {td ty to te:TE} {apos cpos:Pos}
noncomputable def cDGet1 (td ty:TE):TE:=fun σ H Q=>td σ H fun x H1=>match x with
 | .ref a=>IsD H1 a /\ ty σ H1 fun y H2=>∃ o,DGet H2 a y o /\ Q (o.getD .non) H2
 | _=>False
theorem qe_dget1 (hu:X.A.units + 1 < cLine) (ho:PE X o to) (he:PE X e te) (m:M1 X o "get" apos e cpos):PE X (.Call (.Attribute o "get" apos) [e] [] cpos) (cDGet1 to te):=
 (pe_dget1 hu ho.mono he.mono m).imp fun σ H Q q=>⟨_,q,fun x H1 z=>by
  split at z
  ·obtain ⟨d,z⟩:=z
   exact ⟨_,rfl,d,_,z,fun y H2 z2=>z2⟩
  ·exact z.elim⟩
theorem a_cDGet1 {td ty:TE} {σ:St} {H:Hp} {Q:VK}:cDGet1 td ty σ H Q = td σ H fun x H1=>match x with
 | .ref a=>IsD H1 a /\ ty σ H1 fun y H2=>∃ o,DGet H2 a y o /\ Q (o.getD .non) H2
 | _=>False:=rfl
end
end L2
set_option maxHeartbeats 4000000
namespace L2
open PySem PySem.Spec PyProof.Rows
theorem lc {c:Scope} {x:Str} (h:Loc c x:=by first | exact Or.inl rfl | exact Or.inr rfl):Loc c x:=h
theorem Room.m {j k:Nat} {A:Around} (r:Room k A) (h:j <= k:=by first | decide | omega):Room j A:=r.mono h
end L2
namespace Law
open PySem L2 Mir
noncomputable def top (i:Nat):Stmt:=PySem.Challenge.pw_throng_k37_spots_and_houses.main.body.getD i (.Pass ⟨0,0,0,0⟩)
noncomputable abbrev s_gate_rules:Stmt:=top 13
theorem sc_gate_rules:FnScope ["house", "door", "gate", "rules"] ["house", "door"] (defScope s_gate_rules):=⟨rfl,rfl,rfl,by decide +kernel,rfl,by decide +kernel,by decide +kernel⟩
noncomputable abbrev s_check_spot:Stmt:=top 15
theorem sc_check_spot:FnScope ["net", "house", "door"] ["net", "house", "door"] (defScope s_check_spot):=⟨rfl,rfl,rfl,by decide +kernel,rfl,by decide +kernel,by decide +kernel⟩
noncomputable abbrev s_house_named:Stmt:=top 16
theorem sc_house_named:FnScope ["net", "name", "its", "house"] ["net", "name"] (defScope s_house_named):=⟨rfl,rfl,rfl,by decide +kernel,rfl,by decide +kernel,by decide +kernel⟩
noncomputable abbrev s_house_copied:Stmt:=top 17
theorem sc_house_copied:FnScope ["house"] ["house"] (defScope s_house_copied):=⟨rfl,rfl,rfl,by decide +kernel,rfl,by decide +kernel,by decide +kernel⟩
noncomputable abbrev s_net_house:Stmt:=top 18
theorem sc_net_house:FnScope ["net", "name"] ["net", "name"] (defScope s_net_house):=⟨rfl,rfl,rfl,by decide +kernel,rfl,by decide +kernel,by decide +kernel⟩
noncomputable abbrev s_net_spots:Stmt:=top 19
theorem sc_net_spots:FnScope ["net", "spots", "name", "house"] ["net"] (defScope s_net_spots):=⟨rfl,rfl,rfl,by decide +kernel,rfl,by decide +kernel,by decide +kernel⟩
noncomputable abbrev s_net_open:Stmt:=top 20
theorem sc_net_open:FnScope ["net", "ends"] ["net"] (defScope s_net_open):=⟨rfl,rfl,rfl,by decide +kernel,rfl,by decide +kernel,by decide +kernel⟩
noncomputable abbrev s_net_tied:Stmt:=top 21
theorem sc_net_tied:FnScope ["net", "house", "door"] ["net", "house", "door"] (defScope s_net_tied):=⟨rfl,rfl,rfl,by decide +kernel,rfl,by decide +kernel,by decide +kernel⟩
noncomputable abbrev s_line_ends:Stmt:=top 22
theorem sc_line_ends:FnScope ["net", "ends", "one", "other"] ["net"] (defScope s_line_ends):=⟨rfl,rfl,rfl,by decide +kernel,rfl,by decide +kernel,by decide +kernel⟩
noncomputable abbrev s__law_draw:Stmt:=top 24
theorem sc__law_draw:FnScope ["_law_script", "_law_k", "_law_many", "_law_cell", "_law_mixed"] ["_law_script", "_law_k", "_law_many"] (defScope s__law_draw):=⟨rfl,rfl,rfl,by decide +kernel,rfl,by decide +kernel,by decide +kernel⟩
noncomputable abbrev s__law_names:Stmt:=top 25
theorem sc__law_names:FnScope ["_law_script", "_law_k", "_law_many", "_law_letters", "_law_start", "_law_body", "_law_j", "_law_at", "_law_step"] ["_law_script", "_law_k", "_law_many"] (defScope s__law_names):=⟨rfl,rfl,rfl,by decide +kernel,rfl,by decide +kernel,by decide +kernel⟩
noncomputable abbrev s__law_layout:Stmt:=top 26
theorem sc__law_layout:FnScope ["_law_script", "_law_size", "_law_ahead", "_law_behind", "_law_names_here", "_law_layout_here"] ["_law_script"] (defScope s__law_layout):=⟨rfl,rfl,rfl,by decide +kernel,rfl,by decide +kernel,by decide +kernel⟩
noncomputable abbrev s__law_width:Stmt:=top 27
theorem sc__law_width:FnScope ["_law_layout_here"] ["_law_layout_here"] (defScope s__law_width):=⟨rfl,rfl,rfl,by decide +kernel,rfl,by decide +kernel,by decide +kernel⟩
noncomputable abbrev s__law_span:Stmt:=top 28
theorem sc__law_span:FnScope ["_law_layout_here", "_law_first", "_law_name", "_law_size"] ["_law_layout_here"] (defScope s__law_span):=⟨rfl,rfl,rfl,by decide +kernel,rfl,by decide +kernel,by decide +kernel⟩
noncomputable abbrev s__law_told:Stmt:=top 29
theorem sc__law_told:FnScope ["_law_script", "_law_layout_here", "_law_width_here", "_law_first", "_law_behind", "_law_places", "_law_k"] ["_law_script", "_law_layout_here"] (defScope s__law_told):=⟨rfl,rfl,rfl,by decide +kernel,rfl,by decide +kernel,by decide +kernel⟩
noncomputable abbrev s__law_over_at:Stmt:=top 30
theorem sc__law_over_at:FnScope ["_law_script", "_law_told_here", "_law_turn", "_law_count"] ["_law_script", "_law_told_here"] (defScope s__law_over_at):=⟨rfl,rfl,rfl,by decide +kernel,rfl,by decide +kernel,by decide +kernel⟩
noncomputable abbrev s__law_signs:Stmt:=top 31
theorem sc__law_signs:FnScope ["_law_number", "_law_places", "_law_width_here", "_law_menu", "_law_signs_here", "_law_place"] ["_law_number", "_law_places", "_law_width_here", "_law_menu"] (defScope s__law_signs):=⟨rfl,rfl,rfl,by decide +kernel,rfl,by decide +kernel,by decide +kernel⟩
noncomputable abbrev s__law_rule:Stmt:=top 32
theorem sc__law_rule:FnScope ["_law_script", "_law_k", "_law_told_here", "_law_over_at_here", "_law_width_here", "_law_row", "_law_number", "_law_over"] ["_law_script", "_law_k", "_law_told_here", "_law_over_at_here", "_law_width_here"] (defScope s__law_rule):=⟨rfl,rfl,rfl,by decide +kernel,rfl,by decide +kernel,by decide +kernel⟩
noncomputable abbrev s__law_ways:Stmt:=top 33
theorem sc__law_ways:FnScope ["_law_script", "_law_k", "_law_doors", "_law_size", "_law_ways_here", "_law_j", "_law_number", "_law_beginning", "_law_door"] ["_law_script", "_law_k", "_law_doors", "_law_size"] (defScope s__law_ways):=⟨rfl,rfl,rfl,by decide +kernel,rfl,by decide +kernel,by decide +kernel⟩
noncomputable abbrev s__law_house:Stmt:=top 34
theorem sc__law_house:FnScope ["_law_script", "_law_k", "_law_told_here", "_law_layout_here", "_law_pool", "_law_width_here", "_law_first", "_law_behind", "_law_over_at_here", "_law_turn", "_law_count", "_law_doors", "_law_gates", "_law_g", "_law_many", "_law_rules", "_law_over"] ["_law_script", "_law_k", "_law_told_here", "_law_layout_here", "_law_pool"] (defScope s__law_house):=⟨rfl,rfl,rfl,by decide +kernel,rfl,by decide +kernel,by decide +kernel⟩
noncomputable abbrev s__law_spots:Stmt:=top 35
theorem sc__law_spots:FnScope ["_law_houses", "_law_spots_here", "_law_name", "_law_house_here"] ["_law_houses"] (defScope s__law_spots):=⟨rfl,rfl,rfl,by decide +kernel,rfl,by decide +kernel,by decide +kernel⟩
noncomputable abbrev s__law_lines:Stmt:=top 36
theorem sc__law_lines:FnScope ["_law_script", "_law_spots_here", "_law_pool", "_law_most", "_law_lines_here", "_law_j", "_law_one"] ["_law_script", "_law_spots_here"] (defScope s__law_lines):=⟨rfl,rfl,rfl,by decide +kernel,rfl,by decide +kernel,by decide +kernel⟩
noncomputable abbrev s__law_net:Stmt:=top 37
theorem sc__law_net:FnScope ["_law_script", "_law_told_here", "_law_most", "_law_layout_here", "_law_pool", "_law_many", "_law_names_here", "_law_houses"] ["_law_script", "_law_told_here", "_law_most"] (defScope s__law_net):=⟨rfl,rfl,rfl,by decide +kernel,rfl,by decide +kernel,by decide +kernel⟩
noncomputable abbrev s__law_same:Stmt:=top 38
theorem sc__law_same:FnScope ["_law_found", "_law_due"] ["_law_found", "_law_due"] (defScope s__law_same):=⟨rfl,rfl,rfl,by decide +kernel,rfl,by decide +kernel,by decide +kernel⟩
noncomputable abbrev s__law_copy:Stmt:=top 39
theorem sc__law_copy:FnScope ["_law_thing"] ["_law_thing"] (defScope s__law_copy):=⟨rfl,rfl,rfl,by decide +kernel,rfl,by decide +kernel,by decide +kernel⟩
noncomputable abbrev s__law_marks:Stmt:=top 40
theorem sc__law_marks:FnScope ["_law_e", "_law_marks_here"] ["_law_e"] (defScope s__law_marks):=⟨rfl,rfl,rfl,by decide +kernel,rfl,by decide +kernel,by decide +kernel⟩
noncomputable abbrev s__law_marks_due:Stmt:=top 41
theorem sc__law_marks_due:FnScope ["_law_name", "_law_some"] ["_law_name"] (defScope s__law_marks_due):=⟨rfl,rfl,rfl,by decide +kernel,rfl,by decide +kernel,by decide +kernel⟩
noncomputable abbrev s__law_beyond:Stmt:=top 42
theorem sc__law_beyond:FnScope ["_law_lines_here", "_law_spot", "_law_one", "_law_other"] ["_law_lines_here", "_law_spot"] (defScope s__law_beyond):=⟨rfl,rfl,rfl,by decide +kernel,rfl,by decide +kernel,by decide +kernel⟩
noncomputable abbrev s__law_refused:Stmt:=top 43
theorem sc__law_refused:FnScope ["_law_net_here", "_law_house_here", "_law_door", "_law_marks_here", "_law_e"] ["_law_net_here", "_law_house_here", "_law_door"] (defScope s__law_refused):=⟨rfl,rfl,rfl,by decide +kernel,rfl,by decide +kernel,by decide +kernel⟩
noncomputable abbrev s__law_all_told:Stmt:=top 44
theorem sc__law_all_told:FnScope ["_law_net_here", "_law_handed", "_law_spots_here", "_law_beyond_here", "_law_found", "_law_part"] ["_law_net_here", "_law_handed"] (defScope s__law_all_told):=⟨rfl,rfl,rfl,by decide +kernel,rfl,by decide +kernel,by decide +kernel⟩
noncomputable abbrev s__law_house_told:Stmt:=top 45
theorem sc__law_house_told:FnScope ["_law_handed", "_law_name", "_law_house_here", "_law_found", "_law_door", "_law_rules"] ["_law_handed", "_law_name", "_law_house_here"] (defScope s__law_house_told):=⟨rfl,rfl,rfl,by decide +kernel,rfl,by decide +kernel,by decide +kernel⟩
noncomputable abbrev s__law_large:Stmt:=top 46
theorem sc__law_large:FnScope ["_law_script", "_law_told_here", "_law_layout_here", "_law_width_here", "_law_pool", "_law_many", "_law_letters", "_law_houses", "_law_left", "_law_h", "_law_more", "_law_name", "_law_gates"] ["_law_script", "_law_told_here"] (defScope s__law_large):=⟨rfl,rfl,rfl,by decide +kernel,rfl,by decide +kernel,by decide +kernel⟩
noncomputable abbrev s_law:Stmt:=top 47
theorem sc_law:FnScope ["_law_script", "_law_told_here", "_law_net_here", "_law_pool", "_law_handed", "_law_names_here", "_law_none", "_law_turn", "_law_name", "_law_house_here", "_law_door"] ["_law_script"] (defScope s_law):=⟨rfl,rfl,rfl,by decide +kernel,rfl,by decide +kernel,by decide +kernel⟩
structure Top (K:Frag) (mg:Str -> Option Value):Prop where
 f_gate_rules:Fn K mg "gate_rules" s_gate_rules
 f_check_spot:Fn K mg "check_spot" s_check_spot
 f_house_named:Fn K mg "house_named" s_house_named
 f_house_copied:Fn K mg "house_copied" s_house_copied
 f_net_house:Fn K mg "net_house" s_net_house
 f_net_spots:Fn K mg "net_spots" s_net_spots
 f_net_open:Fn K mg "net_open" s_net_open
 f_net_tied:Fn K mg "net_tied" s_net_tied
 f_line_ends:Fn K mg "line_ends" s_line_ends
 f__law_draw:Fn K mg "_law_draw" s__law_draw
 f__law_names:Fn K mg "_law_names" s__law_names
 f__law_layout:Fn K mg "_law_layout" s__law_layout
 f__law_width:Fn K mg "_law_width" s__law_width
 f__law_span:Fn K mg "_law_span" s__law_span
 f__law_told:Fn K mg "_law_told" s__law_told
 f__law_over_at:Fn K mg "_law_over_at" s__law_over_at
 f__law_signs:Fn K mg "_law_signs" s__law_signs
 f__law_rule:Fn K mg "_law_rule" s__law_rule
 f__law_ways:Fn K mg "_law_ways" s__law_ways
 f__law_house:Fn K mg "_law_house" s__law_house
 f__law_spots:Fn K mg "_law_spots" s__law_spots
 f__law_lines:Fn K mg "_law_lines" s__law_lines
 f__law_net:Fn K mg "_law_net" s__law_net
 f__law_same:Fn K mg "_law_same" s__law_same
 f__law_copy:Fn K mg "_law_copy" s__law_copy
 f__law_marks:Fn K mg "_law_marks" s__law_marks
 f__law_marks_due:Fn K mg "_law_marks_due" s__law_marks_due
 f__law_beyond:Fn K mg "_law_beyond" s__law_beyond
 f__law_refused:Fn K mg "_law_refused" s__law_refused
 f__law_all_told:Fn K mg "_law_all_told" s__law_all_told
 f__law_house_told:Fn K mg "_law_house_told" s__law_house_told
 f__law_large:Fn K mg "_law_large" s__law_large
 f_law:Fn K mg "law" s_law
 b_list:mg "list" = none
 b_sorted:mg "sorted" = none
 b_len:mg "len" = none
 b_range:mg "range" = none
 b_sum:mg "sum" = none
 b_set:mg "set" = none
 b_min:mg "min" = none
 b_str:mg "str" = none
 b_max:mg "max" = none
 b_isinstance:mg "isinstance" = none
 b_int:mg "int" = none
 b_tuple:mg "tuple" = none
 b_all:mg "all" = none
 b_bool:mg "bool" = none
 b_zip:mg "zip" = none
 b_ValueError:mg "ValueError" = none
 x_NoDoor:Xn K mg "NoDoor"
 x_NoHouse:Xn K mg "NoHouse"
 x_ThrongError:Xn K mg "ThrongError"
 x_BadWord:Xn K mg "BadWord"
 x_Misfit:Xn K mg "Misfit"
 x_NoField:Xn K mg "NoField"
 x_NoLine:Xn K mg "NoLine"
 x_NoRule:Xn K mg "NoRule"
 x_NoWay:Xn K mg "NoWay"
 x_Twice:Xn K mg "Twice"
 x_Unlike:Xn K mg "Unlike"
 v_NoDoor:Xv K "NoDoor"
 m_NoDoor_ThrongError:Xm K "NoDoor" "ThrongError" true
 m_NoDoor_BadWord:Xm K "NoDoor" "BadWord" false
 m_NoDoor_Misfit:Xm K "NoDoor" "Misfit" false
 m_NoDoor_NoDoor:Xm K "NoDoor" "NoDoor" true
 m_NoDoor_NoField:Xm K "NoDoor" "NoField" false
 m_NoDoor_NoHouse:Xm K "NoDoor" "NoHouse" false
 m_NoDoor_NoLine:Xm K "NoDoor" "NoLine" false
 m_NoDoor_NoRule:Xm K "NoDoor" "NoRule" false
 m_NoDoor_NoWay:Xm K "NoDoor" "NoWay" false
 m_NoDoor_Twice:Xm K "NoDoor" "Twice" false
 m_NoDoor_Unlike:Xm K "NoDoor" "Unlike" false
 v_NoHouse:Xv K "NoHouse"
 m_NoHouse_ThrongError:Xm K "NoHouse" "ThrongError" true
 m_NoHouse_BadWord:Xm K "NoHouse" "BadWord" false
 m_NoHouse_Misfit:Xm K "NoHouse" "Misfit" false
 m_NoHouse_NoDoor:Xm K "NoHouse" "NoDoor" false
 m_NoHouse_NoField:Xm K "NoHouse" "NoField" false
 m_NoHouse_NoHouse:Xm K "NoHouse" "NoHouse" true
 m_NoHouse_NoLine:Xm K "NoHouse" "NoLine" false
 m_NoHouse_NoRule:Xm K "NoHouse" "NoRule" false
 m_NoHouse_NoWay:Xm K "NoHouse" "NoWay" false
 m_NoHouse_Twice:Xm K "NoHouse" "Twice" false
 m_NoHouse_Unlike:Xm K "NoHouse" "Unlike" false
local macro_rules | `(tactic| walk_at "rd")=>`(tactic| try simp only [a_cVar,a_tC,a_tOp,a_kAddI,a_kAddS,a_kAddL,a_kI,a_kI0,a_kMulI,a_kMulS,a_kEqI,a_kEqS,a_kEqB,a_kEqNS,a_kEqSN,a_kEqNN,a_kIs,a_kInS,a_kInL,a_kIxS,a_kIxL,a_kLenS,a_kLenL,a_kSlTo,a_kSlFrom,a_kSlL,a_tSl,a_tNoPart,a_cPart,a_kEqNil,a_cIsI,Ty.isBl,Ty.isInt,Ty.isStr,Ty.isLst,Ty.isTup,a_cTest,a_blK,a_cAndV,a_tAnd,a_tOr,a_tNot,a_tYes,a_cApp,a_cJoin1,a_tNil,a_tCons,a_tCall,a_tCB,a_tLst,a_tTup,a_tNext,a_tSeq,a_tDrop,a_tRet,a_tIfS,a_tAsg,a_gName,a_tJoin,a_cFor,a_cIter,a_cRng1,a_cZip,a_srcKS,a_srcKL,a_cComp,compσ,L2.start,a_cxK,a_cxCK,CDiv,CPow,List.map_cons,List.map_nil,List.length_cons,List.length_nil,List.replicate_succ,List.replicate_zero,List.cons_append,List.nil_append,List.getElem?_cons_zero,List.getElem?_cons_succ,List.set_cons_zero,List.set_cons_succ,Option.getD_some,Option.getD_none,Nat.reduceAdd,Nat.reduceSub,Bool.false_bne,Bool.true_bne,Bool.false_xor,Bool.true_xor,Bool.not_eq_true',decide_eq_true_eq,decide_eq_false_iff_not,Bool.not_true,Bool.not_false,if_true,if_false,true_and,and_true,Int.reduceLT,Int.reduceLE,Nat.reduceLeDiff,Bool.false_eq_true,a_gCons,a_gNil,a_gSeq,a_kListS,a_kListL,a_kSum,a_kSlF,a_cListRng,a_kEqD,a_kMulL,a_gSub,a_rSetL,a_tCallT,a_tRaise,a_cFS,a_jNil,a_jCons,a_cFmtR,a_cIsX,a_tTryAs,a_cDIn,a_cDPut,a_cPopAt,a_one,a_dNewT,a_kTupL,a_kMax2,a_kMin2,a_cListRng2,a_tTest,a_cInsert,a_kAll,a_kStr,a_cSortInts,a_cZipA,a_cExtend,a_kSortQ,a_cDGet1,ite_not,st_cps,Bool.true_eq_false,Int.zero_add,reduceIte,ite_true,ite_false])
section
variable {P:Program} {w:World} {K:Frag} {mg:Str -> Option Value} {base:Heap}
noncomputable def wSign (s o:Nat):Nat:=if o = 45 then s else o
noncomputable def written (r o:List Nat):List Nat:=(r.zip o).map fun p=>wSign p.1 p.2
def Known (H:Hp) (v:V):Prop:=match v with
 | .non=>True
 | .bl _=>True
 | .int _=>True
 | .str a=>a.cps.toList.length <= 1000
 | .ref p=>(∃ xs,H p = some (.lst xs)) \/ (∃ xs,H p = some (.tup xs))
 | _=>False
theorem Known.same {H H':Hp} {v:V} (k:Known H v) (s:Same H H'):Known H' v:=by
 cases v <;> try exact k
 rcases k with ⟨xs,h⟩ | ⟨xs,h⟩
 ·exact .inl ⟨xs,s _ _ h⟩
 ·exact .inr ⟨xs,s _ _ h⟩
noncomputable abbrev Fld:=List Nat × Nat
def FldAt (H:Hp) (x:Fld) (v:V):Prop:=∃ t,v = .ref t /\ H t = some (.tup [tx x.1,.int x.2])
def Lay (H:Hp) (p:Addr) (ls:List Fld):Prop:=∃ vs,H p = some (.lst vs) /\ Paired (FldAt H) ls vs
theorem flds_keep {H H':Hp} (k:∀ t vs,H t = some (.tup vs) -> H' t = some (.tup vs)) {ls:List Fld} {vs:List V} (h:Paired (FldAt H) ls vs):Paired (FldAt H') ls vs:=
 L2.Paired.mapP h fun _ _ ⟨t,e,q⟩=>⟨t,e,k _ _ q⟩
theorem Lay.same {H H':Hp} {p:Addr} {ls:List Fld} (h:Lay H p ls) (s:Same H H'):Lay H' p ls:=by
 obtain ⟨vs,e,pr⟩:=h
 exact ⟨vs,s _ _ e,flds_keep (fun t us q=>s _ _ q) pr⟩
noncomputable def fldD (x:Fld):D:=.t [.f (tx x.1),.f (.int x.2)]
noncomputable def widthL (ls:List Fld):Nat:=(ls.map (·.2)).sum
theorem paired_zip {α β:Type} {F:α -> β -> Prop} {l:List α} {m:List β} (h:Paired F l m):(l.zip m).map (·.2) = m /\ ∀ x ∈ l.zip m,F x.1 x.2:=by
 induction h with
 | nil=>exact ⟨rfl,fun x hx=>by cases hx⟩
 | cons r _ ih=>exact ⟨by rw [List.zip_cons_cons,List.map_cons,ih.1],fun x hx=>by
   rw [List.zip_cons_cons] at hx
   rcases List.mem_cons.mp hx with rfl | hx
   ·exact r
   ·exact ih.2 x hx⟩
theorem zip_fst {α β:Type}:∀ {l:List α} {m:List β},l.length = m.length -> (l.zip m).map (·.1) = l
 | [],_,_=>rfl
 | x :: l,[],h=>by cases h
 | x :: l,y :: m,h=>by rw [List.zip_cons_cons,List.map_cons,zip_fst (by simpa using h)]
theorem sum_cast:∀ l:List Nat,(l.map fun n:Nat=>(n:Int)).sum = (l.sum:Nat)
 | []=>rfl
 | x :: l=>by rw [List.map_cons,List.sum_cons,List.sum_cons,sum_cast l]; omega
noncomputable def spanF:List Fld -> List Nat -> Nat -> Option (Nat × Nat)
 | [],_,_=>none
 | (f,z) :: r,n,a=>if f = n then some (a,a + z) else spanF r n (a + z)
theorem spanF_skip:∀ (l r:List Fld) (n:List Nat) (a:Nat),(∀ x ∈ l,¬ x.1 = n) -> spanF (l ++ r) n a = spanF r n (a + widthL l)
 | [],r,n,a,_=>rfl
 | (f,z) :: l,r,n,a,h=>by
  have h0:¬ f = n:=h (f,z) List.mem_cons_self
  rw [List.cons_append,spanF,if_neg h0,spanF_skip l r n (a + z) fun x hx=>h x (List.mem_cons_of_mem _ hx)]
  unfold widthL
  rw [List.map_cons,List.sum_cons,Nat.add_assoc]
theorem st_len (n:List Nat):(st n).length = n.length:=by simp [Str.length]
noncomputable abbrev Rule:=List Nat × List Nat × List Nat
def RuleAt (H:Hp) (x:Rule) (v:V):Prop:=∃ t,v = .ref t /\ H t = some (.tup [tx x.1,tx x.2.1,tx x.2.2])
def Rules (H:Hp) (p:Addr) (rs:List Rule):Prop:=∃ vs,H p = some (.lst vs) /\ Paired (RuleAt H) rs vs
theorem rules_keep {H H':Hp} (k:∀ t vs,H t = some (.tup vs) -> H' t = some (.tup vs)) {rs:List Rule} {vs:List V} (h:Paired (RuleAt H) rs vs):Paired (RuleAt H') rs vs:=
 L2.Paired.mapP h fun _ _ ⟨t,e,q⟩=>⟨t,e,k _ _ q⟩
theorem keep_lst {H:Hp} {g:Addr} {xs ys:List V} (h:H g = some (.lst xs)):∀ t vs,H t = some (.tup vs) -> upd H g (.lst ys) t = some (.tup vs):=fun t vs q=>by
 rw [upd_ne (fun e=>by rw [e,h] at q; cases q)]
 exact q
theorem Rules.same {H H':Hp} {p:Addr} {rs:List Rule} (h:Rules H p rs) (s:Same H H'):Rules H' p rs:=by
 obtain ⟨vs,e,pr⟩:=h
 exact ⟨vs,s _ _ e,rules_keep (fun t us q=>s _ _ q) pr⟩
noncomputable def ruleD (x:Rule):D:=.t [.f (tx x.1),.f (tx x.2.1),.f (tx x.2.2)]
noncomputable def dropT:List Nat:=[100,114,111,112]
noncomputable def passT:List Nat:=[112,97,115,115]
noncomputable abbrev Way:=List Nat × List Nat
def WayAt (H:Hp) (x:Way) (v:V):Prop:=∃ t,v = .ref t /\ H t = some (.tup [tx x.1,tx x.2])
def Ways (H:Hp) (p:Addr) (ws:List Way):Prop:=∃ vs,H p = some (.lst vs) /\ Paired (WayAt H) ws vs
theorem ways_keep {H H':Hp} (k:∀ t vs,H t = some (.tup vs) -> H' t = some (.tup vs)) {ws:List Way} {vs:List V} (h:Paired (WayAt H) ws vs):Paired (WayAt H') ws vs:=
 L2.Paired.mapP h fun _ _ ⟨t,e,q⟩=>⟨t,e,k _ _ q⟩
theorem Ways.same {H H':Hp} {p:Addr} {ws:List Way} (h:Ways H p ws) (s:Same H H'):Ways H' p ws:=by
 obtain ⟨vs,e,pr⟩:=h
 exact ⟨vs,s _ _ e,ways_keep (fun t us q=>s _ _ q) pr⟩
theorem paired_snoc {α β:Type} {F:α -> β -> Prop} {l:List α} {m:List β} {x:α} {y:β} (h:Paired F l m) (r:F x y):Paired F (l ++ [x]) (m ++ [y]):=by
 induction h with
 | nil=>exact .cons r .nil
 | cons r' _ ih=>exact .cons r' ih
noncomputable def wayD (x:Way):D:=.t [.f (tx x.1),.f (tx x.2)]
noncomputable abbrev Gate:=List Nat × List Rule
noncomputable abbrev House:=List Gate × List Way
def GateAt (H:Hp) (x:Gate) (v:V):Prop:=∃ t p,v = .ref t /\ H t = some (.tup [tx x.1,.ref p]) /\ Rules H p x.2
def Gates (H:Hp) (p:Addr) (gs:List Gate):Prop:=∃ vs,H p = some (.lst vs) /\ Paired (GateAt H) gs vs
def HouseAt (H:Hp) (t:Addr) (h:House):Prop:=∃ g w,H t = some (.tup [.ref g,.ref w]) /\ Gates H g h.1 /\ Ways H w h.2
theorem Gates.same {H H':Hp} {p:Addr} {gs:List Gate} (h:Gates H p gs) (s:Same H H'):Gates H' p gs:=by
 obtain ⟨vs,e,pr⟩:=h
 exact ⟨vs,s _ _ e,L2.Paired.mapP pr fun _ _ ⟨t,q,e,h1,h2⟩=>⟨t,q,e,s _ _ h1,h2.same s⟩⟩
theorem HouseAt.same {H H':Hp} {t:Addr} {h:House} (x:HouseAt H t h) (s:Same H H'):HouseAt H' t h:=by
 obtain ⟨g,w,e,h1,h2⟩:=x
 exact ⟨g,w,s _ _ e,h1.same s,h2.same s⟩
noncomputable def gateOf (gs:List Gate) (n:List Nat):Option (List Rule):=(gs.find? fun g=>decide (g.1 = n)).map (·.2)
noncomputable def sp_gate_rules (K:Frag):Sp:=fun vs H Q E=>match vs with
 | [.ref t,.str n]=>∃ h:House,HouseAt H t h /\ (∀ c ∈ n.cps.toList,c < 16 ^ 8) /\ n.cps.toList.length <= 1000 /\
   (∀ rs,gateOf h.1 n.cps.toList = some rs -> ∀ p H',Same H H' -> Rules H' p rs -> Q (.ref p) H') /\
   (gateOf h.1 n.cps.toList = none -> ∀ H',Same H H' -> E (.ref (xA K "NoDoor")) none H')
 | _=>False
theorem ok_gate_rules (T:Top K mg):CalleeX P w K mg base 1 "gate_rules" ["house", "door"] (sp_gate_rules K):=by
 refine T.f_gate_rules.calX sc_gate_rules (by intro vs H Q E h; unfold sp_gate_rules at h; split at h <;> first | rfl | exact h.elim) (fun _ _ _ _ _ _ us hl=>match us,hl with | [_,_],_=>rfl) (fun f cdv A outer s H vs Q E hr h=>?_)
 unfold sp_gate_rules at h
 split at h
 case h_2=>exact h.elim
 refine ⟨_,(pss_cons (qs_for PassesOwn.leaving rfl (iterE K rfl (pe_ix (ixE K rfl) (qv 0) pe_int (fun _ _=>rfl))) (tupE K rfl rfl (n:=2) (pgs_cons (pg_name (i:=2) sc_gate_rules.nd rfl lc) (pgs_cons (pg_name (i:=3) sc_gate_rules.nd rfl lc) pgs_nil))) (pss_one (ps_if (qt_cmp op_eqK (qv 2) (qv 1)) (pss_one (ps_ret (qv 3))) pss_nil)))
   (pss_one (ps_raise rfl raises_fn rfl T.x_NoDoor.1 T.x_NoDoor.2 (pa_cons (pe_fs (pj_cons (qs [110,111,32,100,111,111,114,32]) (pj_cons (pe_fmtR (qv 1)) pj_nil))) pa_nil)))),?_⟩
 rename_i p s
 obtain ⟨n,rfl⟩:∃ x,s = st x:=⟨_,(st_eta s).symm⟩
 obtain ⟨hs,⟨g,w,e,⟨vs,e0,pr⟩,hw⟩,hc,hn,q1,q2⟩:=h
 simp only [st_cps] at q1 q2 hc hn
 have hl:=pr.length
 walk_at "rd"
 refine ⟨_,_,.inr (SqT.of e),rfl,?_⟩
 walk_at "rd"
 refine .inl ⟨⟨_,SqL.of e0⟩,?_⟩
 refine loop_list (xs:=vs) (fun i σ H'=>∃ u v,σ = [some (.ref p),some (.str (st n)),u,v] /\ Same H H' /\ ∀ x ∈ hs.1.take i,¬ x.1 = n) ⟨none,none,rfl,Same.refl _,fun x hx=>by simp at hx⟩ (fun i σ H' _ ⟨_,_,_,z,_⟩=>SqL.of (z _ _ e0)) ?_ ?_
 ·rintro i x σ H1 hx ⟨u,v,rfl,s1,h1⟩
  have hi:i < vs.length:=(List.getElem?_eq_some_iff.mp hx).1
  have hil:i < hs.1.length:=by omega
  obtain ⟨y,hy,t,r,ey,et,hr⟩:=paired_at pr (List.getElem?_eq_getElem hil)
  obtain rfl:x = .ref t:=by rw [hy] at hx; rw [<- Option.some.inj hx,ey]
  refine ⟨t,[_,_],rfl,SqT.of (s1 _ _ et),rfl,_,[_],rfl,_,[],rfl,rfl,?_⟩
  walk_at "rd"
  refine ite2 (fun g=>?_) fun g=>⟨some (tx hs.1[i].1),some (.ref r),rfl,s1,fun y hy=>?_⟩
  ·refine q1 hs.1[i].2 ?_ r H1 s1 (hr.same s1)
   unfold gateOf
   rw [show hs.1.find? (fun g=>decide (g.1 = n)) = some hs.1[i] from List.find?_eq_some_iff_append.mpr ⟨by simpa using g,hs.1.take i,hs.1.drop (i + 1),by simp,fun y hy=>by simpa using h1 y hy⟩]
   rfl
  ·rw [List.take_add_one,List.getElem?_eq_getElem hil] at hy
   rcases List.mem_append.mp hy with hy | hy
   ·exact h1 y hy
   ·have e:y = hs.1[i]:=by simpa using hy
    rw [e]
    exact g
 ·rintro σ H1 ⟨u,v,rfl,s1,h1⟩
  walk_at "rd"
  have e:gateOf hs.1 n = none:=by
   unfold gateOf
   rw [List.find?_eq_none.mpr fun y hy=>by simpa using h1 y (by rw [<- hl,List.take_length]; exact hy)]
   rfl
  have hz:(st n).length = n.length:=st_len n
  refine ⟨by rw [st_len]; exact Nat.le_of_lt (sizeBig (by decide)),hc,by omega,fun z hzz=>⟨?_,fun _=>⟨by decide,q2 e H1 s1⟩⟩⟩
  rw [st_len]
  exact Nat.le_of_lt (sizeBig (by simp only [List.length_cons,List.length_nil]; omega))
noncomputable def toT:List Nat:=[116,111]
structure Meet (ls:List Fld) (rs:List Rule) (ws:List Way) (n:Nat):Prop where
 wide:n <= 1000
 over:∀ r ∈ rs,r.2.2.length = n
 ways:∀ x ∈ ws,x.1.length <= 1000
 to:∃ a b,spanF ls toT 0 = some (a,b) /\ b <= n
noncomputable def sp__law_width (K:Frag):Sp:=fun vs H Q _=>match vs with
 | [.ref p]=>∃ ls:List Fld,Lay H p ls /\ ls.length <= 1000 /\ ∀ H',Same H H' -> Q (.int (widthL ls:Nat)) H'
 | _=>False
theorem ok__law_width (T:Top K mg):Callee P w K mg base 1 "_law_width" ["_law_layout_here"] (sp__law_width K):=by
 refine T.f__law_width.cal sc__law_width (by intro vs H Q E h; unfold sp__law_width at h; split at h <;> first | rfl | exact h.elim) (fun _ _ _ _ _ _ us hl=>match us,hl with | [_],_=>rfl) (fun f cdv A outer s H vs Q E hr h=>?_)
 unfold sp__law_width at h
 split at h
 case h_2=>exact h.elim
 refine ⟨_,(pss_one (ps_ret (pe_callB (call_sumK K rfl rfl) rfl T.b_sum bb_sum (pa_cons (qe_comp (nt:=2) (fi:=[]) (N':=["_law_name", "_law_size"]) rfl (cscope rfl (by decide +kernel)) (cnames (N:=["_law_layout_here"]) (sc:=defScope s__law_width) rfl rfl (by decide +kernel)) (gk_tup2 (by decide) (by decide)) (iterE K rfl (qv 0)) (fun _ _ _ _ _=>(tupE K rfl rfl (n:=2) (pgs_cons (pg_name (i:=0) (by show (["_law_name", "_law_size"]:List Str).Nodup; decide +kernel) rfl lc) (pgs_cons (pg_name (i:=1) (by show (["_law_name", "_law_size"]:List Str).Nodup; decide +kernel) rfl lc) pgs_nil)))) (fun _ _ _ _ _=>pif_nil) (fun _ _ _ _ _=>(qv 1))) pa_nil)))),?_⟩
 rename_i p
 obtain ⟨ls,⟨vs,e0,pr⟩,hn,q⟩:=h
 have hl:=pr.length
 obtain ⟨z1,z2⟩:=paired_zip pr
 walk_at "rd"
 refine .inl ⟨⟨_,SqL.of e0⟩,fun D hD=>?_⟩
 refine comp_list (item:=fun x:Fld × V=>x.2) (xs:=ls.zip vs) (h:=fun x=>[V.int x.1.2]) hD (by rw [z1]; exact SqL.of e0) (by rw [List.length_zip]; omega) (fun _=>by simp) ?_ ?_
 ·intro x H1 out non hx s1 ho _
  obtain ⟨t,ex,et⟩:=z2 x hx
  rw [ex]
  refine ⟨t,[_,_],rfl,SqT.of (s1 _ _ et),rfl,_,[_],rfl,_,[],rfl,rfl,?_⟩
  walk_at "rd"
  exact ho _ _ rfl (Same.refl _)
 ·intro H1 s1 e1
  rw [show (ls.zip vs).flatMap (fun x=>[V.int x.1.2]) = (ls.map fun x:Fld=>(x.2:Int)).map V.int by
   rw [<- zip_fst (l:=ls) (m:=vs) hl]
   simp only [List.map_map]
   rw [zip_fst hl]
   induction ls.zip vs with
   | nil=>rfl
   | cons x r ih=>rw [List.flatMap_cons,ih]; rfl] at e1
  walk_at "rd"
  refine ⟨_,SqL.of e1,?_⟩
  have:=q H1 s1
  unfold widthL at this
  rw [show (ls.map fun x:Fld=>(x.2:Int)).sum = ((ls.map (·.2)).sum:Nat) by rw [<- sum_cast,List.map_map]; rfl]
  exact this
noncomputable def spanG (ls:List Fld):Nat × Nat:=(spanF ls toT 0).getD (0,0)
noncomputable def sp__law_span (K:Frag):Sp:=fun vs H Q _=>match vs with
 | [.ref p]=>∃ ls:List Fld,Lay H p ls /\ ∀ t H',H t = none -> Same H H' -> H' t = some (.tup [.int ((spanG ls).1:Nat),.int ((spanG ls).2:Nat)]) -> Q (.ref t) H'
 | _=>False
theorem ok__law_span (T:Top K mg):Callee P w K mg base 1 "_law_span" ["_law_layout_here"] (sp__law_span K):=by
 refine T.f__law_span.cal sc__law_span (by intro vs H Q E h; unfold sp__law_span at h; split at h <;> first | rfl | exact h.elim) (fun _ _ _ _ _ _ us hl=>match us,hl with | [_],_=>rfl) (fun f cdv A outer s H vs Q E hr h=>?_)
 unfold sp__law_span at h
 split at h
 case h_2=>exact h.elim
 refine ⟨_,(pss_cons (ps_set (i:=1) sc__law_span.nd rfl lc pe_int)
   (pss_cons (qs_for PassesOwn.never rfl (iterE K rfl (qv 0)) (tupE K rfl rfl (n:=2) (pgs_cons (pg_name (i:=2) sc__law_span.nd rfl lc) (pgs_cons (pg_name (i:=3) sc__law_span.nd rfl lc) pgs_nil))) (pss_cons (ps_if (qt_cmp op_eqK (qv 2) (qs [116,111])) (pss_one (ps_ret (pe_tup (pa_cons (qv 1) (pa_cons (pe_op op_addK (qv 1) (qv 3)) pa_nil))))) pss_nil)
   (pss_one (ps_set (i:=1) sc__law_span.nd rfl lc (pe_op op_addK (qv 1) (qv 3))))))
   (pss_one (ps_ret (pe_tup (pa_cons pe_int (pa_cons pe_int pa_nil))))))),?_⟩
 rename_i p
 obtain ⟨ls,⟨vs,e0,pr⟩,q1⟩:=h
 have hl:=pr.length
 walk_at "rd"
 refine .inl ⟨⟨_,SqL.of e0⟩,?_⟩
 refine loop_list (xs:=vs) (fun i σ H'=>∃ u v,σ = [some (.ref p),some (.int (widthL (ls.take i):Nat)),u,v] /\ Same H H' /\ ∀ x ∈ ls.take i,¬ x.1 = toT) ⟨none,none,rfl,Same.refl _,fun x hx=>by simp at hx⟩ (fun i σ H' _ ⟨_,_,_,z,_⟩=>SqL.of (z _ _ e0)) ?_ ?_
 ·rintro i x σ H1 hx ⟨u,v,rfl,s1,h1⟩
  have hi:i < vs.length:=(List.getElem?_eq_some_iff.mp hx).1
  have hil:i < ls.length:=by omega
  obtain ⟨y,hy,t,ey,et⟩:=paired_at pr (List.getElem?_eq_getElem hil)
  obtain rfl:x = .ref t:=by rw [hy] at hx; rw [<- Option.some.inj hx,ey]
  refine ⟨t,[_,_],rfl,SqT.of (s1 _ _ et),rfl,_,[_],rfl,_,[],rfl,rfl,?_⟩
  walk_at "rd"
  have sp:spanF ls toT 0 = spanF (ls.drop i) toT (0 + widthL (ls.take i)):=by
   have:=spanF_skip (ls.take i) (ls.drop i) toT 0 h1
   rw [List.take_append_drop] at this
   exact this
  rw [List.drop_eq_getElem_cons hil,Nat.zero_add] at sp
  have w1:widthL (ls.take (i + 1)) = widthL (ls.take i) + ls[i].2:=by
   unfold widthL
   rw [List.take_add_one,List.getElem?_eq_getElem hil,Option.toList_some,List.map_append,List.sum_append]
   simp
  refine ite2 (fun g=>⟨by decide,fun t2 ht2=>?_⟩) fun g=>⟨some (tx ls[i].1),some (.int ls[i].2),?_,s1,fun y hy=>?_⟩
  ·refine q1 t2 _ (s1.free ht2) (s1.trans (same_new ht2 _)) ?_
   have e:spanG ls = (widthL (ls.take i),widthL (ls.take i) + ls[i].2):=by
    unfold spanG
    rw [sp,show ls[i] = (ls[i].1,ls[i].2) from rfl,spanF,if_pos (show ls[i].1 = toT from g)]
    rfl
   rw [upd_same,e]
   simp
  ·rw [w1]
   simp
  ·rw [List.take_add_one,List.getElem?_eq_getElem hil] at hy
   rcases List.mem_append.mp hy with hy | hy
   ·exact h1 y hy
   ·have e:y = ls[i]:=by simpa using hy
    rw [e]
    exact g
 ·rintro σ H1 ⟨u,v,rfl,s1,h1⟩
  walk_at "rd"
  have e:spanF ls toT 0 = none:=by
   have:=spanF_skip ls [] toT 0 fun x hx=>h1 x (by rw [<- hl,List.take_length]; exact hx)
   rw [List.append_nil] at this
   exact this
  refine ⟨by decide,fun t2 ht2=>q1 t2 _ (s1.free ht2) (s1.trans (same_new ht2 _)) ?_⟩
  rw [upd_same]
  unfold spanG
  rw [e]
  rfl
noncomputable def Th (H:Hp):Nat -> V -> D -> Prop
 | 0,v,d=>d = .f v /\ flatV v = true
 | n + 1,v,d=>(d = .f v /\ flatV v = true) \/ (∃ a vs ds,v = .ref a /\ d = .l ds /\ H a = some (.lst vs) /\ vs.length <= 1000 /\ Paired (Th H n) vs ds) \/ (∃ a vs ds,v = .ref a /\ d = .t ds /\ H a = some (.tup vs) /\ vs.length <= 1000 /\ Paired (Th H n) vs ds)
theorem th_same {H H':Hp} (s:Same H H'):∀ (n:Nat) {v:V} {d:D},Th H n v d -> Th H' n v d
 | 0,_,_,h=>h
 | n + 1,_,_,.inl h=>.inl h
 | n + 1,_,_,.inr (.inl ⟨a,vs,ds,e1,e2,e3,e4,p⟩)=>.inr (.inl ⟨a,vs,ds,e1,e2,s _ _ e3,e4,L2.Paired.mapP p fun _ _ z=>th_same s n z⟩)
 | n + 1,_,_,.inr (.inr ⟨a,vs,ds,e1,e2,e3,e4,p⟩)=>.inr (.inr ⟨a,vs,ds,e1,e2,s _ _ e3,e4,L2.Paired.mapP p fun _ _ z=>th_same s n z⟩)
theorem th_flat {H:Hp} {v:V} (n:Nat) (f:flatV v = true):Th H n v (.f v):=by
 cases n with
 | zero=>exact ⟨rfl,f⟩
 | succ n=>exact .inl ⟨rfl,f⟩
theorem paired_both {α β γ:Type} {F:α -> γ -> Prop} {G:β -> γ -> Prop}:∀ {xs:List α} {ys:List β} {ds:List γ},Paired F xs ds -> Paired G ys ds -> ∀ x ∈ xs.zip ys,∃ d,F x.1 d /\ G x.2 d
 | _,_,_,.nil,.nil,x,hx=>by simp at hx
 | _,_,_,.cons r p,.cons r' p',x,hx=>by
  rw [List.zip_cons_cons] at hx
  rcases List.mem_cons.mp hx with rfl | hx
  ·exact ⟨_,r,r'⟩
  ·exact paired_both p p' x hx
theorem all_yes {α:Type} {F:α -> V -> Hp -> Prop} {H:Hp}:∀ {xs:List α} {vs:List V},Paired (fun x v=>v = V.bl true) xs vs -> vs = (xs.map fun _=>true).map V.bl
 | _,_,.nil=>rfl
 | _,_,.cons r p=>by rw [List.map_cons,List.map_cons,<- all_yes (F:=F) (H:=H) p,r]
theorem all_id {α:Type} (xs:List α):(xs.map fun _=>true).all id = true:=by simp
theorem th_inv {H:Hp}:∀ {n:Nat} {v:V} {d:D},Th H n v d -> flatV v = true -> d = .f v
 | 0,_,_,h,_=>h.1
 | _ + 1,_,_,.inl h,_=>h.1
 | _ + 1,_,_,.inr (.inl ⟨_,_,_,e,_⟩),f=>by subst e; cases f
 | _ + 1,_,_,.inr (.inr ⟨_,_,_,e,_⟩),f=>by subst e; cases f
theorem th_of {H:Hp}:∀ {n:Nat} {u v:V},Th H n u (.f v) -> u = v
 | 0,_,_,h=>(D.f.inj h.1).symm
 | _ + 1,_,_,.inl h=>(D.f.inj h.1).symm
 | _ + 1,_,_,.inr (.inl ⟨_,_,_,_,e,_⟩)=>by cases e
 | _ + 1,_,_,.inr (.inr ⟨_,_,_,_,e,_⟩)=>by cases e
noncomputable def sp__law_same (K:Frag) (m:Nat):Sp:=fun vs H Q _=>match vs with
 | [v,u]=>∃ n d,n < m /\ Th H n v d /\ Th H n u d /\ ∀ H',Same H H' -> Q (.bl true) H'
 | _=>False
theorem rec__law_same (T:Top K mg):∀ m:Nat,Callee P w K mg base (m + 1) "_law_same" ["_law_found", "_law_due"] (sp__law_same K m):=by
 intro m
 induction m with
 | zero=>
  refine T.f__law_same.cal sc__law_same (by intro vs H Q E h; unfold sp__law_same at h; split at h <;> first | rfl | exact h.elim) (fun _ _ _ _ _ _ us hl=>match us,hl with | [_,_],_=>rfl) (fun f cdv A outer s H vs Q E hr h=>?_)
  unfold sp__law_same at h
  split at h
  case h_2=>exact h.elim
  obtain ⟨_,_,hn,_⟩:=h
  exact absurd hn (Nat.not_lt_zero _)
 | succ m ih=>
  refine T.f__law_same.cal sc__law_same (by intro vs H Q E h; unfold sp__law_same at h; split at h <;> first | rfl | exact h.elim) (fun _ _ _ _ _ _ us hl=>match us,hl with | [_,_],_=>rfl) (fun f cdv A outer s H vs Q E hr h=>?_)
  unfold sp__law_same at h
  split at h
  case h_2=>exact h.elim
  refine ⟨_,(pss_cons (ps_if (qt_cmp op_isK (qv 1) pe_non) (pss_one (ps_ret (qe_cmp op_isK (qv 0) pe_non))) pss_nil)
   (pss_cons (ps_if (PW.pt (pw_or (qt_val (qe_isinst .bool rfl T.b_isinstance (qv 1) rfl T.b_bool bb_bool)) (pw_or1 (qt_val (qe_isinst .bool rfl T.b_isinstance (qv 0) rfl T.b_bool bb_bool))))) (pss_one (ps_ret (qe_and (qe_isinst .bool rfl T.b_isinstance (qv 1) rfl T.b_bool bb_bool) (qe_and (qe_isinst .bool rfl T.b_isinstance (qv 0) rfl T.b_bool bb_bool) (pe_one (qe_cmp op_eqK (qv 0) (qv 1))))))) pss_nil)
   (pss_cons (ps_if (qt_val (qe_isinst .str rfl T.b_isinstance (qv 1) rfl T.b_str bb_str)) (pss_one (ps_ret (qe_and (qe_isinst .str rfl T.b_isinstance (qv 0) rfl T.b_str bb_str) (pe_one (qe_cmp op_eqK (qv 0) (qv 1)))))) pss_nil)
   (pss_cons (ps_if (qt_val (qe_isinst .int rfl T.b_isinstance (qv 1) rfl T.b_int bb_int)) (pss_one (ps_ret (qe_and (qe_isinst .int rfl T.b_isinstance (qv 0) rfl T.b_int bb_int) (pe_one (qe_cmp op_eqK (qv 0) (qv 1)))))) pss_nil)
   (pss_join (ps_if (qt_val (qe_isinst .tuple rfl T.b_isinstance (qv 1) rfl T.b_tuple bb_tuple)) (pss_one (ps_if (pt_not (qt_val (qe_isinst .tuple rfl T.b_isinstance (qv 0) rfl T.b_tuple bb_tuple))) (pss_one (ps_ret pe_bl)) pss_nil)) (pss_one (ps_if (pt_not (qt_val (qe_isinst .list rfl T.b_isinstance (qv 0) rfl T.b_list bb_list))) (pss_one (ps_ret pe_bl)) pss_nil)))
   (pss_cons (ps_if (qt_cmp op_neK (pe_callB (lenE K rfl) rfl T.b_len bb_len (pa_cons (qv 0) pa_nil)) (pe_callB (lenE K rfl) rfl T.b_len bb_len (pa_cons (qv 1) pa_nil))) (pss_one (ps_ret pe_bl)) pss_nil)
   (pss_one (ps_ret (pe_callB (call_allK K rfl rfl) rfl T.b_all bb_all (pa_cons (qe_comp (nt:=2) (fi:=[]) (N':=["_law_own", "_law_part"]) rfl (cscope rfl (by decide +kernel)) (cnames (N:=["_law_found", "_law_due"]) (sc:=defScope s__law_same) rfl rfl (by decide +kernel)) (gk_tup2 (by decide) (by decide)) (qi_zipA rfl rfl T.b_zip (qv 0) (qv 1)) (fun _ _ _ _ _=>(tupE K rfl rfl (n:=2) (pgs_cons (pg_name (i:=0) (by show (["_law_own", "_law_part"]:List Str).Nodup; decide +kernel) rfl lc) (pgs_cons (pg_name (i:=1) (by show (["_law_own", "_law_part"]:List Str).Nodup; decide +kernel) rfl lc) pgs_nil)))) (fun _ _ _ _ _=>pif_nil) (fun _ _ _ _ _=>(pe_fn ih hr.m rfl (pa_cons (qv 0) (pa_cons (qv 1) pa_nil))))) pa_nil)))))))))),?_⟩
  rename_i v u
  obtain ⟨n,d,hn,h1,h2,q⟩:=h
  by_cases fl:flatV v = true
  ·have ed:=th_inv h1 fl
   subst ed
   have eu:=th_of h2
   subst eu
   have q0:=q H (Same.refl _)
   cases u with
   | non=>walk_at "rd"; exact q0
   | bl b=>walk_at "rd"; exact q0
   | int i=>walk_at "rd"; exact q0
   | str z=>
    walk_at "rd"
    rw [if_neg (by intro y; cases y)]
    rw [a_kEqS]
    simpa using q0
   | _=>cases fl
  ·obtain _ | n:=n
   ·exact absurd h1.2 fl
   rcases h1 with h1 | ⟨a,vs,ds,rfl,rfl,e1,l1,p1⟩ | ⟨a,vs,ds,rfl,rfl,e1,l1,p1⟩
   ·exact absurd h1.2 fl
   ·rcases h2 with ⟨e2,_⟩ | ⟨b,us,ds2,rfl,ed,e2,l2,p2⟩ | ⟨b,us,ds2,rfl,ed,e2,l2,p2⟩
    ·cases e2
    ·cases ed
     walk_at "rd"
     rw [if_neg (by intro y; cases y)]
     refine .inl ⟨⟨_,e2⟩,.inl ⟨⟨_,e1⟩,.inl ⟨⟨_,e2⟩,.inl ⟨⟨_,e2⟩,fun σ' H'=>σ' = [some (.ref a),some (.ref b)] /\ H' = H,.inl ⟨⟨_,e2⟩,.inl ⟨⟨_,e1⟩,rfl,rfl⟩⟩,?_⟩⟩⟩⟩
     rintro σ' H' ⟨rfl,rfl⟩
     walk_at "rd"
     have l3:=p1.length
     have l4:=p2.length
     have lz:(vs.zip us).length = vs.length:=by rw [List.length_zip]; omega
     refine ⟨vs,.inl (SqL.of e1),us,.inl (SqL.of e2),?_⟩
     rw [if_pos (by omega)]
     refine .inl ⟨⟨_,SqL.of e1⟩,⟨_,SqL.of e2⟩,fun D hD=>?_⟩
     refine comp_gen (vs.zip us) (fun _=>true) (fun _ v _=>v = .bl true) hD (by omega) (fun i H1 hi s1=>⟨⟨vs,vs[i],SqL.of (s1 _ _ e1),List.getElem?_eq_getElem (by omega)⟩,⟨us,us[i],SqL.of (s1 _ _ e2),List.getElem?_eq_getElem (by omega)⟩⟩) (fun H1 s1=>.inl ⟨vs,SqL.of (s1 _ _ e1),by omega⟩) ?_ (fun _ _ _ _ _ _ _ r=>r) ?_ ?_
     ·rintro i H1 v H2 _ ⟨S,x,y,rfl,hS,rfl,_,_⟩
      exact same_new hS _
     ·rintro i x v H1 H2 out non hx s1 ⟨S,x1,x2,rfl,hS,rfl,a1,a2⟩ ho _
      obtain ⟨z1,z2⟩:=List.getElem?_zip_eq_some.mp hx
      have y1:=(a1 vs (SqL.of (s1 _ _ e1)))
      have y2:=(a2 us (SqL.of (s1 _ _ e2)))
      rw [z1] at y1
      rw [z2] at y2
      cases y1
      cases y2
      obtain ⟨d,t1,t2⟩:=paired_both p1 p2 x (List.mem_of_getElem? hx)
      have s2:=s1.trans (same_new hS (.tup [x.1,x.2]))
      refine ⟨S,[_,_],rfl,SqT.of upd_same,rfl,_,[_],rfl,_,[],rfl,rfl,?_⟩
      walk_at "rd"
      exact ⟨n,d,by omega,th_same s2 n t1,th_same s2 n t2,fun H3 s3=>ho _ H3 rfl s3 rfl⟩
     ·intro H1 ws s1 e3 p3
      rw [all_yes (F:=fun _ _ _=>True) (H:=H') p3] at e3
      walk_at "rd"
      refine ⟨_,SqL.of e3,?_⟩
      rw [all_id]
      exact q H1 s1
    ·cases ed
   ·rcases h2 with ⟨e2,_⟩ | ⟨b,us,ds2,rfl,ed,e2,l2,p2⟩ | ⟨b,us,ds2,rfl,ed,e2,l2,p2⟩
    ·cases e2
    ·cases ed
    ·cases ed
     walk_at "rd"
     rw [if_neg (by intro y; cases y)]
     refine .inr ⟨⟨_,e2⟩,.inr ⟨⟨_,e1⟩,.inr ⟨⟨_,e2⟩,.inr ⟨⟨_,e2⟩,fun σ' H'=>σ' = [some (.ref a),some (.ref b)] /\ H' = H,.inr ⟨⟨_,e2⟩,.inr ⟨⟨_,e1⟩,rfl,rfl⟩⟩,?_⟩⟩⟩⟩
     rintro σ' H' ⟨rfl,rfl⟩
     walk_at "rd"
     have l3:=p1.length
     have l4:=p2.length
     have lz:(vs.zip us).length = vs.length:=by rw [List.length_zip]; omega
     refine ⟨vs,.inr (SqT.of e1),us,.inr (SqT.of e2),?_⟩
     rw [if_pos (by omega)]
     refine .inr ⟨a,b,rfl,rfl,⟨_,e1⟩,⟨_,e2⟩,fun D hD=>?_⟩
     refine comp_gen (vs.zip us) (fun _=>true) (fun _ v _=>v = .bl true) hD (by omega) (fun i H1 hi s1=>⟨⟨vs,vs[i],s1 _ _ e1,List.getElem?_eq_getElem (by omega)⟩,⟨us,us[i],s1 _ _ e2,List.getElem?_eq_getElem (by omega)⟩⟩) (fun H1 s1=>.inl ⟨vs,s1 _ _ e1,by omega⟩) ?_ (fun _ _ _ _ _ _ _ r=>r) ?_ ?_
     ·rintro i H1 v H2 _ ⟨S,x,y,rfl,hS,rfl,_,_⟩
      exact same_new hS _
     ·rintro i x v H1 H2 out non hx s1 ⟨S,x1,x2,rfl,hS,rfl,a1,a2⟩ ho _
      obtain ⟨z1,z2⟩:=List.getElem?_zip_eq_some.mp hx
      have y1:=(a1 vs (s1 _ _ e1))
      have y2:=(a2 us (s1 _ _ e2))
      rw [z1] at y1
      rw [z2] at y2
      cases y1
      cases y2
      obtain ⟨d,t1,t2⟩:=paired_both p1 p2 x (List.mem_of_getElem? hx)
      have s2:=s1.trans (same_new hS (.tup [x.1,x.2]))
      refine ⟨S,[_,_],rfl,SqT.of upd_same,rfl,_,[_],rfl,_,[],rfl,rfl,?_⟩
      walk_at "rd"
      exact ⟨n,d,by omega,th_same s2 n t1,th_same s2 n t2,fun H3 s3=>ho _ H3 rfl s3 rfl⟩
     ·intro H1 ws s1 e3 p3
      rw [all_yes (F:=fun _ _ _=>True) (H:=H') p3] at e3
      walk_at "rd"
      refine ⟨_,SqL.of e3,?_⟩
      rw [all_id]
      exact q H1 s1
theorem ok__law_same (T:Top K mg):Callee P w K mg base 11 "_law_same" ["_law_found", "_law_due"] (sp__law_same K 10):=rec__law_same T 10
noncomputable def ThN (N:Addr -> Prop) (H:Hp):Nat -> V -> D -> Prop
 | 0,v,d=>d = .f v /\ flatV v = true
 | n + 1,v,d=>(d = .f v /\ flatV v = true) \/ (∃ a vs ds,v = .ref a /\ d = .l ds /\ N a /\ H a = some (.lst vs) /\ vs.length <= 1000 /\ Paired (ThN N H n) vs ds) \/ (∃ a vs ds,v = .ref a /\ d = .t ds /\ N a /\ H a = some (.tup vs) /\ vs.length <= 1000 /\ Paired (ThN N H n) vs ds)
theorem thN_imp {N N':Addr -> Prop} {H H':Hp} (s:∀ a o,N a -> H a = some o -> H' a = some o) (f:∀ a,N a -> N' a):∀ (n:Nat) {v:V} {d:D},ThN N H n v d -> ThN N' H' n v d
 | 0,_,_,h=>h
 | n + 1,_,_,.inl h=>.inl h
 | n + 1,_,_,.inr (.inl ⟨a,vs,ds,e1,e2,k,e3,e4,p⟩)=>.inr (.inl ⟨a,vs,ds,e1,e2,f _ k,s _ _ k e3,e4,L2.Paired.mapP p fun _ _ z=>thN_imp s f n z⟩)
 | n + 1,_,_,.inr (.inr ⟨a,vs,ds,e1,e2,k,e3,e4,p⟩)=>.inr (.inr ⟨a,vs,ds,e1,e2,f _ k,s _ _ k e3,e4,L2.Paired.mapP p fun _ _ z=>thN_imp s f n z⟩)
theorem thN_th {N:Addr -> Prop} {H:Hp}:∀ (n:Nat) {v:V} {d:D},ThN N H n v d -> Th H n v d
 | 0,_,_,h=>h
 | n + 1,_,_,.inl h=>.inl h
 | n + 1,_,_,.inr (.inl ⟨a,vs,ds,e1,e2,k,e3,e4,p⟩)=>.inr (.inl ⟨a,vs,ds,e1,e2,e3,e4,L2.Paired.mapP p fun _ _ z=>thN_th n z⟩)
 | n + 1,_,_,.inr (.inr ⟨a,vs,ds,e1,e2,k,e3,e4,p⟩)=>.inr (.inr ⟨a,vs,ds,e1,e2,e3,e4,L2.Paired.mapP p fun _ _ z=>thN_th n z⟩)
theorem paired_idx {α β:Type} {F:α -> β -> Prop}:∀ {xs:List α} {ds:List β},Paired F xs ds -> ∀ {i:Nat} {x:α},xs[i]? = some x -> ∃ d,ds[i]? = some d /\ F x d
 | _,_,.nil,i,x,h=>by simp at h
 | _,_,.cons r p,0,x,h=>by simp at h; subst h; exact ⟨_,rfl,r⟩
 | _,_,.cons r p,i + 1,x,h=>by simpa using paired_idx p (by simpa using h)
theorem paired_ends {α β γ:Type} {F:β -> γ -> Prop}:∀ {xs:List (α × γ)} {vs:List β},Paired (fun x v=>F v x.2) xs vs -> Paired F vs (xs.map (·.2))
 | _,_,.nil=>.nil
 | _,_,.cons r p=>.cons r (paired_ends p)
noncomputable def sp__law_copy (K:Frag) (m:Nat):Sp:=fun vs H Q _=>match vs with
 | [v]=>∃ n d,n < m /\ Th H n v d /\ ∀ v' H',Same H H' -> ThN (fun a=>H a = none) H' n v' d -> Q v' H'
 | _=>False
theorem rec__law_copy (T:Top K mg):∀ m:Nat,Callee P w K mg base (m + 1) "_law_copy" ["_law_thing"] (sp__law_copy K m):=by
 intro m
 induction m with
 | zero=>
  refine T.f__law_copy.cal sc__law_copy (by intro vs H Q E h; unfold sp__law_copy at h; split at h <;> first | rfl | exact h.elim) (fun _ _ _ _ _ _ us hl=>match us,hl with | [_],_=>rfl) (fun f cdv A outer s H vs Q E hr h=>?_)
  unfold sp__law_copy at h
  split at h
  case h_2=>exact h.elim
  obtain ⟨_,_,hn,_⟩:=h
  exact absurd hn (Nat.not_lt_zero _)
 | succ m ih=>
  refine T.f__law_copy.cal sc__law_copy (by intro vs H Q E h; unfold sp__law_copy at h; split at h <;> first | rfl | exact h.elim) (fun _ _ _ _ _ _ us hl=>match us,hl with | [_],_=>rfl) (fun f cdv A outer s H vs Q E hr h=>?_)
  unfold sp__law_copy at h
  split at h
  case h_2=>exact h.elim
  refine ⟨_,(pss_cons (ps_if (qt_val (qe_isinst .list rfl T.b_isinstance (qv 0) rfl T.b_list bb_list)) (pss_one (ps_ret (qe_comp (nt:=1) (fi:=[]) (N':=["_law_part"]) rfl (cscope rfl (by decide +kernel)) (cnames (N:=["_law_thing"]) (sc:=defScope s__law_copy) rfl rfl (by decide +kernel)) (gk_name (by decide)) (iterE K rfl (qv 0)) (fun _ _ _ _ _=>(pg_name (i:=0) (by show (["_law_part"]:List Str).Nodup; decide +kernel) rfl lc)) (fun _ _ _ _ _=>pif_nil) (fun _ _ _ _ _=>(pe_fn ih hr.m rfl (pa_cons (qv 0) pa_nil)))))) pss_nil)
   (pss_cons (ps_if (qt_val (qe_isinst .tuple rfl T.b_isinstance (qv 0) rfl T.b_tuple bb_tuple)) (pss_one (ps_ret (pe_callTy (call_tupL K rfl) rfl T.b_tuple bb_tuple (pa_cons (qe_comp (nt:=1) (fi:=[]) (N':=["_law_part"]) rfl (cscope rfl (by decide +kernel)) (cnames (N:=["_law_thing"]) (sc:=defScope s__law_copy) rfl rfl (by decide +kernel)) (gk_name (by decide)) (iterE K rfl (qv 0)) (fun _ _ _ _ _=>(pg_name (i:=0) (by show (["_law_part"]:List Str).Nodup; decide +kernel) rfl lc)) (fun _ _ _ _ _=>pif_nil) (fun _ _ _ _ _=>(pe_fn ih hr.m rfl (pa_cons (qv 0) pa_nil)))) pa_nil)))) pss_nil)
   (pss_one (ps_ret (qv 0))))),?_⟩
  rename_i v
  obtain ⟨n,d,hn,h1,q⟩:=h
  by_cases fl:flatV v = true
  ·have ed:=th_inv h1 fl
   subst ed
   have q0:=q v H (Same.refl _) (by cases n with | zero=>exact ⟨rfl,fl⟩ | succ n=>exact .inl ⟨rfl,fl⟩)
   cases v with
   | non=>walk_at "rd"; exact q0
   | bl b=>walk_at "rd"; exact q0
   | int i=>walk_at "rd"; exact q0
   | str z=>walk_at "rd"; exact q0
   | _=>cases fl
  ·obtain _ | n:=n
   ·exact absurd h1.2 fl
   rcases h1 with h1 | ⟨a,vs,ds,rfl,rfl,e1,l1,p1⟩ | ⟨a,vs,ds,rfl,rfl,e1,l1,p1⟩
   ·exact absurd h1.2 fl
   ·have l3:=p1.length
    have lz:(vs.zip ds).length = vs.length:=by rw [List.length_zip]; omega
    walk_at "rd"
    refine .inl ⟨⟨_,e1⟩,.inl ⟨⟨_,SqL.of e1⟩,fun D hD=>?_⟩⟩
    refine comp_genD (vs.zip ds) (fun x v H1=>ThN (fun b=>b ≠ D /\ H b = none) H1 n v x.2) hD (by omega) (fun i H1 hi s1=>⟨vs,vs[i],SqL.of (s1 _ _ e1),List.getElem?_eq_getElem (by omega)⟩) (fun H1 s1=>⟨vs,SqL.of (s1 _ _ e1),by omega⟩) ?_ (fun x v H1 H2 acc _ k r=>thN_imp (fun b o nb e=>k b o nb.1 e) (fun _ z=>z) n r) ?_ ?_
    ·rintro i H1 v H2 _ ⟨rfl,_⟩
     exact Same.refl _
    ·rintro i x v H1 H2 out non hx s1 nD ⟨rfl,a1⟩ ho
     obtain ⟨z1,z2⟩:=List.getElem?_zip_eq_some.mp hx
     have y1:=a1 vs (SqL.of (s1 _ _ e1))
     rw [z1] at y1
     cases y1
     obtain ⟨d,z3,t1⟩:=paired_idx p1 z1
     rw [z2] at z3
     cases z3
     walk_at "rd"
     exact ⟨n,x.2,by omega,th_same s1 n t1,fun v' H6 s6 t6=>ho v' H6 s6 (thN_imp (fun _ _ _ e=>e) (fun b hb=>⟨nD b hb,s1.free hb⟩) n t6)⟩
    ·intro H1 ws s1 e3 p3
     have l4:=p3.length
     have pe:=paired_ends p3
     rw [List.map_snd_zip (by omega)] at pe
     refine q (.ref D) H1 s1 (.inr (.inl ⟨D,ws,ds,rfl,rfl,hD,e3,by omega,?_⟩))
     exact L2.Paired.mapP pe fun _ _ z=>thN_imp (fun _ _ _ e=>e) (fun b hb=>hb.2) n z
   ·have l3:=p1.length
    have lz:(vs.zip ds).length = vs.length:=by rw [List.length_zip]; omega
    walk_at "rd"
    refine .inr ⟨⟨_,e1⟩,.inr ⟨⟨_,e1⟩,.inr ⟨⟨_,SqT.of e1⟩,fun D hD=>?_⟩⟩⟩
    refine comp_genD (vs.zip ds) (fun x v H1=>ThN (fun b=>b ≠ D /\ H b = none) H1 n v x.2) hD (by omega) (fun i H1 hi s1=>⟨vs,vs[i],SqT.of (s1 _ _ e1),List.getElem?_eq_getElem (by omega)⟩) (fun H1 s1=>⟨vs,SqT.of (s1 _ _ e1),by omega⟩) ?_ (fun x v H1 H2 acc _ k r=>thN_imp (fun b o nb e=>k b o nb.1 e) (fun _ z=>z) n r) ?_ ?_
    ·rintro i H1 v H2 _ ⟨rfl,_⟩
     exact Same.refl _
    ·rintro i x v H1 H2 out non hx s1 nD ⟨rfl,a1⟩ ho
     obtain ⟨z1,z2⟩:=List.getElem?_zip_eq_some.mp hx
     have y1:=a1 vs (SqT.of (s1 _ _ e1))
     rw [z1] at y1
     cases y1
     obtain ⟨d,z3,t1⟩:=paired_idx p1 z1
     rw [z2] at z3
     cases z3
     walk_at "rd"
     exact ⟨n,x.2,by omega,th_same s1 n t1,fun v' H6 s6 t6=>ho v' H6 s6 (thN_imp (fun _ _ _ e=>e) (fun b hb=>⟨nD b hb,s1.free hb⟩) n t6)⟩
    ·intro H1 ws s1 e3 p3
     have l4:=p3.length
     have pe:=paired_ends p3
     rw [List.map_snd_zip (by omega)] at pe
     walk_at "rd"
     refine ⟨ws,SqL.of e3,fun l hl=>q (.ref l) _ (s1.trans (same_new hl _)) (.inr (.inr ⟨l,ws,ds,rfl,rfl,s1.free hl,upd_same,by omega,?_⟩))⟩
     exact L2.Paired.mapP pe fun _ _ z=>thN_imp (fun b o _ e=>same_new hl _ _ _ e) (fun b hb=>hb.2) n z
theorem ok__law_copy (T:Top K mg):Callee P w K mg base 11 "_law_copy" ["_law_thing"] (sp__law_copy K 10):=rec__law_copy T 10
noncomputable def cellN (ns:List Int) (k:Nat):Int:=if 0 < ns.length then (ns.getD (k % ns.length) 0) % 2147483647 else 0
noncomputable def drawN (ns:List Int) (k m:Nat):Nat:=((cellN ns k * (742938285 + 9973 * (k:Int) * (k:Int)) + (k:Int) * 630360016) % 2147483647 / 97 % (m:Int)).toNat
theorem cellN_lt (ns:List Int) (k:Nat):0 <= cellN ns k /\ cellN ns k < 2147483647:=by
 unfold cellN
 split
 ·exact ⟨Int.emod_nonneg _ (by decide),Int.emod_lt_of_pos _ (by decide)⟩
 ·decide
theorem drawN_lt (ns:List Int) (k:Nat) {m:Nat} (h:1 <= m):drawN ns k m < m:=by
 unfold drawN
 generalize (cellN ns k * (742938285 + 9973 * (k:Int) * (k:Int)) + (k:Int) * 630360016) % 2147483647 / 97 = z
 have z0:0 <= z % (m:Int):=Int.emod_nonneg _ (by omega)
 have z1:z % (m:Int) < m:=Int.emod_lt_of_pos _ (by omega)
 omega
noncomputable def sp__law_draw (K:Frag):Sp:=fun vs H Q _=>match vs with
 | [.ref a,.int k,.int m]=>∃ (ns:List Int) (k0 m0:Nat),SqL K H a (ns.map V.int) /\ k = (k0:Int) /\ k0 <= 100000 /\ m = (m0:Int) /\ 1 <= m0 /\ m0 <= 100000 /\ Q (.int (drawN ns k0 m0:Nat)) H
 | _=>False
theorem ok__law_draw (T:Top K mg):Callee P w K mg base 1 "_law_draw" ["_law_script", "_law_k", "_law_many"] (sp__law_draw K):=by
 refine T.f__law_draw.cal sc__law_draw (by intro vs H Q E h; unfold sp__law_draw at h; split at h <;> first | rfl | exact h.elim) (fun _ _ _ _ _ _ us hl=>match us,hl with | [_,_,_],_=>rfl) (fun f cdv A outer s H vs Q E hr h=>?_)
 unfold sp__law_draw at h
 split at h
 case h_2=>exact h.elim
 refine ⟨_,(pss_cons (ps_set (i:=3) sc__law_draw.nd rfl lc pe_int)
   (pss_join (ps_if (qt_cmp op_gtK (pe_callB (lenE K rfl) rfl T.b_len bb_len (pa_cons (qv 0) pa_nil)) pe_int) (pss_one (ps_set (i:=3) sc__law_draw.nd rfl lc (pe_op op_modK (pe_ix (ixE K rfl) (qv 0) (pe_op op_modK (qv 1) (pe_callB (lenE K rfl) rfl T.b_len bb_len (pa_cons (qv 0) pa_nil))) (fun _ _=>rfl)) pe_int))) pss_nil)
   (pss_cons (ps_set (i:=4) sc__law_draw.nd rfl lc (pe_op op_addK (pe_op op_mulK (qv 3) (pe_op op_addK pe_int (pe_op op_mulK (pe_op op_mulK pe_int (qv 1)) (qv 1)))) (pe_op op_mulK (qv 1) pe_int)))
   (pss_one (ps_ret (pe_op op_modK (pe_op op_fdivK (pe_op op_modK (qv 4) pe_int) pe_int) (qv 2))))))),?_⟩
 rename_i a k m
 obtain ⟨ns,k0,m0,hS,rfl,hk1,rfl,hm0,hm1,q⟩:=h
 walk_at "rd"
 refine ⟨fun σ' H'=>σ' = [some (.ref a),some (.int (k0:Nat)),some (.int (m0:Nat)),some (.int (cellN ns k0)),none] /\ H' = H,⟨_,.inl hS,ite2 (fun g=>⟨_,.inl hS,by simpa using g,?_⟩) fun g=>?_⟩,?_⟩
 ·rw [List.length_map] at g ⊢
  have hl:0 < ns.length:=by omega
  have hj:k0 % ns.length < ns.length:=Nat.mod_lt _ hl
  refine ⟨_,V.int ns[k0 % ns.length],.inl hS,?_,?_⟩
  ·rw [show (k0:Int) % (ns.length:Int) = ((k0 % ns.length:Nat):Int) by omega]
   exact atI_nat (by rw [List.getElem?_map,List.getElem?_eq_getElem hj]; rfl)
  walk_at "rd"
  have e:cellN ns k0 = ns[k0 % ns.length] % 2147483647:=by
   unfold cellN
   rw [if_pos hl,List.getD_eq_getElem?_getD,List.getElem?_eq_getElem hj]
   rfl
  rw [e]
 ·rw [List.length_map] at g
  have e:cellN ns k0 = 0:=by
   unfold cellN
   rw [if_neg (by omega)]
  rw [e]
  exact ⟨rfl,rfl⟩
 ·rintro σ' H' ⟨rfl,rfl⟩
  walk_at "rd"
  obtain ⟨c0,c1⟩:=cellN_lt ns k0
  have hc (x:Int) (h0:0 <= x) (h1:x <= 2147483647):-(2 ^ 64) < x /\ x < 2 ^ 64:=⟨Int.lt_of_lt_of_le (by decide) h0,Int.lt_of_le_of_lt h1 (by decide)⟩
  refine ⟨.inr (hc k0 (by omega) (by omega)),.inr (hc k0 (by omega) (by omega)),.inl (hc _ c0 (by omega)),.inl (hc k0 (by omega) (by omega)),by omega,?_⟩
  unfold drawN at q
  rw [Int.toNat_of_nonneg (Int.emod_nonneg _ (by omega))] at q
  exact q
theorem draw_to {H:Hp} {a:Addr} {k m:Int} {ns:List Int} {Q:VK} {E:XK} (hS:SqL K H a (ns.map V.int)) (hk0:0 <= k) (hk1:k <= 100000) (hm0:1 <= m) (hm1:m <= 100000) (q:∀ r:Nat,(r:Int) < m -> Q (.int (r:Nat)) H):sp__law_draw K [.ref a,.int k,.int m] H Q E:=
 ⟨ns,k.toNat,m.toNat,hS,by omega,by omega,by omega,by omega,by omega,q _ (by have:=drawN_lt ns k.toNat (m:=m.toNat) (by omega); omega)⟩
theorem draw_is {H:Hp} {a:Addr} {k m:Nat} {ns:List Int} {Q:VK} {E:XK} (hS:SqL K H a (ns.map V.int)) (hk1:k <= 100000) (hm0:1 <= m) (hm1:m <= 100000) (q:Q (.int (drawN ns k m:Nat)) H):sp__law_draw K [.ref a,.int (k:Int),.int (m:Int)] H Q E:=
 ⟨ns,k,m,hS,rfl,hk1,rfl,hm0,hm1,q⟩
noncomputable abbrev sgn (c:Nat):V:=V.str (st [c])
noncomputable abbrev nV (n:Nat):V:=V.int (n:Int)
theorem ixN_nat {n x:Nat} (h:x < n):ixN n (x:Int) = some x:=by
 unfold ixN
 simp
 omega
theorem atI_mod {α:Type} {l:List α} (h:1 <= l.length) (N:Nat):∃ c,c ∈ l /\ atI l ((N:Int) % (l.length:Int)) = some c:=by
 have hj:N % l.length < l.length:=Nat.mod_lt _ (by omega)
 refine ⟨l[N % l.length],List.getElem_mem hj,?_⟩
 rw [show ((N:Int) % (l.length:Int)) = ((N % l.length:Nat):Int) by omega]
 exact atI_nat (List.getElem?_eq_getElem hj)
def OverL (ps r:List Nat):Prop:=∀ (i c:Nat),r[i]? = some c -> c ≠ 45 -> i ∈ ps
noncomputable def sp__law_signs (K:Frag):Sp:=fun vs H Q _=>match vs with
 | [.int n,.ref p,.int w,.str menu]=>∃ (N W:Nat) (ps:List Nat),n = (N:Int) /\ w = (W:Int) /\ W <= 1000 /\ SqL K H p (ps.map nV) /\ (∀ x ∈ ps,x < W) /\ 1 <= menu.cps.toList.length /\ menu.cps.toList.length <= 100 /\
   ∀ r H',Same H H' -> r.length = W -> (∀ c ∈ r,c = 45 \/ c ∈ menu.cps.toList) -> OverL ps r -> Q (tx r) H'
 | _=>False
theorem ok__law_signs (T:Top K mg):Callee P w K mg base 1 "_law_signs" ["_law_number", "_law_places", "_law_width_here", "_law_menu"] (sp__law_signs K):=by
 refine T.f__law_signs.cal sc__law_signs (by intro vs H Q E h; unfold sp__law_signs at h; split at h <;> first | rfl | exact h.elim) (fun _ _ _ _ _ _ us hl=>match us,hl with | [_,_,_,_],_=>rfl) (fun f cdv A outer s H vs Q E hr h=>?_)
 unfold sp__law_signs at h
 split at h
 case h_2=>exact h.elim
 refine ⟨_,(pss_cons (ps_set (i:=4) sc__law_signs.nd rfl lc (pe_op op_mulL (pe_lst (pa_cons (qs [45]) pa_nil)) (qv 2)))
   (pss_cons (qs_for PassesOwn.never rfl (iterE K rfl (qv 1)) (pg_name (i:=5) sc__law_signs.nd rfl lc) (pss_cons (ps_asg (pe_ix (ixE K rfl) (qv 3) (pe_op op_modK (qv 0) (pe_callB (lenE K rfl) rfl T.b_len bb_len (pa_cons (qv 3) pa_nil))) (fun _ _=>rfl)) (pg_sub (qv 4) (qv 5) set_list (fun _=>rfl)))
   (pss_one (ps_set (i:=0) sc__law_signs.nd rfl lc (pe_op op_fdivK (qv 0) (pe_callB (lenE K rfl) rfl T.b_len bb_len (pa_cons (qv 3) pa_nil)))))))
   (pss_one (ps_ret (joinE K rfl (qv 4)))))),?_⟩
 rename_i n p w' z
 obtain ⟨mn,rfl⟩:∃ x,z = st x:=⟨_,(st_eta z).symm⟩
 obtain ⟨N,W,ps,rfl,rfl,hW,hS,hp,hm,hm2,q⟩:=h
 simp only [st_cps] at hm hm2 q
 walk_at "rd"
 refine ⟨by decide,fun p1 hp1=>⟨_,upd_same,by omega,by omega,by decide,fun g hg=>?_⟩⟩
 have n1:=same_new hp1 (.lst [V.str (st [45])])
 have hg0:H g = none:=n1.free hg
 have s1:=n1.trans (same_new hg (.lst (List.replicate (W:Int).toNat [V.str (st [45])]).flatten))
 refine .inl ⟨⟨_,s1.seq hS⟩,?_⟩
 refine loop_items nV ps (fun i σ H'=>∃ (M:Nat) (r:List Nat) (u:Option V),σ = [some (nV M),some (.ref p),some (nV W),some (.str (st mn)),some (.ref g),u] /\ Same H H' /\ H' g = some (.lst (r.map sgn)) /\ r.length = W /\ (∀ c ∈ r,c = 45 \/ c ∈ mn) /\ OverL ps r)
  ⟨N,List.replicate W 45,none,rfl,s1,?_,by simp,fun c hc=>.inl (List.eq_of_mem_replicate hc),fun i c e n=>absurd (List.eq_of_mem_replicate (List.mem_of_getElem? e)) n⟩ (fun i σ H' _ ⟨_,_,_,_,z,_⟩=>z.seq hS) ?_ ?_
 ·rw [upd_same,Int.toNat_natCast]
  simp
 ·rintro i x σ H1 hx ⟨M,r,u,rfl,s2,e2,hl,hc,ho⟩
  have hxW:=hp x (List.mem_of_getElem? hx)
  walk_at "rd"
  obtain ⟨c,hcm,ec⟩:=atI_mod hm M
  refine ⟨by omega,by omega,by omega,c,ec,_,x,e2,ixN_nat (by rw [List.length_map]; omega),by omega,⟨by omega,by omega⟩,M / mn.length,r.set x c,_,rfl,same_upd s2 hg0,?_,by rw [List.length_set]; exact hl,fun d hd=>?_,fun j d e n=>?_⟩
  ·rw [upd_same,List.map_set]
  ·rcases List.mem_or_eq_of_mem_set hd with z | z
   ·exact hc d z
   ·rw [z]
    exact .inr hcm
  ·by_cases hj:x = j
   ·subst hj
    exact List.mem_of_getElem? hx
   ·rw [List.getElem?_set_ne hj] at e
    exact ho j d e n
 ·rintro σ H1 ⟨M,r,u,rfl,s2,e2,hl,hc,ho⟩
  walk_at "rd"
  exact ⟨r,SqL.of e2,by omega,q r H1 s2 hl hc ho⟩
theorem paired_out {α β:Type} {F:α -> V -> Prop} {P:β -> Prop} {g:β -> V} (h:∀ a v,F a v -> ∃ b,P b /\ v = g b):∀ {l:List α} {vs:List V},Paired F l vs -> ∃ bs:List β,vs = bs.map g /\ bs.length = l.length /\ ∀ b ∈ bs,P b
 | _,_,.nil=>⟨[],rfl,rfl,fun b hb=>by simp at hb⟩
 | _,_,.cons r p=>by
  obtain ⟨b,h1,rfl⟩:=h _ _ r
  obtain ⟨bs,rfl,h3,h4⟩:=paired_out h p
  refine ⟨b :: bs,rfl,by simp [h3],fun c hc=>?_⟩
  rcases List.mem_cons.mp hc with rfl | hc
  ·exact h1
  ·exact h4 c hc
theorem atI_lt {α:Type} {l:List α} {i:Nat} (h:i < l.length):∃ c,c ∈ l /\ atI l (i:Int) = some c:=⟨l[i],List.getElem_mem h,atI_nat (List.getElem?_eq_getElem h)⟩
theorem pick_int {cs:List Nat} {B:Nat} {vs:List V} (e:vs = cs.map nV) (h:∀ c ∈ cs,c <= B) {i:Nat} (hi:i < vs.length):∃ c,c <= B /\ atI vs (i:Int) = some (nV c):=by
 subst e
 obtain ⟨v,hv,ev⟩:=atI_lt hi
 obtain ⟨c,hc,rfl⟩:=List.mem_map.mp hv
 exact ⟨c,h c hc,ev⟩
noncomputable def sp__law_over_at (K:Frag):Sp:=fun vs H Q _=>match vs with
 | [.ref a,.ref p]=>∃ (ns:List Int) (ps:List Nat),SqL K H a (ns.map V.int) /\ SqL K H p (ps.map nV) /\ 1 <= ps.length /\ ps.length <= 100 /\ ∀ (q:Addr) (H':Hp) (os:List Nat),H q = none -> Same H H' -> H' q = some (.lst (os.map nV)) -> (∀ x ∈ os,x ∈ ps) -> Q (.ref q) H'
 | _=>False
theorem ok__law_over_at (T:Top K mg):Callee P w K mg base 2 "_law_over_at" ["_law_script", "_law_told_here"] (sp__law_over_at K):=by
 refine T.f__law_over_at.cal sc__law_over_at (by intro vs H Q E h; unfold sp__law_over_at at h; split at h <;> first | rfl | exact h.elim) (fun _ _ _ _ _ _ us hl=>match us,hl with | [_,_],_=>rfl) (fun f cdv A outer s H vs Q E hr h=>?_)
 unfold sp__law_over_at at h
 split at h
 case h_2=>exact h.elim
 refine ⟨_,(pss_cons (ps_set (i:=2) sc__law_over_at.nd rfl lc (pe_fn (ok__law_draw T) hr.m rfl (pa_cons (qv 0) (pa_cons pe_int (pa_cons (pe_callB (lenE K rfl) rfl T.b_len bb_len (pa_cons (qv 1) pa_nil)) pa_nil)))))
   (pss_cons (ps_set (i:=3) sc__law_over_at.nd rfl lc (pe_ix (ixE K rfl) (pe_lst (pa_cons pe_int (pa_cons pe_int (pa_cons pe_int (pa_cons pe_int (pa_cons pe_int (pa_cons pe_int pa_nil))))))) (pe_fn (ok__law_draw T) hr.m rfl (pa_cons (qv 0) (pa_cons pe_int (pa_cons pe_int pa_nil)))) (fun _ _=>rfl)))
   (pss_one (ps_ret (qe_comp (nt:=1) (fi:=[1,2]) (N':=["_law_j", "_law_told_here", "_law_turn"]) rfl (cscope rfl (by decide +kernel)) (cnames (N:=["_law_script", "_law_told_here", "_law_turn", "_law_count"]) (sc:=defScope s__law_over_at) rfl rfl (by decide +kernel)) (gk_name (by decide)) (qi_range1 rfl T.b_range (pe_callB (call_min2K rfl) rfl T.b_min bb_min (pa_cons (qv 3) (pa_cons (pe_callB (lenE K rfl) rfl T.b_len bb_len (pa_cons (qv 1) pa_nil)) pa_nil)))) (fun _ _ _ _ _=>(pg_name (i:=0) (by show (["_law_j", "_law_told_here", "_law_turn"]:List Str).Nodup; decide +kernel) rfl lc)) (fun _ _ _ _ _=>pif_nil) (fun _ _ _ _ _=>(pe_ix (ixE K rfl) (qv 1) (pe_op op_modK (pe_op op_addK (qv 2) (qv 0)) (pe_callB (lenE K rfl) rfl T.b_len bb_len (pa_cons (qv 1) pa_nil))) (fun _ _=>rfl)))))))),?_⟩
 rename_i a p
 obtain ⟨ns,ps,hS,hP,h1,h2,q⟩:=h
 have hlm:(ps.map nV).length = ps.length:=List.length_map ..
 walk_at "rd"
 refine ⟨_,.inl hP,draw_to hS (by decide) (by decide) (by omega) (by omega) fun r1 hr1=>?_⟩
 walk_at "rd"
 refine ⟨by decide,fun p1 hp1=>?_⟩
 have s1:=same_new hp1 (.lst [V.int 0,V.int 1,V.int 2,V.int 3,V.int 2,V.int 3])
 refine draw_to (s1.seq hS) (by decide) (by decide) (by decide) (by decide) fun r2 hr2=>?_
 obtain ⟨c,hc,ec⟩:=pick_int (cs:=[0,1,2,3,2,3]) (B:=3) (vs:=[V.int 0,V.int 1,V.int 2,V.int 3,V.int 2,V.int 3]) rfl (by decide) (i:=r2) (by show r2 < 6; omega)
 walk_at "rd"
 refine ⟨_,_,.inl (SqL.of upd_same),ec,_,.inl (s1.seq hP),?_⟩
 walk_at "rd"
 rw [hlm]
 have hz:∃ z:Nat,(if (ps.length:Int) < (c:Int) then (ps.length:Int) else (c:Int)) = (z:Int) /\ z <= 100:=by
  split
  ·exact ⟨_,rfl,h2⟩
  ·exact ⟨_,rfl,by omega⟩
 obtain ⟨z,ez,hz⟩:=hz
 rw [ez,Int.toNat_natCast]
 refine ⟨by omega,by omega,fun D hD=>?_⟩
 refine comp_relR (lo:=0) (n:=z) (fun _ v _=>∃ x,x ∈ ps /\ v = nV x) hD (by omega) (fun _ _ _ _ _ _ _ r=>r) ?_ ?_
 ·intro i H1 out non hi s2 ho
  have s12:=s1.trans s2
  walk_at "rd"
  rw [show ((r1:Int) + (i:Int)) = ((r1 + i:Nat):Int) by omega]
  obtain ⟨v,hv,ev⟩:=atI_mod (l:=ps.map nV) (by rw [hlm]; exact h1) (r1 + i)
  refine ⟨_,.inl (s12.seq hP),by rw [hlm]; omega,_,v,.inl (s12.seq hP),ev,?_⟩
  obtain ⟨x,hx,rfl⟩:=List.mem_map.mp hv
  exact ho _ _ (Same.refl _) ⟨x,hx,rfl⟩
 ·intro H1 vs s2 e2 p2
  obtain ⟨os,rfl,_,ho⟩:=paired_out (fun _ _ r=>r) p2
  exact q D H1 os (s1.free hD) (s1.trans s2) e2 ho
structure RuleOk (W:Nat) (r:Rule):Prop where
 row:RowL r.1
 rowN:r.1.length = W
 word:r.2.1 = passT \/ r.2.1 = dropT
 over:RowL r.2.2
 overN:r.2.2.length = W
theorem rowL_of {r m:List Nat} (h:∀ c ∈ r,c = 45 \/ c ∈ m) (hm:RowL m):RowL r:=fun c hc=>by
 rcases h c hc with z | z
 ·exact .inr (.inr z)
 ·exact hm c z
theorem signs_to {H:Hp} {p:Addr} {N W:Nat} {ps m:List Nat} {Q:VK} {E:XK} (hW:W <= 1000) (hS:SqL K H p (ps.map nV)) (hp:∀ x ∈ ps,x < W) (hm1:1 <= m.length) (hm2:m.length <= 100) (hm:RowL m) (q:∀ r H',Same H H' -> r.length = W -> RowL r -> Q (tx r) H'):sp__law_signs K [nV N,.ref p,nV W,.str (st m)] H Q E:=
 ⟨N,W,ps,rfl,rfl,hW,hS,hp,by simpa using hm1,by simpa using hm2,fun r H' s hl hc _=>q r H' s hl (rowL_of (by simpa using hc) hm)⟩
theorem signs_over {H:Hp} {p:Addr} {N W:Nat} {ps m:List Nat} {Q:VK} {E:XK} (hW:W <= 1000) (hS:SqL K H p (ps.map nV)) (hp:∀ x ∈ ps,x < W) (hm1:1 <= m.length) (hm2:m.length <= 100) (hm:RowL m) (q:∀ r H',Same H H' -> r.length = W -> RowL r -> OverL ps r -> Q (tx r) H'):sp__law_signs K [nV N,.ref p,nV W,.str (st m)] H Q E:=
 ⟨N,W,ps,rfl,rfl,hW,hS,hp,by simpa using hm1,by simpa using hm2,fun r H' s hl hc ho=>q r H' s hl (rowL_of (by simpa using hc) hm) ho⟩
noncomputable def sp__law_rule (K:Frag):Sp:=fun vs H Q _=>match vs with
 | [.ref a,.int k,.ref p,.ref o,.int w]=>∃ (ns:List Int) (k0 W:Nat) (ps os:List Nat),SqL K H a (ns.map V.int) /\ k = (k0:Int) /\ k0 <= 50000 /\ w = (W:Int) /\ W <= 1000 /\ SqL K H p (ps.map nV) /\ (∀ x ∈ ps,x < W) /\ SqL K H o (os.map nV) /\ (∀ x ∈ os,x < W) /\
   ∀ t H' (r:Rule),H t = none -> Same H H' -> H' t = some (.tup [tx r.1,tx r.2.1,tx r.2.2]) -> RuleOk W r -> OverL os r.2.2 -> Q (.ref t) H'
 | _=>False
theorem ok__law_rule (T:Top K mg):Callee P w K mg base 2 "_law_rule" ["_law_script", "_law_k", "_law_told_here", "_law_over_at_here", "_law_width_here"] (sp__law_rule K):=by
 refine T.f__law_rule.cal sc__law_rule (by intro vs H Q E h; unfold sp__law_rule at h; split at h <;> first | rfl | exact h.elim) (fun _ _ _ _ _ _ us hl=>match us,hl with | [_,_,_,_,_],_=>rfl) (fun f cdv A outer s H vs Q E hr h=>?_)
 unfold sp__law_rule at h
 split at h
 case h_2=>exact h.elim
 refine ⟨_,(pss_cons (ps_set (i:=5) sc__law_rule.nd rfl lc (pe_fn (ok__law_signs T) hr.m rfl (pa_cons (pe_fn (ok__law_draw T) hr.m rfl (pa_cons (qv 0) (pa_cons (qv 1) (pa_cons pe_int pa_nil)))) (pa_cons (qv 2) (pa_cons (qv 4) (pa_cons (qs [48,49,45,45,45]) pa_nil))))))
   (pss_cons (ps_set (i:=6) sc__law_rule.nd rfl lc (pe_fn (ok__law_draw T) hr.m rfl (pa_cons (qv 0) (pa_cons (pe_op op_addK (qv 1) pe_int) (pa_cons pe_int pa_nil)))))
   (pss_cons (ps_set (i:=7) sc__law_rule.nd rfl lc (pe_fn (ok__law_signs T) hr.m rfl (pa_cons (pe_op op_fdivK (qv 6) pe_int) (pa_cons (qv 3) (pa_cons (qv 4) (pa_cons (qs [48,49,45,45]) pa_nil))))))
   (pss_one (ps_ret (pe_tup (pa_cons (qv 5) (pa_cons (pe_ix (ixE K rfl) (pe_lst (pa_cons (qs [112,97,115,115]) (pa_cons (qs [112,97,115,115]) (pa_cons (qs [112,97,115,115]) (pa_cons (qs [100,114,111,112]) pa_nil))))) (pe_op op_modK (qv 6) pe_int) (fun _ _=>rfl)) (pa_cons (qv 7) pa_nil))))))))),?_⟩
 rename_i a k p o w'
 obtain ⟨ns,k0,W,ps,os,hS,rfl,hk,rfl,hW,hP,hp,hO,ho,q⟩:=h
 walk_at "rd"
 refine draw_to hS (by omega) (by omega) (by decide) (by decide) fun r1 hr1=>?_
 walk_at "rd"
 refine signs_to hW hP hp (by decide) (by decide) (by unfold RowL; decide) fun row H1 s1 hl1 hr1=>?_
 walk_at "rd"
 refine draw_to (s1.seq hS) (by omega) (by omega) (by decide) (by decide) fun r2 hr2=>?_
 walk_at "rd"
 rw [show ((r2:Int) / 4) = ((r2 / 4:Nat):Int) by omega]
 refine signs_over hW (s1.seq hO) ho (by decide) (by decide) (by unfold RowL; decide) fun over H2 s2 hl2 hr2 hov=>?_
 refine ⟨by decide,fun t1 ht1=>?_⟩
 have s3:=s1.trans (s2.trans (same_new ht1 (.lst ([passT,passT,passT,dropT].map tx))))
 obtain ⟨v,hv,ev⟩:=atI_mod (l:=[passT,passT,passT,dropT].map tx) (by decide) r2
 refine ⟨_,v,.inl (SqL.of upd_same),ev,by decide,fun t2 ht2=>?_⟩
 obtain ⟨wd,hwd,rfl⟩:=List.mem_map.mp hv
 refine q t2 _ (row,wd,over) (s3.free ht2) (s3.trans (same_new ht2 _)) upd_same ⟨hr1,hl1,?_,hr2,hl2⟩ hov
 simp only [List.mem_cons,List.not_mem_nil,or_false] at hwd
 rcases hwd with z | z | z | z
 ·exact .inl z
 ·exact .inl z
 ·exact .inl z
 ·exact .inr z
noncomputable def abc:List Nat:=(List.range 26).map (97 + ·)
theorem abc_at {i:Nat} (h:i < 26):abc[i]? = some (97 + i):=by
 unfold abc
 rw [List.getElem?_map,List.getElem?_range h]
 rfl
def Low (l:List Nat):Prop:=∀ c ∈ l,97 <= c /\ c <= 122
structure Names (n:Nat) (ls:List (List Nat)):Prop where
 len:ls.length = n
 nd:ls.Nodup
 low:∀ l ∈ ls,Low l
 short:∀ l ∈ ls,1 <= l.length /\ l.length <= 8
 kind:(∃ c,∀ l ∈ ls,∃ k,l = List.replicate k c) \/ ∃ u v,∀ l ∈ ls,∃ c,l = u ++ [c] ++ v
theorem map_nodup {n:Nat} (f:Nat -> List Nat) (h:∀ i j,i < n -> j < n -> f i = f j -> i = j):((List.range n).map f).Nodup:=by
 refine List.pairwise_map.mpr (List.Pairwise.imp_of_mem ?_ List.nodup_range)
 intro a b ha hb hab e
 exact hab (h a b (List.mem_range.mp ha) (List.mem_range.mp hb) e)
theorem names_same {n c:Nat} (hn:n <= 8) (hc:97 <= c /\ c <= 122):Names n ((List.range n).map fun j=>List.replicate (1 + j) c) where
 len:=by simp
 nd:=map_nodup _ fun i j _ _ e=>by
  have:=congrArg List.length e
  simp at this
  exact this
 low:=fun l hl=>by
  obtain ⟨j,_,rfl⟩:=List.mem_map.mp hl
  exact fun d hd=>by rw [List.eq_of_mem_replicate hd]; exact hc
 short:=fun l hl=>by
  obtain ⟨j,hj,rfl⟩:=List.mem_map.mp hl
  have:=List.mem_range.mp hj
  simp
  omega
 kind:=.inl ⟨c,fun l hl=>by
  obtain ⟨j,hj,rfl⟩:=List.mem_map.mp hl
  exact ⟨_,rfl⟩⟩
theorem names_at {n m s p:Nat} {b:List Nat} (hn:n <= 8) (hb:Low b) (hl:b.length <= 7) (hs:s = 1 \/ s = 7 \/ s = 25 \/ s = 11):Names n ((List.range n).map fun j=>b.take p ++ [97 + (m + s * j) % 26] ++ b.drop p) where
 len:=by simp
 nd:=map_nodup _ fun i j hi hj e=>by
  have e1:=List.append_cancel_right e
  have e2:=List.append_cancel_left e1
  have e3:97 + (m + s * i) % 26 = 97 + (m + s * j) % 26:=by simpa using e2
  rcases hs with rfl | rfl | rfl | rfl <;> omega
 low:=fun l hl=>by
  obtain ⟨j,_,rfl⟩:=List.mem_map.mp hl
  intro d hd
  rcases List.mem_append.mp hd with hd | hd
  ·rcases List.mem_append.mp hd with hd | hd
   ·exact hb d (List.mem_of_mem_take hd)
   ·rw [List.mem_singleton.mp hd]
    have:=Nat.mod_lt (m + s * j) (show 26 > 0 by decide)
    exact ⟨by omega,by omega⟩
  ·exact hb d (List.mem_of_mem_drop hd)
 short:=fun l hl=>by
  obtain ⟨j,_,rfl⟩:=List.mem_map.mp hl
  simp
  omega
 kind:=.inr ⟨b.take p,b.drop p,fun l hl=>by
  obtain ⟨j,hj,rfl⟩:=List.mem_map.mp hl
  exact ⟨_,rfl⟩⟩
theorem flat_one' {α β:Type} (f:α -> β) (l:List α):(l.flatMap fun x=>[f x]) = l.map f:=by
 induction l with
 | nil=>rfl
 | cons x l ih=>rw [List.flatMap_cons,ih]; rfl
noncomputable def sp__law_names (K:Frag):Sp:=fun vs H Q _=>match vs with
 | [.ref a,.int k,.int m]=>∃ (ns:List Int) (k0 n:Nat),SqL K H a (ns.map V.int) /\ k = (k0:Int) /\ k0 <= 50000 /\ m = (n:Int) /\ n <= 8 /\ ∀ p H' ls,H p = none -> Same H H' -> H' p = some (.lst (ls.map tx)) -> Names n ls -> Q (.ref p) H'
 | _=>False
theorem ok__law_names (T:Top K mg):Callee P w K mg base 2 "_law_names" ["_law_script", "_law_k", "_law_many"] (sp__law_names K):=by
 refine T.f__law_names.cal sc__law_names (by intro vs H Q E h; unfold sp__law_names at h; split at h <;> first | rfl | exact h.elim) (fun _ _ _ _ _ _ us hl=>match us,hl with | [_,_,_],_=>rfl) (fun f cdv A outer s H vs Q E hr h=>?_)
 unfold sp__law_names at h
 split at h
 case h_2=>exact h.elim
 refine ⟨_,(pss_cons (ps_set (i:=3) sc__law_names.nd rfl lc (qs [97,98,99,100,101,102,103,104,105,106,107,108,109,110,111,112,113,114,115,116,117,118,119,120,121,122]))
   (pss_cons (ps_set (i:=4) sc__law_names.nd rfl lc (pe_fn (ok__law_draw T) hr.m rfl (pa_cons (qv 0) (pa_cons (qv 1) (pa_cons pe_int pa_nil)))))
   (pss_cons (ps_if (qt_cmp op_eqK (pe_fn (ok__law_draw T) hr.m rfl (pa_cons (qv 0) (pa_cons (pe_op op_addK (qv 1) pe_int) (pa_cons pe_int pa_nil)))) pe_int) (pss_one (ps_ret (qe_comp (nt:=1) (fi:=[3,4]) (N':=["_law_j", "_law_letters", "_law_start"]) rfl (cscope rfl (by decide +kernel)) (cnames (N:=["_law_script", "_law_k", "_law_many", "_law_letters", "_law_start", "_law_body", "_law_j", "_law_at", "_law_step"]) (sc:=defScope s__law_names) rfl rfl (by decide +kernel)) (gk_name (by decide)) (qi_range1 rfl T.b_range (qv 2)) (fun _ _ _ _ _=>(pg_name (i:=0) (by show (["_law_j", "_law_letters", "_law_start"]:List Str).Nodup; decide +kernel) rfl lc)) (fun _ _ _ _ _=>pif_nil) (fun _ _ _ _ _=>(pe_op op_mulK (pe_ix (ixE K rfl) (qv 1) (qv 2) (fun _ _=>rfl)) (pe_op op_addK pe_int (qv 0))))))) pss_nil)
   (pss_cons (ps_set (i:=5) sc__law_names.nd rfl lc (qs []))
   (pss_cons (qs_for PassesOwn.never rfl (qi_range1 rfl T.b_range (pe_fn (ok__law_draw T) hr.m rfl (pa_cons (qv 0) (pa_cons (pe_op op_addK (qv 1) pe_int) (pa_cons pe_int pa_nil))))) (pg_name (i:=6) sc__law_names.nd rfl lc) (pss_one (ps_set (i:=5) sc__law_names.nd rfl lc (pe_op op_addK (qv 5) (pe_ix (ixE K rfl) (qv 3) (pe_fn (ok__law_draw T) hr.m rfl (pa_cons (qv 0) (pa_cons (pe_op op_addK (pe_op op_addK (qv 1) pe_int) (qv 6)) (pa_cons pe_int pa_nil)))) (fun _ _=>rfl))))))
   (pss_cons (ps_set (i:=7) sc__law_names.nd rfl lc (pe_fn (ok__law_draw T) hr.m rfl (pa_cons (qv 0) (pa_cons (pe_op op_addK (qv 1) pe_int) (pa_cons (pe_op op_addK (pe_callB (lenE K rfl) rfl T.b_len bb_len (pa_cons (qv 5) pa_nil)) pe_int) pa_nil)))))
   (pss_cons (ps_set (i:=8) sc__law_names.nd rfl lc (pe_ix (ixE K rfl) (pe_lst (pa_cons pe_int (pa_cons pe_int (pa_cons pe_int (pa_cons pe_int pa_nil))))) (pe_fn (ok__law_draw T) hr.m rfl (pa_cons (qv 0) (pa_cons (pe_op op_addK (qv 1) pe_int) (pa_cons pe_int pa_nil)))) (fun _ _=>rfl)))
   (pss_one (ps_ret (qe_comp (nt:=1) (fi:=[5,3,7,4,8]) (N':=["_law_j", "_law_body", "_law_letters", "_law_at", "_law_start", "_law_step"]) rfl (cscope rfl (by decide +kernel)) (cnames (N:=["_law_script", "_law_k", "_law_many", "_law_letters", "_law_start", "_law_body", "_law_j", "_law_at", "_law_step"]) (sc:=defScope s__law_names) rfl rfl (by decide +kernel)) (gk_name (by decide)) (qi_range1 rfl T.b_range (qv 2)) (fun _ _ _ _ _=>(pg_name (i:=0) (by show (["_law_j", "_law_body", "_law_letters", "_law_at", "_law_start", "_law_step"]:List Str).Nodup; decide +kernel) rfl lc)) (fun _ _ _ _ _=>pif_nil) (fun _ _ _ _ _=>(pe_op op_addK (pe_op op_addK (pe_slice (slE K rfl) (qv 1) po_none (qo_some (qv 3))) (pe_ix (ixE K rfl) (qv 2) (pe_op op_modK (pe_op op_addK (qv 4) (pe_op op_mulK (qv 5) (qv 0))) pe_int) (fun _ _=>rfl))) (pe_slice (slE K rfl) (qv 1) (qo_some (qv 3)) po_none))))))))))))),?_⟩
 rename_i a k m
 obtain ⟨ns,k0,n,hS,rfl,hk,rfl,hn,q⟩:=h
 walk_at "rd"
 refine draw_to hS (by omega) (by omega) (by decide) (by decide) fun r1 hr1=>?_
 walk_at "rd"
 refine draw_to hS (by omega) (by omega) (by decide) (by decide) fun r2 hr2=>?_
 walk_at "rd"
 rw [show ([97,98,99,100,101,102,103,104,105,106,107,108,109,110,111,112,113,114,115,116,117,118,119,120,121,122]:List Nat) = abc from rfl]
 have a26:abc.length = 26:=rfl
 have ar1:atI abc (r1:Int) = some (97 + r1):=atI_nat (abc_at (by omega))
 refine ite2 (fun g=>⟨by omega,by omega,fun D hD=>?_⟩) fun g=>?_
 ·rw [Int.toNat_natCast]
  refine comp_range (lo:=0) (n:=n) (h:=fun j=>[tx (List.replicate (1 + j) (97 + r1))]) hD (by omega) (fun _=>by simp) ?_ ?_
  ·intro i H1 out non hi s1 ho _
   walk_at "rd"
   refine ⟨by omega,_,ar1,by omega,by omega,?_⟩
   rw [show (1 + (i:Int)).toNat = 1 + i by omega]
   exact ho _ _ rfl (Same.refl _)
  ·intro H1 s1 e1
   have ef:(List.range n).flatMap (fun j=>[tx (List.replicate (1 + j) (97 + r1))]) = ((List.range n).map fun j=>List.replicate (1 + j) (97 + r1)).map tx:=by
    rw [List.map_map]
    exact flat_one' _ _
   rw [ef] at e1
   exact q D H1 _ hD s1 e1 (names_same hn ⟨by omega,by omega⟩)
 refine draw_to hS (by omega) (by omega) (by decide) (by decide) fun r3 hr3=>?_
 walk_at "rd"
 refine ⟨by omega,by omega,?_⟩
 rw [Int.toNat_natCast]
 refine loop_range (lo:=0) (n:=r3) (fun i σ H'=>∃ (b:List Nat) (u:Option V),σ = [some (.ref a),some (nV k0),some (nV n),some (.str (st abc)),some (nV r1),some (tx b),u,none,none] /\ H' = H /\ Low b /\ b.length = i) ⟨[],none,rfl,rfl,fun c hc=>by simp at hc,rfl⟩ ?_ ?_
 ·rintro i σ H1 hi ⟨b,u,rfl,rfl,hb,hbl⟩
  walk_at "rd"
  refine draw_to hS (by omega) (by omega) (by decide) (by decide) fun r4 hr4=>?_
  walk_at "rd"
  refine ⟨by omega,97 + r4,atI_nat (abc_at (by omega)),?_⟩
  walk_at "rd"
  refine ⟨by omega,b ++ [97 + r4],_,rfl,fun c hc=>?_,by rw [List.length_append,hbl]; rfl⟩
  rcases List.mem_append.mp hc with z | z
  ·exact hb c z
  ·rw [List.mem_singleton.mp z]
   exact ⟨by omega,by omega⟩
 ·rintro σ H1 ⟨b,u,rfl,rfl,hb,hbl⟩
  walk_at "rd"
  refine ⟨by omega,draw_to hS (by omega) (by omega) (by omega) (by omega) fun r5 hr5=>⟨by decide,fun t1 ht1=>?_⟩⟩
  have s1:=same_new ht1 (.lst [V.int 1,V.int 7,V.int 25,V.int 11])
  refine draw_to (s1.seq hS) (by omega) (by omega) (by decide) (by decide) fun r6 hr6=>?_
  obtain ⟨v,hv,ev⟩:=atI_lt (l:=[V.int 1,V.int 7,V.int 25,V.int 11]) (i:=r6) (by show r6 < 4; omega)
  obtain ⟨st',rfl,hst⟩:∃ s:Nat,v = nV s /\ (s = 1 \/ s = 7 \/ s = 25 \/ s = 11):=by
   simp only [List.mem_cons,List.not_mem_nil,or_false] at hv
   rcases hv with rfl | rfl | rfl | rfl
   ·exact ⟨1,rfl,by simp⟩
   ·exact ⟨7,rfl,by simp⟩
   ·exact ⟨25,rfl,by simp⟩
   ·exact ⟨11,rfl,by simp⟩
  walk_at "rd"
  refine ⟨_,_,.inl (SqL.of upd_same),ev,by omega,by omega,fun D hD=>?_⟩
  rw [Int.toNat_natCast]
  refine comp_range (lo:=0) (n:=n) (h:=fun j=>[tx (b.take r5 ++ [97 + (r1 + st' * j) % 26] ++ b.drop r5)]) hD (by omega) (fun _=>by simp) ?_ ?_
  ·intro i H2 out non hi s2 ho _
   walk_at "rd"
   have hm:=Nat.mod_lt (r1 + st' * i) (show 26 > 0 by decide)
   have hl1:=List.length_take_le r5 b
   have hl2:(b.drop r5).length <= b.length:=by rw [List.length_drop]; omega
   have e26:((r1:Int) + (st':Int) * (i:Int)) % 26 = (((r1 + st' * i) % 26:Nat):Int):=by
    rw [Int.natCast_emod,Int.natCast_add,Int.natCast_mul]
    rfl
   rw [Int.toNat_natCast,e26]
   refine ⟨by omega,by omega,by omega,.inr ⟨Int.lt_of_lt_of_le (by decide) (Int.natCast_nonneg i),Int.lt_of_lt_of_le (Int.ofNat_lt.mpr hi) (Int.le_trans (Int.ofNat_le.mpr hn) (by decide))⟩,by omega,_,atI_nat (abc_at hm),by omega,by omega,by omega,by omega,?_,ho _ _ rfl (Same.refl _)⟩
   rw [List.length_append,List.length_singleton]
   omega
  ·intro H2 s2 e2
   have ef:(List.range n).flatMap (fun j=>[tx (b.take r5 ++ [97 + (r1 + st' * j) % 26] ++ b.drop r5)]) = ((List.range n).map fun j=>b.take r5 ++ [97 + (r1 + st' * j) % 26] ++ b.drop r5).map tx:=by
    rw [List.map_map]
    exact flat_one' _ _
   rw [ef] at e2
   exact q D H2 _ (s1.free hD) (s1.trans s2) e2 (names_at hn hb (by omega) hst)
structure LayOk (ls:List Fld):Prop where
 to:∃ a b,spanF ls toT 0 = some (a,b) /\ a < b /\ b <= widthL ls
 w1:1 <= widthL ls
 w2:widthL ls <= 48
 len:ls.length <= 3
 pos:∀ x ∈ ls,1 <= x.2
 nd:(ls.map (·.1)).Nodup
 low:∀ x ∈ ls,Low x.1 /\ 1 <= x.1.length /\ x.1.length <= 8
theorem filter_most {α:Type} [DecidableEq α] (t:α):∀ l:List α,l.Nodup -> l.length <= (l.filter fun x=>!decide (x = t)).length + 1
 | [],_=>by simp
 | x :: l,h=>by
  have h2:=(List.nodup_cons.mp h)
  by_cases e:x = t
  ·subst e
   have:l.filter (fun y=>!decide (y = x)) = l:=List.filter_eq_self.mpr fun y hy=>by
    have:¬ y = x:=fun z=>h2.1 (z ▸ hy)
    simp [this]
   rw [List.filter_cons_of_neg (by simp),this,List.length_cons]
   omega
  ·rw [List.filter_cons_of_pos (by simp [e]),List.length_cons,List.length_cons]
   have:=filter_most t l h2.2
   omega
theorem flat_keep {α:Type} (p:α -> Bool) (f:α -> V):∀ l:List α,(l.flatMap fun x=>if p x then [f x] else []) = (l.filter p).map f
 | []=>rfl
 | x :: l=>by
  rw [List.flatMap_cons,flat_keep p f l]
  by_cases h:p x = true
  ·rw [if_pos h,List.filter_cons_of_pos h]
   rfl
  ·rw [if_neg h,List.filter_cons_of_neg h]
   rfl
theorem toLow:Low toT /\ 1 <= toT.length /\ toT.length <= 8:=⟨by unfold Low toT; decide,by decide,by decide⟩
theorem lay1 {S:Nat} (h1:1 <= S) (h2:S <= 14):LayOk [(toT,S)] where
 to:=⟨0,S,by simp [spanF],by omega,by simp [widthL]⟩
 w1:=by simp [widthL]; omega
 w2:=by simp [widthL]; omega
 len:=by simp
 pos:=fun x hx=>by rw [List.mem_singleton.mp hx]; exact h1
 nd:=by simp
 low:=fun x hx=>by rw [List.mem_singleton.mp hx]; exact toLow
structure NameOk (n:List Nat):Prop where
 low:Low n
 l1:1 <= n.length
 l8:n.length <= 8
theorem layAhead {S A:Nat} {n:List Nat} (h1:1 <= S) (h2:S <= 14) (a1:1 <= A) (a2:A <= 17) (hn:NameOk n) (ht:¬ n = toT):LayOk [(n,A),(toT,S)] where
 to:=⟨A,A + S,by simp [spanF,ht],by omega,by simp [widthL]⟩
 w1:=by simp [widthL]; omega
 w2:=by simp [widthL]; omega
 len:=by simp
 pos:=fun x hx=>by
  simp only [List.mem_cons,List.not_mem_nil,or_false] at hx
  rcases hx with rfl | rfl
  ·exact a1
  ·exact h1
 nd:=by simpa using ht
 low:=fun x hx=>by
  simp only [List.mem_cons,List.not_mem_nil,or_false] at hx
  rcases hx with rfl | rfl
  ·exact ⟨hn.1,hn.2,hn.3⟩
  ·exact toLow
theorem layBehind {ls:List Fld} {S A B:Nat} {n0 n:List Nat} (h1:1 <= S) (h2:S <= 14) (a1:1 <= A) (a2:A <= 17) (hn0:NameOk n0) (ht0:¬ n0 = toT) (b1:1 <= B) (b2:B <= 17) (hn:NameOk n) (ht:¬ n = toT) (hd:¬ n0 = n)
  (e:ls = [(toT,S)] \/ ls = [(n0,A),(toT,S)]):LayOk (ls ++ [(n,B)]):=by
 rcases e with rfl | rfl
 ·refine ⟨⟨0,S,by simp [spanF],by omega,by simp [widthL]⟩,by simp [widthL]; omega,by simp [widthL]; omega,by simp,fun x hx=>?_,?_,fun x hx=>?_⟩
  ·simp only [List.mem_append,List.mem_cons,List.not_mem_nil,or_false] at hx
   rcases hx with rfl | rfl
   ·exact h1
   ·exact b1
  ·simpa using fun z=>ht z.symm
  ·simp only [List.mem_append,List.mem_cons,List.not_mem_nil,or_false] at hx
   rcases hx with rfl | rfl
   ·exact toLow
   ·exact ⟨hn.1,hn.2,hn.3⟩
 ·refine ⟨⟨A,A + S,by simp [spanF,ht0],by omega,by simp [widthL]⟩,by simp [widthL]; omega,by simp [widthL]; omega,by simp,fun x hx=>?_,?_,fun x hx=>?_⟩
  ·simp only [List.mem_append,List.mem_cons,List.not_mem_nil,or_false] at hx
   rcases hx with (rfl | rfl) | rfl
   ·exact a1
   ·exact h1
   ·exact b1
  ·simp [ht0,hd]
   exact fun z=>ht z.symm
  ·simp only [List.mem_append,List.mem_cons,List.not_mem_nil,or_false] at hx
   rcases hx with (rfl | rfl) | rfl
   ·exact ⟨hn0.1,hn0.2,hn0.3⟩
   ·exact toLow
   ·exact ⟨hn.1,hn.2,hn.3⟩
noncomputable def wF (ns:List Int):Nat:=if drawN ns 3 4 = 0 then 1 + drawN ns 4 14 + drawN ns 5 18 + drawN ns 6 18 else 1 + drawN ns 0 3 + drawN ns 1 2 + drawN ns 2 2
noncomputable def sp__law_layout (K:Frag):Sp:=fun vs H Q _=>match vs with
 | [.ref a]=>∃ ns:List Int,SqL K H a (ns.map V.int) /\ ∀ p H' ls,H p = none -> Same H H' -> Lay H' p ls -> LayOk ls -> widthL ls = wF ns -> Q (.ref p) H'
 | _=>False
theorem ok__law_layout (T:Top K mg):Callee P w K mg base 3 "_law_layout" ["_law_script"] (sp__law_layout K):=by
 refine T.f__law_layout.cal sc__law_layout (by intro vs H Q E h; unfold sp__law_layout at h; split at h <;> first | rfl | exact h.elim) (fun _ _ _ _ _ _ us hl=>match us,hl with | [_],_=>rfl) (fun f cdv A outer s H vs Q E hr h=>?_)
 unfold sp__law_layout at h
 split at h
 case h_2=>exact h.elim
 refine ⟨_,(pss_cons (ps_set (i:=1) sc__law_layout.nd rfl lc (pe_op op_addK pe_int (pe_fn (ok__law_draw T) hr.m rfl (pa_cons (qv 0) (pa_cons pe_int (pa_cons pe_int pa_nil))))))
   (pss_cons (ps_set (i:=2) sc__law_layout.nd rfl lc (pe_fn (ok__law_draw T) hr.m rfl (pa_cons (qv 0) (pa_cons pe_int (pa_cons pe_int pa_nil)))))
   (pss_cons (ps_set (i:=3) sc__law_layout.nd rfl lc (pe_fn (ok__law_draw T) hr.m rfl (pa_cons (qv 0) (pa_cons pe_int (pa_cons pe_int pa_nil)))))
   (pss_join (ps_if (qt_cmp op_eqK (pe_fn (ok__law_draw T) hr.m rfl (pa_cons (qv 0) (pa_cons pe_int (pa_cons pe_int pa_nil)))) pe_int) (pss_cons (ps_set (i:=1) sc__law_layout.nd rfl lc (pe_op op_addK pe_int (pe_fn (ok__law_draw T) hr.m rfl (pa_cons (qv 0) (pa_cons pe_int (pa_cons pe_int pa_nil))))))
   (pss_cons (ps_set (i:=2) sc__law_layout.nd rfl lc (pe_fn (ok__law_draw T) hr.m rfl (pa_cons (qv 0) (pa_cons pe_int (pa_cons pe_int pa_nil)))))
   (pss_one (ps_set (i:=3) sc__law_layout.nd rfl lc (pe_fn (ok__law_draw T) hr.m rfl (pa_cons (qv 0) (pa_cons pe_int (pa_cons pe_int pa_nil)))))))) pss_nil)
   (pss_cons (ps_setC (i:=4) (nt:=1) (fi:=[]) (N':=["_law_name"]) sc__law_layout.nd rfl lc rfl (cscope rfl (by decide +kernel)) (cnames (N:=["_law_script", "_law_size", "_law_ahead", "_law_behind", "_law_names_here", "_law_layout_here"]) (sc:=defScope s__law_layout) rfl rfl (by decide +kernel)) (gk_name (by decide)) (iterE K rfl (pe_fn (ok__law_names T) hr.m rfl (pa_cons (qv 0) (pa_cons pe_int (pa_cons pe_int pa_nil))))) (fun _ _ _ _ _=>(pg_name (i:=0) (by show (["_law_name"]:List Str).Nodup; decide +kernel) rfl lc)) (fun _ _ _ _ _=>(pif_one (qt_cmp op_neK (qv 0) (qs [116,111])))) (fun _ _ _ _ _=>(qv 0)))
   (pss_cons (ps_set (i:=5) sc__law_layout.nd rfl lc (pe_lst (pa_cons (pe_tup (pa_cons (qs [116,111]) (pa_cons (qv 1) pa_nil))) pa_nil)))
   (pss_join (ps_if (qt_cmp op_gtK (qv 2) pe_int) (pss_one (ps_expr (qe_insert (qv 5) pe_int (pe_tup (pa_cons (pe_ix (ixE K rfl) (qv 4) pe_int (fun _ _=>rfl)) (pa_cons (qv 2) pa_nil)))))) pss_nil)
   (pss_join (ps_if (qt_cmp op_gtK (qv 3) pe_int) (pss_one (ps_expr (qe_append (qv 5) (pe_tup (pa_cons (pe_ix (ixE K rfl) (qv 4) pe_int (fun _ _=>rfl)) (pa_cons (qv 3) pa_nil)))))) pss_nil)
   (pss_one (ps_ret (qv 5))))))))))),?_⟩
 rename_i a
 obtain ⟨ns,hS,q⟩:=h
 have d1:=drawN_lt ns 0 (m:=3) (by decide)
 have d2:=drawN_lt ns 1 (m:=2) (by decide)
 have d3:=drawN_lt ns 2 (m:=2) (by decide)
 have d5:=drawN_lt ns 4 (m:=14) (by decide)
 have d6:=drawN_lt ns 5 (m:=18) (by decide)
 have d7:=drawN_lt ns 6 (m:=18) (by decide)
 walk_at "rd"
 refine draw_is (k:=0) (m:=3) hS (by omega) (by decide) (by decide) ?_
 walk_at "rd"
 refine draw_is (k:=1) (m:=2) hS (by omega) (by decide) (by decide) ?_
 walk_at "rd"
 refine draw_is (k:=2) (m:=2) hS (by omega) (by decide) (by decide) ?_
 walk_at "rd"
 refine ⟨fun σ' H'=>∃ S A B:Nat,σ' = [some (.ref a),some (nV S),some (nV A),some (nV B),none,none] /\ H' = H /\ 1 <= S /\ S <= 14 /\ A <= 17 /\ B <= 17 /\ S + A + B = wF ns,?_,?_⟩
 ·refine draw_is (k:=3) (m:=4) hS (by omega) (by decide) (by decide) ?_
  walk_at "rd"
  refine ite2 (fun g0=>?_) fun g0=>⟨1 + drawN ns 0 3,drawN ns 1 2,drawN ns 2 2,by simp,by omega,by omega,by omega,by omega,by unfold wF; rw [if_neg (by omega)]⟩
  refine draw_is (k:=4) (m:=14) hS (by omega) (by decide) (by decide) ?_
  walk_at "rd"
  refine draw_is (k:=5) (m:=18) hS (by omega) (by decide) (by decide) ?_
  refine draw_is (k:=6) (m:=18) hS (by omega) (by decide) (by decide) ?_
  exact ⟨1 + drawN ns 4 14,drawN ns 5 18,drawN ns 6 18,by simp,rfl,by omega,by omega,by omega,by omega,by unfold wF; rw [if_pos (by omega)]⟩
 rintro σ' H'' ⟨S,A',B,rfl,rfl,hS1,hS2,hA,hB,hwF⟩
 walk_at "rd"
 refine ⟨ns,7,4,hS,rfl,by decide,rfl,by decide,fun pn H1 nm hpn s1 e1 N=>?_⟩
 walk_at "rd"
 refine .inl ⟨⟨_,SqL.of e1⟩,fun D hD=>?_⟩
 refine comp_list (item:=tx) (xs:=nm) (h:=fun l=>if (!decide (l = toT)) then [tx l] else []) hD (SqL.of e1) (by rw [N.len]; decide) (fun l=>by split <;> simp) ?_ ?_
 ·intro l H2 out non hl s2 ho hno
  walk_at "rd"
  refine ite2 (fun g=>?_) fun g=>?_
  ·exact hno H2 (by rw [if_neg (by simp [show l = toT from g])]) (Same.refl _)
  ·exact ho _ H2 (by rw [if_pos (by simpa using (show ¬ l = toT from g))]) (Same.refl _)
 ·intro H2 s2 e2
  rw [flat_keep] at e2
  have hm:=filter_most toT nm N.nd
  rw [N.len] at hm
  have hmn:=N.nd.filter (fun x=>!decide (x = toT))
  have hmem:∀ l ∈ nm.filter (fun x=>!decide (x = toT)),NameOk l /\ ¬ l = toT:=fun l hl=>by
   obtain ⟨h1,h2⟩:=List.mem_filter.mp hl
   exact ⟨⟨N.low l h1,(N.short l h1).1,(N.short l h1).2⟩,by simpa using h2⟩
  generalize nm.filter (fun x=>!decide (x = toT)) = ms at e2 hm hmn hmem
  have s12:=s1.trans s2
  walk_at "rd"
  obtain ⟨n0,n1,m2,rfl⟩:∃ n0 n1 m2,ms = n0 :: n1 :: m2:=by
   match ms,hm with
   | [],hm=>simp at hm
   | [_],hm=>simp at hm
   | n0 :: n1 :: m2,_=>exact ⟨n0,n1,m2,rfl⟩
  obtain ⟨k0,k1⟩:=hmem n0 (by simp)
  obtain ⟨k2,k3⟩:=hmem n1 (by simp)
  have k4:¬ n0 = n1:=fun z=>by simp [z] at hmn
  refine ⟨by decide,fun p0 hp0=>⟨by decide,fun p1 hp1=>?_⟩⟩
  have sa:=same_new hp0 (.tup [V.str (st [116,111]),nV S])
  have sb:=same_new hp1 (.lst [V.ref p0])
  have sab:=s12.trans (sa.trans sb)
  have hp1':=s12.free (sa.free hp1)
  have ne01:p0 ≠ p1:=fun z=>by rw [<- z,upd_same] at hp1; cases hp1
  have eD:=(sa.trans sb) _ _ e2
  refine ⟨fun σ' H'=>∃ ls,σ' = [some (.ref a),some (nV S),some (nV A'),some (nV B),some (.ref D),some (.ref p1)] /\ Same H'' H' /\ H' D = some (.lst ((n0 :: n1 :: m2).map tx)) /\ Lay H' p1 ls /\ ((A' = 0 /\ ls = [(toT,S)]) \/ (1 <= A' /\ ls = [(n0,A'),(toT,S)])),?_,?_⟩
  ·refine ite2 (fun gA=>⟨⟨_,upd_same⟩,_,tx n0,.inl (SqL.of eD),show atI _ ((0:Nat):Int) = _ from atI_nat rfl,by decide,fun p2 hp2=>⟨[V.ref p0],0,rfl,?_,by simp,by simp,?_⟩⟩) fun gA=>⟨[(toT,S)],rfl,sab,eD,⟨_,upd_same,.cons ⟨p0,rfl,?_⟩ .nil⟩,.inl ⟨by omega,rfl⟩⟩
   ·rw [upd_ne (fun z=>by rw [<- z,upd_same] at hp2; cases hp2),upd_same]
   ·have ne12:p2 ≠ p1:=fun z=>by rw [z,upd_same] at hp2; cases hp2
    have ne02:p0 ≠ p2:=fun z=>by rw [<- z,upd_ne ne01,upd_same] at hp2; cases hp2
    have sc:=sab.trans (same_new hp2 (.tup [tx n0,nV A']))
    have neD:D ≠ p1:=fun z=>by rw [z,upd_same] at eD; cases eD
    have neD2:D ≠ p2:=fun z=>by rw [<- z,eD] at hp2; cases hp2
    refine ⟨[(n0,A'),(toT,S)],rfl,same_upd sc hp1',?_,⟨_,upd_same,.cons ⟨p2,rfl,?_⟩ (.cons ⟨p0,rfl,?_⟩ .nil)⟩,.inr ⟨by omega,rfl⟩⟩
    ·rw [upd_ne neD,upd_ne neD2]
     exact eD
    ·rw [upd_ne ne12,upd_same]
    ·rw [upd_ne ne01,upd_ne ne02,upd_ne ne01,upd_same]
     rfl
   ·rw [upd_ne ne01,upd_same]
    rfl
  ·rintro σ' H3 ⟨ls,rfl,s3,e3,⟨vs,e4,pr⟩,hls⟩
   walk_at "rd"
   refine ⟨fun σ' H'=>∃ ls,σ' = [some (.ref a),some (nV S),some (nV A'),some (nV B),some (.ref D),some (.ref p1)] /\ Same H'' H' /\ Lay H' p1 ls /\ LayOk ls /\ widthL ls = wF ns,?_,?_⟩
   ·refine ite2 (fun gB=>⟨⟨_,e4⟩,_,tx n1,.inl (SqL.of e3),show atI _ ((1:Nat):Int) = _ from atI_nat rfl,by decide,fun p4 hp4=>⟨vs,?_,?_,?_⟩⟩) fun gB=>⟨ls,rfl,s3,⟨vs,e4,pr⟩,?_,?_⟩
    ·rw [upd_ne (fun z=>by rw [<- z,e4] at hp4; cases hp4)]
     exact e4
    ·have:=pr.length
     refine Nat.lt_of_le_of_lt ?_ (sizeBig (n:=3) (by decide))
     rcases hls with ⟨_,rfl⟩ | ⟨_,rfl⟩
     ·simp at this; omega
     ·simp at this; omega
    ·have ne41:p4 ≠ p1:=fun z=>by rw [z,e4] at hp4; cases hp4
     have s4:=same_new hp4 (.tup [tx n1,nV B])
     refine ⟨ls ++ [(n1,B)],rfl,same_upd (s3.trans s4) hp1',⟨_,upd_same,?_⟩,?_,?_⟩
     ·refine paired_snoc (flds_keep (fun t us z=>?_) pr) ⟨p4,rfl,?_⟩
      ·rw [upd_ne (fun y=>by rw [y,e4] at z; cases z)]
       exact s4 _ _ z
      ·rw [upd_ne ne41,upd_same]
     ·rcases hls with ⟨_,rfl⟩ | ⟨hA1,rfl⟩
      ·exact layBehind (A:=1) hS1 hS2 (by decide) (by decide) k0 k1 (by omega) hB k2 k3 k4 (.inl rfl)
      ·exact layBehind hS1 hS2 hA1 hA k0 k1 (by omega) hB k2 k3 k4 (.inr rfl)
     ·rcases hls with ⟨_,rfl⟩ | ⟨hA1,rfl⟩
      ·simp [widthL]; omega
      ·simp [widthL]; omega
    ·rcases hls with ⟨_,rfl⟩ | ⟨hA1,rfl⟩
     ·exact lay1 hS1 hS2
     ·exact layAhead hS1 hS2 hA1 hA k0 k1
    ·rcases hls with ⟨_,rfl⟩ | ⟨hA1,rfl⟩
     ·simp [widthL]; omega
     ·simp [widthL]; omega
   ·rintro σ' H4 ⟨ls',rfl,s4,hL,ok,hwf⟩
    walk_at "rd"
    exact q p1 H4 ls' hp1' s4 hL ok hwf
structure ToldOk (W:Nat) (ps:List Nat):Prop where
 l1:1 <= ps.length
 l5:ps.length <= 5
 lt:∀ x ∈ ps,x < W
 nd:ps.Nodup
theorem ints_nat:∀ ms:List Int,(∀ x ∈ ms,0 <= x) -> ms.map V.int = (ms.map Int.toNat).map nV
 | [],_=>rfl
 | x :: ms,h=>by
  rw [List.map_cons,List.map_cons,List.map_cons,ints_nat ms fun y hy=>h y (List.mem_cons_of_mem _ hy),nV,show ((x.toNat:Nat):Int) = x from Int.toNat_of_nonneg (h x List.mem_cons_self)]
noncomputable def sp__law_told (K:Frag):Sp:=fun vs H Q _=>match vs with
 | [.ref a,.ref p]=>∃ (ns:List Int) (ls:List Fld),SqL K H a (ns.map V.int) /\ Lay H p ls /\ LayOk ls /\ ∀ (q:Addr) (H':Hp) (ps:List Nat),H q = none -> Same H H' -> H' q = some (.lst (ps.map nV)) -> ToldOk (widthL ls) ps -> Q (.ref q) H'
 | _=>False
theorem ok__law_told (T:Top K mg):Callee P w K mg base 2 "_law_told" ["_law_script", "_law_layout_here"] (sp__law_told K):=by
 refine T.f__law_told.cal sc__law_told (by intro vs H Q E h; unfold sp__law_told at h; split at h <;> first | rfl | exact h.elim) (fun _ _ _ _ _ _ us hl=>match us,hl with | [_,_],_=>rfl) (fun f cdv A outer s H vs Q E hr h=>?_)
 unfold sp__law_told at h
 split at h
 case h_2=>exact h.elim
 refine ⟨_,(pss_cons (ps_set (i:=2) sc__law_told.nd rfl lc (pe_fn (ok__law_width T) hr.m rfl (pa_cons (qv 1) pa_nil)))
   (pss_cons (ps_if (qt_cmp op_leK (qv 2) pe_int) (pss_one (ps_ret (qe_listrng rfl rfl T.b_list rfl T.b_range (qv 2)))) pss_nil)
   (pss_cons (ps_asg (pe_fn (ok__law_span T) hr.m rfl (pa_cons (qv 1) pa_nil)) (seqE K rfl rfl (n:=2) (pgs_cons (pg_name (i:=3) sc__law_told.nd rfl lc) (pgs_cons (pg_name (i:=4) sc__law_told.nd rfl lc) pgs_nil))))
   (pss_cons (ps_set (i:=5) sc__law_told.nd rfl lc (qe_listrng2 rfl rfl T.b_list rfl T.b_range (qv 3) (pe_callB (call_min2K rfl) rfl T.b_min bb_min (pa_cons (qv 4) (pa_cons (pe_op op_addK (qv 3) pe_int) pa_nil)))))
   (pss_cons (qs_for PassesOwn.never rfl (qi_range1 rfl T.b_range (pe_fn (ok__law_draw T) hr.m rfl (pa_cons (qv 0) (pa_cons pe_int (pa_cons pe_int pa_nil))))) (pg_name (i:=6) sc__law_told.nd rfl lc) (pss_one (ps_expr (qe_append (qv 5) (pe_fn (ok__law_draw T) hr.m rfl (pa_cons (qv 0) (pa_cons (pe_op op_addK pe_int (qv 6)) (pa_cons (qv 2) pa_nil))))))))
   (pss_one (ps_ret (qe_sortsetI (K:=K) rfl rfl rfl T.b_sorted rfl T.b_set (qv 5))))))))),?_⟩
 rename_i a p
 obtain ⟨ns,ls,hS,hL,ok,q⟩:=h
 have w1:=ok.w1
 have w2:=ok.w2
 have hlen:=ok.len
 walk_at "rd"
 refine ⟨ls,hL,by omega,fun H1 s1=>?_⟩
 walk_at "rd"
 generalize eW:widthL ls = W at *
 have hL1:=hL.same s1
 refine ite2 (fun g=>⟨Int.le_trans (by decide) (Int.natCast_nonneg W),by omega,fun t1 ht1=>?_⟩) fun g=>?_
 ·rw [Int.toNat_natCast]
  refine q t1 _ (List.range W) (s1.free ht1) (s1.trans (same_new ht1 _)) upd_same ⟨by simp; omega,by simp; omega,fun x hx=>List.mem_range.mp hx,List.nodup_range⟩
 obtain ⟨fa,fb,esp,hab,hb⟩:=ok.to
 rw [eW] at hb
 have eG:spanG ls = (fa,fb):=by unfold spanG; rw [esp]; rfl
 refine ⟨ls,hL1,fun t1 H2 ht1 s2 e1=>?_⟩
 rw [eG] at e1
 have s12:=s1.trans s2
 refine ⟨[_,_],.inr (SqT.of e1),rfl,_,[_],rfl,_,[],rfl,rfl,?_⟩
 walk_at "rd"
 obtain ⟨e,ee,he1,he2,he3⟩:∃ e:Nat,(if (fa:Int) + 3 < (fb:Int) then (fa:Int) + 3 else (fb:Int)) = (e:Int) /\ fa < e /\ e <= fb /\ e <= fa + 3:=by
  split
  ·exact ⟨fa + 3,by omega,by omega,by omega,by omega⟩
  ·exact ⟨fb,rfl,by omega,by omega,by omega⟩
 rw [ee,show ((e:Int) - (fa:Int)).toNat = e - fa by omega]
 have el:(List.range (e - fa)).map (fun k:Nat=>V.int ((fa:Int) + (k:Int))) = ((List.range (e - fa)).map (fa + ·)).map nV:=by
  rw [List.map_map]
  refine List.map_congr_left fun k _=>?_
  show V.int _ = V.int _
  rw [Int.natCast_add]
 rw [el]
 refine ⟨by omega,by omega,by omega,by omega,fun p1 hp1=>?_⟩
 have hp1':=s12.free hp1
 have s3:=same_new hp1 (.lst (((List.range (e - fa)).map (fa + ·)).map nV))
 have s13:=s12.trans s3
 refine draw_to (s13.seq hS) (by decide) (by decide) (by decide) (by decide) fun r1 hr1=>?_
 walk_at "rd"
 refine ⟨by omega,by omega,?_⟩
 rw [Int.toNat_natCast]
 refine loop_range (lo:=0) (n:=r1) (fun i σ H'=>∃ (ps:List Nat) (u:Option V),σ = [some (.ref a),some (.ref p),some (nV W),some (nV fa),some (nV fb),some (.ref p1),u] /\ Same H H' /\ H' p1 = some (.lst (ps.map nV)) /\ 1 <= ps.length /\ ps.length <= 3 + i /\ ∀ x ∈ ps,x < W)
  ⟨_,none,rfl,s13,upd_same,by simp; omega,by simp; omega,fun x hx=>?_⟩ ?_ ?_
 ·obtain ⟨k,hk,rfl⟩:=List.mem_map.mp hx
  have:=List.mem_range.mp hk
  omega
 ·rintro i σ H3 hi ⟨ps,u,rfl,s4,e4,l1,l2,hlt⟩
  walk_at "rd"
  refine ⟨⟨_,e4⟩,draw_to (s4.seq hS) (by omega) (by omega) (by omega) (by omega) fun r2 hr2=>?_⟩
  refine ⟨_,e4,sizeBig (by rw [List.length_map]; omega),ps ++ [r2],_,rfl,same_upd s4 hp1',?_,by simp,by simp; omega,fun x hx=>?_⟩
  ·rw [upd_same,List.map_append]
   rfl
  ·rcases List.mem_append.mp hx with z | z
   ·exact hlt x z
   ·rw [List.mem_singleton.mp z]
    omega
 ·rintro σ H3 ⟨ps,u,rfl,s4,e4,l1,l2,hlt⟩
  walk_at "rd"
  have em:ps.map nV = (ps.map fun x:Nat=>(x:Int)).map V.int:=by rw [List.map_map]; rfl
  refine ⟨ps.map fun x:Nat=>(x:Int),SqL.of (by rw [<- em]; exact e4),by rw [List.length_map]; omega,fun t2 ms ht2 hmem hml _ hnd=>?_⟩
  rw [List.length_map] at hml
  have hpos:∀ x ∈ ms,∃ y,y ∈ ps /\ x = (y:Int):=fun x hx=>by
   obtain ⟨y,hy,rfl⟩:=List.mem_map.mp ((hmem x).mp hx)
   exact ⟨y,hy,rfl⟩
  rw [ints_nat ms fun x hx=>by obtain ⟨y,_,rfl⟩:=hpos x hx; omega]
  refine q t2 _ (ms.map Int.toNat) (s4.free ht2) (s4.trans (same_new ht2 _)) upd_same ⟨?_,by rw [List.length_map]; omega,fun x hx=>?_,?_⟩
  ·rw [List.length_map]
   obtain ⟨x,hx⟩:=List.exists_mem_of_length_pos (l:=ps) (by omega)
   have:=(hmem (x:Int)).mpr (List.mem_map.mpr ⟨x,hx,rfl⟩)
   exact List.length_pos_of_mem this
  ·obtain ⟨z,hz,rfl⟩:=List.mem_map.mp hx
   obtain ⟨y,hy,rfl⟩:=hpos z hz
   exact hlt y hy
  ·refine List.pairwise_map.mpr (List.Pairwise.imp_of_mem ?_ hnd)
   intro x y hx hy hne ez
   obtain ⟨x',_,rfl⟩:=hpos x hx
   obtain ⟨y',_,rfl⟩:=hpos y hy
   exact hne (congrArg Int.ofNat (by simpa using ez))
structure WaysOk (S:Nat) (ds:List (List Nat)) (ws:List Way):Prop where
 n:∀ x ∈ ws,x.1.length <= S
 bits:∀ x ∈ ws,∀ c ∈ x.1,c = 48 \/ c = 49
 door:∀ x ∈ ws,x.2 ∈ ds
 nd:(ws.map (·.1)).Nodup
noncomputable def insW {α:Type} (l:List α) (i:Nat) (x:α):List α:=l.take i ++ x :: l.drop i
theorem insW_perm {α:Type} (l:List α) (i:Nat) (x:α):(insW l i x).Perm (x :: l):=by
 unfold insW
 refine List.perm_middle.trans ?_
 rw [List.take_append_drop]
theorem paired_ins {α β:Type} {F:α -> β -> Prop} {x:α} {y:β} (r:F x y):∀ {l:List α} {m:List β} (i:Nat),Paired F l m -> Paired F (insW l i x) (insW m i y)
 | _,_,0,p=>by unfold insW; exact .cons r p
 | _,_,i + 1,.nil=>by unfold insW; exact .cons r .nil
 | _,_,i + 1,.cons r' p=>by
  have:=paired_ins r i p
  unfold insW at this ⊢
  exact .cons r' this
theorem ways_ins {S:Nat} {ds:List (List Nat)} {ws:List Way} (ok:WaysOk S ds ws) (x:Way) (i:Nat) (h1:x.1.length <= S) (h2:∀ c ∈ x.1,c = 48 \/ c = 49) (h3:x.2 ∈ ds) (h4:x.1 ∉ ws.map (·.1)):WaysOk S ds (insW ws i x):=by
 have hm:∀ y,y ∈ insW ws i x -> y = x \/ y ∈ ws:=fun y hy=>List.mem_cons.mp ((insW_perm ws i x).mem_iff.mp hy)
 refine ⟨fun y hy=>?_,fun y hy=>?_,fun y hy=>?_,?_⟩
 ·rcases hm y hy with rfl | z
  ·exact h1
  ·exact ok.n y z
 ·rcases hm y hy with rfl | z
  ·exact h2
  ·exact ok.bits y z
 ·rcases hm y hy with rfl | z
  ·exact h3
  ·exact ok.door y z
 ·rw [((insW_perm ws i x).map _).nodup_iff,List.map_cons,List.nodup_cons]
  exact ⟨h4,ok.nd⟩
theorem inV_tx (n:List Nat) (l:List (List Nat)):inV (tx n) (l.map tx) = decide (n ∈ l):=by
 unfold inV
 induction l with
 | nil=>simp
 | cons d l ih=>
  rw [List.map_cons,List.any_cons,ih]
  simp only [eqV,List.mem_cons]
  have stj:st n = st d ↔ n = d:=⟨fun h=>by simpa using congrArg (fun x:Str=>x.cps.toList) h,fun h=>by rw [h]⟩
  by_cases h:n = d
  ·subst h; simp
  ·have h2:¬ d = n:=fun z=>h z.symm
   simp [h,h2]
theorem flat_tx (l:List (List Nat)):(l.map tx).all flatV = true:=by
 rw [List.all_eq_true]
 intro v hv
 obtain ⟨c,_,rfl⟩:=List.mem_map.mp hv
 rfl
noncomputable def sp__law_ways (K:Frag):Sp:=fun vs H Q _=>match vs with
 | [.ref a,.int k,.ref d,.int z]=>∃ (ns:List Int) (k0 S:Nat) (ds:List (List Nat)),SqL K H a (ns.map V.int) /\ k = (k0:Int) /\ k0 <= 50000 /\ z = (S:Int) /\ S <= 1000 /\ SqL K H d (ds.map tx) /\ ds.length <= 100 /\
   ∀ p H' ws,H p = none -> Same H H' -> Ways H' p ws -> WaysOk S ds ws -> ws.length <= 4 -> Q (.ref p) H'
 | _=>False
theorem ok__law_ways (T:Top K mg):Callee P w K mg base 2 "_law_ways" ["_law_script", "_law_k", "_law_doors", "_law_size"] (sp__law_ways K):=by
 refine T.f__law_ways.cal sc__law_ways (by intro vs H Q E h; unfold sp__law_ways at h; split at h <;> first | rfl | exact h.elim) (fun _ _ _ _ _ _ us hl=>match us,hl with | [_,_,_,_],_=>rfl) (fun f cdv A outer s H vs Q E hr h=>?_)
 unfold sp__law_ways at h
 split at h
 case h_2=>exact h.elim
 refine ⟨_,(pss_cons (ps_set (i:=4) sc__law_ways.nd rfl lc (pe_lst pa_nil))
   (pss_cons (ps_if (qt_cmp (eqNilE K rfl (hu1 hr)) (qv 2) (pe_lst pa_nil)) (pss_one (ps_ret (qv 4))) pss_nil)
   (pss_cons (qs_for PassesOwn.never rfl (qi_range1 rfl T.b_range (pe_ix (ixE K rfl) (pe_lst (pa_cons pe_int (pa_cons pe_int (pa_cons pe_int (pa_cons pe_int (pa_cons pe_int (pa_cons pe_int (pa_cons pe_int pa_nil)))))))) (pe_fn (ok__law_draw T) hr.m rfl (pa_cons (qv 0) (pa_cons (qv 1) (pa_cons pe_int pa_nil)))) (fun _ _=>rfl))) (pg_name (i:=5) sc__law_ways.nd rfl lc) (pss_cons (ps_set (i:=6) sc__law_ways.nd rfl lc (pe_op op_addK pe_int (pe_fn (ok__law_draw T) hr.m rfl (pa_cons (qv 0) (pa_cons (pe_op op_addK (pe_op op_addK (qv 1) pe_int) (qv 5)) (pa_cons pe_int pa_nil))))))
   (pss_join (ps_if (PW.pt (pw_and (qt_cmp op_eqK (qv 5) pe_int) (pw_and1 (qt_cmp op_gtK (pe_fn (ok__law_draw T) hr.m rfl (pa_cons (qv 0) (pa_cons (pe_op op_addK (qv 1) pe_int) (pa_cons pe_int pa_nil)))) pe_int)))) (pss_one (ps_set (i:=6) sc__law_ways.nd rfl lc pe_int)) pss_nil)
   (pss_cons (ps_set (i:=7) sc__law_ways.nd rfl lc (qs []))
   (pss_cons (ps_while PassesOwn.never (qt_cmp op_gtK (qv 6) pe_int) (pss_cons (ps_set (i:=7) sc__law_ways.nd rfl lc (pe_op op_addK (pe_callTy call_strK rfl T.b_str bb_str (pa_cons (pe_op op_modK (qv 6) pe_int) pa_nil)) (qv 7)))
   (pss_one (ps_set (i:=6) sc__law_ways.nd rfl lc (pe_op op_fdivK (qv 6) pe_int)))))
   (pss_cons (ps_set (i:=7) sc__law_ways.nd rfl lc (pe_slice slF (qv 7) po_none (qo_some (pe_callB (call_min2K rfl) rfl T.b_min bb_min (pa_cons (qv 3) (pa_cons pe_int pa_nil))))))
   (pss_one (ps_if (qt_cmp (notinE K rfl) (qv 7) (qe_comp (nt:=1) (fi:=[]) (N':=["_law_way"]) rfl (cscope rfl (by decide +kernel)) (cnames (N:=["_law_script", "_law_k", "_law_doors", "_law_size", "_law_ways_here", "_law_j", "_law_number", "_law_beginning", "_law_door"]) (sc:=defScope s__law_ways) rfl rfl (by decide +kernel)) (gk_name (by decide)) (iterE K rfl (qv 4)) (fun _ _ _ _ _=>(pg_name (i:=0) (by show (["_law_way"]:List Str).Nodup; decide +kernel) rfl lc)) (fun _ _ _ _ _=>pif_nil) (fun _ _ _ _ _=>(pe_ix (ixE K rfl) (qv 0) pe_int (fun _ _=>rfl))))) (pss_cons (ps_set (i:=8) sc__law_ways.nd rfl lc (pe_ix (ixE K rfl) (qv 2) (pe_fn (ok__law_draw T) hr.m rfl (pa_cons (qv 0) (pa_cons (pe_op op_addK (pe_op op_addK (qv 1) pe_int) (qv 5)) (pa_cons (pe_callB (lenE K rfl) rfl T.b_len bb_len (pa_cons (qv 2) pa_nil)) pa_nil)))) (fun _ _=>rfl)))
   (pss_one (ps_expr (qe_insert (qv 4) (pe_fn (ok__law_draw T) hr.m rfl (pa_cons (qv 0) (pa_cons (pe_op op_addK (pe_op op_addK (qv 1) pe_int) (qv 5)) (pa_cons (pe_op op_addK (pe_callB (lenE K rfl) rfl T.b_len bb_len (pa_cons (qv 4) pa_nil)) pe_int) pa_nil)))) (pe_tup (pa_cons (qv 7) (pa_cons (qv 8) pa_nil))))))) pss_nil))))))))
   (pss_one (ps_ret (qv 4)))))),?_⟩
 rename_i a k d z
 obtain ⟨ns,k0,S,ds,hS,rfl,hk,rfl,hSz,hd,hdl,q⟩:=h
 walk_at "rd"
 refine ⟨Nat.zero_le _,fun g hg=>?_⟩
 have s1:=same_new hg (.lst [])
 have w0:Ways (upd H g (.lst [])) g []:=⟨[],upd_same,.nil⟩
 have ok0:WaysOk S ds []:=⟨fun x hx=>by simp at hx,fun x hx=>by simp at hx,fun x hx=>by simp at hx,by simp⟩
 refine ⟨Nat.zero_le _,fun t1 ht1=>⟨_,(s1.trans (same_new ht1 _)).seq hd,SqL.of upd_same,?_⟩⟩
 have s2:=s1.trans (same_new ht1 (.lst []))
 have w1:=w0.same (same_new ht1 (.lst []))
 refine ite2 (fun ge=>q g _ [] hg s2 w1 ok0 (by simp)) fun ge=>⟨by decide,fun t2 ht2=>?_⟩
 have hd1:1 <= ds.length:=by
  cases ds with
  | nil=>exact absurd rfl ge
  | cons _ _=>simp
 have s3:=s2.trans (same_new ht2 (.lst [V.int 0,V.int 1,V.int 2,V.int 3,V.int 4,V.int 1,V.int 2]))
 have w2:=w1.same (same_new ht2 (.lst [V.int 0,V.int 1,V.int 2,V.int 3,V.int 4,V.int 1,V.int 2]))
 refine draw_to (s3.seq hS) (by omega) (by omega) (by decide) (by decide) fun r1 hr1=>?_
 obtain ⟨c,hc,ec⟩:=pick_int (cs:=[0,1,2,3,4,1,2]) (B:=4) (vs:=[V.int 0,V.int 1,V.int 2,V.int 3,V.int 4,V.int 1,V.int 2]) rfl (by decide) (i:=r1) (by show r1 < 7; omega)
 walk_at "rd"
 refine ⟨_,_,.inl (SqL.of upd_same),ec,?_⟩
 walk_at "rd"
 refine ⟨by omega,by omega,?_⟩
 rw [Int.toNat_natCast]
 refine loop_range (lo:=0) (n:=c) (fun i σ H'=>∃ (ws:List Way) (u5 u6 u7 u8:Option V),σ = [some (.ref a),some (nV k0),some (.ref d),some (nV S),some (.ref g),u5,u6,u7,u8] /\ Same H H' /\ Ways H' g ws /\ WaysOk S ds ws /\ ws.length <= i)
  ⟨[],none,none,none,none,rfl,s3,w2,ok0,by simp⟩ ?_ ?_
 ·rintro i σ H1 hi ⟨ws,u5,u6,u7,u8,rfl,s4,hw,ok,hwl⟩
  walk_at "rd"
  refine draw_to (s4.seq hS) (by omega) (by omega) (by decide) (by decide) fun r2 hr2=>?_
  walk_at "rd"
  refine ⟨fun σ' H'=>∃ M:Nat,σ' = [some (.ref a),some (nV k0),some (.ref d),some (nV S),some (.ref g),some (nV i),some (nV M),u7,u8] /\ H1 = H' /\ M <= 15,?_,?_⟩
  ·refine ite2 (fun _=>draw_to (s4.seq hS) (by omega) (by omega) (by decide) (by decide) fun r3 hr3=>?_) fun _=>⟨1 + r2,by simp,rfl,by omega⟩
   walk_at "rd"
   exact ite2 (fun _=>⟨1,rfl,by decide⟩) fun _=>⟨1 + r2,by simp,by omega⟩
  rintro σ' H' ⟨M,rfl,rfl,hM⟩
  walk_at "rd"
  refine ⟨fun m σ' H'=>∃ (b:List Nat),σ' = [some (.ref a),some (nV k0),some (.ref d),some (nV S),some (.ref g),some (nV i),some (nV m),some (tx b),u8] /\ H1 = H' /\ (∀ c ∈ b,c = 48 \/ c = 49) /\ b.length + m <= 16,⟨M,[],rfl,rfl,fun c hc=>by simp at hc,by simp; omega⟩,?_⟩
  rintro m σ' H2 ⟨b,rfl,rfl,hb,hbm⟩
  walk_at "rd"
  refine ite2 (fun gm=>⟨fun σ' H'=>∃ b,σ' = [some (.ref a),some (nV k0),some (.ref d),some (nV S),some (.ref g),some (nV i),some (nV (m / 2)),some (tx b),u8] /\ H1 = H' /\ (∀ c ∈ b,c = 48 \/ c = 49) /\ b.length + m / 2 <= 16,?_,by omega,by omega,?_⟩) fun gm=>?_
  ·rintro σ' H' ⟨b',rfl,rfl,h1,h2⟩
   exact ⟨m / 2,by omega,b',rfl,rfl,h1,h2⟩
  ·refine ⟨(48 + ((m:Int) % 2).toNat) :: b,rfl,rfl,fun c hc=>?_,by rw [List.length_cons]; omega⟩
   rcases List.mem_cons.mp hc with rfl | hc
   ·omega
   ·exact hb c hc
  obtain ⟨e,ee,he1,he2⟩:∃ e:Nat,(if (3:Int) < (S:Int) then (3:Int) else (S:Int)) = (e:Int) /\ e <= S /\ e <= 3:=by
   split
   ·exact ⟨3,rfl,by omega,by omega⟩
   ·exact ⟨S,rfl,by omega,by omega⟩
  rw [ee,Int.toNat_natCast]
  have hbt:∀ c ∈ b.take e,c = 48 \/ c = 49:=fun c hc=>hb c (List.mem_of_mem_take hc)
  have hbl:(b.take e).length <= S:=by rw [List.length_take]; omega
  generalize b.take e = bg at hbt hbl ⊢
  obtain ⟨vs,e1,pr⟩:=id hw
  have hvl:=pr.length
  obtain ⟨z1,z2⟩:=paired_zip pr
  refine ⟨by omega,by omega,.inl ⟨⟨_,SqL.of e1⟩,fun D hD=>?_⟩⟩
  refine comp_list (item:=fun x:Way × V=>x.2) (xs:=ws.zip vs) (h:=fun x=>[tx x.1.1]) hD (by rw [z1]; exact SqL.of e1) (by rw [List.length_zip]; omega) (fun _=>by simp) ?_ ?_
  ·intro x H2 out non hx s5 ho _
   obtain ⟨t,ex,et⟩:=z2 x hx
   rw [ex]
   walk_at "rd"
   refine ⟨_,_,.inr (SqT.of (s5 _ _ et)),rfl,?_⟩
   exact ho _ _ rfl (Same.refl _)
  intro H2 s5 e2
  rw [show (ws.zip vs).flatMap (fun x=>[tx x.1.1]) = (ws.map (·.1)).map tx by
   rw [flat_one' (fun x:Way × V=>tx x.1.1)]
   conv=>rhs; rw [<- zip_fst (l:=ws) (m:=vs) hvl,List.map_map,List.map_map]
   rfl] at e2
  walk_at "rd"
  refine ⟨_,.inl (SqL.of e2),rfl,flat_tx _,?_⟩
  rw [show V.str (st bg) = tx bg from rfl,inV_tx]
  walk_at "rd"
  have s45:=s4.trans s5
  refine ite2 (fun gi=>⟨ws,_,_,_,_,rfl,s45,hw.same s5,ok,by omega⟩) fun gi=>?_
  refine ⟨_,.inl (s45.seq hd),draw_to (s45.seq hS) (by omega) (by omega) (by rw [List.length_map]; omega) (by rw [List.length_map]; omega) fun r4 hr4=>?_⟩
  rw [List.length_map] at hr4
  obtain ⟨dv,hdv,edv⟩:=atI_lt (l:=ds.map tx) (i:=r4) (by rw [List.length_map]; omega)
  obtain ⟨dn,hdn,rfl⟩:=List.mem_map.mp hdv
  walk_at "rd"
  have e1':=s5 _ _ e1
  refine ⟨_,_,.inl (s45.seq hd),edv,⟨_,e1'⟩,_,.inl (SqL.of e1'),draw_to (s45.seq hS) (by omega) (by omega) (by omega) (by omega) fun r5 hr5=>⟨by decide,fun t5 ht5=>?_⟩⟩
  have s6:=same_new ht5 (.tup [tx bg,tx dn])
  have ng5:g ≠ t5:=fun z=>by rw [<- z,e1'] at ht5; cases ht5
  refine ⟨vs,r5,rfl,s6 _ _ e1',by omega,by omega,insW ws r5 (bg,dn),_,_,_,_,rfl,same_upd (s45.trans s6) hg,⟨_,upd_same,?_⟩,ways_ins ok (bg,dn) r5 hbl hbt hdn (by simpa using gi),?_⟩
  ·refine paired_ins (F:=WayAt _) ⟨t5,rfl,?_⟩ r5 (L2.Paired.mapP pr ?_)
   ·rw [upd_ne (Ne.symm ng5),upd_same]
   ·rintro x v ⟨t,rfl,et⟩
    refine ⟨t,rfl,?_⟩
    rw [upd_ne (fun z=>by rw [z,e1] at et; cases et)]
    exact s6 _ _ (s5 _ _ et)
  ·have:=(insW_perm ws r5 (bg,dn)).length_eq
   rw [this,List.length_cons]
   omega
 ·rintro σ H1 ⟨ws,u5,u6,u7,u8,rfl,s4,hw,ok,hwl⟩
  walk_at "rd"
  exact q g H1 ws hg s4 hw ok (by omega)
structure HouseOk (W S:Nat) (pl:List (List Nat)) (hs:House):Prop where
 nd:(hs.1.map (·.1)).Nodup
 door:∀ x ∈ hs.1,x.1 ∈ pl
 g3:hs.1.length <= 3
 rules:∀ x ∈ hs.1,∀ r ∈ x.2,RuleOk W r
 many:∀ x ∈ hs.1,x.2.length <= 300
 ways:WaysOk S (hs.1.map (·.1)) hs.2
 w8:hs.2.length <= 8
theorem paired_choose {α β:Type} {F:β -> V -> Prop} {P:β -> Prop}:∀ {l:List α} {vs:List V},Paired (fun _ v=>∃ b,P b /\ F b v) l vs -> ∃ bs:List β,Paired F bs vs /\ bs.length = l.length /\ ∀ b ∈ bs,P b
 | _,_,.nil=>⟨[],.nil,rfl,fun b hb=>by simp at hb⟩
 | _,_,.cons ⟨b,h1,h2⟩ p=>by
  obtain ⟨bs,h3,h4,h5⟩:=paired_choose p
  refine ⟨b :: bs,.cons h2 h3,by simp [h4],fun c hc=>?_⟩
  rcases List.mem_cons.mp hc with rfl | hc
  ·exact h1
  ·exact h5 c hc
def GateB (gl:Addr) (F:Addr -> Prop) (H:Hp) (x:Gate) (v:V):Prop:=∃ t r,v = .ref t /\ (r ≠ gl /\ F r) /\ H t = some (.tup [tx x.1,.ref r]) /\ Rules H r x.2
theorem gateB_same {gl:Addr} {F:Addr -> Prop} {H H':Hp} (s:Same H H') {gs:List Gate} {vs:List V} (p:Paired (GateB gl F H) gs vs):Paired (GateB gl F H') gs vs:=
 L2.Paired.mapP p fun _ _ ⟨t,r,e,n,h1,h2⟩=>⟨t,r,e,n,s _ _ h1,h2.same s⟩
theorem rules_off {gl r:Addr} {H:Hp} {us us':List V} {rs:List Rule} (h:H gl = some (.lst us)) (n:r ≠ gl) (hr:Rules H r rs):Rules (upd H gl (.lst us')) r rs:=by
 obtain ⟨vs,e,pr⟩:=hr
 refine ⟨vs,?_,rules_keep (keep_lst h) pr⟩
 rw [upd_ne n]
 exact e
theorem gateB_upd {gl:Addr} {F:Addr -> Prop} {H:Hp} {us us':List V} (h:H gl = some (.lst us)) {gs:List Gate} {vs:List V} (p:Paired (GateB gl F H) gs vs):Paired (GateB gl F (upd H gl (.lst us'))) gs vs:=
 L2.Paired.mapP p fun _ _ ⟨t,r,e,n,h1,h2⟩=>⟨t,r,e,n,keep_lst h _ _ h1,rules_off h n.1 h2⟩
def GateN (N:Addr -> Prop) (H:Hp) (x:Gate) (v:V):Prop:=∃ t r,v = .ref t /\ N r /\ H t = some (.tup [tx x.1,.ref r]) /\ Rules H r x.2
structure HouseN (F:Addr -> Prop) (H:Hp) (q g w:Addr) (hs:House):Prop where
 tup:H q = some (.tup [.ref g,.ref w])
 ne:g ≠ w
 gates:∃ vs,H g = some (.lst vs) /\ Paired (GateN (fun r=>r ≠ g /\ r ≠ w /\ F r) H) hs.1 vs
 ways:Ways H w hs.2
theorem HouseN.at {F:Addr -> Prop} {H:Hp} {q g w:Addr} {hs:House} (h:HouseN F H q g w hs):HouseAt H q hs:=by
 obtain ⟨vs,e,p⟩:=h.gates
 exact ⟨g,w,h.tup,⟨vs,e,L2.Paired.mapP p fun _ _ ⟨t,r,e,_,h1,h2⟩=>⟨t,r,e,h1,h2⟩⟩,h.ways⟩
theorem HouseN.same {F:Addr -> Prop} {H H':Hp} {q g w:Addr} {hs:House} (h:HouseN F H q g w hs) (s:Same H H'):HouseN F H' q g w hs:=by
 obtain ⟨vs,e,p⟩:=h.gates
 exact ⟨s _ _ h.tup,h.ne,⟨vs,s _ _ e,L2.Paired.mapP p fun _ _ ⟨t,r,e,n,h1,h2⟩=>⟨t,r,e,n,s _ _ h1,h2.same s⟩⟩,h.ways.same s⟩
theorem doors_nd {pl:List (List Nat)} (N:Names 5 pl) {r1 c:Nat} (hc:c <= 3):((List.range c).map fun j=>pl.getD ((r1 + j) % 5) []).Nodup:=by
 refine map_nodup _ fun i j hi hj e=>?_
 have hl:=N.len
 have h1:(r1 + i) % 5 < pl.length:=by rw [hl]; exact Nat.mod_lt _ (by decide)
 have h2:(r1 + j) % 5 < pl.length:=by rw [hl]; exact Nat.mod_lt _ (by decide)
 simp only [List.getD_eq_getElem?_getD,List.getElem?_eq_getElem h1,List.getElem?_eq_getElem h2,Option.getD_some] at e
 have:=(List.getElem_inj N.nd).mp e
 omega
noncomputable def sp__law_house (K:Frag):Sp:=fun vs H Q _=>match vs with
 | [.ref a,.int k,.ref t,.ref p,.ref o]=>∃ (ns:List Int) (k0:Nat) (ps:List Nat) (ls:List Fld) (pl:List (List Nat)),SqL K H a (ns.map V.int) /\ k = (k0:Int) /\ k0 <= 10000 /\ SqL K H t (ps.map nV) /\ ToldOk (widthL ls) ps /\ Lay H p ls /\ LayOk ls /\ SqL K H o (pl.map tx) /\ Names 5 pl /\
   ∀ (q g w:Addr) (H':Hp) (hs:House),H q = none -> H g = none -> H w = none -> Same H H' -> HouseN (fun r=>H r = none) H' q g w hs -> HouseOk (widthL ls) ((spanG ls).2 - (spanG ls).1) pl hs -> hs.2.length <= 4 -> (∀ x ∈ hs.1,∀ r ∈ x.2,OverL ps r.2.2) -> Q (.ref q) H'
 | _=>False
theorem ok__law_house (T:Top K mg):Callee P w K mg base 3 "_law_house" ["_law_script", "_law_k", "_law_told_here", "_law_layout_here", "_law_pool"] (sp__law_house K):=by
 refine T.f__law_house.cal sc__law_house (by intro vs H Q E h; unfold sp__law_house at h; split at h <;> first | rfl | exact h.elim) (fun _ _ _ _ _ _ us hl=>match us,hl with | [_,_,_,_,_],_=>rfl) (fun f cdv A outer s H vs Q E hr h=>?_)
 unfold sp__law_house at h
 split at h
 case h_2=>exact h.elim
 refine ⟨_,(pss_cons (ps_set (i:=5) sc__law_house.nd rfl lc (pe_fn (ok__law_width T) hr.m rfl (pa_cons (qv 3) pa_nil)))
   (pss_cons (ps_asg (pe_fn (ok__law_span T) hr.m rfl (pa_cons (qv 3) pa_nil)) (seqE K rfl rfl (n:=2) (pgs_cons (pg_name (i:=6) sc__law_house.nd rfl lc) (pgs_cons (pg_name (i:=7) sc__law_house.nd rfl lc) pgs_nil))))
   (pss_cons (ps_set (i:=8) sc__law_house.nd rfl lc (pe_fn (ok__law_over_at T) hr.m rfl (pa_cons (qv 0) (pa_cons (qv 2) pa_nil))))
   (pss_cons (ps_set (i:=9) sc__law_house.nd rfl lc (pe_fn (ok__law_draw T) hr.m rfl (pa_cons (qv 0) (pa_cons (qv 1) (pa_cons (pe_callB (lenE K rfl) rfl T.b_len bb_len (pa_cons (qv 4) pa_nil)) pa_nil)))))
   (pss_cons (ps_set (i:=10) sc__law_house.nd rfl lc (pe_ix (ixE K rfl) (pe_lst (pa_cons pe_int (pa_cons pe_int (pa_cons pe_int (pa_cons pe_int (pa_cons pe_int (pa_cons pe_int (pa_cons pe_int (pa_cons pe_int (pa_cons pe_int pa_nil)))))))))) (pe_fn (ok__law_draw T) hr.m rfl (pa_cons (qv 0) (pa_cons (pe_op op_addK (qv 1) pe_int) (pa_cons pe_int pa_nil)))) (fun _ _=>rfl)))
   (pss_cons (ps_setC (i:=11) (nt:=1) (fi:=[4,9]) (N':=["_law_j", "_law_pool", "_law_turn"]) sc__law_house.nd rfl lc rfl (cscope rfl (by decide +kernel)) (cnames (N:=["_law_script", "_law_k", "_law_told_here", "_law_layout_here", "_law_pool", "_law_width_here", "_law_first", "_law_behind", "_law_over_at_here", "_law_turn", "_law_count", "_law_doors", "_law_gates", "_law_g", "_law_many", "_law_rules", "_law_over"]) (sc:=defScope s__law_house) rfl rfl (by decide +kernel)) (gk_name (by decide)) (qi_range1 rfl T.b_range (qv 10)) (fun _ _ _ _ _=>(pg_name (i:=0) (by show (["_law_j", "_law_pool", "_law_turn"]:List Str).Nodup; decide +kernel) rfl lc)) (fun _ _ _ _ _=>pif_nil) (fun _ _ _ _ _=>(pe_ix (ixE K rfl) (qv 1) (pe_op op_modK (pe_op op_addK (qv 2) (qv 0)) (pe_callB (lenE K rfl) rfl T.b_len bb_len (pa_cons (qv 1) pa_nil))) (fun _ _=>rfl))))
   (pss_cons (ps_set (i:=12) sc__law_house.nd rfl lc (pe_lst pa_nil))
   (pss_cons (qs_for PassesOwn.never rfl (qi_range1 rfl T.b_range (qv 10)) (pg_name (i:=13) sc__law_house.nd rfl lc) (pss_cons (ps_set (i:=14) sc__law_house.nd rfl lc (pe_fn (ok__law_draw T) hr.m rfl (pa_cons (qv 0) (pa_cons (pe_op op_addK (pe_op op_addK (qv 1) pe_int) (qv 13)) (pa_cons pe_int pa_nil)))))
   (pss_cons (ps_setC (i:=15) (nt:=1) (fi:=[0,2,8,5,1,13]) (N':=["_law_j", "_law_script", "_law_told_here", "_law_over_at_here", "_law_width_here", "_law_k", "_law_g"]) sc__law_house.nd rfl lc rfl (cscope rfl (by decide +kernel)) (cnames (N:=["_law_script", "_law_k", "_law_told_here", "_law_layout_here", "_law_pool", "_law_width_here", "_law_first", "_law_behind", "_law_over_at_here", "_law_turn", "_law_count", "_law_doors", "_law_gates", "_law_g", "_law_many", "_law_rules", "_law_over"]) (sc:=defScope s__law_house) rfl rfl (by decide +kernel)) (gk_name (by decide)) (qi_range1 rfl T.b_range (pe_op op_modK (qv 14) pe_int)) (fun _ _ _ _ _=>(pg_name (i:=0) (by show (["_law_j", "_law_script", "_law_told_here", "_law_over_at_here", "_law_width_here", "_law_k", "_law_g"]:List Str).Nodup; decide +kernel) rfl lc)) (fun _ _ _ _ _=>pif_nil) (fun _ _ _ _ _=>(pe_fn (ok__law_rule T) hr.m rfl (pa_cons (qv 1) (pa_cons (pe_op op_addK (pe_op op_addK (pe_op op_addK (qv 5) pe_int) (pe_op op_mulK pe_int (qv 6))) (pe_op op_mulK pe_int (qv 0))) (pa_cons (qv 2) (pa_cons (qv 3) (pa_cons (qv 4) pa_nil))))))))
   (pss_join (ps_if (qt_cmp op_gtK (qv 14) pe_int) (pss_cons (ps_set (i:=16) sc__law_house.nd rfl lc (pe_fn (ok__law_signs T) hr.m rfl (pa_cons (pe_fn (ok__law_draw T) hr.m rfl (pa_cons (qv 0) (pa_cons (pe_op op_addK (pe_op op_addK (qv 1) pe_int) (pe_op op_mulK pe_int (qv 13))) (pa_cons pe_int pa_nil)))) (pa_cons (qv 8) (pa_cons (qv 5) (pa_cons (qs [48,49,45,45]) pa_nil))))))
   (pss_one (ps_expr (qe_append (qv 15) (pe_tup (pa_cons (pe_op op_mulK (qs [45]) (qv 5)) (pa_cons (qs [112,97,115,115]) (pa_cons (qv 16) pa_nil)))))))) pss_nil)
   (pss_one (ps_expr (qe_append (qv 12) (pe_tup (pa_cons (pe_ix (ixE K rfl) (qv 11) (qv 13) (fun _ _=>rfl)) (pa_cons (qv 15) pa_nil))))))))))
   (pss_one (ps_ret (pe_tup (pa_cons (qv 12) (pa_cons (pe_fn (ok__law_ways T) hr.m rfl (pa_cons (qv 0) (pa_cons (pe_op op_addK (qv 1) pe_int) (pa_cons (qv 11) (pa_cons (pe_op op_subK (qv 7) (qv 6)) pa_nil))))) pa_nil))))))))))))),?_⟩
 rename_i a k t p o
 obtain ⟨ns,k0,ps,ls,pl,hS,rfl,hk,hT,tok,hL,ok,hO,N,q⟩:=h
 obtain ⟨fa,fb,esp,hab,hb⟩:=ok.to
 have eG:spanG ls = (fa,fb):=by unfold spanG; rw [esp]; rfl
 rw [eG] at q
 have w1:=ok.w1
 have w2:=ok.w2
 have hlen:=ok.len
 have hpl:(pl.map tx).length = 5:=by rw [List.length_map]; exact N.len
 walk_at "rd"
 refine ⟨ls,hL,by omega,fun H1 s1=>?_⟩
 generalize eW:widthL ls = W at *
 refine ⟨ls,hL.same s1,fun t1 H2 ht1 s2 e1=>?_⟩
 rw [eG] at e1
 have s12:=s1.trans s2
 refine ⟨[_,_],.inr (SqT.of e1),rfl,_,[_],rfl,_,[],rfl,rfl,?_⟩
 walk_at "rd"
 refine ⟨ns,ps,s12.seq hS,s12.seq hT,tok.l1,by have:=tok.l5; omega,fun ov H3 os hov s3 e3 hos=>?_⟩
 have s13:=s12.trans s3
 have hosW:∀ x ∈ os,x < W:=fun x hx=>tok.lt x (hos x hx)
 walk_at "rd"
 refine ⟨_,.inl (s13.seq hO),draw_to (s13.seq hS) (by omega) (by omega) (by omega) (by omega) fun r1 hr1=>?_⟩
 walk_at "rd"
 refine ⟨by decide,fun c1 hc1=>?_⟩
 have s4:=s13.trans (same_new hc1 (.lst [V.int 1,V.int 2,V.int 3,V.int 2,V.int 1,V.int 2,V.int 3,V.int 2,V.int 0]))
 have e4:=same_new hc1 (.lst [V.int 1,V.int 2,V.int 3,V.int 2,V.int 1,V.int 2,V.int 3,V.int 2,V.int 0]) _ _ e3
 refine draw_to (s4.seq hS) (by omega) (by omega) (by decide) (by decide) fun r2 hr2=>?_
 obtain ⟨c,hc,ec⟩:=pick_int (cs:=[1,2,3,2,1,2,3,2,0]) (B:=3) (vs:=[V.int 1,V.int 2,V.int 3,V.int 2,V.int 1,V.int 2,V.int 3,V.int 2,V.int 0]) rfl (by decide) (i:=r2) (by show r2 < 9; omega)
 walk_at "rd"
 refine ⟨_,_,.inl (SqL.of upd_same),ec,?_⟩
 walk_at "rd"
 refine ⟨by omega,by omega,fun ds hds=>?_⟩
 rw [Int.toNat_natCast]
 have dnP:∀ j:Nat,∃ h:(r1 + j) % 5 < pl.length,pl.getD ((r1 + j) % 5) [] = pl[(r1 + j) % 5]:=fun j=>by
  have h1:(r1 + j) % 5 < pl.length:=by rw [N.len]; exact Nat.mod_lt _ (by decide)
  exact ⟨h1,by rw [List.getD_eq_getElem?_getD,List.getElem?_eq_getElem h1]; rfl⟩
 have dnd:=doors_nd N (r1:=r1) hc
 refine comp_range (lo:=0) (n:=c) (h:=fun j=>[tx (pl.getD ((r1 + j) % 5) [])]) hds (by omega) (fun _=>by simp) ?_ ?_
 ·intro i H5 out non hi s5 ho _
  have s45:=s4.trans s5
  walk_at "rd"
  rw [show ((r1:Int) + (i:Int)) = ((r1 + i:Nat):Int) by omega]
  obtain ⟨h1,h2⟩:=dnP i
  refine ⟨_,.inl (s45.seq hO),by rw [hpl]; decide,_,_,.inl (s45.seq hO),?_,ho _ _ rfl (Same.refl _)⟩
  rw [hpl,show (((r1 + i:Nat):Int) % ((5:Nat):Int)) = (((r1 + i) % 5:Nat):Int) by omega]
  refine atI_nat ?_
  rw [List.getElem?_map,List.getElem?_eq_getElem h1,h2]
  rfl
 intro H5 s5 e5
 rw [flat_one' (fun j=>tx (pl.getD ((r1 + j) % 5) [])),show (List.range c).map (fun j=>tx (pl.getD ((r1 + j) % 5) [])) = ((List.range c).map fun j=>pl.getD ((r1 + j) % 5) []).map tx by rw [List.map_map]; rfl] at e5
 have dmem:∀ x ∈ (List.range c).map (fun j=>pl.getD ((r1 + j) % 5) []),x ∈ pl:=fun x hx=>by
  obtain ⟨j,_,rfl⟩:=List.mem_map.mp hx
  obtain ⟨h1,h2⟩:=dnP j
  rw [h2]
  exact List.getElem_mem h1
 have dlen:((List.range c).map fun j=>pl.getD ((r1 + j) % 5) []).length = c:=by simp
 generalize (List.range c).map (fun j=>pl.getD ((r1 + j) % 5) []) = dl at dnd dmem dlen e5
 have s45:=s4.trans s5
 have e6:=s5 _ _ e4
 clear dnP
 refine ⟨Nat.zero_le _,fun gl hgl=>⟨by omega,by omega,?_⟩⟩
 have sg:=same_new hgl (.lst [])
 refine loop_range (lo:=0) (n:=c) (fun i σ H'=>∃ (gs:List Gate) (vs:List V) (u13 u14 u15 u16:Option V),σ = [some (.ref a),some (nV k0),some (.ref t),some (.ref p),some (.ref o),some (nV W),some (nV fa),some (nV fb),some (.ref ov),some (nV r1),some (nV c),some (.ref ds),some (.ref gl),u13,u14,u15,u16] /\ Same H5 H' /\ H' gl = some (.lst vs) /\ Paired (GateB gl (fun r=>H r = none) H') gs vs /\ gs.map (·.1) = dl.take i /\ (∀ x ∈ gs,∀ r ∈ x.2,RuleOk W r /\ OverL ps r.2.2) /\ ∀ x ∈ gs,x.2.length <= 5)
  ⟨[],[],none,none,none,none,rfl,sg,upd_same,.nil,by simp,fun x hx=>by simp at hx,fun x hx=>by simp at hx⟩ ?_ ?_
 ·rintro i σ H6 hi ⟨gs,vs,u13,u14,u15,u16,rfl,s6,eg,pg,hgd,hgr,hgn⟩
  have s46:=s45.trans s6
  walk_at "rd"
  refine draw_to (s46.seq hS) (by omega) (by omega) (by decide) (by decide) fun r3 hr3=>?_
  walk_at "rd"
  have hm5:r3 % 5 < 5:=Nat.mod_lt _ (by decide)
  rw [show ((r3:Int) % 5) = ((r3 % 5:Nat):Int) by omega,Int.toNat_natCast]
  have mul9:CMul 9 (i:Int):=.inl ⟨by decide,by decide⟩
  have mul2:∀ j:Nat,CMul 2 (j:Int):=fun j=>.inl ⟨by decide,by decide⟩
  refine ⟨by omega,by omega,fun R hR=>?_⟩
  refine comp_relR (lo:=0) (n:=r3 % 5) (fun _ v H'=>∃ r:Rule,(RuleOk W r /\ OverL ps r.2.2) /\ RuleAt H' r v) hR (by omega) ?_ ?_ ?_
  ·rintro x v H7 H8 acc hd k ⟨r,hr,t',rfl,et⟩
   exact ⟨r,hr,t',rfl,k t' _ (fun z=>by rw [z,hd] at et; cases et) et⟩
  ·intro j H7 out non hj s7 ho
   have s47:=s46.trans s7
   walk_at "rd"
   refine ⟨mul9,mul2 j,ns,k0 + 22 + 9 * i + 2 * j,W,ps,os,s47.seq hS,by omega,by omega,rfl,by omega,s47.seq hT,tok.lt,SqL.of (s7 _ _ (s6 _ _ e6)),hosW,fun t7 H8 r ht7 s8 e8 hrok hov=>?_⟩
   exact ho _ _ s8 ⟨r,⟨hrok,fun i c e n=>hos i (hov i c e n)⟩,t7,rfl,e8⟩
  intro H7 us s7 e7 p7
  obtain ⟨rs,pr7,hrl,hrok⟩:=paired_choose p7
  rw [List.length_range] at hrl
  have hR5:=s6.free hR
  have s47:=s46.trans s7
  have nRg:R ≠ gl:=fun z=>by rw [z,eg] at hR; cases hR
  refine ⟨fun σ' H'=>∃ (rs:List Rule) (u:Option V),σ' = [some (.ref a),some (nV k0),some (.ref t),some (.ref p),some (.ref o),some (nV W),some (nV fa),some (nV fb),some (.ref ov),some (nV r1),some (nV c),some (.ref ds),some (.ref gl),some (nV i),some (nV r3),some (.ref R),u] /\ Same H6 H' /\ Rules H' R rs /\ (∀ r ∈ rs,RuleOk W r /\ OverL ps r.2.2) /\ rs.length <= 5,?_,?_⟩
  ·refine ite2 (fun g4=>⟨mul9,draw_to (s47.seq hS) (by omega) (by omega) (by decide) (by decide) fun r4 hr4=>?_⟩) fun g4=>⟨rs,_,rfl,s7,⟨us,e7,pr7⟩,hrok,by omega⟩
   refine signs_over (by omega) (SqL.of (s7 _ _ (s6 _ _ e6))) hosW (by decide) (by decide) (by unfold RowL; decide) fun over H8 s8 hl8 hr8 hov=>?_
   refine ⟨⟨_,s8 _ _ e7⟩,by omega,by omega,by decide,fun t8 ht8=>?_⟩
   rw [Int.toNat_natCast]
   have s9:=same_new ht8 (.tup [V.str (st (List.replicate W 45)),V.str (st [112,97,115,115]),tx over])
   have e9:=s9 _ _ (s8 _ _ e7)
   have hul:=pr7.length
   refine ⟨us,e9,sizeBig (by omega),rs ++ [(List.replicate W 45,passT,over)],_,rfl,same_upd (s7.trans (s8.trans s9)) hR,⟨_,upd_same,?_⟩,fun r hr=>?_,by rw [List.length_append,hrl]; simp; omega⟩
   ·refine paired_snoc (L2.Paired.mapP pr7 ?_) ⟨t8,rfl,?_⟩
    ·rintro x v ⟨t',rfl,et⟩
     exact ⟨t',rfl,keep_lst e9 _ _ (s9 _ _ (s8 _ _ et))⟩
    ·exact keep_lst e9 _ _ upd_same
   ·rcases List.mem_append.mp hr with z | z
    ·exact hrok r z
    ·rw [List.mem_singleton.mp z]
     exact ⟨⟨fun c hc=>.inr (.inr (List.eq_of_mem_replicate hc)),by simp,.inl rfl,hr8,hl8⟩,fun i c e n=>hos i (hov i c e n)⟩
  ·rintro σ' H8 ⟨rs',u,rfl,s8,hR8,hrok',hrl'⟩
   walk_at "rd"
   have eg8:=s8 _ _ eg
   have hid:i < dl.length:=by omega
   refine ⟨⟨_,eg8⟩,_,tx dl[i],.inl (SqL.of (s8 _ _ (s6 _ _ e5))),atI_nat (by rw [List.getElem?_map,List.getElem?_eq_getElem hid]; rfl),by decide,fun t9 ht9=>?_⟩
   have s9:=same_new ht9 (.tup [tx dl[i],.ref R])
   have eg9:=s9 _ _ eg8
   have hvl:=pg.length
   have hgl2:gs.length = i:=by
    have:=congrArg List.length hgd
    rw [List.length_map,List.length_take] at this
    omega
   refine ⟨vs,eg9,sizeBig (by omega),gs ++ [(dl[i],rs')],_,_,_,_,_,rfl,same_upd (s6.trans (s8.trans s9)) hgl,upd_same,?_,?_,fun x hx=>?_,fun x hx=>?_⟩
   ·exact paired_snoc (gateB_upd eg9 (gateB_same (s8.trans s9) pg)) ⟨t9,R,rfl,⟨nRg,s46.free hR⟩,keep_lst eg9 _ _ upd_same,rules_off eg9 nRg (hR8.same s9)⟩
   ·rw [List.map_append,hgd,List.take_add_one,List.getElem?_eq_getElem hid]
    rfl
   ·rcases List.mem_append.mp hx with z | z
    ·exact hgr x z
    ·rw [List.mem_singleton.mp z]
     exact hrok'
   ·rcases List.mem_append.mp hx with z | z
    ·exact hgn x z
    ·rw [List.mem_singleton.mp z]
     exact hrl'
 ·rintro σ H6 ⟨gs,vs,u13,u14,u15,u16,rfl,s6,eg,pg,hgd,hgr,hgn⟩
  have s46:=s45.trans s6
  rw [<- dlen,List.take_length] at hgd
  walk_at "rd"
  refine ⟨ns,k0 + 5,fb - fa,dl,s46.seq hS,by omega,by omega,by omega,by omega,SqL.of (s6 _ _ e5),by omega,fun wp H7 ws hwp s7 hw wok hwl=>⟨by decide,fun hp hhp=>?_⟩⟩
  have s8:=same_new hhp (.tup [V.ref gl,V.ref wp])
  have s78:=s7.trans s8
  have ngw:gl ≠ wp:=fun z=>by rw [z,hwp] at eg; cases eg
  refine q hp gl wp _ (gs,ws) ((s46.trans s7).free hhp) (s45.free hgl) (s46.free hwp) (s46.trans s78) ⟨upd_same,ngw,⟨vs,s78 _ _ eg,L2.Paired.mapP pg ?_⟩,hw.same s8⟩ ⟨?_,fun x hx=>?_,?_,fun x hx r hr=>(hgr x hx r hr).1,fun x hx=>Nat.le_trans (hgn x hx) (by decide),?_,Nat.le_trans hwl (by decide)⟩ hwl fun x hx r hr=>(hgr x hx r hr).2
  ·rintro x v ⟨t',r,rfl,n,h1,h2⟩
   refine ⟨t',r,rfl,⟨n.1,fun z=>?_,n.2⟩,s78 _ _ h1,h2.same s78⟩
   obtain ⟨us,eu,_⟩:=h2
   rw [z,hwp] at eu
   cases eu
  ·show (gs.map (·.1)).Nodup
   rw [hgd]
   exact dnd
  ·exact dmem _ (by rw [<- hgd]; exact List.mem_map.mpr ⟨x,hx,rfl⟩)
  ·have:=congrArg List.length hgd
   rw [List.length_map,dlen] at this
   show gs.length <= 3
   omega
  ·show WaysOk (fb - fa) (gs.map (·.1)) ws
   rw [hgd]
   exact wok
theorem paired_flip {α β γ:Type} {F:α -> β -> Prop} {G:β -> γ -> Prop} {f:α -> γ} (h:∀ x v,F x v -> G v (f x)):∀ {l:List α} {vs:List β},Paired F l vs -> Paired G vs (l.map f)
 | _,_,.nil=>.nil
 | _,_,.cons r p=>.cons (h _ _ r) (paired_flip h p)
theorem paired_back {α β γ:Type} {F:α -> β -> Prop} {G:β -> γ -> Prop} {f:α -> γ} (h:∀ x v,G v (f x) -> F x v):∀ {l:List α} {vs:List β},Paired G vs (l.map f) -> Paired F l vs
 | [],_,p=>by cases p; exact .nil
 | x :: l,_,p=>by
  cases p with
  | cons r p=>exact .cons (h _ _ r) (paired_back h p)
theorem th_l {H:Hp} {n:Nat} {v:V} {ds:List D} (h:Th H (n + 1) v (.l ds)):∃ a vs,v = .ref a /\ H a = some (.lst vs) /\ Paired (Th H n) vs ds:=by
 rcases h with ⟨e,_⟩ | ⟨a,vs,ds',e1,e2,e3,_,p⟩ | ⟨a,vs,ds',e1,e2,e3,_,p⟩
 ·cases e
 ·cases e2; exact ⟨a,vs,e1,e3,p⟩
 ·cases e2
theorem th_t {H:Hp} {n:Nat} {v:V} {ds:List D} (h:Th H (n + 1) v (.t ds)):∃ a vs,v = .ref a /\ H a = some (.tup vs) /\ Paired (Th H n) vs ds:=by
 rcases h with ⟨e,_⟩ | ⟨a,vs,ds',e1,e2,e3,_,p⟩ | ⟨a,vs,ds',e1,e2,e3,_,p⟩
 ·cases e
 ·cases e2
 ·cases e2; exact ⟨a,vs,e1,e3,p⟩
theorem mk_l {H:Hp} {n:Nat} {a:Addr} {vs:List V} {ds:List D} (e:H a = some (.lst vs)) (hl:vs.length <= 1000) (p:Paired (Th H n) vs ds):Th H (n + 1) (.ref a) (.l ds):=.inr (.inl ⟨a,vs,ds,rfl,rfl,e,hl,p⟩)
theorem mk_t {H:Hp} {n:Nat} {a:Addr} {vs:List V} {ds:List D} (e:H a = some (.tup vs)) (hl:vs.length <= 1000) (p:Paired (Th H n) vs ds):Th H (n + 1) (.ref a) (.t ds):=.inr (.inr ⟨a,vs,ds,rfl,rfl,e,hl,p⟩)
theorem fld_th {H:Hp} {x:Fld} {v:V} (n:Nat) (h:FldAt H x v):Th H (n + 1) v (fldD x):=by
 obtain ⟨t,rfl,e⟩:=h
 exact mk_t e (by simp) (.cons (th_flat n rfl) (.cons (th_flat n rfl) .nil))
theorem fld_back {H:Hp} {x:Fld} {v:V} {n:Nat} (h:Th H (n + 1) v (fldD x)):FldAt H x v:=by
 obtain ⟨a,vs,rfl,e,p⟩:=th_t h
 cases p with
 | cons r p=>cases p with
  | cons r2 p=>
   cases p
   rw [th_of r,th_of r2] at e
   exact ⟨a,rfl,e⟩
theorem way_th {H:Hp} {x:Way} {v:V} (n:Nat) (h:WayAt H x v):Th H (n + 1) v (wayD x):=by
 obtain ⟨t,rfl,e⟩:=h
 exact mk_t e (by simp) (.cons (th_flat n rfl) (.cons (th_flat n rfl) .nil))
theorem way_back {H:Hp} {x:Way} {v:V} {n:Nat} (h:Th H (n + 1) v (wayD x)):WayAt H x v:=by
 obtain ⟨a,vs,rfl,e,p⟩:=th_t h
 cases p with
 | cons r p=>cases p with
  | cons r2 p=>
   cases p
   rw [th_of r,th_of r2] at e
   exact ⟨a,rfl,e⟩
theorem rule_th {H:Hp} {x:Rule} {v:V} (n:Nat) (h:RuleAt H x v):Th H (n + 1) v (ruleD x):=by
 obtain ⟨t,rfl,e⟩:=h
 exact mk_t e (by simp) (.cons (th_flat n rfl) (.cons (th_flat n rfl) (.cons (th_flat n rfl) .nil)))
theorem rule_back {H:Hp} {x:Rule} {v:V} {n:Nat} (h:Th H (n + 1) v (ruleD x)):RuleAt H x v:=by
 obtain ⟨a,vs,rfl,e,p⟩:=th_t h
 cases p with
 | cons r p=>cases p with
  | cons r2 p=>cases p with
   | cons r3 p=>
    cases p
    rw [th_of r,th_of r2,th_of r3] at e
    exact ⟨a,rfl,e⟩
noncomputable def layD (ls:List Fld):D:=.l (ls.map fldD)
noncomputable def gateD (x:Gate):D:=.t [.f (tx x.1),.l (x.2.map ruleD)]
noncomputable def houseD (h:House):D:=.t [.l (h.1.map gateD),.l (h.2.map wayD)]
theorem lay_th {H:Hp} {p:Addr} {ls:List Fld} (n:Nat) (h:Lay H p ls) (hl:ls.length <= 1000):Th H (n + 2) (.ref p) (layD ls):=by
 obtain ⟨vs,e,pr⟩:=h
 exact mk_l e (by rw [<- pr.length]; exact hl) (paired_flip (fun x v z=>fld_th n z) pr)
theorem lay_back {H:Hp} {v:V} {ls:List Fld} {n:Nat} (h:Th H (n + 2) v (layD ls)):∃ p,v = .ref p /\ Lay H p ls:=by
 obtain ⟨a,vs,rfl,e,p⟩:=th_l h
 exact ⟨a,rfl,vs,e,paired_back (F:=FldAt H) (fun x v z=>fld_back z) p⟩
theorem rules_th {H:Hp} {p:Addr} {rs:List Rule} (n:Nat) (h:Rules H p rs) (hl:rs.length <= 1000):Th H (n + 2) (.ref p) (.l (rs.map ruleD)):=by
 obtain ⟨vs,e,pr⟩:=h
 exact mk_l e (by rw [<- pr.length]; exact hl) (paired_flip (fun x v z=>rule_th n z) pr)
theorem rules_back {H:Hp} {v:V} {rs:List Rule} {n:Nat} (h:Th H (n + 2) v (.l (rs.map ruleD))):∃ p,v = .ref p /\ Rules H p rs:=by
 obtain ⟨a,vs,rfl,e,p⟩:=th_l h
 exact ⟨a,rfl,vs,e,paired_back (F:=RuleAt H) (fun x v z=>rule_back z) p⟩
theorem gate_back {H:Hp} {x:Gate} {v:V} {n:Nat} (h:Th H (n + 3) v (gateD x)):GateAt H x v:=by
 obtain ⟨a,vs,rfl,e,p⟩:=th_t h
 cases p with
 | cons r p=>cases p with
  | cons r2 p=>
   cases p
   obtain ⟨q,rfl,hq⟩:=rules_back r2
   rw [th_of r] at e
   exact ⟨a,q,rfl,e,hq⟩
theorem house_th {H:Hp} {t:Addr} {hs:House} (n:Nat) (h:HouseAt H t hs) (h1:hs.1.length <= 1000) (h2:hs.2.length <= 1000) (h3:∀ x ∈ hs.1,x.2.length <= 1000):Th H (n + 5) (.ref t) (houseD hs):=by
 obtain ⟨g,w,e,⟨vs,eg,pg⟩,⟨us,ew,pw⟩⟩:=h
 refine mk_t e (by simp) (.cons (mk_l eg (by rw [<- pg.length]; exact h1) ?_) (.cons (mk_l ew (by rw [<- pw.length]; exact h2) (paired_flip (fun x v z=>way_th (n + 2) z) pw)) .nil))
 clear eg e ew pw h1 h2
 obtain ⟨gs,ws⟩:=hs
 dsimp only at pg h3 ⊢
 induction pg with
 | nil=>exact .nil
 | cons r p ih=>
  refine .cons ?_ (ih fun x hx=>h3 x (List.mem_cons_of_mem _ hx))
  obtain ⟨t',q,rfl,e,hq⟩:=r
  exact mk_t e (by simp) (.cons (th_flat (n + 2) rfl) (.cons (rules_th n hq (h3 _ List.mem_cons_self)) .nil))
theorem house_back {H:Hp} {v:V} {hs:House} {n:Nat} (h:Th H (n + 5) v (houseD hs)):∃ t,v = .ref t /\ HouseAt H t hs:=by
 obtain ⟨a,vs,rfl,e,p⟩:=th_t h
 cases p with
 | cons r p=>cases p with
  | cons r2 p=>
   cases p
   obtain ⟨g,gv,rfl,eg,pg⟩:=th_l r
   obtain ⟨w,wv,rfl,ew,pw⟩:=th_l r2
   exact ⟨a,rfl,g,w,e,⟨gv,eg,paired_back (F:=GateAt H) (fun x v z=>gate_back z) pg⟩,⟨wv,ew,paired_back (F:=WayAt H) (fun x v z=>way_back z) pw⟩⟩
noncomputable abbrev Named:=List Nat × House
def NamedAt (H:Hp) (x:Named) (v:V):Prop:=∃ t q,v = .ref t /\ H t = some (.tup [tx x.1,.ref q]) /\ HouseAt H q x.2
def Houses (H:Hp) (p:Addr) (hs:List Named):Prop:=∃ vs,H p = some (.lst vs) /\ Paired (NamedAt H) hs vs
theorem Houses.same {H H':Hp} {p:Addr} {hs:List Named} (h:Houses H p hs) (s:Same H H'):Houses H' p hs:=by
 obtain ⟨vs,e,pr⟩:=h
 exact ⟨vs,s _ _ e,L2.Paired.mapP pr fun _ _ ⟨t,q,e,h1,h2⟩=>⟨t,q,e,s _ _ h1,h2.same s⟩⟩
noncomputable def spotsOf (hs:List Named):List Way:=hs.flatMap fun x=>x.2.1.map fun g=>(x.1,g.1)
theorem spots_snoc (hs:List Named) (i:Nat) (h:i < hs.length):spotsOf (hs.take (i + 1)) = spotsOf (hs.take i) ++ hs[i].2.1.map fun g=>(hs[i].1,g.1):=by
 unfold spotsOf
 rw [List.take_add_one,List.getElem?_eq_getElem h,Option.toList_some,List.flatMap_append]
 simp
theorem paired_app {α β:Type} {F:α -> β -> Prop}:∀ {l l':List α} {m m':List β},Paired F l m -> Paired F l' m' -> Paired F (l ++ l') (m ++ m')
 | _,_,_,_,.nil,q=>q
 | _,_,_,_,.cons r p,q=>.cons r (paired_app p q)
theorem paired_mapL {α β γ:Type} {F:β -> γ -> Prop} {f:α -> β}:∀ {l:List α} {vs:List γ},Paired (fun x v=>F (f x) v) l vs -> Paired F (l.map f) vs
 | _,_,.nil=>.nil
 | _,_,.cons r p=>.cons r (paired_mapL p)
noncomputable def sp__law_spots (K:Frag):Sp:=fun vs H Q _=>match vs with
 | [.ref p]=>∃ hs:List Named,Houses H p hs /\ hs.length <= 100 /\ (∀ x ∈ hs,x.2.1.length <= 100) /\ ∀ q H',H q = none -> Same H H' -> Ways H' q (spotsOf hs) -> Q (.ref q) H'
 | _=>False
theorem spots_len {hs:List Named} {c:Nat} (h:∀ x ∈ hs,x.2.1.length <= c):(spotsOf hs).length <= hs.length * c:=by
 unfold spotsOf
 induction hs with
 | nil=>simp
 | cons x hs ih=>
  have h1:=h x List.mem_cons_self
  have h2:=ih fun y hy=>h y (List.mem_cons_of_mem _ hy)
  rw [List.flatMap_cons,List.length_append,List.length_map,List.length_cons,Nat.add_mul]
  omega
theorem ok__law_spots (T:Top K mg):Callee P w K mg base 1 "_law_spots" ["_law_houses"] (sp__law_spots K):=by
 refine T.f__law_spots.cal sc__law_spots (by intro vs H Q E h; unfold sp__law_spots at h; split at h <;> first | rfl | exact h.elim) (fun _ _ _ _ _ _ us hl=>match us,hl with | [_],_=>rfl) (fun f cdv A outer s H vs Q E hr h=>?_)
 unfold sp__law_spots at h
 split at h
 case h_2=>exact h.elim
 refine ⟨_,(pss_cons (ps_set (i:=1) sc__law_spots.nd rfl lc (pe_lst pa_nil))
   (pss_cons (qs_for PassesOwn.never rfl (iterE K rfl (qv 0)) (tupE K rfl rfl (n:=2) (pgs_cons (pg_name (i:=2) sc__law_spots.nd rfl lc) (pgs_cons (pg_name (i:=3) sc__law_spots.nd rfl lc) pgs_nil))) (pss_one (ps_expr (qe_extend (qv 1) (qe_comp (nt:=1) (fi:=[2]) (N':=["_law_gate", "_law_name"]) rfl (cscope rfl (by decide +kernel)) (cnames (N:=["_law_houses", "_law_spots_here", "_law_name", "_law_house_here"]) (sc:=defScope s__law_spots) rfl rfl (by decide +kernel)) (gk_name (by decide)) (iterE K rfl (pe_ix (ixE K rfl) (qv 3) pe_int (fun _ _=>rfl))) (fun _ _ _ _ _=>(pg_name (i:=0) (by show (["_law_gate", "_law_name"]:List Str).Nodup; decide +kernel) rfl lc)) (fun _ _ _ _ _=>pif_nil) (fun _ _ _ _ _=>(pe_tup (pa_cons (qv 1) (pa_cons (pe_ix (ixE K rfl) (qv 0) pe_int (fun _ _=>rfl)) pa_nil)))))))))
   (pss_one (ps_ret (qv 1))))),?_⟩
 rename_i p
 obtain ⟨hs,⟨vs,e0,pr⟩,hn,hg,q⟩:=h
 have hl:=pr.length
 walk_at "rd"
 refine ⟨Nat.zero_le _,fun g hg0=>?_⟩
 have s1:=same_new hg0 (.lst [])
 refine .inl ⟨⟨_,SqL.of (s1 _ _ e0)⟩,?_⟩
 refine loop_list (xs:=vs) (fun i σ H'=>∃ u v,σ = [some (.ref p),some (.ref g),u,v] /\ Same H H' /\ Ways H' g (spotsOf (hs.take i))) ⟨none,none,rfl,s1,⟨[],upd_same,.nil⟩⟩ (fun i σ H' _ ⟨_,_,_,z,_⟩=>SqL.of (z _ _ e0)) ?_ ?_
 ·rintro i x σ H1 hx ⟨u,v,rfl,s2,⟨us,eu,pu⟩⟩
  have hi:i < vs.length:=(List.getElem?_eq_some_iff.mp hx).1
  have hil:i < hs.length:=by omega
  obtain ⟨y,hy,t,hq,ey,et,hH⟩:=paired_at pr (List.getElem?_eq_getElem hil)
  obtain rfl:x = .ref t:=by rw [hy] at hx; rw [<- Option.some.inj hx,ey]
  obtain ⟨ga,wa,eh,⟨gv,eg,pg⟩,_⟩:=hH.same s2
  have hgl:=pg.length
  obtain ⟨z1,z2⟩:=paired_zip pg
  have hgi:=hg hs[i] (List.getElem_mem hil)
  refine ⟨t,[_,_],rfl,SqT.of (s2 _ _ et),rfl,_,[_],rfl,_,[],rfl,rfl,?_⟩
  walk_at "rd"
  refine ⟨⟨_,eu⟩,_,_,.inr (SqT.of eh),rfl,?_⟩
  walk_at "rd"
  refine .inl ⟨⟨_,SqL.of eg⟩,fun D hD=>?_⟩
  refine comp_rel (item:=fun x:Gate × V=>x.2) (hs[i].2.1.zip gv) (fun _=>true) (fun x v H'=>WayAt H' (hs[i].1,x.1.1) v) hD (by rw [z1]; exact SqL.of eg) (by rw [List.length_zip]; omega) ?_ ?_ ?_
  ·rintro x v H2 H3 acc hd k ⟨t',rfl,et'⟩
   exact ⟨t',rfl,k t' _ (fun z=>by rw [z,hd] at et'; cases et') et'⟩
  ·intro x H2 out non hx2 s3 ho _
   obtain ⟨t',r',ex,et',_⟩:=z2 x hx2
   rw [ex]
   walk_at "rd"
   refine ⟨_,_,.inr (SqT.of (s3 _ _ et')),rfl,by decide,fun t2 ht2=>?_⟩
   exact ho _ _ rfl (same_new ht2 _) ⟨t2,rfl,upd_same⟩
  ·intro H2 ws s3 e3 p3
   have p4:Paired (WayAt H2) (hs[i].2.1.map fun g=>(hs[i].1,g.1)) ws:=by
    have hf:(hs[i].2.1.zip gv).filter (fun _=>true) = hs[i].2.1.zip gv:=List.filter_eq_self.mpr fun _ _=>rfl
    rw [hf] at p3
    have:hs[i].2.1.map (fun g=>((hs[i].1,g.1):Way)) = (hs[i].2.1.zip gv).map fun x=>(hs[i].1,x.1.1):=by
     conv=>lhs; rw [<- zip_fst (l:=hs[i].2.1) (m:=gv) hgl,List.map_map]
     rfl
    rw [this]
    exact paired_mapL p3
   have eu3:=s3 _ _ eu
   have ngD:g ≠ D:=fun z=>by rw [<- z,eu] at hD; cases hD
   have l1:=pu.length
   have l2:=p4.length
   have l3:=spots_len (hs:=hs.take i) (c:=100) fun x hx=>hg x (List.mem_of_mem_take hx)
   rw [List.length_take] at l3
   rw [List.length_map] at l2
   refine ⟨us,ws,eu3,e3,Nat.le_of_lt (sizeBig ?_),some (tx hs[i].1),some (.ref hq),rfl,same_upd (s2.trans s3) hg0,⟨_,upd_same,?_⟩⟩
   ·have:min i hs.length * 100 <= 100 * 100:=Nat.mul_le_mul_right _ (by omega)
    omega
   ·rw [spots_snoc hs i hil]
    refine paired_app (L2.Paired.mapP pu ?_) (L2.Paired.mapP p4 ?_)
    ·rintro x v ⟨t',rfl,et'⟩
     exact ⟨t',rfl,keep_lst eu3 _ _ (s3 _ _ et')⟩
    ·rintro x v ⟨t',rfl,et'⟩
     exact ⟨t',rfl,keep_lst eu3 _ _ et'⟩
 ·rintro σ H1 ⟨u,v,rfl,s2,hW⟩
  walk_at "rd"
  rw [<- hl,List.take_length] at hW
  exact q g H1 hg0 s2 hW
noncomputable abbrev Line:=Way × Way
def LineAt (H:Hp) (x:Line) (v:V):Prop:=∃ t u1 u2,v = .ref t /\ H t = some (.tup [u1,u2]) /\ WayAt H x.1 u1 /\ WayAt H x.2 u2
def Lines (H:Hp) (p:Addr) (ls:List Line):Prop:=∃ vs,H p = some (.lst vs) /\ Paired (LineAt H) ls vs
theorem line_keep {H H':Hp} (k:∀ t vs,H t = some (.tup vs) -> H' t = some (.tup vs)) {x:Line} {v:V} (h:LineAt H x v):LineAt H' x v:=by
 obtain ⟨t,u1,u2,e,h1,⟨a,ea,ha⟩,⟨b,eb,hb⟩⟩:=h
 exact ⟨t,u1,u2,e,k _ _ h1,⟨a,ea,k _ _ ha⟩,⟨b,eb,k _ _ hb⟩⟩
theorem Lines.same {H H':Hp} {p:Addr} {ls:List Line} (h:Lines H p ls) (s:Same H H'):Lines H' p ls:=by
 obtain ⟨vs,e,pr⟩:=h
 exact ⟨vs,s _ _ e,L2.Paired.mapP pr fun _ _ z=>line_keep (fun t us q=>s _ _ q) z⟩
noncomputable def endsOf (ls:List Line):List Way:=ls.flatMap fun x=>[x.1,x.2]
theorem paired_erase {α β:Type} {F:α -> β -> Prop}:∀ {l:List α} {m:List β} (i:Nat),Paired F l m -> Paired F (l.eraseIdx i) (m.eraseIdx i)
 | _,_,_,.nil=>.nil
 | _,_,0,.cons r p=>p
 | _,_,i + 1,.cons r p=>.cons r (paired_erase i p)
noncomputable def sp__law_lines (K:Frag):Sp:=fun vs H Q _=>match vs with
 | [.ref a,.ref p]=>∃ (ns:List Int) (sp:List Way),SqL K H a (ns.map V.int) /\ Ways H p sp /\ sp.length <= 1000 /\ sp.Nodup /\
   ∀ (c:Addr) (H':Hp) (ls:List Line),H c = none -> Same H H' -> Lines H' c ls -> (endsOf ls).Nodup -> (∀ s ∈ endsOf ls,s ∈ sp) -> ls.length <= 500 -> Q (.ref c) H'
 | _=>False
theorem ok__law_lines (T:Top K mg):Callee P w K mg base 2 "_law_lines" ["_law_script", "_law_spots_here"] (sp__law_lines K):=by
 refine T.f__law_lines.cal sc__law_lines (by intro vs H Q E h; unfold sp__law_lines at h; split at h <;> first | rfl | exact h.elim) (fun _ _ _ _ _ _ us hl=>match us,hl with | [_,_],_=>rfl) (fun f cdv A outer s H vs Q E hr h=>?_)
 unfold sp__law_lines at h
 split at h
 case h_2=>exact h.elim
 refine ⟨_,(pss_cons (ps_set (i:=2) sc__law_lines.nd rfl lc (pe_callTy (call_listK K rfl rfl) rfl T.b_list bb_list (pa_cons (qv 1) pa_nil)))
   (pss_cons (ps_set (i:=3) sc__law_lines.nd rfl lc (pe_op op_fdivK (pe_callB (lenE K rfl) rfl T.b_len bb_len (pa_cons (qv 1) pa_nil)) pe_int))
   (pss_cons (ps_set (i:=4) sc__law_lines.nd rfl lc (pe_lst pa_nil))
   (pss_cons (qs_for PassesOwn.never rfl (qi_range1 rfl T.b_range (pe_callB (call_max2K rfl) rfl T.b_max bb_max (pa_cons (pe_fn (ok__law_draw T) hr.m rfl (pa_cons (qv 0) (pa_cons pe_int (pa_cons (pe_op op_addK (qv 3) pe_int) pa_nil)))) (pa_cons (pe_fn (ok__law_draw T) hr.m rfl (pa_cons (qv 0) (pa_cons pe_int (pa_cons (pe_op op_addK (qv 3) pe_int) pa_nil)))) pa_nil)))) (pg_name (i:=5) sc__law_lines.nd rfl lc) (pss_cons (ps_set (i:=6) sc__law_lines.nd rfl lc (qe_popAt (qv 2) (pe_fn (ok__law_draw T) hr.m rfl (pa_cons (qv 0) (pa_cons (pe_op op_addK pe_int (pe_op op_mulK pe_int (qv 5))) (pa_cons (pe_callB (lenE K rfl) rfl T.b_len bb_len (pa_cons (qv 2) pa_nil)) pa_nil))))))
   (pss_one (ps_expr (qe_append (qv 4) (pe_tup (pa_cons (qv 6) (pa_cons (qe_popAt (qv 2) (pe_fn (ok__law_draw T) hr.m rfl (pa_cons (qv 0) (pa_cons (pe_op op_addK pe_int (pe_op op_mulK pe_int (qv 5))) (pa_cons (pe_callB (lenE K rfl) rfl T.b_len bb_len (pa_cons (qv 2) pa_nil)) pa_nil))))) pa_nil))))))))
   (pss_one (ps_ret (qv 4))))))),?_⟩
 rename_i a p
 obtain ⟨ns,sp,hS,⟨vs,e0,pr⟩,hl,hnd,q⟩:=h
 have hvl:=pr.length
 walk_at "rd"
 refine ⟨_,.inl (SqL.of e0),fun P hP=>?_⟩
 have s1:=same_new hP (.lst vs)
 refine ⟨_,.inl (SqL.of (s1 _ _ e0)),?_⟩
 refine ⟨Nat.zero_le _,fun c hc=>?_⟩
 have s2:=s1.trans (same_new hc (.lst []))
 have eP:=same_new hc (.lst []) _ _ (show upd H P (.lst vs) P = some (.lst vs) from upd_same)
 have ncP:c ≠ P:=fun z=>by rw [z,upd_same] at hc; cases hc
 have hc0:=s1.free hc
 refine draw_to (s2.seq hS) (by decide) (by decide) (by omega) (by omega) fun r1 hr1=>?_
 refine draw_to (s2.seq hS) (by decide) (by decide) (by omega) (by omega) fun r2 hr2=>?_
 walk_at "rd"
 obtain ⟨z,ez,hz⟩:∃ z:Nat,(if (r1:Int) < (r2:Int) then (r2:Int) else (r1:Int)) = (z:Int) /\ 2 * z <= vs.length:=by
  split
  ·exact ⟨r2,rfl,by omega⟩
  ·exact ⟨r1,rfl,by omega⟩
 rw [ez,Int.toNat_natCast]
 refine ⟨by omega,by omega,?_⟩
 have nPc:P ≠ c:=Ne.symm ncP
 refine loop_range (lo:=0) (n:=z) (fun i σ H'=>∃ (rest:List Way) (pv:List V) (ls:List Line) (cv:List V) (u5 u6:Option V),σ = [some (.ref a),some (.ref p),some (.ref P),some (.int ((vs.length:Int) / 2)),some (.ref c),u5,u6] /\ Same H H' /\ H' P = some (.lst pv) /\ Paired (WayAt H') rest pv /\ H' c = some (.lst cv) /\ Paired (LineAt H') ls cv /\ (endsOf ls ++ rest).Perm sp /\ rest.length + 2 * i = sp.length /\ ls.length = i)
  ⟨sp,vs,[],[],none,none,rfl,s2,eP,ways_keep (fun t us z=>s2 _ _ z) pr,upd_same,.nil,List.Perm.refl _,by omega,rfl⟩ ?_ ?_
 ·rintro i σ H1 hi ⟨rest,pv,ls,cv,u5,u6,rfl,s3,e3,p3,e4,p4,hperm,hrl,hll⟩
  have l3:=p3.length
  have l4:=p4.length
  have mul2:CMul 2 (i:Int):=.inl ⟨by decide,by decide⟩
  walk_at "rd"
  refine ⟨⟨_,e3⟩,mul2,_,.inl (SqL.of e3),draw_to (s3.seq hS) (by omega) (by omega) (by omega) (by omega) fun r3 hr3=>?_⟩
  have h3:r3 < pv.length:=by omega
  have h3r:r3 < rest.length:=by omega
  refine ⟨pv,r3,pv[r3],rfl,e3,by omega,List.getElem?_eq_getElem h3,?_⟩
  obtain ⟨y1,hy1,w1⟩:=paired_at p3 (List.getElem?_eq_getElem h3r)
  rw [List.getElem?_eq_getElem h3] at hy1
  cases hy1
  have p5:=paired_erase r3 p3
  have le1:(pv.eraseIdx r3).length = pv.length - 1:=List.length_eraseIdx_of_lt h3
  have le2:(rest.eraseIdx r3).length = rest.length - 1:=List.length_eraseIdx_of_lt h3r
  have s4:Same H (upd H1 P (.lst (pv.eraseIdx r3))):=same_upd s3 hP
  have e5:upd H1 P (.lst (pv.eraseIdx r3)) P = some (.lst (pv.eraseIdx r3)):=upd_same
  have e6:upd H1 P (.lst (pv.eraseIdx r3)) c = some (.lst cv):=by rw [upd_ne ncP]; exact e4
  have k4:∀ t us,H1 t = some (.tup us) -> upd H1 P (.lst (pv.eraseIdx r3)) t = some (.tup us):=keep_lst e3
  generalize upd H1 P (.lst (pv.eraseIdx r3)) = H2 at s4 e5 e6 k4 ⊢
  walk_at "rd"
  refine ⟨⟨_,e6⟩,⟨_,e5⟩,mul2,_,.inl (SqL.of e5),draw_to (s4.seq hS) (by omega) (by omega) (by omega) (by omega) fun r4 hr4=>?_⟩
  have h4:r4 < (pv.eraseIdx r3).length:=by omega
  have h4r:r4 < (rest.eraseIdx r3).length:=by omega
  refine ⟨_,r4,(pv.eraseIdx r3)[r4],rfl,e5,by omega,List.getElem?_eq_getElem h4,by decide,fun t5 ht5=>?_⟩
  obtain ⟨y2,hy2,w2⟩:=paired_at p5 (List.getElem?_eq_getElem h4r)
  rw [List.getElem?_eq_getElem h4] at hy2
  cases hy2
  have p6:=paired_erase r4 p5
  have s5:Same H (upd H2 P (.lst ((pv.eraseIdx r3).eraseIdx r4))):=same_upd s4 hP
  have e7:upd H2 P (.lst ((pv.eraseIdx r3).eraseIdx r4)) P = some (.lst ((pv.eraseIdx r3).eraseIdx r4)):=upd_same
  have e8:upd H2 P (.lst ((pv.eraseIdx r3).eraseIdx r4)) c = some (.lst cv):=by rw [upd_ne ncP]; exact e6
  have k5:∀ t us,H2 t = some (.tup us) -> upd H2 P (.lst ((pv.eraseIdx r3).eraseIdx r4)) t = some (.tup us):=keep_lst e5
  generalize upd H2 P (.lst ((pv.eraseIdx r3).eraseIdx r4)) = H3 at s5 e7 e8 k5 ht5 ⊢
  have s6:=same_new ht5 (.tup [pv[r3],(pv.eraseIdx r3)[r4]])
  have e9:=s6 _ _ e8
  have kk:∀ t us,H1 t = some (.tup us) -> upd (upd H3 t5 (.tup [pv[r3],(pv.eraseIdx r3)[r4]])) c (.lst (cv ++ [.ref t5])) t = some (.tup us):=fun t us z=>keep_lst e9 _ _ (s6 _ _ (k5 _ _ (k4 _ _ z)))
  have nc5:c ≠ t5:=fun z=>by rw [<- z,e8] at ht5; cases ht5
  refine ⟨cv,e9,sizeBig (by omega),(rest.eraseIdx r3).eraseIdx r4,(pv.eraseIdx r3).eraseIdx r4,ls ++ [(rest[r3],(rest.eraseIdx r3)[r4])],cv ++ [.ref t5],_,_,rfl,same_upd (s5.trans s6) hc0,?_,ways_keep kk p6,upd_same,?_,?_,?_,by rw [List.length_append,hll]; rfl⟩
  ·rw [upd_ne nPc]
   exact s6 _ _ e7
  ·refine paired_snoc (L2.Paired.mapP p4 fun _ _ y=>line_keep kk y) ⟨t5,_,_,rfl,keep_lst e9 _ _ upd_same,?_,?_⟩
   ·obtain ⟨ta,ea,ha⟩:=w1
    exact ⟨ta,ea,kk _ _ ha⟩
   ·obtain ⟨ta,ea,ha⟩:=w2
    exact ⟨ta,ea,kk _ _ ha⟩
  ·refine List.Perm.trans ?_ hperm
   unfold endsOf
   rw [List.flatMap_append,List.append_assoc]
   refine List.Perm.append_left _ ?_
   show (rest[r3] :: (rest.eraseIdx r3)[r4] :: (rest.eraseIdx r3).eraseIdx r4).Perm rest
   exact ((perm_erase h4r).cons _).trans (perm_erase h3r)
  ·have:((rest.eraseIdx r3).eraseIdx r4).length = (rest.eraseIdx r3).length - 1:=List.length_eraseIdx_of_lt h4r
   omega
 ·rintro σ H1 ⟨rest,pv,ls,cv,u5,u6,rfl,s3,e3,p3,e4,p4,hperm,hrl,hll⟩
  walk_at "rd"
  refine q c H1 ls hc0 s3 ⟨cv,e4,p4⟩ ?_ (fun x hx=>hperm.mem_iff.mp (List.mem_append_left _ hx)) (by omega)
  exact (List.nodup_append.mp (hperm.nodup_iff.mpr hnd)).1
noncomputable abbrev Net:=List Fld × List Named × List Line
def NetAt (H:Hp) (t:Addr) (n:Net):Prop:=∃ a b c,H t = some (.tup [.ref a,.ref b,.ref c]) /\ Lay H a n.1 /\ Houses H b n.2.1 /\ Lines H c n.2.2
theorem NetAt.same {H H':Hp} {t:Addr} {n:Net} (h:NetAt H t n) (s:Same H H'):NetAt H' t n:=by
 obtain ⟨a,b,c,e,h1,h2,h3⟩:=h
 exact ⟨a,b,c,s _ _ e,h1.same s,h2.same s,h3.same s⟩
structure HouseOk5 (W S:Nat) (hs:House):Prop where
 nd:(hs.1.map (·.1)).Nodup
 g3:hs.1.length <= 8
 rules:∀ x ∈ hs.1,∀ r ∈ x.2,RuleOk W r
 many:∀ x ∈ hs.1,x.2.length <= 300
 ways:WaysOk S (hs.1.map (·.1)) hs.2
 w8:hs.2.length <= 8
structure NetOk (n:Net):Prop where
 lay:LayOk n.1
 nd:(n.2.1.map (·.1)).Nodup
 low:∀ x ∈ n.2.1,Low x.1 /\ x.1.length <= 1000
 house:∀ x ∈ n.2.1,HouseOk5 (widthL n.1) ((spanG n.1).2 - (spanG n.1).1) x.2
 door:∀ x ∈ n.2.1,∀ g ∈ x.2.1,Low g.1 /\ g.1.length <= 1000
 h100:n.2.1.length <= 100
 ends:(endsOf n.2.2).Nodup
 spots:∀ s ∈ endsOf n.2.2,s ∈ spotsOf n.2.1
 l500:n.2.2.length <= 500
noncomputable def houseOf (hs:List Named) (n:List Nat):Option House:=(hs.find? fun x=>decide (x.1 = n)).map (·.2)
noncomputable def sp_house_named (K:Frag):Sp:=fun vs H Q E=>match vs with
 | [.ref t,.str n]=>∃ N:Net,NetAt H t N /\ (∀ c ∈ n.cps.toList,c < 16 ^ 8) /\ n.cps.toList.length <= 1000 /\
   (∀ h,houseOf N.2.1 n.cps.toList = some h -> ∀ q H',Same H H' -> HouseAt H' q h -> Q (.ref q) H') /\
   (houseOf N.2.1 n.cps.toList = none -> ∀ H',Same H H' -> E (.ref (xA K "NoHouse")) none H')
 | _=>False
theorem ok_house_named (T:Top K mg):CalleeX P w K mg base 1 "house_named" ["net", "name"] (sp_house_named K):=by
 refine T.f_house_named.calX sc_house_named (by intro vs H Q E h; unfold sp_house_named at h; split at h <;> first | rfl | exact h.elim) (fun _ _ _ _ _ _ us hl=>match us,hl with | [_,_],_=>rfl) (fun f cdv A outer s H vs Q E hr h=>?_)
 unfold sp_house_named at h
 split at h
 case h_2=>exact h.elim
 refine ⟨_,(pss_cons (qs_for PassesOwn.leaving rfl (iterE K rfl (pe_ix (ixE K rfl) (qv 0) pe_int (fun _ _=>rfl))) (tupE K rfl rfl (n:=2) (pgs_cons (pg_name (i:=2) sc_house_named.nd rfl lc) (pgs_cons (pg_name (i:=3) sc_house_named.nd rfl lc) pgs_nil))) (pss_one (ps_if (qt_cmp op_eqK (qv 2) (qv 1)) (pss_one (ps_ret (qv 3))) pss_nil)))
   (pss_one (ps_raise rfl raises_fn rfl T.x_NoHouse.1 T.x_NoHouse.2 (pa_cons (pe_fs (pj_cons (qs [110,111,32,104,111,117,115,101,32]) (pj_cons (pe_fmtR (qv 1)) pj_nil))) pa_nil)))),?_⟩
 rename_i p s
 obtain ⟨n,rfl⟩:∃ x,s = st x:=⟨_,(st_eta s).symm⟩
 obtain ⟨N,⟨a,b,c,e,_,⟨vs,e0,pr⟩,_⟩,hc,hn,q1,q2⟩:=h
 simp only [st_cps] at q1 q2 hc hn
 have hl:=pr.length
 walk_at "rd"
 refine ⟨_,_,.inr (SqT.of e),rfl,?_⟩
 walk_at "rd"
 refine .inl ⟨⟨_,SqL.of e0⟩,?_⟩
 refine loop_list (xs:=vs) (fun i σ H'=>∃ u v,σ = [some (.ref p),some (.str (st n)),u,v] /\ Same H H' /\ ∀ x ∈ N.2.1.take i,¬ x.1 = n) ⟨none,none,rfl,Same.refl _,fun x hx=>by simp at hx⟩ (fun i σ H' _ ⟨_,_,_,z,_⟩=>SqL.of (z _ _ e0)) ?_ ?_
 ·rintro i x σ H1 hx ⟨u,v,rfl,s1,h1⟩
  have hi:i < vs.length:=(List.getElem?_eq_some_iff.mp hx).1
  have hil:i < N.2.1.length:=by omega
  obtain ⟨y,hy,t,r,ey,et,hr⟩:=paired_at pr (List.getElem?_eq_getElem hil)
  obtain rfl:x = .ref t:=by rw [hy] at hx; rw [<- Option.some.inj hx,ey]
  refine ⟨t,[_,_],rfl,SqT.of (s1 _ _ et),rfl,_,[_],rfl,_,[],rfl,rfl,?_⟩
  walk_at "rd"
  refine ite2 (fun g=>?_) fun g=>⟨some (tx N.2.1[i].1),some (.ref r),rfl,s1,fun y hy=>?_⟩
  ·refine q1 N.2.1[i].2 ?_ r H1 s1 (hr.same s1)
   unfold houseOf
   rw [show N.2.1.find? (fun g=>decide (g.1 = n)) = some N.2.1[i] from List.find?_eq_some_iff_append.mpr ⟨by simpa using g,N.2.1.take i,N.2.1.drop (i + 1),by simp,fun y hy=>by simpa using h1 y hy⟩]
   rfl
  ·rw [List.take_add_one,List.getElem?_eq_getElem hil] at hy
   rcases List.mem_append.mp hy with hy | hy
   ·exact h1 y hy
   ·have e:y = N.2.1[i]:=by simpa using hy
    rw [e]
    exact g
 ·rintro σ H1 ⟨u,v,rfl,s1,h1⟩
  walk_at "rd"
  have e:houseOf N.2.1 n = none:=by
   unfold houseOf
   rw [List.find?_eq_none.mpr fun y hy=>by simpa using h1 y (by rw [<- hl,List.take_length]; exact hy)]
   rfl
  have hz:(st n).length = n.length:=st_len n
  refine ⟨by rw [st_len]; exact Nat.le_of_lt (sizeBig (by decide)),hc,by omega,fun z hzz=>⟨?_,fun _=>⟨by decide,q2 e H1 s1⟩⟩⟩
  rw [st_len]
  exact Nat.le_of_lt (sizeBig (by simp only [List.length_cons,List.length_nil]; omega))
noncomputable def sp_check_spot (K:Frag):Sp:=fun vs H Q E=>match vs with
 | [.ref t,.str n,.str d]=>∃ N:Net,NetAt H t N /\ (∀ c ∈ n.cps.toList,c < 16 ^ 8) /\ n.cps.toList.length <= 1000 /\ (∀ c ∈ d.cps.toList,c < 16 ^ 8) /\ d.cps.toList.length <= 1000 /\
   (∀ h,houseOf N.2.1 n.cps.toList = some h -> (∀ rs,gateOf h.1 d.cps.toList = some rs -> ∀ H',Same H H' -> Q .non H') /\ (gateOf h.1 d.cps.toList = none -> ∀ H',Same H H' -> E (.ref (xA K "NoDoor")) none H')) /\
   (houseOf N.2.1 n.cps.toList = none -> ∀ H',Same H H' -> E (.ref (xA K "NoHouse")) none H')
 | _=>False
theorem ok_check_spot (T:Top K mg):CalleeX P w K mg base 2 "check_spot" ["net", "house", "door"] (sp_check_spot K):=by
 refine T.f_check_spot.calX sc_check_spot (by intro vs H Q E h; unfold sp_check_spot at h; split at h <;> first | rfl | exact h.elim) (fun _ _ _ _ _ _ us hl=>match us,hl with | [_,_,_],_=>rfl) (fun f cdv A outer s H vs Q E hr h=>?_)
 unfold sp_check_spot at h
 split at h
 case h_2=>exact h.elim
 refine ⟨_,(pss_one (ps_expr (pe_fnX (ok_gate_rules T) hr.m passes_fn rfl (pa_cons (pe_fnX (ok_house_named T) hr.m passes_fn rfl (pa_cons (qv 0) (pa_cons (qv 1) pa_nil))) (pa_cons (qv 2) pa_nil))))),?_⟩
 rename_i t n d
 obtain ⟨N,hN,h1,h2,h3,h4,q1,q2⟩:=h
 walk_at "rd"
 refine ⟨N,hN,h1,h2,fun h eh q H1 s1 hH=>?_,q2⟩
 obtain ⟨q3,q4⟩:=q1 h eh
 walk_at "rd"
 exact ⟨h,hH,h3,h4,fun rs ers p H2 s2 _=>q3 rs ers H2 (s1.trans s2),fun en H2 s2=>q4 en H2 (s1.trans s2)⟩
theorem spot_in {hs:List Named} (nd:(hs.map (·.1)).Nodup) {x:Way} (h:x ∈ spotsOf hs):∃ h' rs,houseOf hs x.1 = some h' /\ gateOf h'.1 x.2 = some rs:=by
 unfold spotsOf at h
 obtain ⟨y,hy,hx⟩:=List.mem_flatMap.mp h
 obtain ⟨g,hg,rfl⟩:=List.mem_map.mp hx
 obtain ⟨i,hi,rfl⟩:=List.getElem_of_mem hy
 refine ⟨hs[i].2,?_⟩
 have e1:houseOf hs hs[i].1 = some hs[i].2:=by
  unfold houseOf
  rw [show hs.find? (fun g=>decide (g.1 = hs[i].1)) = some hs[i] from List.find?_eq_some_iff_append.mpr ⟨by simp,hs.take i,hs.drop (i + 1),by simp,fun z hz=>?_⟩]
  ·rfl
  ·obtain ⟨j,hj,rfl⟩:=List.mem_take_iff_getElem.mp hz
   have:=List.pairwise_iff_getElem.mp nd j i (by simp; omega) (by simp; omega) (by omega)
   rw [List.getElem_map,List.getElem_map] at this
   simpa using this
 cases e:gateOf hs[i].2.1 g.1 with
 | some rs=>exact ⟨rs,e1,rfl⟩
 | none=>
  exfalso
  unfold gateOf at e
  have:=List.find?_eq_none.mp (Option.map_eq_none_iff.mp e) g hg
  simp at this
theorem ends_snoc (ls:List Line) (i:Nat) (h:i < ls.length):endsOf (ls.take (i + 1)) = endsOf (ls.take i) ++ [ls[i].1,ls[i].2]:=by
 unfold endsOf
 rw [List.take_add_one,List.getElem?_eq_getElem h,Option.toList_some,List.flatMap_append]
 simp
theorem ends_all {ls:List Line} {i:Nat} (h:i < ls.length):endsOf ls = endsOf (ls.take i) ++ ([ls[i].1,ls[i].2] ++ endsOf (ls.drop (i + 1))):=by
 conv=>lhs; rw [<- List.take_append_drop (i + 1) ls]
 rw [show endsOf (ls.take (i + 1) ++ ls.drop (i + 1)) = endsOf (ls.take (i + 1)) ++ endsOf (ls.drop (i + 1)) by unfold endsOf; rw [List.flatMap_append],ends_snoc ls i h,List.append_assoc]
def NamedF (D:Addr) (H:Hp) (x:Named) (v:V):Prop:=∃ t q g w,v = .ref t /\ H t = some (.tup [tx x.1,.ref q]) /\ HouseN (fun r=>r ≠ D) H q g w x.2 /\ g ≠ D /\ w ≠ D
theorem namedF_keep {D:Addr} {H H':Hp} {acc:List V} (hd:H D = some (.lst acc)) (k:∀ b o,b ≠ D -> H b = some o -> H' b = some o) {x:Named} {v:V} (h:NamedF D H x v):NamedF D H' x v:=by
 obtain ⟨t,q,g,w,e,et,hN,ng,nw⟩:=h
 have tp:∀ t ts,H t = some (.tup ts) -> H' t = some (.tup ts):=fun t ts z=>k _ _ (fun y=>by rw [y,hd] at z; cases z) z
 obtain ⟨vs,eg,pg⟩:=hN.gates
 obtain ⟨us,ew,pw⟩:=hN.ways
 refine ⟨t,q,g,w,e,tp _ _ et,⟨tp _ _ hN.tup,hN.ne,⟨vs,k _ _ ng eg,L2.Paired.mapP pg ?_⟩,⟨us,k _ _ nw ew,ways_keep tp pw⟩⟩,ng,nw⟩
 rintro y v ⟨t',r,e',n,h1,⟨rv,er,pr⟩⟩
 exact ⟨t',r,e',n,tp _ _ h1,⟨rv,k _ _ n.2.2 er,rules_keep tp pr⟩⟩
theorem namedF_at {D:Addr} {H:Hp} {x:Named} {v:V} (h:NamedF D H x v):NamedAt H x v:=by
 obtain ⟨t,q,g,w,e,et,hN,_,_⟩:=h
 exact ⟨t,q,e,et,hN.at⟩
theorem paired_two {α β:Type} {F:β -> V -> Prop} {P:α -> β -> Prop}:∀ {l:List α} {vs:List V},Paired (fun a v=>∃ b,P a b /\ F b v) l vs -> ∃ bs:List β,Paired F bs vs /\ Paired P l bs
 | _,_,.nil=>⟨[],.nil,.nil⟩
 | _,_,.cons ⟨b,h1,h2⟩ p=>by
  obtain ⟨bs,h3,h4⟩:=paired_two p
  exact ⟨b :: bs,.cons h2 h3,.cons h1 h4⟩
theorem paired_eq {α β γ:Type} {P:α -> β -> Prop} {f:α -> γ} {g:β -> γ} (h:∀ a b,P a b -> g b = f a):∀ {l:List α} {bs:List β},Paired P l bs -> bs.map g = l.map f
 | _,_,.nil=>rfl
 | _,_,.cons r p=>by rw [List.map_cons,List.map_cons,h _ _ r,paired_eq h p]
theorem paired_mem {α β:Type} {P:α -> β -> Prop}:∀ {l:List α} {bs:List β},Paired P l bs -> ∀ b ∈ bs,∃ a,P a b
 | _,_,.nil,b,hb=>by simp at hb
 | _,_,.cons r p,b,hb=>by
  rcases List.mem_cons.mp hb with rfl | hb
  ·exact ⟨_,r⟩
  ·exact paired_mem p b hb
theorem range_getD {α:Type} (d:α) (l:List α):(List.range l.length).map (fun i=>l.getD i d) = l:=by
 apply List.ext_getElem?
 intro i
 by_cases h:i < l.length
 ·rw [List.getElem?_map,List.getElem?_range h,List.getElem?_eq_getElem h]
  simp [List.getD_eq_getElem?_getD,List.getElem?_eq_getElem h]
 ·rw [List.getElem?_eq_none (by simp; omega),List.getElem?_eq_none (by omega)]
theorem spots_nd:∀ {hs:List Named},(hs.map (·.1)).Nodup -> (∀ x ∈ hs,(x.2.1.map (·.1)).Nodup) -> (spotsOf hs).Nodup
 | [],_,_=>by unfold spotsOf; simp
 | x :: hs,nd,hd=>by
  rw [List.map_cons,List.nodup_cons] at nd
  have ih:=spots_nd nd.2 fun y hy=>hd y (List.mem_cons_of_mem _ hy)
  have e:spotsOf (x :: hs) = (x.2.1.map fun g=>(x.1,g.1)) ++ spotsOf hs:=by unfold spotsOf; rw [List.flatMap_cons]
  rw [e,List.nodup_append]
  refine ⟨?_,ih,fun a ha b hb z=>?_⟩
  ·have:=hd x List.mem_cons_self
   have e2:(x.2.1.map fun g=>((x.1,g.1):Way)) = (x.2.1.map (·.1)).map fun n=>(x.1,n):=by rw [List.map_map]; rfl
   rw [e2]
   exact List.pairwise_map.mpr (List.Pairwise.imp (fun {a b} h z=>h (Prod.mk.inj z).2) this)
  ·obtain ⟨g,_,rfl⟩:=List.mem_map.mp ha
   unfold spotsOf at hb
   obtain ⟨y,hy,hb⟩:=List.mem_flatMap.mp hb
   obtain ⟨g2,_,rfl⟩:=List.mem_map.mp hb
   exact nd.1 (List.mem_map.mpr ⟨y,hy,(Prod.mk.inj z).1.symm⟩)
theorem houseOk_own {W S:Nat} {pl:List (List Nat)} {h:House} (k:HouseOk W S pl h):HouseOk5 W S h:=⟨k.nd,Nat.le_trans k.g3 (by decide),k.rules,k.many,k.ways,k.w8⟩
noncomputable def nohouseT:List Nat:=[110,111,104,111,117,115,101]
noncomputable def nowhereT:List Nat:=[110,111,119,104,101,114,101]
structure NetFew (m:Nat) (N:Net):Prop where
 few:N.2.1.length <= m
 doors:∀ x ∈ N.2.1,x.2.1.length <= 5
 free:¬ (nohouseT ∈ N.2.1.map (·.1) /\ nowhereT ∈ N.2.1.map (·.1))
theorem names_free {n:Nat} {ls:List (List Nat)} (N:Names n ls):¬ (nohouseT ∈ ls /\ nowhereT ∈ ls):=by
 rintro ⟨h1,h2⟩
 rcases N.kind with ⟨c,h⟩ | ⟨u,v,h⟩
 ·obtain ⟨k,e⟩:=h _ h1
  have a:=List.eq_of_mem_replicate (a:=c) (n:=k) (b:=110) (by rw [<- e]; decide)
  have b:=List.eq_of_mem_replicate (a:=c) (n:=k) (b:=111) (by rw [<- e]; decide)
  omega
 ·obtain ⟨c,e⟩:=h _ h1
  obtain ⟨d,e2⟩:=h _ h2
  rw [List.append_assoc] at e e2
  have t1:=congrArg (List.take u.length) e
  have t2:=congrArg (List.take u.length) e2
  rw [List.take_left' rfl] at t1 t2
  have d1:nohouseT.drop (u.length + 1) = v:=by rw [e,<- List.append_assoc,List.drop_left' (by simp)]
  have d2:nowhereT.drop (u.length + 1) = v:=by rw [e2,<- List.append_assoc,List.drop_left' (by simp)]
  have ht:=t1.trans t2.symm
  have hd:=d1.trans d2.symm
  have hl:u.length < 7:=by
   have:=congrArg List.length e
   simp [nohouseT] at this
   omega
  generalize u.length = k at ht hd hl
  have:k = 0 \/ k = 1 \/ k = 2 \/ k = 3 \/ k = 4 \/ k = 5 \/ k = 6:=by omega
  rcases this with rfl | rfl | rfl | rfl | rfl | rfl | rfl <;> first | exact absurd ht (by decide) | exact absurd hd (by decide)
noncomputable def sp__law_net (K:Frag):Sp:=fun vs H Q _=>match vs with
 | [.ref a,.ref t,.int m]=>∃ (ns:List Int) (ps:List Nat) (M:Nat),SqL K H a (ns.map V.int) /\ SqL K H t (ps.map nV) /\ ToldOk (wF ns) ps /\ m = (M:Int) /\ 1 <= M /\ M <= 8 /\
   ∀ (q:Addr) (H':Hp) (N:Net),H q = none -> Same H H' -> NetAt H' q N -> NetOk N -> NetFew M N -> (∀ x ∈ N.2.1,x.2.1.length <= 3 /\ ∀ g ∈ x.2.1,∀ r ∈ g.2,OverL ps r.2.2) -> widthL N.1 = wF ns -> Q (.ref q) H'
 | _=>False
theorem ok__law_net (T:Top K mg):Callee P w K mg base 4 "_law_net" ["_law_script", "_law_told_here", "_law_most"] (sp__law_net K):=by
 refine T.f__law_net.cal sc__law_net (by intro vs H Q E h; unfold sp__law_net at h; split at h <;> first | rfl | exact h.elim) (fun _ _ _ _ _ _ us hl=>match us,hl with | [_,_,_],_=>rfl) (fun f cdv A outer s H vs Q E hr h=>?_)
 unfold sp__law_net at h
 split at h
 case h_2=>exact h.elim
 refine ⟨_,(pss_cons (ps_set (i:=3) sc__law_net.nd rfl lc (pe_fn (ok__law_layout T) hr.m rfl (pa_cons (qv 0) pa_nil)))
   (pss_cons (ps_set (i:=4) sc__law_net.nd rfl lc (pe_fn (ok__law_names T) hr.m rfl (pa_cons (qv 0) (pa_cons pe_int (pa_cons pe_int pa_nil)))))
   (pss_cons (ps_set (i:=5) sc__law_net.nd rfl lc (pe_op op_addK pe_int (pe_fn (ok__law_draw T) hr.m rfl (pa_cons (qv 0) (pa_cons pe_int (pa_cons (qv 2) pa_nil))))))
   (pss_cons (ps_set (i:=6) sc__law_net.nd rfl lc (pe_fn (ok__law_names T) hr.m rfl (pa_cons (qv 0) (pa_cons pe_int (pa_cons (qv 5) pa_nil)))))
   (pss_cons (ps_setC (i:=7) (nt:=1) (fi:=[6,0,1,3,4]) (N':=["_law_h", "_law_names_here", "_law_script", "_law_told_here", "_law_layout_here", "_law_pool"]) sc__law_net.nd rfl lc rfl (cscope rfl (by decide +kernel)) (cnames (N:=["_law_script", "_law_told_here", "_law_most", "_law_layout_here", "_law_pool", "_law_many", "_law_names_here", "_law_houses"]) (sc:=defScope s__law_net) rfl rfl (by decide +kernel)) (gk_name (by decide)) (qi_range1 rfl T.b_range (qv 5)) (fun _ _ _ _ _=>(pg_name (i:=0) (by show (["_law_h", "_law_names_here", "_law_script", "_law_told_here", "_law_layout_here", "_law_pool"]:List Str).Nodup; decide +kernel) rfl lc)) (fun _ _ _ _ _=>pif_nil) (fun _ _ _ _ _=>(pe_tup (pa_cons (pe_ix (ixE K rfl) (qv 1) (qv 0) (fun _ _=>rfl)) (pa_cons (pe_fn (ok__law_house T) hr.m rfl (pa_cons (qv 2) (pa_cons (pe_op op_addK pe_int (pe_op op_mulK pe_int (qv 0))) (pa_cons (qv 3) (pa_cons (qv 4) (pa_cons (qv 5) pa_nil)))))) pa_nil)))))
   (pss_one (ps_ret (pe_tup (pa_cons (qv 3) (pa_cons (qv 7) (pa_cons (pe_fn (ok__law_lines T) hr.m rfl (pa_cons (qv 0) (pa_cons (pe_fn (ok__law_spots T) hr.m rfl (pa_cons (qv 7) pa_nil)) pa_nil))) pa_nil))))))))))),?_⟩
 rename_i a t m
 obtain ⟨ns,ps,M,hS,hT,tok,rfl,hM1,hM8,q⟩:=h
 walk_at "rd"
 refine ⟨ns,hS,fun p H1 ls hp s1 hL ok hwf=>?_⟩
 rw [<- hwf] at tok
 walk_at "rd"
 refine ⟨ns,22,5,s1.seq hS,rfl,by decide,rfl,by decide,fun pn H2 pl hpn s2 e2 N=>?_⟩
 have s12:=s1.trans s2
 walk_at "rd"
 refine draw_to (s12.seq hS) (by decide) (by decide) (by omega) (by omega) fun r1 hr1=>?_
 walk_at "rd"
 refine ⟨ns,18,1 + r1,s12.seq hS,rfl,by decide,by omega,by omega,fun pm H3 nm hpm s3 e3 N2=>?_⟩
 have s13:=s12.trans s3
 have e23:=s3 _ _ e2
 have hL3:=hL.same (s2.trans s3)
 walk_at "rd"
 refine ⟨by omega,by omega,fun D hD=>?_⟩
 rw [show (1 + (r1:Int)).toNat = 1 + r1 by omega]
 have hnl:=N2.len
 refine comp_genD (List.range (1 + r1)) (fun i v H'=>∃ x:Named,(x.1 = nm.getD i [] /\ HouseOk (widthL ls) ((spanG ls).2 - (spanG ls).1) pl x.2 /\ ∀ g ∈ x.2.1,∀ r ∈ g.2,OverL ps r.2.2) /\ NamedF D H' x v) hD (by simp; omega) (fun i H4 hi s4=>show i < 1 + r1 by simpa using hi) (fun H4 s4=>show 1 + r1 <= _ by simp) ?_ ?_ ?_ ?_
 ·rintro i H4 v H5 _ ⟨rfl,_⟩
  exact Same.refl _
 ·rintro i v H4 H5 acc hd k ⟨x,h1,h2⟩
  exact ⟨x,h1,namedF_keep hd k h2⟩
 ·rintro i x v H4 H5 out non hx s4 nD ⟨rfl,rfl⟩ ho
  obtain ⟨hi,hxe⟩:=List.getElem?_eq_some_iff.mp hx
  rw [List.getElem_range] at hxe
  subst hxe
  rw [List.length_range] at hi
  have s14:=s13.trans s4
  walk_at "rd"
  refine ⟨_,tx nm[i],.inl (SqL.of (s4 _ _ e3)),atI_nat (by rw [List.getElem?_map,List.getElem?_eq_getElem (by omega)]; rfl),?_⟩
  refine ⟨.inl ⟨by decide,by decide⟩,ns,70 + 50 * i,ps,ls,pl,s14.seq hS,by omega,by omega,s14.seq hT,tok,hL3.same s4,ok,SqL.of (s4 _ _ e23),N,fun q' g w H5 hs hq' hg hw s5 hN hok hw4 hov=>⟨by decide,fun t6 ht6=>?_⟩⟩
  have s6:=same_new ht6 (.tup [tx nm[i],.ref q'])
  refine ho _ _ (s5.trans s6) ⟨(nm[i],hs),⟨?_,hok,hov⟩,t6,q',g,w,rfl,upd_same,?_,nD g hg,nD w hw⟩
  ·rw [List.getD_eq_getElem?_getD,List.getElem?_eq_getElem (by omega)]
   rfl
  ·have hN6:=hN.same s6
   obtain ⟨vs6,eg6,pg6⟩:=hN6.gates
   exact ⟨hN6.tup,hN6.ne,⟨vs6,eg6,L2.Paired.mapP pg6 fun _ _ ⟨t',r,e',n,h1,h2⟩=>⟨t',r,e',⟨n.1,n.2.1,nD r n.2.2⟩,h1,h2⟩⟩,hN6.ways⟩
 ·intro H4 vs s4 e4 p4
  obtain ⟨hs,pf,pp⟩:=paired_two p4
  have hnm:hs.map (·.1) = nm:=by
   have:=paired_eq (f:=fun i=>nm.getD i []) (g:=fun x:Named=>x.1) (fun i b h=>h.1) pp
   rw [this,<- hnl,range_getD]
  have hhok:∀ x ∈ hs,HouseOk (widthL ls) ((spanG ls).2 - (spanG ls).1) pl x.2:=fun x hx=>by
   obtain ⟨i,h⟩:=paired_mem pp x hx
   exact h.2.1
  have hhv:∀ x ∈ hs,∀ g ∈ x.2.1,∀ r ∈ g.2,OverL ps r.2.2:=fun x hx=>by
   obtain ⟨i,h⟩:=paired_mem pp x hx
   exact h.2.2
  have hhl:hs.length = 1 + r1:=by have:=congrArg List.length hnm; rw [List.length_map] at this; omega
  have hH4:Houses H4 D hs:=⟨vs,e4,L2.Paired.mapP pf fun _ _ z=>namedF_at z⟩
  have s14:=s13.trans s4
  have snd:=spots_nd (hs:=hs) (by rw [hnm]; exact N2.nd) fun x hx=>(hhok x hx).nd
  have slen:=spots_len (hs:=hs) (c:=3) fun x hx=>(hhok x hx).g3
  walk_at "rd"
  refine ⟨hs,hH4,by omega,fun x hx=>Nat.le_trans (hhok x hx).g3 (by decide),fun sq H5 hsq s5 hWs=>?_⟩
  have s15:=s14.trans s5
  walk_at "rd"
  refine ⟨ns,spotsOf hs,s15.seq hS,hWs,by omega,snd,fun c H6 lns hc s6 hLn en1 en2 en3=>⟨by decide,fun q7 hq7=>?_⟩⟩
  have s7:=same_new hq7 (.tup [V.ref p,V.ref D,V.ref c])
  have s57:=s5.trans (s6.trans s7)
  refine q q7 _ (ls,hs,lns) ((s15.trans s6).free hq7) (s14.trans s57) ⟨p,D,c,upd_same,hL3.same (s4.trans s57),hH4.same s57,hLn.same s7⟩ ⟨ok,by rw [hnm]; exact N2.nd,fun x hx=>?_,fun x hx=>houseOk_own (hhok x hx),fun x hx g hg=>?_,by show hs.length <= 100; omega,en1,en2,en3⟩ ⟨by show hs.length <= M; omega,fun x hx=>Nat.le_trans (hhok x hx).g3 (by decide),by show ¬ (nohouseT ∈ hs.map (·.1) /\ nowhereT ∈ hs.map (·.1)); rw [hnm]; exact names_free N2⟩ (fun x hx=>⟨(hhok x hx).g3,hhv x hx⟩) hwf
  ·have hm:x.1 ∈ nm:=by rw [<- hnm]; exact List.mem_map.mpr ⟨x,hx,rfl⟩
   exact ⟨N2.low _ hm,Nat.le_trans (N2.short _ hm).2 (by decide)⟩
  ·have hm:=(hhok x hx).door g hg
   exact ⟨N.low _ hm,Nat.le_trans (N.short _ hm).2 (by decide)⟩
noncomputable def namedD (x:Named):D:=.t [.f (tx x.1),houseD x.2]
noncomputable def lineD (x:Line):D:=.t [wayD x.1,wayD x.2]
noncomputable def netD (N:Net):D:=.t [layD N.1,.l (N.2.1.map namedD),.l (N.2.2.map lineD)]
theorem line_th {H:Hp} {x:Line} {v:V} (n:Nat) (h:LineAt H x v):Th H (n + 2) v (lineD x):=by
 obtain ⟨t,u1,u2,rfl,e,h1,h2⟩:=h
 exact mk_t e (by simp) (.cons (way_th n h1) (.cons (way_th n h2) .nil))
theorem line_back {H:Hp} {x:Line} {v:V} {n:Nat} (h:Th H (n + 2) v (lineD x)):LineAt H x v:=by
 obtain ⟨a,vs,rfl,e,p⟩:=th_t h
 cases p with
 | cons r p=>cases p with
  | cons r2 p=>
   cases p
   exact ⟨a,_,_,rfl,e,way_back r,way_back r2⟩
theorem named_back {H:Hp} {x:Named} {v:V} {n:Nat} (h:Th H (n + 6) v (namedD x)):NamedAt H x v:=by
 obtain ⟨a,vs,rfl,e,p⟩:=th_t h
 cases p with
 | cons r p=>cases p with
  | cons r2 p=>
   cases p
   obtain ⟨q,rfl,hq⟩:=house_back r2
   rw [th_of r] at e
   exact ⟨a,q,rfl,e,hq⟩
theorem houses_th {H:Hp} {p:Addr} {hs:List Named} (h:Houses H p hs) (hl:hs.length <= 1000) (h1:∀ x ∈ hs,x.2.1.length <= 1000 /\ x.2.2.length <= 1000 /\ ∀ g ∈ x.2.1,g.2.length <= 1000):Th H 7 (.ref p) (.l (hs.map namedD)):=by
 obtain ⟨vs,e,pr⟩:=h
 refine mk_l e (by rw [<- pr.length]; exact hl) ?_
 clear e hl
 induction pr with
 | nil=>exact .nil
 | cons r p ih=>
  refine .cons ?_ (ih fun x hx=>h1 x (List.mem_cons_of_mem _ hx))
  obtain ⟨t',q,rfl,e,hq⟩:=r
  have:=h1 _ List.mem_cons_self
  exact mk_t e (by simp) (.cons (th_flat 5 rfl) (.cons (house_th 0 hq this.1 this.2.1 this.2.2) .nil))
theorem lines_th {H:Hp} {p:Addr} {ls:List Line} (h:Lines H p ls) (hl:ls.length <= 1000):Th H 7 (.ref p) (.l (ls.map lineD)):=by
 obtain ⟨vs,e,pr⟩:=h
 exact mk_l e (by rw [<- pr.length]; exact hl) (paired_flip (fun x v z=>line_th 4 z) pr)
theorem net_th {H:Hp} {q:Addr} {N:Net} (h:NetAt H q N) (ok:NetOk N):Th H 8 (.ref q) (netD N):=by
 obtain ⟨a,b,c,e,h1,h2,h3⟩:=h
 have:=ok.lay.len
 have:=ok.h100
 have:=ok.l500
 refine mk_t e (by simp) (.cons (lay_th 5 h1 (by omega)) (.cons (houses_th h2 (by omega) fun x hx=>?_) (.cons (lines_th h3 (by omega)) .nil)))
 have k:=ok.house x hx
 exact ⟨Nat.le_trans k.g3 (by decide),Nat.le_trans k.w8 (by decide),fun g hg=>Nat.le_trans (k.many g hg) (by decide)⟩
theorem net_back {H:Hp} {v:V} {N:Net} (h:Th H 8 v (netD N)):∃ q,v = .ref q /\ NetAt H q N:=by
 obtain ⟨a,vs,rfl,e,p⟩:=th_t h
 cases p with
 | cons r p=>cases p with
  | cons r2 p=>cases p with
   | cons r3 p=>
    cases p
    obtain ⟨p1,rfl,k1⟩:=lay_back r
    obtain ⟨p2,v2,rfl,e2,k2⟩:=th_l r2
    obtain ⟨p3,v3,rfl,e3,k3⟩:=th_l r3
    exact ⟨a,rfl,p1,p2,p3,e,k1,⟨v2,e2,paired_back (F:=NamedAt H) (fun x v z=>named_back z) k2⟩,⟨v3,e3,paired_back (F:=LineAt H) (fun x v z=>line_back z) k3⟩⟩
def SortedOf (l ws:List Way):Prop:=ws.Perm l /\ ws.Pairwise fun x y=>enc x < enc y
theorem sorted_one:∀ {l a b:List Way},SortedOf l a -> SortedOf l b -> a = b
 | _,[],[],_,_=>rfl
 | _,[],y :: b,h1,h2=>by
  have:=(h1.1.trans h2.1.symm).length_eq
  simp at this
 | _,x :: a,[],h1,h2=>by
  have:=(h1.1.trans h2.1.symm).length_eq
  simp at this
 | l,x :: a,y :: b,h1,h2=>by
  have p:=h1.1.trans h2.1.symm
  obtain ⟨k1,k2⟩:=List.pairwise_cons.mp h1.2
  obtain ⟨k3,k4⟩:=List.pairwise_cons.mp h2.2
  have e:x = y:=Classical.byContradiction fun ne=>by
   have m1:x ∈ b:=by
    rcases List.mem_cons.mp (p.mem_iff.mp List.mem_cons_self) with z | z
    ·exact absurd z ne
    ·exact z
   have m2:y ∈ a:=by
    rcases List.mem_cons.mp (p.mem_iff.mpr List.mem_cons_self) with z | z
    ·exact absurd z.symm ne
    ·exact z
   exact List.lt_irrefl _ (List.lt_trans (k1 y m2) (k3 x m1))
  subst e
  rw [sorted_one (l:=a) ⟨.refl _,k2⟩ ⟨(List.perm_cons x).mp p.symm,k4⟩]
noncomputable def sp_net_spots (K:Frag):Sp:=fun vs H Q _=>match vs with
 | [.ref p]=>∃ N:Net,NetAt H p N /\ N.2.1.length <= 100 /\ (∀ x ∈ N.2.1,x.2.1.length <= 100) /\ (spotsOf N.2.1).Nodup /\ (spotsOf N.2.1).length < 64 /\ ∀ q H' ws,H q = none -> Same H H' -> Ways H' q ws -> SortedOf (spotsOf N.2.1) ws -> Q (.ref q) H'
 | _=>False
theorem ok_net_spots (T:Top K mg):Callee P w K mg base 1 "net_spots" ["net"] (sp_net_spots K):=by
 refine T.f_net_spots.cal sc_net_spots (by intro vs H Q E h; unfold sp_net_spots at h; split at h <;> first | rfl | exact h.elim) (fun _ _ _ _ _ _ us hl=>match us,hl with | [_],_=>rfl) (fun f cdv A outer s H vs Q E hr h=>?_)
 unfold sp_net_spots at h
 split at h
 case h_2=>exact h.elim
 refine ⟨_,(pss_cons (ps_set (i:=1) sc_net_spots.nd rfl lc (pe_lst pa_nil))
   (pss_cons (qs_for PassesOwn.never rfl (iterE K rfl (pe_ix (ixE K rfl) (qv 0) pe_int (fun _ _=>rfl))) (tupE K rfl rfl (n:=2) (pgs_cons (pg_name (i:=2) sc_net_spots.nd rfl lc) (pgs_cons (pg_name (i:=3) sc_net_spots.nd rfl lc) pgs_nil))) (pss_one (ps_expr (qe_extend (qv 1) (qe_comp (nt:=2) (fi:=[2]) (N':=["door", "rules", "name"]) rfl (cscope rfl (by decide +kernel)) (cnames (N:=["net", "spots", "name", "house"]) (sc:=defScope s_net_spots) rfl rfl (by decide +kernel)) (gk_tup2 (by decide) (by decide)) (iterE K rfl (pe_ix (ixE K rfl) (qv 3) pe_int (fun _ _=>rfl))) (fun _ _ _ _ _=>(tupE K rfl rfl (n:=2) (pgs_cons (pg_name (i:=0) (by show (["door", "rules", "name"]:List Str).Nodup; decide +kernel) rfl lc) (pgs_cons (pg_name (i:=1) (by show (["door", "rules", "name"]:List Str).Nodup; decide +kernel) rfl lc) pgs_nil)))) (fun _ _ _ _ _=>pif_nil) (fun _ _ _ _ _=>(pe_tup (pa_cons (qv 2) (pa_cons (qv 0) pa_nil)))))))))
   (pss_one (ps_ret (pe_callB (call_sortedQ K rfl) rfl T.b_sorted bb_sorted (pa_cons (qv 1) pa_nil)))))),?_⟩
 rename_i p
 obtain ⟨⟨ls,hs,lns⟩,⟨pa,pb,pc,eN,_,⟨vs,e0,pr⟩,_⟩,hn,hg,hnd,h64,q⟩:=h
 dsimp only at pr hn hg hnd h64 q
 have hl:=pr.length
 walk_at "rd"
 refine ⟨Nat.zero_le _,fun g hg0=>?_⟩
 have s1:=same_new hg0 (.lst [])
 refine ⟨_,_,.inr (SqT.of (s1 _ _ eN)),rfl,?_⟩
 walk_at "rd"
 refine .inl ⟨⟨_,SqL.of (s1 _ _ e0)⟩,?_⟩
 refine loop_list (xs:=vs) (fun i σ H'=>∃ u v,σ = [some (.ref p),some (.ref g),u,v] /\ Same H H' /\ Ways H' g (spotsOf (hs.take i))) ⟨none,none,rfl,s1,⟨[],upd_same,.nil⟩⟩ (fun i σ H' _ ⟨_,_,_,z,_⟩=>SqL.of (z _ _ e0)) ?_ ?_
 ·rintro i x σ H1 hx ⟨u,v,rfl,s2,⟨us,eu,pu⟩⟩
  have hi:i < vs.length:=(List.getElem?_eq_some_iff.mp hx).1
  have hil:i < hs.length:=by omega
  obtain ⟨y,hy,t,hq,ey,et,hH⟩:=paired_at pr (List.getElem?_eq_getElem hil)
  obtain rfl:x = .ref t:=by rw [hy] at hx; rw [<- Option.some.inj hx,ey]
  obtain ⟨ga,wa,eh,⟨gv,eg,pg⟩,_⟩:=hH.same s2
  have hgl:=pg.length
  obtain ⟨z1,z2⟩:=paired_zip pg
  have hgi:=hg hs[i] (List.getElem_mem hil)
  refine ⟨t,[_,_],rfl,SqT.of (s2 _ _ et),rfl,_,[_],rfl,_,[],rfl,rfl,?_⟩
  walk_at "rd"
  refine ⟨⟨_,eu⟩,_,_,.inr (SqT.of eh),rfl,?_⟩
  walk_at "rd"
  refine .inl ⟨⟨_,SqL.of eg⟩,fun D hD=>?_⟩
  refine comp_rel (item:=fun x:Gate × V=>x.2) (hs[i].2.1.zip gv) (fun _=>true) (fun x v H'=>WayAt H' (hs[i].1,x.1.1) v) hD (by rw [z1]; exact SqL.of eg) (by rw [List.length_zip]; omega) ?_ ?_ ?_
  ·rintro x v H2 H3 acc hd k ⟨t',rfl,et'⟩
   exact ⟨t',rfl,k t' _ (fun z=>by rw [z,hd] at et'; cases et') et'⟩
  ·intro x H2 out non hx2 s3 ho _
   obtain ⟨t',r',ex,et',_⟩:=z2 x hx2
   rw [ex]
   refine ⟨t',[_,_],rfl,SqT.of (s3 _ _ et'),rfl,_,[_],rfl,_,[],rfl,rfl,?_⟩
   walk_at "rd"
   refine ⟨by decide,fun t2 ht2=>?_⟩
   exact ho _ _ rfl (same_new ht2 _) ⟨t2,rfl,upd_same⟩
  ·intro H2 ws s3 e3 p3
   have p4:Paired (WayAt H2) (hs[i].2.1.map fun g=>(hs[i].1,g.1)) ws:=by
    have hf:(hs[i].2.1.zip gv).filter (fun _=>true) = hs[i].2.1.zip gv:=List.filter_eq_self.mpr fun _ _=>rfl
    rw [hf] at p3
    have:hs[i].2.1.map (fun g=>((hs[i].1,g.1):Way)) = (hs[i].2.1.zip gv).map fun x=>(hs[i].1,x.1.1):=by
     conv=>lhs; rw [<- zip_fst (l:=hs[i].2.1) (m:=gv) hgl,List.map_map]
     rfl
    rw [this]
    exact paired_mapL p3
   have eu3:=s3 _ _ eu
   have ngD:g ≠ D:=fun z=>by rw [<- z,eu] at hD; cases hD
   have l1:=pu.length
   have l2:=p4.length
   have l3:=spots_len (hs:=hs.take i) (c:=100) fun x hx=>hg x (List.mem_of_mem_take hx)
   rw [List.length_take] at l3
   rw [List.length_map] at l2
   refine ⟨us,ws,eu3,e3,Nat.le_of_lt (sizeBig ?_),some (tx hs[i].1),some (.ref hq),rfl,same_upd (s2.trans s3) hg0,⟨_,upd_same,?_⟩⟩
   ·have:min i hs.length * 100 <= 100 * 100:=Nat.mul_le_mul_right _ (by omega)
    omega
   ·rw [spots_snoc hs i hil]
    refine paired_app (L2.Paired.mapP pu ?_) (L2.Paired.mapP p4 ?_)
    ·rintro x v ⟨t',rfl,et'⟩
     exact ⟨t',rfl,keep_lst eu3 _ _ (s3 _ _ et')⟩
    ·rintro x v ⟨t',rfl,et'⟩
     exact ⟨t',rfl,keep_lst eu3 _ _ et'⟩
 ·rintro σ H1 ⟨u,v,rfl,s2,hW⟩
  walk_at "rd"
  rw [<- hl,List.take_length] at hW
  obtain ⟨wv,ew,pw⟩:=hW
  refine ⟨spotsOf hs,wv,SqL.of ew,pw,hnd,h64,fun q' ws' vs' hq' hp hs' pp=>?_⟩
  have s3:=same_new hq' (.lst vs')
  exact q q' _ ws' (s2.free hq') (s2.trans s3) ⟨vs',upd_same,ways_keep (fun _ _ z=>s3 _ _ z) pp⟩ ⟨hp,hs'⟩
noncomputable def keyW (x:Way):List Key:=[.inr (st x.1),.inr (st x.2)]
theorem keyW_inj {x y:Way} (h:keyW x = keyW y):x = y:=by
 obtain ⟨a,b⟩:=x
 obtain ⟨c,d⟩:=y
 have h1:st a = st c:=by injection h with h1 _; injection h1
 have h2:st b = st d:=by injection h with _ h2; injection h2 with h2 _; injection h2
 rw [st_inj.mp h1,st_inj.mp h2]
noncomputable def beyondL:List Line -> Way -> Option Way
 | [],_=>none
 | (a,b) :: ls,x=>if a = x then some b else if b = x then some a else beyondL ls x
theorem beyond_none:∀ {ls:List Line} {x:Way},x ∉ endsOf ls -> beyondL ls x = none
 | [],_,_=>rfl
 | (a,b) :: ls,x,h=>by
  have e:endsOf ((a,b) :: ls) = a :: b :: endsOf ls:=by unfold endsOf; rw [List.flatMap_cons]; rfl
  rw [e] at h
  simp only [List.mem_cons,not_or] at h
  unfold beyondL
  rw [if_neg (fun z=>h.1 z.symm),if_neg (fun z=>h.2.1 z.symm)]
  exact beyond_none h.2.2
theorem beyond_snoc:∀ (ls:List Line) (a b x:Way),beyondL (ls ++ [(a,b)]) x = (beyondL ls x).or (if a = x then some b else if b = x then some a else none)
 | [],a,b,x=>by simp [beyondL]
 | (c,d) :: ls,a,b,x=>by
  have ih:=beyond_snoc ls a b x
  show beyondL ((c,d) :: (ls ++ [(a,b)])) x = _
  unfold beyondL
  by_cases h1:c = x
  ·rw [if_pos h1,if_pos h1]; rfl
  ·rw [if_neg h1,if_neg h1]
   by_cases h2:d = x
   ·rw [if_pos h2,if_pos h2]; rfl
   ·rw [if_neg h2,if_neg h2]
    exact ih
def OptW (H:Hp) (o:Option Way) (v:Option V):Prop:=match o with
 | none=>v = none
 | some y=>∃ u,v = some u /\ WayAt H y u
theorem OptW.keep {H H':Hp} (k:∀ t vs,H t = some (.tup vs) -> H' t = some (.tup vs)) {o:Option Way} {v:Option V} (h:OptW H o v):OptW H' o v:=by
 cases o with
 | none=>exact h
 | some y=>
  obtain ⟨u,e,t,e2,h2⟩:=h
  exact ⟨u,e,t,e2,k _ _ h2⟩
def EndsAt (H:Hp) (d:Addr) (ls:List Line):Prop:=∃ kvs:List (List Key × V),H d = some (.dT kvs) /\ ∀ x,OptW H (beyondL ls x) (valV kvs (keyW x))
theorem EndsAt.same {H H':Hp} {d:Addr} {ls:List Line} (h:EndsAt H d ls) (s:Same H H'):EndsAt H' d ls:=by
 obtain ⟨kvs,e,h⟩:=h
 exact ⟨kvs,s _ _ e,fun x=>(h x).keep fun _ _ z=>s _ _ z⟩
noncomputable def sp_line_ends (K:Frag):Sp:=fun vs H Q _=>match vs with
 | [.ref p]=>∃ N:Net,NetAt H p N /\ N.2.2.length <= 500 /\ (endsOf N.2.2).Nodup /\ ∀ d H',H d = none -> Same H H' -> EndsAt H' d N.2.2 -> Q (.ref d) H'
 | _=>False
theorem ok_line_ends (T:Top K mg):Callee P w K mg base 1 "line_ends" ["net"] (sp_line_ends K):=by
 refine T.f_line_ends.cal sc_line_ends (by intro vs H Q E h; unfold sp_line_ends at h; split at h <;> first | rfl | exact h.elim) (fun _ _ _ _ _ _ us hl=>match us,hl with | [_],_=>rfl) (fun f cdv A outer s H vs Q E hr h=>?_)
 unfold sp_line_ends at h
 split at h
 case h_2=>exact h.elim
 refine ⟨_,(pss_cons (ps_set (i:=1) sc_line_ends.nd rfl lc pe_dnewT)
   (pss_cons (qs_for PassesOwn.never rfl (iterE K rfl (pe_ix (ixE K rfl) (qv 0) pe_int (fun _ _=>rfl))) (tupE K rfl rfl (n:=2) (pgs_cons (pg_name (i:=2) sc_line_ends.nd rfl lc) (pgs_cons (pg_name (i:=3) sc_line_ends.nd rfl lc) pgs_nil))) (pss_cons (qs_dput (hu_of hr) (qv 1) (qv 2) (qv 3))
   (pss_one (qs_dput (hu_of hr) (qv 1) (qv 3) (qv 2)))))
   (pss_one (ps_ret (qv 1))))),?_⟩
 rename_i p
 obtain ⟨⟨ls,hs,lns⟩,⟨pa,pb,pc,eN,_,_,⟨vs,e0,pr⟩⟩,hn,hnd,q⟩:=h
 dsimp only at pr hn hnd q
 have hl:=pr.length
 walk_at "rd"
 intro d hd
 have s1:=same_new hd (.dT [])
 refine ⟨_,_,.inr (SqT.of (s1 _ _ eN)),rfl,?_⟩
 walk_at "rd"
 refine .inl ⟨⟨_,SqL.of (s1 _ _ e0)⟩,?_⟩
 refine loop_list (xs:=vs) (fun i σ H'=>∃ u v kvs,σ = [some (.ref p),some (.ref d),u,v] /\ Same H H' /\ H' d = some (.dT kvs) /\ kvs.length <= 2 * i /\ ∀ x,OptW H' (beyondL (lns.take i) x) (valV kvs (keyW x))) ⟨none,none,[],rfl,s1,upd_same,Nat.le_refl _,fun x=>rfl⟩ (fun i σ H' _ ⟨_,_,_,_,z,_⟩=>SqL.of (z _ _ e0)) ?_ ?_
 ·rintro i x σ H1 hx ⟨u,v,kvs,rfl,s2,ed,hk,hv⟩
  have hi:i < vs.length:=(List.getElem?_eq_some_iff.mp hx).1
  have hil:i < lns.length:=by omega
  obtain ⟨y,hy,t,u1,u2,ey,et,⟨t1,rfl,h1⟩,⟨t2,rfl,h2⟩⟩:=paired_at pr (List.getElem?_eq_getElem hil)
  obtain rfl:x = .ref t:=by rw [hy] at hx; rw [<- Option.some.inj hx,ey]
  refine ⟨t,[_,_],rfl,SqT.of (s2 _ _ et),rfl,_,[_],rfl,_,[],rfl,rfl,?_⟩
  walk_at "rd"
  have h1':=s2 _ _ h1
  have h2':=s2 _ _ h2
  generalize ea:lns[i].1 = a at *
  generalize eb:lns[i].2 = b at *
  have kd:∀ {H:Hp} {k k':List (List Key × V)},H d = some (.dT k) -> ∀ t ts,H t = some (.tup ts) -> upd H d (.dT k') t = some (.tup ts):=fun e t ts z=>by
   rw [upd_ne (fun y=>by rw [y,e] at z; cases z)]
   exact z
  have g1:DPut H1 d (.ref t1) (.ref t2) (upd H1 d (.dT (putK kvs (keyW a) (.ref t2)))):=DPut.t (k:=keyW a) ed h1' (sizeBig (by omega))
  have lp1:=length_putK kvs (keyW a) (.ref t2)
  have ed2:upd H1 d (.dT (putK kvs (keyW a) (.ref t2))) d = some (.dT (putK kvs (keyW a) (.ref t2))):=upd_same
  have g2:=DPut.t (v:=.ref t1) (k:=keyW b) ed2 (kd ed _ _ h2') (sizeBig (by omega))
  have lp2:=length_putK (putK kvs (keyW a) (.ref t2)) (keyW b) (.ref t1)
  refine ⟨_,g1,_,g2,_,_,putK (putK kvs (keyW a) (.ref t2)) (keyW b) (.ref t1),rfl,same_upd (same_upd s2 hd) hd,upd_same,by omega,fun x=>?_⟩
  have kk:∀ t ts,H1 t = some (.tup ts) -> upd (upd H1 d (.dT (putK kvs (keyW a) (.ref t2)))) d (.dT (putK (putK kvs (keyW a) (.ref t2)) (keyW b) (.ref t1))) t = some (.tup ts):=fun t ts z=>kd ed2 _ _ (kd ed _ _ z)
  have hends:=ends_all hil
  rw [hends,ea,eb] at hnd
  obtain ⟨_,n2,n3⟩:=List.nodup_append.mp hnd
  have na:a ∉ endsOf (lns.take i):=fun z=>n3 a z a (by simp) rfl
  have nb:b ∉ endsOf (lns.take i):=fun z=>n3 b z b (by simp) rfl
  have nab:a ≠ b:=fun z=>by
   have:=List.nodup_cons.mp n2
   exact this.1 (by rw [z]; simp)
  rw [valV_put,valV_put,List.take_add_one,List.getElem?_eq_getElem hil,Option.toList_some,show lns[i] = (a,b) by rw [<- ea,<- eb],beyond_snoc]
  by_cases c1:x = b
  ·subst c1
   rw [if_pos rfl,beyond_none nb,if_neg nab,if_pos rfl]
   exact ⟨_,rfl,t1,rfl,kk _ _ h1'⟩
  ·rw [if_neg (fun z=>c1 (keyW_inj z))]
   by_cases c2:x = a
   ·subst c2
    rw [if_pos rfl,beyond_none na,if_pos rfl]
    exact ⟨_,rfl,t2,rfl,kk _ _ h2'⟩
   ·rw [if_neg (fun z=>c2 (keyW_inj z)),if_neg (fun z=>c2 z.symm),if_neg (fun z=>c1 z.symm),Option.or_none]
    exact (hv x).keep kk
 ·rintro σ H1 ⟨u,v,kvs,rfl,s2,ed,hk,hv⟩
  walk_at "rd"
  rw [<- hl,List.take_length] at hv
  exact q d H1 hd s2 ⟨kvs,ed,hv⟩
noncomputable def openL (ls:List Line) (ws:List Way):List Way:=ws.filter fun x=>(beyondL ls x).isNone
noncomputable def sp_net_open (K:Frag):Sp:=fun vs H Q _=>match vs with
 | [.ref p]=>∃ N:Net,NetAt H p N /\ N.2.1.length <= 100 /\ (∀ x ∈ N.2.1,x.2.1.length <= 100) /\ (spotsOf N.2.1).Nodup /\ (spotsOf N.2.1).length < 64 /\ N.2.2.length <= 500 /\ (endsOf N.2.2).Nodup /\ ∀ q H' ws,H q = none -> Same H H' -> SortedOf (spotsOf N.2.1) ws -> Ways H' q (openL N.2.2 ws) -> Q (.ref q) H'
 | _=>False
theorem ok_net_open (T:Top K mg):Callee P w K mg base 2 "net_open" ["net"] (sp_net_open K):=by
 refine T.f_net_open.cal sc_net_open (by intro vs H Q E h; unfold sp_net_open at h; split at h <;> first | rfl | exact h.elim) (fun _ _ _ _ _ _ us hl=>match us,hl with | [_],_=>rfl) (fun f cdv A outer s H vs Q E hr h=>?_)
 unfold sp_net_open at h
 split at h
 case h_2=>exact h.elim
 refine ⟨_,(pss_cons (ps_set (i:=1) sc_net_open.nd rfl lc (pe_fn (ok_line_ends T) hr.m rfl (pa_cons (qv 0) pa_nil)))
   (pss_one (ps_ret (qe_comp (nt:=1) (fi:=[1]) (N':=["spot", "ends"]) rfl (cscope rfl (by decide +kernel)) (cnames (N:=["net", "ends"]) (sc:=defScope s_net_open) rfl rfl (by decide +kernel)) (gk_name (by decide)) (iterE K rfl (pe_fn (ok_net_spots T) hr.m rfl (pa_cons (qv 0) pa_nil))) (fun _ _ _ _ _=>(pg_name (i:=0) (by show (["spot", "ends"]:List Str).Nodup; decide +kernel) rfl lc)) (fun _ _ _ _ _=>(pif_one (qt_dnotin (hu_of hr) (qv 0) (qv 1)))) (fun _ _ _ _ _=>(qv 0)))))),?_⟩
 rename_i p
 obtain ⟨N,hN,h1,h2,h3,h4,h5,h6,q⟩:=h
 walk_at "rd"
 refine ⟨N,hN,h5,h6,fun d H1 hd s1 hE=>?_⟩
 walk_at "rd"
 refine ⟨N,hN.same s1,h1,h2,h3,h4,fun sq H2 ws hsq s2 hW hs=>?_⟩
 walk_at "rd"
 obtain ⟨wv,ew,pw⟩:=id hW
 have hwl:=pw.length
 obtain ⟨z1,z2⟩:=paired_zip pw
 obtain ⟨kvs,ed,hv⟩:=hE.same s2
 have hlen:ws.length < 64:=by rw [hs.1.length_eq]; exact h4
 refine .inl ⟨⟨_,SqL.of ew⟩,fun D hD=>?_⟩
 refine comp_rel (item:=fun x:Way × V=>x.2) (ws.zip wv) (fun x=>(beyondL N.2.2 x.1).isNone) (fun x v H'=>WayAt H' x.1 v) hD (by rw [z1]; exact SqL.of ew) (by rw [List.length_zip]; omega) ?_ ?_ ?_
 ·rintro x v H3 H4 acc hd k ⟨t',rfl,et'⟩
  exact ⟨t',rfl,k t' _ (fun z=>by rw [z,hd] at et'; cases et') et'⟩
 ·intro x H3 out non hx s3 ho hno
  obtain ⟨t',ex,et'⟩:=z2 x hx
  rw [ex]
  walk_at "rd"
  refine ⟨_,DGet.t (k:=keyW x.1) (s3 _ _ ed) (s3 _ _ et'),?_⟩
  have hvx:=hv x.1
  cases eb:beyondL N.2.2 x.1 with
  | none=>
   rw [eb] at hvx
   have hvx:valV kvs (keyW x.1) = none:=hvx
   rw [hvx]
   walk_at "rd"
   exact ho _ _ (by rw [eb]; rfl) (Same.refl _) ⟨t',rfl,s3 _ _ et'⟩
  | some y=>
   rw [eb] at hvx
   obtain ⟨u,hu,_⟩:=hvx
   rw [hu]
   walk_at "rd"
   exact hno _ (by rw [eb]; rfl) (Same.refl _)
 ·intro H3 us s3 e3 p3
  refine q D H3 ws (s1.free (s2.free hD)) (s1.trans (s2.trans s3)) hs ⟨us,e3,?_⟩
  have hz:(ws.zip wv).map Prod.fst = ws:=zip_fst hwl
  have:openL N.2.2 ws = ((ws.zip wv).filter fun x=>(beyondL N.2.2 x.1).isNone).map Prod.fst:=by
   conv=>lhs; rw [<- hz]
   unfold openL
   rw [List.filter_map]
   rfl
  rw [this]
  exact paired_mapL p3
noncomputable def sp_net_tied (K:Frag):Sp:=fun vs H Q E=>match vs with
 | [.ref t,.str n,.str d]=>∃ N:Net,NetAt H t N /\ (∀ c ∈ n.cps.toList,c < 16 ^ 8) /\ n.cps.toList.length <= 1000 /\ (∀ c ∈ d.cps.toList,c < 16 ^ 8) /\ d.cps.toList.length <= 1000 /\ N.2.2.length <= 500 /\ (endsOf N.2.2).Nodup /\
   (∀ h,houseOf N.2.1 n.cps.toList = some h -> (∀ rs,gateOf h.1 d.cps.toList = some rs -> ∀ v H',Same H H' -> OptW H' (beyondL N.2.2 (n.cps.toList,d.cps.toList)) (some v) \/ (beyondL N.2.2 (n.cps.toList,d.cps.toList) = none /\ v = .non) -> Q v H') /\ (gateOf h.1 d.cps.toList = none -> ∀ H',Same H H' -> E (.ref (xA K "NoDoor")) none H')) /\
   (houseOf N.2.1 n.cps.toList = none -> ∀ H',Same H H' -> E (.ref (xA K "NoHouse")) none H')
 | _=>False
theorem ok_net_tied (T:Top K mg):CalleeX P w K mg base 3 "net_tied" ["net", "house", "door"] (sp_net_tied K):=by
 refine T.f_net_tied.calX sc_net_tied (by intro vs H Q E h; unfold sp_net_tied at h; split at h <;> first | rfl | exact h.elim) (fun _ _ _ _ _ _ us hl=>match us,hl with | [_,_,_],_=>rfl) (fun f cdv A outer s H vs Q E hr h=>?_)
 unfold sp_net_tied at h
 split at h
 case h_2=>exact h.elim
 refine ⟨_,(pss_cons (ps_expr (pe_fnX (ok_check_spot T) hr.m passes_fn rfl (pa_cons (qv 0) (pa_cons (qv 1) (pa_cons (qv 2) pa_nil)))))
   (pss_one (ps_ret (qe_dget1 (hu_of hr) (pe_fn (ok_line_ends T) hr.m rfl (pa_cons (qv 0) pa_nil)) (pe_tup (pa_cons (qv 1) (pa_cons (qv 2) pa_nil))) ⟨rfl,rfl,rfl,rfl⟩)))),?_⟩
 rename_i t n d
 obtain ⟨N,hN,h1,h2,h3,h4,h5,h6,q1,q2⟩:=h
 walk_at "rd"
 refine ⟨N,hN,h1,h2,h3,h4,fun h eh=>⟨fun rs er H1 s1=>?_,(q1 h eh).2⟩,q2⟩
 walk_at "rd"
 refine ⟨N,hN.same s1,h5,h6,fun e H2 he s2 hE=>?_⟩
 walk_at "rd"
 obtain ⟨kvs,ed,hv⟩:=id hE
 refine ⟨.inr ⟨kvs,.inl ed⟩,by decide,fun p hp=>?_⟩
 have s3:=same_new hp (.tup [V.str n,V.str d])
 have ek:upd H2 p (.tup [V.str n,V.str d]) p = some (.tup ((keyW (n.cps.toList,d.cps.toList)).map kV)):=by
  rw [upd_same]
  unfold keyW kV
  simp only [List.map_cons,List.map_nil,st_eta]
 refine ⟨_,DGet.t (s3 _ _ ed) ek,?_⟩
 have hvx:=hv (n.cps.toList,d.cps.toList)
 refine (q1 h eh).1 rs er _ _ (s1.trans (s2.trans s3)) ?_
 cases eb:beyondL N.2.2 (n.cps.toList,d.cps.toList) with
 | none=>
  rw [eb] at hvx
  have hvx:valV kvs (keyW (n.cps.toList,d.cps.toList)) = none:=hvx
  rw [hvx]
  exact .inr ⟨rfl,rfl⟩
 | some y=>
  rw [eb] at hvx
  obtain ⟨u,hu,hw⟩:=hvx
  rw [hu]
  obtain ⟨t',e',h'⟩:=hw
  exact .inl ⟨u,rfl,t',e',s3 _ _ h'⟩
noncomputable def sp_house_copied (K:Frag):Sp:=fun vs H Q _=>match vs with
 | [.ref q]=>∃ h:House,HouseAt H q h /\ h.1.length <= 100 /\ h.2.length <= 100 /\ (∀ x ∈ h.1,x.2.length <= 1000) /\ ∀ (q' g w:Addr) (H':Hp),H q' = none -> H g = none -> H w = none -> Same H H' -> HouseN (fun r=>H r = none) H' q' g w h -> Q (.ref q') H'
 | _=>False
theorem ok_house_copied (T:Top K mg):Callee P w K mg base 1 "house_copied" ["house"] (sp_house_copied K):=by
 refine T.f_house_copied.cal sc_house_copied (by intro vs H Q E h; unfold sp_house_copied at h; split at h <;> first | rfl | exact h.elim) (fun _ _ _ _ _ _ us hl=>match us,hl with | [_],_=>rfl) (fun f cdv A outer s H vs Q E hr h=>?_)
 unfold sp_house_copied at h
 split at h
 case h_2=>exact h.elim
 refine ⟨_,(pss_one (ps_ret (pe_tup (pa_cons (qe_comp (nt:=2) (fi:=[]) (N':=["door", "rules"]) rfl (cscope rfl (by decide +kernel)) (cnames (N:=["house"]) (sc:=defScope s_house_copied) rfl rfl (by decide +kernel)) (gk_tup2 (by decide) (by decide)) (iterE K rfl (pe_ix (ixE K rfl) (qv 0) pe_int (fun _ _=>rfl))) (fun _ _ _ _ _=>(tupE K rfl rfl (n:=2) (pgs_cons (pg_name (i:=0) (by show (["door", "rules"]:List Str).Nodup; decide +kernel) rfl lc) (pgs_cons (pg_name (i:=1) (by show (["door", "rules"]:List Str).Nodup; decide +kernel) rfl lc) pgs_nil)))) (fun _ _ _ _ _=>pif_nil) (fun _ _ _ _ _=>(pe_tup (pa_cons (qv 0) (pa_cons (pe_callTy (call_listK K rfl rfl) rfl T.b_list bb_list (pa_cons (qv 1) pa_nil)) pa_nil))))) (pa_cons (pe_callTy (call_listK K rfl rfl) rfl T.b_list bb_list (pa_cons (pe_ix (ixE K rfl) (qv 0) pe_int (fun _ _=>rfl)) pa_nil)) pa_nil))))),?_⟩
 rename_i p
 obtain ⟨h,⟨g0,w0,e0,⟨gv,eg,pg⟩,⟨wv,ew,pw⟩⟩,h1,h2,h3,q⟩:=h
 have hgl:=pg.length
 have hwl:=pw.length
 obtain ⟨z1,z2⟩:=paired_zip pg
 walk_at "rd"
 refine ⟨_,_,.inr (SqT.of e0),rfl,?_⟩
 walk_at "rd"
 refine .inl ⟨⟨_,SqL.of eg⟩,fun g hg=>?_⟩
 refine comp_genD (h.1.zip gv) (fun x v H'=>GateN (fun r=>r ≠ g /\ H r = none) H' x.1 v) hg (by rw [List.length_zip]; omega) (fun i H1 hi s1=>⟨gv,gv[i]'(by rw [List.length_zip] at hi; omega),SqL.of (s1 _ _ eg),List.getElem?_eq_getElem _⟩) (fun H1 s1=>⟨gv,SqL.of (s1 _ _ eg),by rw [List.length_zip]; omega⟩) ?_ ?_ ?_ ?_
 ·rintro i H1 v H2 _ ⟨rfl,_⟩
  exact Same.refl _
 ·rintro x v H1 H2 acc hd k ⟨t',r,rfl,nr,et,⟨rv,er,pr⟩⟩
  have tp:∀ t ts,H1 t = some (.tup ts) -> H2 t = some (.tup ts):=fun t ts z=>k _ _ (fun y=>by rw [y,hd] at z; cases z) z
  exact ⟨t',r,rfl,nr,tp _ _ et,⟨rv,k _ _ nr.1 er,rules_keep tp pr⟩⟩
 ·rintro i x v H1 H2 out non hx s1 nD ⟨rfl,a1⟩ ho
  obtain ⟨y1,y2⟩:=List.getElem?_zip_eq_some.mp hx
  have y3:=a1 gv (SqL.of (s1 _ _ eg))
  rw [y2] at y3
  have y4:=Option.some.inj y3
  obtain ⟨t,r,ex,et,⟨rv,er,pr⟩⟩:=z2 x (List.mem_of_getElem? hx)
  rw [<- y4,ex]
  refine ⟨t,[_,_],rfl,SqT.of (s1 _ _ et),rfl,_,[_],rfl,_,[],rfl,rfl,?_⟩
  walk_at "rd"
  refine ⟨rv,.inl (SqL.of (s1 _ _ er)),fun r2 hr2=>⟨by decide,fun t2 ht2=>?_⟩⟩
  have s2:=same_new hr2 (.lst rv)
  have s3:=same_new ht2 (.tup [tx x.1.1,V.ref r2])
  have s13:=s1.trans (s2.trans s3)
  exact ho _ _ (s2.trans s3) ⟨t2,r2,rfl,⟨nD r2 hr2,s1.free hr2⟩,upd_same,⟨rv,s3 _ _ upd_same,rules_keep (fun _ _ z=>s13 _ _ z) pr⟩⟩
 ·intro H1 vs s1 e1 p1
  walk_at "rd"
  refine ⟨_,_,.inr (SqT.of (s1 _ _ e0)),rfl,?_⟩
  walk_at "rd"
  refine ⟨wv,.inl (SqL.of (s1 _ _ ew)),fun w hw=>⟨by decide,fun q' hq'=>?_⟩⟩
  have s2:=same_new hw (.lst wv)
  have s3:=same_new hq' (.tup [V.ref g,V.ref w])
  have s23:=s2.trans s3
  have s13:=s1.trans s23
  have hz:(h.1.zip gv).map Prod.fst = h.1:=zip_fst hgl
  have p2:Paired (GateN (fun r=>r ≠ g /\ H r = none) H1) h.1 vs:=by
   rw [<- hz]
   exact paired_mapL p1
  refine q q' g w _ ((s1.trans s2).free hq') hg (s1.free hw) s13 ⟨upd_same,fun z=>(by rw [<- z,e1] at hw; cases hw),⟨vs,s23 _ _ e1,L2.Paired.mapP p2 ?_⟩,⟨wv,s3 _ _ upd_same,ways_keep (fun _ _ z=>s13 _ _ z) pw⟩⟩
  rintro x v ⟨t,r,rfl,n,h1,⟨rv,er,pr⟩⟩
  exact ⟨t,r,rfl,⟨n.1,fun z=>(by rw [z,hw] at er; cases er),n.2⟩,s23 _ _ h1,⟨rv,s23 _ _ er,rules_keep (fun _ _ z=>s23 _ _ z) pr⟩⟩
noncomputable def sp_net_house (K:Frag):Sp:=fun vs H Q E=>match vs with
 | [.ref t,.str n]=>∃ N:Net,NetAt H t N /\ (∀ c ∈ n.cps.toList,c < 16 ^ 8) /\ n.cps.toList.length <= 1000 /\
   (∀ h,houseOf N.2.1 n.cps.toList = some h -> (h.1.length <= 100 /\ h.2.length <= 100 /\ ∀ x ∈ h.1,x.2.length <= 1000) /\ ∀ (q g w:Addr) (H':Hp),H q = none -> H g = none -> H w = none -> Same H H' -> HouseN (fun r=>H r = none) H' q g w h -> Q (.ref q) H') /\
   (houseOf N.2.1 n.cps.toList = none -> ∀ H',Same H H' -> E (.ref (xA K "NoHouse")) none H')
 | _=>False
theorem ok_net_house (T:Top K mg):CalleeX P w K mg base 2 "net_house" ["net", "name"] (sp_net_house K):=by
 refine T.f_net_house.calX sc_net_house (by intro vs H Q E h; unfold sp_net_house at h; split at h <;> first | rfl | exact h.elim) (fun _ _ _ _ _ _ us hl=>match us,hl with | [_,_],_=>rfl) (fun f cdv A outer s H vs Q E hr h=>?_)
 unfold sp_net_house at h
 split at h
 case h_2=>exact h.elim
 refine ⟨_,(pss_one (ps_ret (pe_fn (ok_house_copied T) hr.m rfl (pa_cons (pe_fnX (ok_house_named T) hr.m passes_fn rfl (pa_cons (qv 0) (pa_cons (qv 1) pa_nil))) pa_nil)))),?_⟩
 rename_i t n
 obtain ⟨N,hN,h1,h2,q1,q2⟩:=h
 walk_at "rd"
 refine ⟨N,hN,h1,h2,fun h eh q0 H1 s1 hH=>?_,q2⟩
 obtain ⟨⟨k1,k2,k3⟩,q⟩:=q1 h eh
 walk_at "rd"
 refine ⟨h,hH,k1,k2,k3,fun q' g w H2 hq hg hw s2 hn=>q q' g w H2 (s1.free hq) (s1.free hg) (s1.free hw) (s1.trans s2) ?_⟩
 obtain ⟨vs,e,p⟩:=hn.gates
 exact ⟨hn.tup,hn.ne,⟨vs,e,L2.Paired.mapP p fun _ _ ⟨t,r,e,n,h⟩=>⟨t,r,e,⟨n.1,n.2.1,s1.free n.2.2⟩,h⟩⟩,hn.ways⟩
noncomputable def marksL (b2 b4:Bool):List V:=[.bl false,.bl false,.bl b2,.bl false,.bl b4,.bl false,.bl false,.bl false,.bl false,.bl false,.bl true]
noncomputable def sp__law_marks (K:Frag):Sp:=fun vs H Q _=>match vs with
 | [.ref ea]=>∃ (c:Str) (b2 b4:Bool),H ea = some (XO (xA K c) ea) /\ XCl K (xA K c) /\ Xm K c "Misfit" false /\ Xm K c "Twice" false /\ Xm K c "NoField" false /\ Xm K c "NoRule" false /\ Xm K c "NoWay" false /\
   Xm K c "NoDoor" b2 /\ Xm K c "NoHouse" b4 /\ Xm K c "NoLine" false /\ Xm K c "BadWord" false /\ Xm K c "Unlike" false /\ Xv K c /\ ∀ p H',H p = none -> Same H H' -> H' p = some (.lst (marksL b2 b4)) -> Q (.ref p) H'
 | _=>False
theorem ok__law_marks (T:Top K mg):CalleeH P w K mg base 1 "_law_marks" ["_law_e"] (sp__law_marks K):=by
 refine T.f__law_marks.calH sc__law_marks (by intro vs H Q E h; unfold sp__law_marks at h; split at h <;> first | rfl | exact h.elim) (fun _ _ _ _ _ _ us hl=>match us,hl with | [_],_=>rfl) (fun f cdv A outer s H vs Q E hr h=>?_)
 unfold sp__law_marks at h
 split at h
 case h_2=>exact h.elim
 refine ⟨_,(pss_cons (ps_set (i:=1) sc__law_marks.nd rfl lc (pe_lst (pa_cons (qe_isiX K rfl rfl rfl T.b_isinstance (qv 0) (qe_cls T.x_BadWord rfl)) (pa_cons (qe_isiX K rfl rfl rfl T.b_isinstance (qv 0) (qe_cls T.x_Misfit rfl)) (pa_cons (qe_isiX K rfl rfl rfl T.b_isinstance (qv 0) (qe_cls T.x_NoDoor rfl)) (pa_cons (qe_isiX K rfl rfl rfl T.b_isinstance (qv 0) (qe_cls T.x_NoField rfl)) pa_nil))))))
   (pss_cons (ps_set (i:=1) sc__law_marks.nd rfl lc (pe_op op_addK (qv 1) (pe_lst (pa_cons (qe_isiX K rfl rfl rfl T.b_isinstance (qv 0) (qe_cls T.x_NoHouse rfl)) (pa_cons (qe_isiX K rfl rfl rfl T.b_isinstance (qv 0) (qe_cls T.x_NoLine rfl)) (pa_cons (qe_isiX K rfl rfl rfl T.b_isinstance (qv 0) (qe_cls T.x_NoRule rfl)) (pa_cons (qe_isiX K rfl rfl rfl T.b_isinstance (qv 0) (qe_cls T.x_NoWay rfl)) pa_nil)))))))
   (pss_one (ps_ret (pe_op op_addK (qv 1) (pe_lst (pa_cons (qe_isiX K rfl rfl rfl T.b_isinstance (qv 0) (qe_cls T.x_Twice rfl)) (pa_cons (qe_isiX K rfl rfl rfl T.b_isinstance (qv 0) (qe_cls T.x_Unlike rfl)) (pa_cons (qe_isiX K rfl rfl rfl T.b_isinstance (qv 0) (qe_ty rfl T.b_ValueError bb_ValueError)) pa_nil))))))))),?_⟩
 rename_i ea
 obtain ⟨c,b2,b4,e0,xc,m0,m1,m2,m3,m4,m5,m6,m7,m8,m9,v,q⟩:=h
 walk_at "rd"
 refine ⟨_,false,e0,xc,Xn.kit m8 T.x_BadWord,_,false,e0,xc,Xn.kit m0 T.x_Misfit,_,b2,e0,xc,Xn.kit m5 T.x_NoDoor,_,false,e0,xc,Xn.kit m2 T.x_NoField,by decide,fun p1 hp1=>?_⟩
 have s1:=same_new hp1 (.lst [.bl false,.bl false,.bl b2,.bl false])
 have f1:upd H p1 (.lst [.bl false,.bl false,.bl b2,.bl false]) p1 = some (.lst [.bl false,.bl false,.bl b2,.bl false]):=upd_same
 have x1:=s1 _ _ e0
 generalize upd H p1 (.lst [.bl false,.bl false,.bl b2,.bl false]) = H1 at s1 f1 x1 ⊢
 walk_at "rd"
 refine ⟨_,b4,x1,xc,Xn.kit m6 T.x_NoHouse,_,false,x1,xc,Xn.kit m7 T.x_NoLine,_,false,x1,xc,Xn.kit m3 T.x_NoRule,_,false,x1,xc,Xn.kit m4 T.x_NoWay,by decide,fun p2 hp2=>?_⟩
 have s2:=same_new hp2 (.lst [.bl b4,.bl false,.bl false,.bl false])
 have f2:upd H1 p2 (.lst [.bl b4,.bl false,.bl false,.bl false]) p2 = some (.lst [.bl b4,.bl false,.bl false,.bl false]):=upd_same
 have f12:=s2 _ _ f1
 generalize upd H1 p2 (.lst [.bl b4,.bl false,.bl false,.bl false]) = H2 at s2 f2 f12 ⊢
 walk_at "rd"
 refine ⟨[.bl false,.bl false,.bl b2,.bl false],[.bl b4,.bl false,.bl false,.bl false],f12,f2,Nat.le_of_lt (sizeBig (by simp)),fun p3 hp3=>?_⟩
 have s3:=same_new hp3 (.lst [.bl false,.bl false,.bl b2,.bl false,.bl b4,.bl false,.bl false,.bl false])
 have f3:upd H2 p3 (.lst [.bl false,.bl false,.bl b2,.bl false,.bl b4,.bl false,.bl false,.bl false]) p3 = some (.lst [.bl false,.bl false,.bl b2,.bl false,.bl b4,.bl false,.bl false,.bl false]):=upd_same
 have s13:=s1.trans (s2.trans s3)
 have x3:=s13 _ _ e0
 walk_at "rd"
 generalize upd H2 p3 (.lst [.bl false,.bl false,.bl b2,.bl false,.bl b4,.bl false,.bl false,.bl false]) = H3 at s3 f3 s13 x3 ⊢
 refine ⟨_,false,x3,xc,Xn.kit m1 T.x_Twice,_,false,x3,xc,Xn.kit m9 T.x_Unlike,_,true,x3,xc,Xv.kit v,by decide,fun p4 hp4=>?_⟩
 have s4:=same_new hp4 (.lst [.bl false,.bl false,.bl true])
 have f4:upd H3 p4 (.lst [.bl false,.bl false,.bl true]) p4 = some (.lst [.bl false,.bl false,.bl true]):=upd_same
 have f34:=s4 _ _ f3
 generalize upd H3 p4 (.lst [.bl false,.bl false,.bl true]) = H4 at s4 f4 f34 ⊢
 walk_at "rd"
 refine ⟨[.bl false,.bl false,.bl b2,.bl false,.bl b4,.bl false,.bl false,.bl false],[.bl false,.bl false,.bl true],f34,f4,Nat.le_of_lt (sizeBig (by simp)),fun p5 hp5=>?_⟩
 exact q p5 _ (s13.free (s4.free hp5)) (s13.trans (s4.trans (same_new hp5 _))) upd_same
noncomputable def noDoorT:List Nat:=[78,111,68,111,111,114]
noncomputable def noHouseT:List Nat:=[78,111,72,111,117,115,101]
noncomputable def classL:List (List Nat):=[[66,97,100,87,111,114,100],[77,105,115,102,105,116],noDoorT,[78,111,70,105,101,108,100],noHouseT,[78,111,76,105,110,101],[78,111,82,117,108,101],[78,111,87,97,121],[84,119,105,99,101],[85,110,108,105,107,101]]
noncomputable def sp__law_marks_due (K:Frag):Sp:=fun vs H Q _=>match vs with
 | [.str n]=>∃ b:Bool,n = st (if b then noDoorT else noHouseT) /\ ∀ p H',H p = none -> Same H H' -> H' p = some (.lst (marksL b (!b))) -> Q (.ref p) H'
 | _=>False
theorem ok__law_marks_due (T:Top K mg):Callee P w K mg base 1 "_law_marks_due" ["_law_name"] (sp__law_marks_due K):=by
 refine T.f__law_marks_due.cal sc__law_marks_due (by intro vs H Q E h; unfold sp__law_marks_due at h; split at h <;> first | rfl | exact h.elim) (fun _ _ _ _ _ _ us hl=>match us,hl with | [_],_=>rfl) (fun f cdv A outer s H vs Q E hr h=>?_)
 unfold sp__law_marks_due at h
 split at h
 case h_2=>exact h.elim
 refine ⟨_,(pss_cons (ps_set (i:=1) sc__law_marks_due.nd rfl lc (pe_lst (pa_cons (qs [66,97,100,87,111,114,100]) (pa_cons (qs [77,105,115,102,105,116]) (pa_cons (qs [78,111,68,111,111,114]) (pa_cons (qs [78,111,70,105,101,108,100]) (pa_cons (qs [78,111,72,111,117,115,101]) (pa_cons (qs [78,111,76,105,110,101]) (pa_cons (qs [78,111,82,117,108,101]) (pa_cons (qs [78,111,87,97,121]) (pa_cons (qs [84,119,105,99,101]) (pa_cons (qs [85,110,108,105,107,101]) pa_nil))))))))))))
   (pss_one (ps_ret (pe_op op_addK (qe_comp (nt:=1) (fi:=[0]) (N':=["_law_own", "_law_name"]) rfl (cscope rfl (by decide +kernel)) (cnames (N:=["_law_name", "_law_some"]) (sc:=defScope s__law_marks_due) rfl rfl (by decide +kernel)) (gk_name (by decide)) (iterE K rfl (qv 1)) (fun _ _ _ _ _=>(pg_name (i:=0) (by show (["_law_own", "_law_name"]:List Str).Nodup; decide +kernel) rfl lc)) (fun _ _ _ _ _=>pif_nil) (fun _ _ _ _ _=>(qe_cmp op_eqK (qv 0) (qv 1)))) (pe_lst (pa_cons pe_bl pa_nil)))))),?_⟩
 rename_i n
 obtain ⟨b,rfl,q⟩:=h
 walk_at "rd"
 refine ⟨by decide,fun p hp=>?_⟩
 have s1:=same_new hp (.lst (classL.map tx))
 have e1:upd H p (.lst (classL.map tx)) p = some (.lst (classL.map tx)):=upd_same
 change ((∃ xs,SqL K (upd H p (.lst (classL.map tx))) p xs) /\ ∀ D,upd H p (.lst (classL.map tx)) D = none -> compW _ _ _ _ _ D _ (upd H p (.lst (classL.map tx)))) \/ _
 generalize upd H p (.lst (classL.map tx)) = H1 at s1 e1 ⊢
 have hcl:classL.length <= 100000:=by simp [classL]
 refine .inl ⟨⟨_,SqL.of e1⟩,fun D hD=>?_⟩
 refine comp_list (item:=tx) (xs:=classL) (h:=fun x=>[V.bl (decide (x = if b then noDoorT else noHouseT))]) hD (SqL.of e1) hcl (fun _=>by simp) ?_ ?_
 ·intro x H2 out non hx s2 ho _
  walk_at "rd"
  exact ho _ _ rfl (Same.refl _)
 intro H2 s2 e2
 have e3:classL.flatMap (fun x=>[V.bl (decide (x = if b then noDoorT else noHouseT))]) ++ [V.bl true] = marksL b (!b):=by cases b <;> rfl
 refine ⟨by decide,fun p3 hp3=>?_⟩
 have s3:=same_new hp3 (.lst [V.bl true])
 walk_at "rd"
 refine ⟨_,_,s3 _ _ e2,upd_same,Nat.le_of_lt (sizeBig (by rw [flat_one' (fun x=>V.bl (decide (x = if b = true then noDoorT else noHouseT))),List.length_map]; simp [classL])),fun p4 hp4=>?_⟩
 have s4:=same_new hp4 (.lst (classL.flatMap (fun x=>[V.bl (decide (x = if b then noDoorT else noHouseT))]) ++ [V.bl true]))
 exact q p4 _ (s1.free (s2.free (s3.free hp4))) (s1.trans (s2.trans (s3.trans s4))) (by rw [upd_same,e3])
def OptV (H:Hp) (o:Option Way) (v:V):Prop:=match o with
 | none=>v = .non
 | some y=>WayAt H y v
theorem OptV.same {H H':Hp} (s:Same H H') {o:Option Way} {v:V} (h:OptV H o v):OptV H' o v:=by
 cases o with
 | none=>exact h
 | some y=>
  obtain ⟨t,e2,h2⟩:=h
  exact ⟨t,e2,s _ _ h2⟩
noncomputable def optD:Option Way -> D
 | none=>.f .non
 | some y=>wayD y
theorem opt_th {H:Hp} {o:Option Way} {v:V} (n:Nat) (h:OptV H o v):Th H (n + 1) v (optD o):=by
 cases o with
 | none=>rw [show v = .non from h]; exact th_flat (n + 1) rfl
 | some y=>exact way_th n h
theorem eqD_way (x y:Way):eqD (wayD x) (wayD y) = decide (x = y):=by
 have txs:∀ x y:List Nat,eqV (tx x) (tx y) = decide (x = y):=fun x y=>by
  show (st x == st y) = _
  rw [Bool.eq_iff_iff,beq_iff_eq,st_inj,decide_eq_true_eq]
 unfold wayD
 simp only [eqD,eqDs,Bool.and_true,txs]
 rw [Bool.eq_iff_iff]
 simp [Prod.ext_iff]
theorem way_deep {H:Hp} {x:Way} {v:V} (h:WayAt H x v):Deep K H 1 v (wayD x):=by
 obtain ⟨t,rfl,e⟩:=h
 exact .inr (.inr ⟨t,_,_,rfl,rfl,SqT.of e,.cons ⟨rfl,rfl⟩ (.cons ⟨rfl,rfl⟩ .nil)⟩)
theorem beyond_cons (y:Line) (ls:List Line) (x:Way):beyondL (y :: ls) x = if y.1 = x then some y.2 else if y.2 = x then some y.1 else beyondL ls x:=rfl
noncomputable def sp__law_beyond (K:Frag):Sp:=fun vs H Q _=>match vs with
 | [.ref p,.ref t]=>∃ (ls:List Line) (x:Way),Lines H p ls /\ WayAt H x (.ref t) /\ ∀ v H',Same H H' -> OptV H' (beyondL ls x) v -> Q v H'
 | _=>False
theorem ok__law_beyond (T:Top K mg):Callee P w K mg base 1 "_law_beyond" ["_law_lines_here", "_law_spot"] (sp__law_beyond K):=by
 refine T.f__law_beyond.cal sc__law_beyond (by intro vs H Q E h; unfold sp__law_beyond at h; split at h <;> first | rfl | exact h.elim) (fun _ _ _ _ _ _ us hl=>match us,hl with | [_,_],_=>rfl) (fun f cdv A outer s H vs Q E hr h=>?_)
 unfold sp__law_beyond at h
 split at h
 case h_2=>exact h.elim
 refine ⟨_,(pss_cons (qs_for PassesOwn.never rfl (iterE K rfl (qv 0)) (tupE K rfl rfl (n:=2) (pgs_cons (pg_name (i:=2) sc__law_beyond.nd rfl lc) (pgs_cons (pg_name (i:=3) sc__law_beyond.nd rfl lc) pgs_nil))) (pss_cons (ps_if (qt_cmp (eqDE K rfl hr) (qv 2) (qv 1)) (pss_one (ps_ret (qv 3))) pss_nil)
   (pss_one (ps_if (qt_cmp (eqDE K rfl hr) (qv 3) (qv 1)) (pss_one (ps_ret (qv 2))) pss_nil))))
   (pss_one (ps_ret pe_non))),?_⟩
 rename_i p t
 obtain ⟨ls,x,⟨vs,e0,pr⟩,⟨t',et',ht⟩,q⟩:=h
 cases et'
 have hl:=pr.length
 walk_at "rd"
 refine .inl ⟨⟨_,SqL.of e0⟩,?_⟩
 refine loop_list (xs:=vs) (fun i σ H'=>∃ u v,σ = [some (.ref p),some (.ref t),u,v] /\ H' = H /\ beyondL ls x = beyondL (ls.drop i) x) ⟨none,none,rfl,rfl,rfl⟩ (fun i σ H' _ ⟨_,_,_,z,_⟩=>by rw [z]; exact SqL.of e0) ?_ ?_
 ·rintro i y σ H1 hy ⟨u,v,rfl,rfl,hb⟩
  have hi:i < vs.length:=(List.getElem?_eq_some_iff.mp hy).1
  have hil:i < ls.length:=by omega
  obtain ⟨y',hy',t0,u1,u2,ey,et,⟨t1,rfl,h1⟩,⟨t2,rfl,h2⟩⟩:=paired_at pr (List.getElem?_eq_getElem hil)
  obtain rfl:y = .ref t0:=by rw [hy'] at hy; rw [<- Option.some.inj hy,ey]
  refine ⟨t0,[_,_],rfl,SqT.of et,rfl,_,[_],rfl,_,[],rfl,rfl,?_⟩
  walk_at "rd"
  rw [List.drop_eq_getElem_cons hil] at hb
  refine ⟨1,_,_,by decide,way_deep ⟨t1,rfl,h1⟩,way_deep ⟨t,rfl,ht⟩,?_⟩
  rw [eqD_way]
  rw [beyond_cons] at hb
  by_cases c1:ls[i].1 = x
  ·rw [if_pos (decide_eq_true c1)]
   rw [if_pos c1] at hb
   refine q _ _ (Same.refl _) ?_
   rw [hb]
   exact ⟨t2,rfl,h2⟩
  ·rw [if_neg (by simpa using c1)]
   refine ⟨1,_,_,by decide,way_deep ⟨t2,rfl,h2⟩,way_deep ⟨t,rfl,ht⟩,?_⟩
   rw [eqD_way]
   rw [if_neg c1] at hb
   by_cases c2:ls[i].2 = x
   ·rw [if_pos (decide_eq_true c2)]
    rw [if_pos c2] at hb
    refine q _ _ (Same.refl _) ?_
    rw [hb]
    exact ⟨t1,rfl,h1⟩
   ·rw [if_neg (by simpa using c2)]
    rw [if_neg c2] at hb
    exact ⟨_,_,rfl,hb⟩
 ·rintro σ H1 ⟨u,v,rfl,rfl,hb⟩
  walk_at "rd"
  rw [<- hl,List.drop_length] at hb
  refine q _ _ (Same.refl _) ?_
  rw [hb]
  exact rfl
noncomputable def sp__law_refused (K:Frag):Sp:=fun vs H Q _=>match vs with
 | [.ref t,.str n,d]=>∃ (N:Net) (b:Bool),NetAt H t N /\ (∀ c ∈ n.cps.toList,c < 16 ^ 8) /\ n.cps.toList.length <= 1000 /\ N.2.2.length <= 500 /\ (endsOf N.2.2).Nodup /\
   ((d = .non /\ b = false /\ houseOf N.2.1 n.cps.toList = none) \/ ∃ m:Str,d = .str m /\ (∀ c ∈ m.cps.toList,c < 16 ^ 8) /\ m.cps.toList.length <= 1000 /\ ((b = false /\ houseOf N.2.1 n.cps.toList = none) \/ (b = true /\ ∃ h,houseOf N.2.1 n.cps.toList = some h /\ gateOf h.1 m.cps.toList = none))) /\
   ∀ p H',H p = none -> Same H H' -> H' p = some (.lst (marksL b (!b))) -> Q (.ref p) H'
 | _=>False
theorem ok__law_refused (T:Top K mg):Callee P w K mg base 4 "_law_refused" ["_law_net_here", "_law_house_here", "_law_door"] (sp__law_refused K):=by
 refine T.f__law_refused.cal sc__law_refused (by intro vs H Q E h; unfold sp__law_refused at h; split at h <;> first | rfl | exact h.elim) (fun _ _ _ _ _ _ us hl=>match us,hl with | [_,_,_],_=>rfl) (fun f cdv A outer s H vs Q E hr h=>?_)
 unfold sp__law_refused at h
 split at h
 case h_2=>exact h.elim
 refine ⟨_,(pss_cons (ps_set (i:=3) sc__law_refused.nd rfl lc (pe_lst pa_nil))
   (pss_join (ps_tryAs (D:=xA K "ThrongError") (i:=4) (fun _ _=>(pss_one (ps_if (qt_cmp op_isK (qv 2) pe_non) (pss_one (ps_expr (pe_fnT (ok_net_house T) hr.m passesT rfl (pa_cons (qv 0) (pa_cons (qv 1) pa_nil))))) (pss_one (ps_expr (pe_fnT (ok_net_tied T) hr.m passesT rfl (pa_cons (qv 0) (pa_cons (qv 1) (pa_cons (qv 2) pa_nil))))))))) (fun _=>(pss_one (ps_set (i:=3) sc__law_refused.nd rfl lc (pe_fnH (ok__law_marks T) ((hr.h.mark _).mono (by first | decide | omega)) rfl (pa_cons (qv 4) pa_nil))))) rfl rfl rfl T.x_ThrongError.1 T.x_ThrongError.2 sc__law_refused.nd rfl rfl)
   (pss_one (ps_ret (qv 3))))),?_⟩
 rename_i t n d
 obtain ⟨N,b,hN,h1,h2,h3,h4,hc,q⟩:=h
 walk_at "rd"
 refine ⟨by decide,fun p hp=>?_⟩
 have s1:=same_new hp (.lst [])
 rcases hc with ⟨rfl,rfl,hno⟩ | ⟨m,rfl,k1,k2,hc⟩
 ·walk_at "rd"
  refine ⟨fun σ' H'=>∃ (p':Addr) (d:V),σ' = [some (.ref t),some (.str n),some d,some (.ref p'),none] /\ Q (.ref p') H',⟨N,hN.same s1,h1,h2,fun h eh=>(by rw [hno] at eh; cases eh),fun _ H2 s2=>⟨_,rfl,T.m_NoHouse_ThrongError.caught,fun ea hea=>?_⟩⟩,?_⟩
  ·refine ⟨"NoHouse",false,true,upd_same,T.x_NoHouse.2,T.m_NoHouse_Misfit,T.m_NoHouse_Twice,T.m_NoHouse_NoField,T.m_NoHouse_NoRule,T.m_NoHouse_NoWay,T.m_NoHouse_NoDoor,T.m_NoHouse_NoHouse,T.m_NoHouse_NoLine,T.m_NoHouse_BadWord,T.m_NoHouse_Unlike,T.v_NoHouse,fun p3 H3 hp3 s3 e3=>?_⟩
   exact ⟨p3,_,rfl,q p3 H3 (s1.free (s2.free ((same_new hea _).free hp3))) (s1.trans (s2.trans ((same_new hea _).trans s3))) e3⟩
  ·rintro σ' H2 ⟨p',d,rfl,hq⟩
   exact hq
 ·walk_at "rd"
  refine ⟨fun σ' H'=>∃ (p':Addr) (d:V),σ' = [some (.ref t),some (.str n),some d,some (.ref p'),none] /\ Q (.ref p') H',?_,?_⟩
  ·rw [if_neg (fun z=>nomatch z)]
   rcases hc with ⟨rfl,hno⟩ | ⟨rfl,h,hh,hg⟩
   ·refine ⟨N,hN.same s1,h1,h2,k1,k2,h3,h4,fun h eh=>(by rw [hno] at eh; cases eh),fun _ H2 s2=>⟨_,rfl,T.m_NoHouse_ThrongError.caught,fun ea hea=>?_⟩⟩
    refine ⟨"NoHouse",false,true,upd_same,T.x_NoHouse.2,T.m_NoHouse_Misfit,T.m_NoHouse_Twice,T.m_NoHouse_NoField,T.m_NoHouse_NoRule,T.m_NoHouse_NoWay,T.m_NoHouse_NoDoor,T.m_NoHouse_NoHouse,T.m_NoHouse_NoLine,T.m_NoHouse_BadWord,T.m_NoHouse_Unlike,T.v_NoHouse,fun p3 H3 hp3 s3 e3=>?_⟩
    exact ⟨p3,_,rfl,q p3 H3 (s1.free (s2.free ((same_new hea _).free hp3))) (s1.trans (s2.trans ((same_new hea _).trans s3))) e3⟩
   ·refine ⟨N,hN.same s1,h1,h2,k1,k2,h3,h4,fun h' eh=>?_,fun z=>(by rw [hh] at z; cases z)⟩
    rw [hh] at eh
    cases eh
    refine ⟨fun rs er=>(by rw [hg] at er; cases er),fun _ H2 s2=>⟨_,rfl,T.m_NoDoor_ThrongError.caught,fun ea hea=>?_⟩⟩
    refine ⟨"NoDoor",true,false,upd_same,T.x_NoDoor.2,T.m_NoDoor_Misfit,T.m_NoDoor_Twice,T.m_NoDoor_NoField,T.m_NoDoor_NoRule,T.m_NoDoor_NoWay,T.m_NoDoor_NoDoor,T.m_NoDoor_NoHouse,T.m_NoDoor_NoLine,T.m_NoDoor_BadWord,T.m_NoDoor_Unlike,T.v_NoDoor,fun p3 H3 hp3 s3 e3=>?_⟩
    exact ⟨p3,_,rfl,q p3 H3 (s1.free (s2.free ((same_new hea _).free hp3))) (s1.trans (s2.trans ((same_new hea _).trans s3))) e3⟩
  ·rintro σ' H2 ⟨p',d,rfl,hq⟩
   exact hq
noncomputable def sp__law_house_told (K:Frag):Sp:=fun vs H Q _=>match vs with
 | [.ref t,.str n,.ref hh]=>∃ (N:Net) (h:House),NetAt H t N /\ (∀ c ∈ n.cps.toList,c < 16 ^ 8) /\ n.cps.toList.length <= 1000 /\ houseOf N.2.1 n.cps.toList = some h /\ HouseAt H hh h /\ h.1.length <= 100 /\ h.2.length <= 100 /\ (∀ x ∈ h.1,x.2.length <= 1000) /\ ∀ H',Same H H' -> Q (.bl true) H'
 | _=>False
theorem ok__law_house_told (T:Top K mg):Callee P w K mg base 12 "_law_house_told" ["_law_handed", "_law_name", "_law_house_here"] (sp__law_house_told K):=by
 refine T.f__law_house_told.cal sc__law_house_told (by intro vs H Q E h; unfold sp__law_house_told at h; split at h <;> first | rfl | exact h.elim) (fun _ _ _ _ _ _ us hl=>match us,hl with | [_,_,_],_=>rfl) (fun f cdv A outer s H vs Q E hr h=>?_)
 unfold sp__law_house_told at h
 split at h
 case h_2=>exact h.elim
 refine ⟨_,(pss_cons (ps_set (i:=3) sc__law_house_told.nd rfl lc (pe_fn (ok_net_house T).calm hr.m rfl (pa_cons (qv 0) (pa_cons (qv 1) pa_nil))))
   (pss_cons (ps_if (pt_not (qt_val (pe_fn (ok__law_same T) hr.m rfl (pa_cons (qv 3) (pa_cons (qv 2) pa_nil))))) (pss_one (ps_ret pe_bl)) pss_nil)
   (pss_cons (qs_for PassesOwn.never rfl (iterE K rfl (pe_ix (ixE K rfl) (qv 3) pe_int (fun _ _=>rfl))) (tupE K rfl rfl (n:=2) (pgs_cons (pg_name (i:=4) sc__law_house_told.nd rfl lc) (pgs_cons (pg_name (i:=5) sc__law_house_told.nd rfl lc) pgs_nil))) (pss_one (ps_expr (qe_append (qv 5) (pe_tup (pa_cons (qs []) (pa_cons (qs [100,114,111,112]) (pa_cons (qs []) pa_nil))))))))
   (pss_cons (ps_expr (qe_insert (pe_ix (ixE K rfl) (qv 3) pe_int (fun _ _=>rfl)) pe_int (pe_tup (pa_cons (qs [97]) (pa_cons (pe_lst pa_nil) pa_nil)))))
   (pss_cons (ps_expr (qe_insert (pe_ix (ixE K rfl) (qv 3) pe_int (fun _ _=>rfl)) pe_int (pe_tup (pa_cons (qs [48]) (pa_cons (qs [97]) pa_nil)))))
   (pss_one (ps_ret pe_bl))))))),?_⟩
 rename_i t n hh
 obtain ⟨N,h,hN,h1,h2,eh,hH,k1,k2,k3,q⟩:=h
 walk_at "rd"
 refine ⟨N,hN,h1,h2,fun h' eh'=>?_,fun z=>by rw [eh] at z; cases z⟩
 rw [eh] at eh'
 cases eh'
 refine ⟨⟨k1,k2,k3⟩,fun fq g w H1 hfq hg hw s1 hn=>?_⟩
 walk_at "rd"
 refine ⟨5,houseD h,by decide,house_th 0 hn.at (by omega) (by omega) k3,house_th 0 (hH.same s1) (by omega) (by omega) k3,fun H2 s2=>?_⟩
 walk_at "rd"
 have hn2:=hn.same s2
 have etq:=hn2.tup
 obtain ⟨gv,eg,pg⟩:=hn2.gates
 obtain ⟨wv,ew,pw⟩:=hn2.ways
 have hgl:=pg.length
 have hwl:=pw.length
 have s12:=s1.trans s2
 refine ⟨_,_,.inr (SqT.of etq),rfl,?_⟩
 walk_at "rd"
 refine .inl ⟨⟨_,SqL.of eg⟩,?_⟩
 refine loop_list (xs:=gv) (fun i σ H'=>∃ u v,σ = [some (.ref t),some (.str n),some (.ref hh),some (.ref fq),u,v] /\ Same H H' /\ H' g = some (.lst gv) /\ H' w = some (.lst wv) /\ H' fq = some (.tup [.ref g,.ref w]) /\ ∀ y ∈ gv,∃ t' x r us,y = .ref t' /\ H' t' = some (.tup [tx x,.ref r]) /\ (r ≠ g /\ r ≠ w /\ H r = none) /\ H' r = some (.lst us) /\ us.length <= 1000 + i) ⟨none,none,rfl,s12,eg,ew,etq,fun y hy=>?_⟩ (fun i σ H' _ ⟨_,_,_,_,z,_⟩=>SqL.of z) ?_ ?_
 ·obtain ⟨z1,z2⟩:=paired_zip pg
  obtain ⟨x,hx,e⟩:∃ x ∈ h.1.zip gv,x.2 = y:=by
   rw [<- z1] at hy
   obtain ⟨x,hx,e⟩:=List.mem_map.mp hy
   exact ⟨x,hx,e⟩
  obtain ⟨t',r,ex,nr,et,⟨rv,er,pr⟩⟩:=z2 x hx
  have:=pr.length
  have:=k3 x.1 (List.of_mem_zip hx).1
  exact ⟨t',x.1.1,r,rv,by rw [<- e,ex],et,nr,er,by omega⟩
 ·rintro i y σ H3 hy ⟨u,v,rfl,s3,eg3,ew3,etq3,hall⟩
  obtain ⟨t',x,r,us,rfl,et,nr,er,hl⟩:=hall y (List.mem_of_getElem? hy)
  have hi:i < gv.length:=(List.getElem?_eq_some_iff.mp hy).1
  refine ⟨t',[_,_],rfl,SqT.of et,rfl,_,[_],rfl,_,[],rfl,rfl,?_⟩
  walk_at "rd"
  refine ⟨⟨_,er⟩,by decide,fun t4 ht4=>?_⟩
  have s4:=same_new ht4 (.tup [V.str (st []),V.str (st [100,114,111,112]),V.str (st [])])
  have er4:=s4 _ _ er
  have kt:∀ t ts,H3 t = some (.tup ts) -> upd (upd H3 t4 (.tup [V.str (st []),V.str (st [100,114,111,112]),V.str (st [])])) r (.lst (us ++ [.ref t4])) t = some (.tup ts):=fun t ts z=>keep_lst er4 _ _ (s4 _ _ z)
  refine ⟨us,er4,sizeBig (by omega),_,_,rfl,same_upd (s3.trans s4) nr.2.2,by rw [upd_ne (Ne.symm nr.1)]; exact s4 _ _ eg3,by rw [upd_ne (Ne.symm nr.2.1)]; exact s4 _ _ ew3,kt _ _ etq3,fun y hy=>?_⟩
  obtain ⟨t5,x5,r5,us5,e5,et5,nr5,er5,hl5⟩:=hall y hy
  by_cases c:r5 = r
  ·subst c
   exact ⟨t5,x5,r5,_,e5,kt _ _ et5,nr5,upd_same,by rw [List.length_append,List.length_singleton]; omega⟩
  ·exact ⟨t5,x5,r5,us5,e5,kt _ _ et5,nr5,by rw [upd_ne c]; exact s4 _ _ er5,by omega⟩
 ·rintro σ H3 ⟨u,v,rfl,s3,eg3,ew3,etq3,hall⟩
  walk_at "rd"
  refine ⟨_,_,.inr (SqT.of etq3),rfl,?_⟩
  refine ⟨⟨_,eg3⟩,Nat.zero_le _,fun p5 hp5=>⟨by decide,fun p6 hp6=>?_⟩⟩
  have s5:=same_new hp5 (.lst [])
  have s6:=same_new hp6 (.tup [V.str (st [97]),V.ref p5])
  have s56:=s5.trans s6
  have eg6:=s56 _ _ eg3
  have nwg:w ≠ g:=Ne.symm hn2.ne
  refine ⟨gv,0,rfl,eg6,Nat.zero_le _,by omega,?_⟩
  have s7:Same H (upd (upd (upd H3 p5 (.lst [])) p6 (.tup [V.str (st [97]),V.ref p5])) g (.lst (insAt gv 0 (V.ref p6)))):=same_upd (s3.trans s56) hg
  have etq7:upd (upd (upd H3 p5 (.lst [])) p6 (.tup [V.str (st [97]),V.ref p5])) g (.lst (insAt gv 0 (V.ref p6))) fq = some (.tup [.ref g,.ref w]):=keep_lst eg6 _ _ (s56 _ _ etq3)
  have ew7:upd (upd (upd H3 p5 (.lst [])) p6 (.tup [V.str (st [97]),V.ref p5])) g (.lst (insAt gv 0 (V.ref p6))) w = some (.lst wv):=by rw [upd_ne nwg]; exact s56 _ _ ew3
  generalize upd (upd (upd H3 p5 (.lst [])) p6 (.tup [V.str (st [97]),V.ref p5])) g (.lst (insAt gv 0 (V.ref p6))) = H7 at s7 etq7 ew7 ⊢
  refine ⟨_,_,.inr (SqT.of etq7),rfl,?_⟩
  refine ⟨⟨_,ew7⟩,by decide,fun p8 hp8=>?_⟩
  have s8:=same_new hp8 (.tup [V.str (st [48]),V.str (st [97])])
  refine ⟨wv,0,rfl,s8 _ _ ew7,Nat.zero_le _,by omega,?_⟩
  exact q _ (same_upd (s7.trans s8) hw)
theorem ways_th {H:Hp} {p:Addr} {ws:List Way} (n:Nat) (h:Ways H p ws) (hl:ws.length <= 1000):Th H (n + 2) (.ref p) (.l (ws.map wayD)):=by
 obtain ⟨vs,e,pr⟩:=h
 exact mk_l e (by rw [<- pr.length]; exact hl) (paired_flip (fun x v z=>way_th n z) pr)
noncomputable def pickN (a b:V):List V:=match b with
 | .non=>[a]
 | _=>[]
theorem pick_len (a b:V):(pickN a b).length <= 1:=by
 unfold pickN
 split <;> simp
theorem open_vals {H:Hp} {ls:List Line}:∀ {ws:List Way} {sv bv:List V},Paired (WayAt H) ws sv -> Paired (fun x v=>OptV H (beyondL ls x) v) ws bv -> Paired (WayAt H) (openL ls ws) ((sv.zip bv).flatMap fun p=>pickN p.1 p.2)
 | _,_,_,.nil,.nil=>.nil
 | x :: ws,a :: sv,b :: bv,.cons r p,.cons r2 p2=>by
  have ih:=open_vals p p2
  unfold openL at ih ⊢
  rw [List.zip_cons_cons,List.flatMap_cons,List.filter_cons]
  cases eb:beyondL ls x with
  | none=>
   rw [eb] at r2
   rw [show b = .non from r2]
   exact .cons r ih
  | some y=>
   rw [eb] at r2
   obtain ⟨t,rfl,_⟩:=r2
   exact ih
noncomputable def sp__law_all_told (K:Frag):Sp:=fun vs H Q _=>match vs with
 | [.ref nh,.ref hd]=>∃ N:Net,NetAt H nh N /\ NetAt H hd N /\ NetOk N /\ (spotsOf N.2.1).length < 64 /\ ∀ H',Same H H' -> Q (.bl true) H'
 | _=>False
theorem ok__law_all_told (T:Top K mg):Callee P w K mg base 12 "_law_all_told" ["_law_net_here", "_law_handed"] (sp__law_all_told K):=by
 refine T.f__law_all_told.cal sc__law_all_told (by intro vs H Q E h; unfold sp__law_all_told at h; split at h <;> first | rfl | exact h.elim) (fun _ _ _ _ _ _ us hl=>match us,hl with | [_,_],_=>rfl) (fun f cdv A outer s H vs Q E hr h=>?_)
 unfold sp__law_all_told at h
 split at h
 case h_2=>exact h.elim
 refine ⟨_,(pss_cons (ps_set (i:=2) sc__law_all_told.nd rfl lc (pe_callB (call_sortedQ K rfl) rfl T.b_sorted bb_sorted (pa_cons (pe_fn (ok__law_spots T) hr.m rfl (pa_cons (pe_ix (ixE K rfl) (qv 0) pe_int (fun _ _=>rfl)) pa_nil)) pa_nil)))
   (pss_cons (ps_setC (i:=3) (nt:=1) (fi:=[0]) (N':=["_law_spot", "_law_net_here"]) sc__law_all_told.nd rfl lc rfl (cscope rfl (by decide +kernel)) (cnames (N:=["_law_net_here", "_law_handed", "_law_spots_here", "_law_beyond_here", "_law_found", "_law_part"]) (sc:=defScope s__law_all_told) rfl rfl (by decide +kernel)) (gk_name (by decide)) (iterE K rfl (qv 2)) (fun _ _ _ _ _=>(pg_name (i:=0) (by show (["_law_spot", "_law_net_here"]:List Str).Nodup; decide +kernel) rfl lc)) (fun _ _ _ _ _=>pif_nil) (fun _ _ _ _ _=>(pe_fn (ok__law_beyond T) hr.m rfl (pa_cons (pe_ix (ixE K rfl) (qv 1) pe_int (fun _ _=>rfl)) (pa_cons (qv 0) pa_nil)))))
   (pss_cons (ps_set (i:=4) sc__law_all_told.nd rfl lc (pe_lst (pa_cons (pe_fn (ok_net_spots T) hr.m rfl (pa_cons (qv 1) pa_nil)) (pa_cons (pe_fn (ok_net_open T) hr.m rfl (pa_cons (qv 1) pa_nil)) pa_nil))))
   (pss_cons (ps_if (pt_not (qt_val (pe_fn (ok__law_same T) hr.m rfl (pa_cons (pe_ix (ixE K rfl) (qv 4) pe_int (fun _ _=>rfl)) (pa_cons (qv 2) pa_nil))))) (pss_one (ps_ret pe_bl)) pss_nil)
   (pss_cons (ps_if (pt_not (qt_val (pe_fn (ok__law_same T) hr.m rfl (pa_cons (pe_ix (ixE K rfl) (qv 4) pe_int (fun _ _=>rfl)) (pa_cons (qe_comp (nt:=2) (fi:=[]) (N':=["_law_spot", "_law_other"]) rfl (cscope rfl (by decide +kernel)) (cnames (N:=["_law_net_here", "_law_handed", "_law_spots_here", "_law_beyond_here", "_law_found", "_law_part"]) (sc:=defScope s__law_all_told) rfl rfl (by decide +kernel)) (gk_tup2 (by decide) (by decide)) (zipE K rfl rfl T.b_zip (qv 2) (qv 3)) (fun _ _ _ _ _=>(tupE K rfl rfl (n:=2) (pgs_cons (pg_name (i:=0) (by show (["_law_spot", "_law_other"]:List Str).Nodup; decide +kernel) rfl lc) (pgs_cons (pg_name (i:=1) (by show (["_law_spot", "_law_other"]:List Str).Nodup; decide +kernel) rfl lc) pgs_nil)))) (fun _ _ _ _ _=>(pif_one (qt_cmp op_isK (qv 1) pe_non))) (fun _ _ _ _ _=>(qv 0))) pa_nil))))) (pss_one (ps_ret pe_bl)) pss_nil)
   (pss_cons (qs_for PassesOwn.never rfl (iterE K rfl (qv 4)) (pg_name (i:=5) sc__law_all_told.nd rfl lc) (pss_one (ps_expr (qe_append (qv 5) (pe_tup (pa_cons (qs [97]) (pa_cons (qs [98]) pa_nil)))))))
   (pss_one (ps_ret (pe_fn (ok__law_same T) hr.m rfl (pa_cons (qe_comp (nt:=1) (fi:=[1]) (N':=["_law_spot", "_law_handed"]) rfl (cscope rfl (by decide +kernel)) (cnames (N:=["_law_net_here", "_law_handed", "_law_spots_here", "_law_beyond_here", "_law_found", "_law_part"]) (sc:=defScope s__law_all_told) rfl rfl (by decide +kernel)) (gk_name (by decide)) (iterE K rfl (qv 2)) (fun _ _ _ _ _=>(pg_name (i:=0) (by show (["_law_spot", "_law_handed"]:List Str).Nodup; decide +kernel) rfl lc)) (fun _ _ _ _ _=>pif_nil) (fun _ _ _ _ _=>(pe_fn (ok_net_tied T).calm hr.m rfl (pa_cons (qv 1) (pa_cons (pe_ix (ixE K rfl) (qv 0) pe_int (fun _ _=>rfl)) (pa_cons (pe_ix (ixE K rfl) (qv 0) pe_int (fun _ _=>rfl)) pa_nil)))))) (pa_cons (qv 3) pa_nil))))))))))),?_⟩
 rename_i nh hd
 obtain ⟨N,hN,hDn,nok,h64,q⟩:=h
 have g8:∀ x ∈ N.2.1,x.2.1.length <= 100:=fun x hx=>Nat.le_trans (nok.house x hx).g3 (by decide)
 have snd:=spots_nd (hs:=N.2.1) nok.nd fun y hy=>(nok.house y hy).nd
 have h100:=nok.h100
 have l500:=nok.l500
 walk_at "rd"
 obtain ⟨pa,pb,pc,eN,hL,hHs,hLn⟩:=id hN
 refine ⟨_,_,.inr (SqT.of eN),rfl,N.2.1,hHs,by omega,g8,fun sq H1 hsq s1 hW=>?_⟩
 obtain ⟨v1,e1,p1⟩:=hW
 refine ⟨spotsOf N.2.1,v1,SqL.of e1,p1,snd,h64,fun ss ws sv hss hp hsrt p2=>?_⟩
 have s2:=same_new hss (.lst sv)
 have s12:=s1.trans s2
 have hso:SortedOf (spotsOf N.2.1) ws:=⟨hp,hsrt⟩
 have e2:upd H1 ss (.lst sv) ss = some (.lst sv):=upd_same
 have p2':Paired (WayAt (upd H1 ss (.lst sv))) ws sv:=ways_keep (fun _ _ z=>s2 _ _ z) p2
 generalize upd H1 ss (.lst sv) = H2 at s2 s12 e2 p2' ⊢
 clear p2
 have hwl:=p2'.length
 have hw64:ws.length < 64:=by rw [hp.length_eq]; exact h64
 obtain ⟨z1,z2⟩:=paired_zip p2'
 walk_at "rd"
 refine .inl ⟨⟨_,SqL.of e2⟩,fun D hD=>?_⟩
 refine comp_rel (item:=fun x:Way × V=>x.2) (ws.zip sv) (fun _=>true) (fun x v H'=>OptV H' (beyondL N.2.2 x.1) v) hD (by rw [z1]; exact SqL.of e2) (by rw [List.length_zip]; omega) ?_ ?_ ?_
 ·rintro x v H3 H4 acc hd k h
  cases eb:beyondL N.2.2 x.1 with
  | none=>rw [eb] at h; exact h
  | some y=>
   rw [eb] at h
   obtain ⟨t',rfl,et'⟩:=h
   exact ⟨t',rfl,k t' _ (fun z=>by rw [z,hd] at et'; cases et') et'⟩
 ·intro x H3 out non hx s3 ho _
  obtain ⟨t',ex,et'⟩:=z2 x hx
  rw [ex]
  walk_at "rd"
  refine ⟨_,_,.inr (SqT.of ((s12.trans s3) _ _ eN)),rfl,N.2.2,x.1,hLn.same (s12.trans s3),⟨t',rfl,s3 _ _ et'⟩,fun v H4 s4 ov=>ho _ _ rfl s4 ov⟩
 ·intro H3 bv s3 e3 p3
  have hf:(ws.zip sv).filter (fun _=>true) = ws.zip sv:=List.filter_eq_self.mpr fun _ _=>rfl
  rw [hf] at p3
  have hz:(ws.zip sv).map Prod.fst = ws:=zip_fst hwl
  have p4:Paired (fun x v=>OptV H3 (beyondL N.2.2 x) v) ws bv:=by
   conv=>arg 2; rw [<- hz]
   exact paired_mapL p3
  have s13:=s12.trans s3
  walk_at "rd"
  refine ⟨N,hDn.same s13,by omega,g8,snd,h64,fun f0 H4 ws2 hf0 s4 hW4 hso4=>?_⟩
  obtain rfl:=sorted_one hso hso4
  walk_at "rd"
  refine ⟨N,hDn.same (s13.trans s4),by omega,g8,snd,h64,l500,nok.ends,fun f1 H5 ws3 hf1 s5 hso5 hW5=>?_⟩
  obtain rfl:=sorted_one hso hso5
  walk_at "rd"
  refine ⟨by decide,fun fp hfp=>?_⟩
  have s6:=same_new hfp (.lst [V.ref f0,V.ref f1])
  have e6:upd H5 fp (.lst [V.ref f0,V.ref f1]) fp = some (.lst [V.ref f0,V.ref f1]):=upd_same
  generalize upd H5 fp (.lst [V.ref f0,V.ref f1]) = H6 at s6 e6 ⊢
  have s46:=s4.trans (s5.trans s6)
  have e26:=s46 _ _ (s3 _ _ e2)
  have w26:Ways H6 ss ws:=⟨sv,e26,ways_keep (fun _ _ z=>s46 _ _ (s3 _ _ z)) p2'⟩
  refine ⟨_,V.ref f0,.inl (SqL.of e6),atI_nat (j:=0) rfl,2,.l (ws.map wayD),by decide,ways_th 0 (hW4.same (s5.trans s6)) (by omega),ways_th 0 w26 (by omega),fun H7 s7=>?_⟩
  walk_at "rd"
  have e37:=s7 _ _ (s46 _ _ e3)
  have e27:=s7 _ _ e26
  have s37:=s46.trans s7
  refine ⟨_,V.ref f1,.inl (SqL.of (s7 _ _ e6)),atI_nat (j:=1) rfl,⟨_,SqL.of e27⟩,⟨_,SqL.of e37⟩,fun D2 hD2=>?_⟩
  have w47:Paired (WayAt H7) ws sv:=ways_keep (fun _ _ z=>s37 _ _ (s3 _ _ z)) p2'
  have p47:Paired (fun x v=>OptV H7 (beyondL N.2.2 x) v) ws bv:=L2.Paired.mapP p4 fun _ _ z=>OptV.same s37 z
  have hbl:=p47.length
  refine comp_zip (us:=sv) (ws:=bv) (h:=pickN) hD2 (fun H' s'=>SqL.of (s' _ _ e27)) (fun H' s'=>SqL.of (s' _ _ e37)) (by omega) pick_len ?_ ?_
  ·intro a b H8 out non hab s8 ho hno
   walk_at "rd"
   by_cases c:b = .non
   ·subst c
    rw [if_pos rfl]
    exact ho _ _ rfl (Same.refl _)
   ·rw [if_neg c]
    refine hno _ ?_ (Same.refl _)
    unfold pickN
    split
    ·exact absurd rfl c
    ·rfl
  ·intro H8 s8 e8
   have s38:=s37.trans s8
   have w8:Ways H8 D2 (openL N.2.2 ws):=⟨_,e8,ways_keep (fun _ _ z=>s8 _ _ z) (open_vals w47 p47)⟩
   have hol:(openL N.2.2 ws).length <= ws.length:=List.length_filter_le _ _
   refine ⟨2,.l ((openL N.2.2 ws).map wayD),by decide,ways_th 0 (hW5.same (s6.trans (s7.trans s8))) (by omega),ways_th 0 w8 (by omega),fun H9 s9=>?_⟩
   have s39:=s38.trans s9
   walk_at "rd"
   have e69:=s9 _ _ (s8 _ _ (s7 _ _ e6))
   refine .inl ⟨⟨_,SqL.of e69⟩,?_⟩
   obtain ⟨a0,ea0,pa0⟩:=hW4.same ((s5.trans s6).trans (s7.trans (s8.trans s9)))
   obtain ⟨a1,ea1,pa1⟩:=hW5.same (s6.trans (s7.trans (s8.trans s9)))
   have la0:=pa0.length
   have la1:=pa1.length
   have hf1':=s4.free hf1
   have nf0:fp ≠ f0:=fun z=>by
    obtain ⟨us,eu,_⟩:=hW4.same s5
    rw [z,eu] at hfp
    cases hfp
   have nf1:fp ≠ f1:=fun z=>by
    obtain ⟨us,eu,_⟩:=hW5
    rw [z,eu] at hfp
    cases hfp
   refine loop_list (xs:=[V.ref f0,V.ref f1]) (fun i σ H'=>∃ u b0 b1,σ = [some (.ref nh),some (.ref hd),some (.ref ss),some (.ref D),some (.ref fp),u] /\ Same H3 H' /\ H' fp = some (.lst [V.ref f0,V.ref f1]) /\ H' f0 = some (.lst b0) /\ H' f1 = some (.lst b1) /\ b0.length <= 100 + i /\ b1.length <= 100 + i) ⟨none,a0,a1,rfl,s39,e69,ea0,ea1,by omega,by omega⟩ (fun i σ H' _ ⟨_,_,_,_,_,z,_⟩=>SqL.of z) ?_ ?_
   ·rintro i y σ H10 hy ⟨u,b0,b1,rfl,s10,ep,eb0,eb1,l0,l1⟩
    have hi:i < 2:=(List.getElem?_eq_some_iff.mp hy).1
    have hm:y = .ref f0 \/ y = .ref f1:=by simpa using List.mem_of_getElem? hy
    obtain ⟨f,bf,rfl,efr,ebf,lbf,nff⟩:∃ f bf,y = .ref f /\ H3 f = none /\ H10 f = some (.lst bf) /\ bf.length <= 100 + i /\ fp ≠ f:=by
     rcases hm with rfl | rfl
     ·exact ⟨f0,b0,rfl,hf0,eb0,l0,nf0⟩
     ·exact ⟨f1,b1,rfl,hf1',eb1,l1,nf1⟩
    walk_at "rd"
    refine ⟨⟨_,ebf⟩,by decide,fun t4 ht4=>?_⟩
    have s11:=same_new ht4 (.tup [V.str (st [97]),V.str (st [98])])
    have other:∀ g bg,H10 g = some (.lst bg) -> bg.length <= 100 + i -> ∃ bg',upd (upd H10 t4 (.tup [V.str (st [97]),V.str (st [98])])) f (.lst (bf ++ [.ref t4])) g = some (.lst bg') /\ bg'.length <= 100 + (i + 1):=fun g bg eg lg=>by
     by_cases c:g = f
     ·subst c
      exact ⟨_,upd_same,by rw [List.length_append,List.length_singleton]; omega⟩
     ·exact ⟨bg,by rw [upd_ne c]; exact s11 _ _ eg,by omega⟩
    obtain ⟨c0,ec0,lc0⟩:=other f0 b0 eb0 l0
    obtain ⟨c1,ec1,lc1⟩:=other f1 b1 eb1 l1
    exact ⟨bf,s11 _ _ ebf,sizeBig (by omega),_,c0,c1,rfl,same_upd (s10.trans s11) efr,by rw [upd_ne nff]; exact s11 _ _ ep,ec0,ec1,lc0,lc1⟩
   ·rintro σ H10 ⟨u,b0,b1,rfl,s10,ep,eb0,eb1,l0,l1⟩
    walk_at "rd"
    have s210:=s3.trans s10
    have e210:=s210 _ _ e2
    refine .inl ⟨⟨_,SqL.of e210⟩,fun D3 hD3=>?_⟩
    refine comp_rel (item:=fun x:Way × V=>x.2) (ws.zip sv) (fun _=>true) (fun x v H'=>OptV H' (beyondL N.2.2 x.1) v) hD3 (by rw [z1]; exact SqL.of e210) (by rw [List.length_zip]; omega) ?_ ?_ ?_
    ·rintro x v H3 H4 acc hd k h
     cases eb:beyondL N.2.2 x.1 with
     | none=>rw [eb] at h; exact h
     | some y=>
      rw [eb] at h
      obtain ⟨t',rfl,et'⟩:=h
      exact ⟨t',rfl,k t' _ (fun z=>by rw [z,hd] at et'; cases et') et'⟩
    ·intro x H11 out non hx s11 ho _
     obtain ⟨t',ex,et'⟩:=z2 x hx
     rw [ex]
     have et11:=(s210.trans s11) _ _ et'
     have hmem:x.1 ∈ spotsOf N.2.1:=hp.mem_iff.mp (List.of_mem_zip hx).1
     obtain ⟨h',rs,eh',eg'⟩:=spot_in nok.nd hmem
     obtain ⟨⟨lo1,ln1⟩,⟨lo2,ln2⟩⟩:(Low x.1.1 /\ x.1.1.length <= 1000) /\ (Low x.1.2 /\ x.1.2.length <= 1000):=by
      unfold spotsOf at hmem
      obtain ⟨y,hy,hz⟩:=List.mem_flatMap.mp hmem
      obtain ⟨g,hg,eg⟩:=List.mem_map.mp hz
      rw [<- eg]
      exact ⟨nok.low y hy,nok.door y hy g hg⟩
     walk_at "rd"
     refine ⟨_,_,.inr (SqT.of et11),rfl,_,_,.inr (SqT.of et11),rfl,?_⟩
     refine ⟨N,hDn.same (s12.trans (s210.trans s11)),fun c hc=>?_,by simp only [st_cps]; exact ln1,fun c hc=>?_,by simp only [st_cps]; exact ln2,l500,nok.ends,fun h2 eh2=>?_,fun z=>?_⟩
     ·have:=lo1 c (by simpa using hc)
      omega
     ·have:=lo2 c (by simpa using hc)
      omega
     ·simp only [st_cps] at eh2 ⊢
      rw [eh'] at eh2
      cases eh2
      refine ⟨fun rs2 er2 v H12 s12' ov=>ho _ _ rfl s12' ?_,fun z=>by rw [eg'] at z; cases z⟩
      rcases ov with ov | ⟨e,rfl⟩
      ·cases eb:beyondL N.2.2 (x.1.1,x.1.2) with
       | none=>rw [eb] at ov; cases ov
       | some y=>
        rw [eb] at ov
        obtain ⟨u,hu,hw⟩:=ov
        cases hu
        exact hw
      ·show OptV H12 (beyondL N.2.2 (x.1.1,x.1.2)) .non
       rw [e]
       exact rfl
     ·simp only [st_cps] at z
      rw [eh'] at z
      cases z
    ·intro H11 cv s11 e11 p11
     rw [hf] at p11
     have p12:Paired (fun x v=>OptV H11 (beyondL N.2.2 x) v) ws cv:=by
      conv=>arg 2; rw [<- hz]
      exact paired_mapL p11
     have hcl:=p12.length
     have thd:∀ {H:Hp} {a:Addr} {vs:List V},H a = some (.lst vs) -> vs.length <= 1000 -> Paired (fun x v=>OptV H (beyondL N.2.2 x) v) ws vs -> Th H 2 (.ref a) (.l (ws.map fun x=>optD (beyondL N.2.2 x))):=fun e l p=>mk_l e l (paired_flip (fun x v z=>opt_th 0 z) p)
     have s311:=s10.trans s11
     exact ⟨2,_,by decide,thd e11 (by omega) p12,thd (s311 _ _ e3) (by omega) (L2.Paired.mapP p4 fun _ _ z=>OptV.same s311 z),fun H13 s13'=>q H13 (s13.trans (s311.trans s13'))⟩
structure LargeOk7 (W S i d:Nat) (pl:List (List Nat)) (hs:List Named):Prop where
 len:hs.length = i
 name:hs.map (fun x=>x.1.head?) = (List.range i).map fun j=>some (97 + (d + 7 * j) % 26)
 low:∀ x ∈ hs,Low x.1 /\ x.1.length <= 1000
 house:∀ x ∈ hs,HouseOk5 W S x.2
 door:∀ x ∈ hs,∀ g ∈ x.2.1,g.1 ∈ pl
 five:∀ x ∈ hs,x.2.1.length <= 5
 tail:∀ x ∈ hs,∀ c ∈ x.1.tail,c <= 99
noncomputable def sp__law_large (K:Frag):Sp:=fun vs H Q _=>match vs with
 | [.ref a,.ref t]=>∃ (ns:List Int) (ps:List Nat),SqL K H a (ns.map V.int) /\ SqL K H t (ps.map nV) /\ ToldOk (wF ns) ps /\
   ∀ (q:Addr) (H':Hp) (N:Net),H q = none -> Same H H' -> NetAt H' q N -> NetOk N -> NetFew 10 N -> widthL N.1 = wF ns -> Q (.ref q) H'
 | _=>False
theorem ok__law_large (T:Top K mg):Callee P w K mg base 4 "_law_large" ["_law_script", "_law_told_here"] (sp__law_large K):=by
 refine T.f__law_large.cal sc__law_large (by intro vs H Q E h; unfold sp__law_large at h; split at h <;> first | rfl | exact h.elim) (fun _ _ _ _ _ _ us hl=>match us,hl with | [_,_],_=>rfl) (fun f cdv A outer s H vs Q E hr h=>?_)
 unfold sp__law_large at h
 split at h
 case h_2=>exact h.elim
 refine ⟨_,(pss_cons (ps_set (i:=2) sc__law_large.nd rfl lc (pe_fn (ok__law_layout T) hr.m rfl (pa_cons (qv 0) pa_nil)))
   (pss_cons (ps_set (i:=3) sc__law_large.nd rfl lc (pe_fn (ok__law_width T) hr.m rfl (pa_cons (qv 2) pa_nil)))
   (pss_cons (ps_set (i:=4) sc__law_large.nd rfl lc (pe_fn (ok__law_names T) hr.m rfl (pa_cons (qv 0) (pa_cons pe_int (pa_cons pe_int pa_nil)))))
   (pss_cons (ps_set (i:=5) sc__law_large.nd rfl lc (pe_op op_addK pe_int (pe_fn (ok__law_draw T) hr.m rfl (pa_cons (qv 0) (pa_cons pe_int (pa_cons pe_int pa_nil))))))
   (pss_cons (ps_set (i:=6) sc__law_large.nd rfl lc (qs [97,98,99,100,101,102,103,104,105,106,107,108,109,110,111,112,113,114,115,116,117,118,119,120,121,122]))
   (pss_cons (ps_set (i:=7) sc__law_large.nd rfl lc (pe_lst pa_nil))
   (pss_cons (ps_set (i:=8) sc__law_large.nd rfl lc (pe_op op_subK pe_int (qv 5)))
   (pss_cons (qs_for PassesOwn.never rfl (qi_range1 rfl T.b_range (qv 5)) (pg_name (i:=9) sc__law_large.nd rfl lc) (pss_cons (ps_set (i:=10) sc__law_large.nd rfl lc (pe_callB (call_min2K rfl) rfl T.b_min bb_min (pa_cons (qv 8) (pa_cons (pe_fn (ok__law_draw T) hr.m rfl (pa_cons (qv 0) (pa_cons (pe_op op_addK pe_int (qv 9)) (pa_cons pe_int pa_nil)))) pa_nil))))
   (pss_cons (ps_set (i:=8) sc__law_large.nd rfl lc (pe_op op_subK (qv 8) (qv 10)))
   (pss_cons (ps_set (i:=11) sc__law_large.nd rfl lc (pe_op op_addK (pe_ix (ixE K rfl) (qv 6) (pe_op op_modK (pe_op op_addK (pe_fn (ok__law_draw T) hr.m rfl (pa_cons (qv 0) (pa_cons pe_int (pa_cons pe_int pa_nil)))) (pe_op op_mulK pe_int (qv 9))) pe_int) (fun _ _=>rfl)) (pe_op op_mulK (pe_ix (ixE K rfl) (qv 6) (pe_op op_modK (qv 9) pe_int) (fun _ _=>rfl)) (pe_fn (ok__law_draw T) hr.m rfl (pa_cons (qv 0) (pa_cons (pe_op op_addK pe_int (qv 9)) (pa_cons pe_int pa_nil)))))))
   (pss_cons (ps_setC (i:=12) (nt:=1) (fi:=[4,0,1,3,9]) (N':=["_law_j", "_law_pool", "_law_script", "_law_told_here", "_law_width_here", "_law_h"]) sc__law_large.nd rfl lc rfl (cscope rfl (by decide +kernel)) (cnames (N:=["_law_script", "_law_told_here", "_law_layout_here", "_law_width_here", "_law_pool", "_law_many", "_law_letters", "_law_houses", "_law_left", "_law_h", "_law_more", "_law_name", "_law_gates"]) (sc:=defScope s__law_large) rfl rfl (by decide +kernel)) (gk_name (by decide)) (qi_range1 rfl T.b_range (pe_op op_addK pe_int (qv 10))) (fun _ _ _ _ _=>(pg_name (i:=0) (by show (["_law_j", "_law_pool", "_law_script", "_law_told_here", "_law_width_here", "_law_h"]:List Str).Nodup; decide +kernel) rfl lc)) (fun _ _ _ _ _=>pif_nil) (fun _ _ _ _ _=>(pe_tup (pa_cons (pe_ix (ixE K rfl) (qv 1) (qv 0) (fun _ _=>rfl)) (pa_cons (pe_lst (pa_cons (pe_fn (ok__law_rule T) hr.m rfl (pa_cons (qv 2) (pa_cons (pe_op op_addK (pe_op op_addK pe_int (pe_op op_mulK pe_int (qv 5))) (qv 0)) (pa_cons (qv 3) (pa_cons (pe_lst pa_nil) (pa_cons (qv 4) pa_nil)))))) pa_nil)) pa_nil)))))
   (pss_one (ps_expr (qe_append (qv 7) (pe_tup (pa_cons (qv 11) (pa_cons (pe_tup (pa_cons (qv 12) (pa_cons (pe_fn (ok__law_ways T) hr.m rfl (pa_cons (qv 0) (pa_cons (pe_op op_addK pe_int (pe_op op_mulK pe_int (qv 9))) (pa_cons (qe_comp (nt:=1) (fi:=[]) (N':=["_law_gate"]) rfl (cscope rfl (by decide +kernel)) (cnames (N:=["_law_script", "_law_told_here", "_law_layout_here", "_law_width_here", "_law_pool", "_law_many", "_law_letters", "_law_houses", "_law_left", "_law_h", "_law_more", "_law_name", "_law_gates"]) (sc:=defScope s__law_large) rfl rfl (by decide +kernel)) (gk_name (by decide)) (iterE K rfl (qv 12)) (fun _ _ _ _ _=>(pg_name (i:=0) (by show (["_law_gate"]:List Str).Nodup; decide +kernel) rfl lc)) (fun _ _ _ _ _=>pif_nil) (fun _ _ _ _ _=>(pe_ix (ixE K rfl) (qv 0) pe_int (fun _ _=>rfl)))) (pa_cons pe_int pa_nil))))) pa_nil))) pa_nil)))))))))))
   (pss_one (ps_ret (pe_tup (pa_cons (qv 2) (pa_cons (qv 7) (pa_cons (pe_fn (ok__law_lines T) hr.m rfl (pa_cons (qv 0) (pa_cons (pe_fn (ok__law_spots T) hr.m rfl (pa_cons (qv 7) pa_nil)) pa_nil))) pa_nil)))))))))))))),?_⟩
 rename_i a t
 obtain ⟨ns,ps,hS,hT,tok,q⟩:=h
 walk_at "rd"
 refine ⟨ns,hS,fun p H1 ls hp s1 hL ok hwf=>?_⟩
 rw [<- hwf] at tok
 have w1:=ok.w1
 have w2:=ok.w2
 have hlen:=ok.len
 walk_at "rd"
 refine ⟨ls,hL,by omega,fun H2 s2=>?_⟩
 have s12:=s1.trans s2
 have hL2:=hL.same s2
 walk_at "rd"
 refine ⟨ns,22,5,s12.seq hS,rfl,by decide,rfl,by decide,fun pn H4 pl hpn s3 e34 N=>?_⟩
 have s14:=s12.trans s3
 have hL4:=hL2.same s3
 walk_at "rd"
 refine draw_to (s14.seq hS) (by decide) (by decide) (by omega) (by omega) fun r1 hr1=>?_
 walk_at "rd"
 rw [show ([97,98,99,100,101,102,103,104,105,106,107,108,109,110,111,112,113,114,115,116,117,118,119,120,121,122]:List Nat) = abc from rfl]
 have a26:abc.length = 26:=rfl
 refine ⟨Nat.zero_le _,fun hl hhl=>⟨by omega,by omega,?_⟩⟩
 rw [show (5 + (r1:Int)).toNat = 5 + r1 by omega]
 obtain ⟨fa,fb,esp,hab,hb⟩:=ok.to
 have eG:spanG ls = (fa,fb):=by unfold spanG; rw [esp]; rfl
 have hd:=drawN_lt ns 18 (m:=26) (by decide)
 generalize eD:drawN ns 18 26 = d at hd
 generalize eW:widthL ls = W at *
 refine loop_range (lo:=0) (n:=5 + r1) (fun i σ H'=>∃ (hs:List Named) (vs:List V) (left:Nat) (u10 u11 u12 u13:Option V),σ = [some (.ref a),some (.ref t),some (.ref p),some (nV W),some (.ref pn),some (.int (5 + r1)),some (.str (st abc)),some (.ref hl),some (nV left),u10,u11,u12,u13] /\ left <= 24 /\ Same H4 H' /\ H' hl = some (.lst vs) /\ Paired (NamedF hl H') hs vs /\ LargeOk7 W (fb - fa) i d pl hs)
  ⟨[],[],19 - r1,none,none,none,none,by rw [show (24 - (5 + (r1:Int))) = ((19 - r1:Nat):Int) by omega],by omega,same_new hhl _,upd_same,.nil,⟨rfl,rfl,fun x hx=>by simp at hx,fun x hx=>by simp at hx,fun x hx=>by simp at hx,fun x hx=>by simp at hx,fun x hx=>by simp at hx⟩⟩ ?_ ?_
 ·rintro i σ H5 hi ⟨hs,vs,left,u10,u11,u12,u13,rfl,hleft,s5,eh,ph,lok⟩
  have s15:=s14.trans s5
  walk_at "rd"
  refine draw_to (s15.seq hS) (by omega) (by omega) (by decide) (by decide) fun r2 hr2=>?_
  obtain ⟨m,em,hm1,hm2⟩:∃ m:Nat,(if (r2:Int) < (left:Int) then (r2:Int) else (left:Int)) = (m:Int) /\ m <= left /\ m <= 4:=by
   split
   ·exact ⟨r2,rfl,by omega,by omega⟩
   ·exact ⟨left,rfl,by omega,by omega⟩
  walk_at "rd"
  rw [em]
  rw [show (1 + (m:Int)).toNat = 1 + m by omega]
  refine draw_is (k:=18) (m:=26) (s15.seq hS) (by decide) (by decide) (by decide) ?_
  rw [eD]
  walk_at "rd"
  have hm26:=Nat.mod_lt (d + 7 * i) (show 26 > 0 by decide)
  have hm3:=Nat.mod_lt i (show 3 > 0 by decide)
  rw [show ((d:Int) + 7 * (i:Int)) % 26 = (((d + 7 * i) % 26:Nat):Int) by omega,show ((i:Int) % 3) = ((i % 3:Nat):Int) by omega]
  have mul7:CMul 7 (i:Int):=.inl ⟨by decide,by decide⟩
  have mul5:CMul 5 (i:Int):=.inl ⟨by decide,by decide⟩
  have mul20:CMul 20 (i:Int):=.inl ⟨by decide,by decide⟩
  refine ⟨mul7,by omega,_,atI_nat (abc_at hm26),by omega,_,atI_nat (abc_at (by omega)),draw_to (s15.seq hS) (by omega) (by omega) (by decide) (by decide) fun r3 hr3=>?_⟩
  walk_at "rd"
  rw [Int.toNat_natCast]
  refine ⟨by omega,by omega,by rw [List.length_replicate]; omega,by omega,by omega,fun g hg=>?_⟩
  have hplen:=N.len
  refine comp_genD (List.range (1 + m)) (fun j v H'=>∃ x:Gate,(x.1 = pl.getD j [] /\ (∀ r ∈ x.2,RuleOk W r) /\ x.2.length = 1) /\ GateN (fun r=>r ≠ g /\ H5 r = none) H' x v) hg (by simp; omega) (fun j H6 hj s6=>show j < 1 + m by simpa using hj) (fun H6 s6=>show 1 + m <= _ by simp) ?_ ?_ ?_ ?_
  ·rintro j H6 v H7 _ ⟨rfl,_⟩
   exact Same.refl _
  ·rintro j v H6 H7 acc hd k ⟨x,h1,t',r,rfl,nr,et,⟨rv,er,pr⟩⟩
   have tp:∀ t ts,H6 t = some (.tup ts) -> H7 t = some (.tup ts):=fun t ts z=>k _ _ (fun y=>by rw [y,hd] at z; cases z) z
   exact ⟨x,h1,t',r,rfl,nr,tp _ _ et,⟨rv,k _ _ nr.1 er,rules_keep tp pr⟩⟩
  ·rintro j x v H6 H7 out non hx s6 nD ⟨rfl,rfl⟩ ho
   obtain ⟨hj,hxe⟩:=List.getElem?_eq_some_iff.mp hx
   rw [List.getElem_range] at hxe
   subst hxe
   rw [List.length_range] at hj
   have s16:=s15.trans s6
   have hjp:j < pl.length:=by omega
   walk_at "rd"
   refine ⟨_,tx pl[j],.inl (SqL.of (s6 _ _ (s5 _ _ e34))),atI_nat (by rw [List.getElem?_map,List.getElem?_eq_getElem hjp]; rfl),?_⟩
   refine ⟨mul5,Nat.zero_le _,fun em hem=>?_⟩
   have s6e:=same_new hem (.lst [])
   have s1e:=s16.trans s6e
   refine ⟨ns,420 + 5 * i + j,W,ps,[],s1e.seq hS,by omega,by omega,rfl,by omega,s1e.seq hT,tok.lt,SqL.of upd_same,fun x hx=>by simp at hx,fun t7 H8 r ht7 s8 e8 hrok _=>⟨by decide,fun t9 ht9=>⟨by decide,fun t10 ht10=>?_⟩⟩⟩
   have s9:=same_new ht9 (.lst [V.ref t7])
   have s10:=same_new ht10 (.tup [tx pl[j],.ref t9])
   refine ho _ _ (s6e.trans (s8.trans (s9.trans s10))) ⟨(pl[j],[r]),⟨?_,fun y hy=>?_,rfl⟩,t10,t9,rfl,⟨nD t9 (s6e.free (s8.free ht9)),(s6.trans (s6e.trans s8)).free ht9⟩,upd_same,⟨_,s10 _ _ upd_same,.cons ⟨t7,rfl,s10 _ _ (s9 _ _ e8)⟩ .nil⟩⟩
   ·rw [List.getD_eq_getElem?_getD,List.getElem?_eq_getElem hjp]
    rfl
   ·rw [List.mem_singleton.mp hy]
    exact hrok
  intro H6 gv s6 e6 p6
  obtain ⟨gs,pg,pp⟩:=paired_two p6
  have hgn:=paired_eq (f:=fun j=>pl.getD j []) (g:=fun x:Gate=>x.1) (fun j b h=>h.1) pp
  have hgl:gs.length = 1 + m:=by have:=congrArg List.length hgn; simpa using this
  have hgk:∀ x ∈ gs,(∀ r ∈ x.2,RuleOk W r) /\ x.2.length = 1:=fun x hx=>by
   obtain ⟨j,h⟩:=paired_mem pp x hx
   exact h.2
  have hgnd:(gs.map (·.1)).Nodup:=by
   rw [hgn]
   refine map_nodup _ fun j k hj hk e=>?_
   have h1:j < pl.length:=by omega
   have h2:k < pl.length:=by omega
   simp only [List.getD_eq_getElem?_getD,List.getElem?_eq_getElem h1,List.getElem?_eq_getElem h2,Option.getD_some] at e
   exact (List.getElem_inj N.nd).mp e
  have hgpl:∀ x ∈ gs,x.1 ∈ pl:=fun x hx=>by
   have hm:x.1 ∈ gs.map (·.1):=List.mem_map.mpr ⟨x,hx,rfl⟩
   rw [hgn] at hm
   obtain ⟨j,hj,ej⟩:=List.mem_map.mp hm
   have h1:j < pl.length:=by have:=List.mem_range.mp hj; omega
   rw [<- ej,List.getD_eq_getElem?_getD,List.getElem?_eq_getElem h1]
   exact List.getElem_mem h1
  have hgvl:=pg.length
  have s16:=s15.trans s6
  obtain ⟨z1,z2⟩:=paired_zip pg
  refine ⟨⟨_,s6 _ _ eh⟩,mul20,.inl ⟨⟨_,SqL.of e6⟩,fun D hD=>?_⟩⟩
  refine comp_list (item:=fun x:Gate × V=>x.2) (xs:=gs.zip gv) (h:=fun x=>[tx x.1.1]) hD (by rw [z1]; exact SqL.of e6) (by rw [List.length_zip]; omega) (fun _=>by simp) ?_ ?_
  ·intro x H7 out non hx s7 ho _
   obtain ⟨t,r,ex,nr,et,hr⟩:=z2 x hx
   rw [ex]
   walk_at "rd"
   refine ⟨_,_,.inr (SqT.of (s7 _ _ et)),rfl,?_⟩
   exact ho _ _ rfl (Same.refl _)
  intro H7 s7 e7
  rw [show (gs.zip gv).flatMap (fun x=>[tx x.1.1]) = (gs.map (·.1)).map tx by
   rw [flat_one' (fun x:Gate × V=>tx x.1.1)]
   conv=>rhs; rw [<- zip_fst (l:=gs) (m:=gv) hgvl,List.map_map,List.map_map]
   rfl] at e7
  have s17:=s16.trans s7
  refine ⟨ns,480 + 20 * i,1,gs.map (·.1),s17.seq hS,by omega,by omega,rfl,by decide,SqL.of e7,by rw [List.length_map]; omega,fun wp H8 ws hwp s8 hw wok hwl=>⟨by decide,fun hp hhp=>⟨by decide,fun np hnp=>?_⟩⟩⟩
  have s9:=same_new hhp (.tup [V.ref g,V.ref wp])
  generalize enm:(97 + (d + 7 * i) % 26) :: List.replicate r3 (97 + i % 3) = nm at *
  have s10:=same_new hnp (.tup [tx nm,V.ref hp])
  have s78:=s7.trans s8
  have s910:=s9.trans s10
  have s810:=s78.trans s910
  have s610:=s6.trans s810
  have eh10:=s610 _ _ eh
  have hvl:=ph.length
  have hll:=lok.len
  have eg8:=s78 _ _ e6
  have ngw:g ≠ wp:=fun z=>by have y:=s7 _ _ e6; rw [z,hwp] at y; cases y
  have ngh:g ≠ hl:=fun z=>by rw [z,eh] at hg; cases hg
  have nwh:wp ≠ hl:=fun z=>by rw [z,s7 _ _ (s6 _ _ eh)] at hwp; cases hwp
  rw [show ((left:Int) - (m:Int)) = ((left - m:Nat):Int) by omega]
  have kk:∀ b o,b ≠ hl -> H5 b = some o -> upd (upd (upd H8 hp (.tup [V.ref g,V.ref wp])) np (.tup [tx nm,V.ref hp])) hl (.lst (vs ++ [.ref np])) b = some o:=fun b o n e=>by rw [upd_ne n]; exact s610 _ _ e
  have kt:∀ t us,upd (upd H8 hp (.tup [V.ref g,V.ref wp])) np (.tup [tx nm,V.ref hp]) t = some (.tup us) -> upd (upd (upd H8 hp (.tup [V.ref g,V.ref wp])) np (.tup [tx nm,V.ref hp])) hl (.lst (vs ++ [.ref np])) t = some (.tup us):=keep_lst eh10
  have pa:Paired (NamedF hl (upd (upd (upd H8 hp (.tup [V.ref g,V.ref wp])) np (.tup [tx nm,V.ref hp])) hl (.lst (vs ++ [.ref np])))) hs vs:=
   L2.Paired.mapP ph fun _ _ z=>namedF_keep eh kk z
  have hN:HouseN (fun b=>b ≠ hl) (upd (upd (upd H8 hp (.tup [V.ref g,V.ref wp])) np (.tup [tx nm,V.ref hp])) hl (.lst (vs ++ [.ref np]))) hp g wp (gs,ws):=by
   refine ⟨kt _ _ (s10 _ _ upd_same),ngw,⟨gv,by rw [upd_ne ngh]; exact s910 _ _ eg8,L2.Paired.mapP pg ?_⟩,?_⟩
   ·rintro x v ⟨t',r,rfl,nr,et,⟨rv,er,pr⟩⟩
    have nrh:r ≠ hl:=fun z=>by have y:=nr.2; rw [z,eh] at y; cases y
    refine ⟨t',r,rfl,⟨nr.1,fun z=>?_,nrh⟩,kt _ _ (s810 _ _ et),⟨rv,by rw [upd_ne nrh]; exact s810 _ _ er,rules_keep (fun _ _ z=>kt _ _ (s810 _ _ z)) pr⟩⟩
    have y:=s7 _ _ er
    rw [z,hwp] at y
    cases y
   ·obtain ⟨wv,ew,pw⟩:=hw
    exact ⟨wv,by rw [upd_ne nwh]; exact s910 _ _ ew,ways_keep (fun _ _ z=>kt _ _ (s910 _ _ z)) pw⟩
  refine ⟨vs,eh10,sizeBig (by omega),hs ++ [(nm,gs,ws)],vs ++ [.ref np],left - m,_,_,_,_,rfl,by omega,same_upd (s5.trans s610) hhl,upd_same,?_,?_⟩
  ·exact paired_snoc pa ⟨np,hp,g,wp,rfl,kt _ _ upd_same,hN,ngh,nwh⟩
  ·have ml:∀ {P:Named -> Prop},(∀ x ∈ hs,P x) -> P (nm,gs,ws) -> ∀ x ∈ hs ++ [(nm,gs,ws)],P x:=fun h1 h2 x hx=>by
    rcases List.mem_append.mp hx with z | z
    ·exact h1 x z
    ·rw [List.mem_singleton.mp z]; exact h2
   refine ⟨by rw [List.length_append,hll]; rfl,?_,ml lok.low ?_,ml lok.house ⟨hgnd,by show gs.length <= 8; omega,fun x hx=>(hgk x hx).1,fun x hx=>by rw [(hgk x hx).2]; decide,?_,by show ws.length <= 8; omega⟩,ml lok.door hgpl,ml lok.five (by show gs.length <= 5; omega),ml lok.tail ?_⟩
   ·rw [List.map_append,lok.name,List.range_succ,List.map_append,<- enm]
    rfl
   ·rw [<- enm]
    refine ⟨fun c hc=>?_,by rw [List.length_cons,List.length_replicate]; omega⟩
    rcases List.mem_cons.mp hc with rfl | z
    ·exact ⟨by omega,by omega⟩
    ·rw [List.eq_of_mem_replicate z]
     exact ⟨by omega,by omega⟩
   ·exact ⟨fun x hx=>by have:=wok.n x hx; omega,wok.bits,wok.door,wok.nd⟩
   ·rw [<- enm]
    intro c hc
    rw [List.tail_cons] at hc
    rw [List.eq_of_mem_replicate hc]
    omega
 ·rintro σ H5 ⟨hs,vs,left,u10,u11,u12,u13,rfl,hleft,s5,eh,ph,lok⟩
  have s15:=s14.trans s5
  have hll:=lok.len
  have hH9:Houses H5 hl hs:=⟨vs,eh,L2.Paired.mapP ph fun _ _ z=>namedF_at z⟩
  have hnames:(hs.map (·.1)).Nodup:=by
   have h1:(hs.map (fun x=>x.1.head?)).Nodup:=by
    rw [lok.name]
    refine List.pairwise_map.mpr (List.Pairwise.imp_of_mem ?_ List.nodup_range)
    intro a b ha hb hab e
    have ha:=List.mem_range.mp ha
    have hb:=List.mem_range.mp hb
    have e':=Option.some.inj e
    omega
   have h3:((hs.map (·.1)).map List.head?).Nodup:=by rw [List.map_map]; exact h1
   exact List.Pairwise.imp (fun {a b} h z=>h (by rw [z])) (List.pairwise_map.mp h3)
  have snd:=spots_nd (hs:=hs) hnames fun y hy=>(lok.house y hy).nd
  have slen:=spots_len (hs:=hs) (c:=8) fun y hy=>(lok.house y hy).g3
  walk_at "rd"
  refine ⟨hs,hH9,by omega,fun y hy=>Nat.le_trans (lok.house y hy).g3 (by decide),fun sq H10 hsq s10 hWs=>?_⟩
  have s1A:=s15.trans s10
  refine ⟨ns,spotsOf hs,s1A.seq hS,hWs,by omega,snd,fun c H11 lns hc s11 hLn en1 en2 en3=>⟨by decide,fun q7 hq7=>?_⟩⟩
  have s12':=same_new hq7 (.tup [V.ref p,V.ref hl,V.ref c])
  have s912:=s10.trans (s11.trans s12')
  refine q q7 _ (ls,hs,lns) ((s1A.trans s11).free hq7) (s15.trans s912) ⟨p,hl,c,upd_same,hL4.same (s5.trans s912),hH9.same s912,hLn.same s12'⟩ ⟨ok,hnames,lok.low,fun y hy=>?_,fun y hy g hg=>?_,by show hs.length <= 100; omega,en1,en2,en3⟩ ⟨by show hs.length <= 10; omega,lok.five,fun z=>?_⟩ ?_
  ·show HouseOk5 (widthL ls) ((spanG ls).2 - (spanG ls).1) y.2
   rw [eG,eW]
   exact lok.house y hy
  ·have hm:=lok.door y hy g hg
   exact ⟨N.low _ hm,Nat.le_trans (N.short _ hm).2 (by decide)⟩
  ·obtain ⟨y,hy,e⟩:=List.mem_map.mp z.1
   have:=lok.tail y hy 111 (by rw [show y.1 = nohouseT from e]; decide)
   omega
  ·show widthL ls = _
   rw [eW]
   exact hwf
theorem flat_if {α β:Type} (f:α -> β) (p:α -> Bool):∀ l:List α,l.flatMap (fun n=>if p n = true then [f n] else []) = (l.filter p).map f
 | []=>rfl
 | x :: l=>by
  rw [List.flatMap_cons,flat_if f p l,List.filter_cons]
  by_cases h:p x = true
  ·rw [if_pos h,if_pos h]; rfl
  ·rw [if_neg h,if_neg h]; rfl
theorem in_texts (x:List Nat) (hs:List (List Nat)):inV (tx x) (hs.map tx) = decide (x ∈ hs):=by
 unfold inV
 rw [Bool.eq_iff_iff,List.any_eq_true,decide_eq_true_eq]
 constructor
 ·rintro ⟨v,hv,e⟩
  obtain ⟨y,hy,rfl⟩:=List.mem_map.mp hv
  have e2:st y = st x \/ st x = st y:=by
   simp only [eqV,beq_iff_eq] at e
   first | exact .inl e | exact .inr e
  rcases e2 with z | z
  ·rw [<- st_inj.mp z]; exact hy
  ·rw [st_inj.mp z]; exact hy
 ·intro h
  exact ⟨tx x,List.mem_map.mpr ⟨x,h,rfl⟩,by simp [eqV]⟩
theorem texts_flat (hs:List (List Nat)):(hs.map tx).all flatV = true:=by
 rw [List.all_eq_true]
 intro v hv
 obtain ⟨y,_,rfl⟩:=List.mem_map.mp hv
 rfl
theorem marks_deep {H:Hp} {p:Addr} {b c:Bool} (h:H p = some (.lst (marksL b c))):Deep K H 1 (.ref p) (.l ((marksL b c).map D.f)):=
 .inr (.inl ⟨p,_,_,rfl,rfl,SqL.of h,deep_flats (by cases b <;> cases c <;> rfl)⟩)
theorem marks_eq (b:Bool):¬ (eqD (.l ((marksL b (!b)).map D.f)) (.l ((marksL b (!b)).map D.f))) = false:=by cases b <;> decide +kernel
theorem free_two {ns:List (List Nat)} {x:List Nat} (h:¬ (nohouseT ∈ ns /\ nowhereT ∈ ns)):∃ y ys,([x,nohouseT,nowhereT].filter fun n=>decide (n ∉ ns)) = y :: ys /\ y ∉ ns /\ (y = x \/ y = nohouseT \/ y = nowhereT):=by
 cases e:[x,nohouseT,nowhereT].filter fun n=>decide (n ∉ ns) with
 | nil=>
  exfalso
  have:=List.filter_eq_nil_iff.mp e
  simp at this
  exact h ⟨this.2.1,this.2.2⟩
 | cons y ys=>
  have hm:y ∈ [x,nohouseT,nowhereT].filter fun n=>decide (n ∉ ns):=by rw [e]; exact List.mem_cons_self
  obtain ⟨h1,h2⟩:=List.mem_filter.mp hm
  exact ⟨y,ys,rfl,of_decide_eq_true h2,by simpa using h1⟩
theorem two_left {pl ds:List (List Nat)} (nd:pl.Nodup) (h:ds.length + 2 <= pl.length):2 <= (pl.filter fun n=>decide (n ∉ ds)).length:=by
 induction ds generalizing pl with
 | nil=>
  have e:pl.filter (fun n=>decide (n ∉ ([]:List (List Nat)))) = pl:=List.filter_eq_self.mpr fun _ _=>by simp
  rw [e]
  simpa using h
 | cons d ds ih=>
  have e:pl.filter (fun n=>decide (n ∉ d :: ds)) = (pl.filter fun n=>decide (n ≠ d)).filter fun n=>decide (n ∉ ds):=by
   rw [List.filter_filter]
   congr 1
   funext n
   by_cases h1:n = d <;> by_cases h2:n ∈ ds <;> simp [h1,h2]
  rw [e]
  refine ih (nd.filter _) ?_
  have e2:pl.filter (fun n=>decide (n ≠ d)) = pl.erase d:=by
   rw [nd.erase_eq_filter]
   congr 1
   funext n
   by_cases h1:n = d <;> simp [h1]
  rw [e2,List.length_erase]
  simp only [List.length_cons] at h
  split <;> omega
theorem house_own {hs:List Named} (nd:(hs.map (·.1)).Nodup) {x:Named} (hx:x ∈ hs):houseOf hs x.1 = some x.2:=by
 obtain ⟨i,hi,rfl⟩:=List.getElem_of_mem hx
 unfold houseOf
 rw [show hs.find? (fun g=>decide (g.1 = hs[i].1)) = some hs[i] from List.find?_eq_some_iff_append.mpr ⟨by simp,hs.take i,hs.drop (i + 1),by simp,fun z hz=>?_⟩]
 ·rfl
 ·obtain ⟨j,hj,rfl⟩:=List.mem_take_iff_getElem.mp hz
  have:=List.pairwise_iff_getElem.mp nd j i (by simp; omega) (by simp; omega) (by omega)
  rw [List.getElem_map,List.getElem_map] at this
  simpa using this
theorem house_not {hs:List Named} {n:List Nat} (h:n ∉ hs.map (·.1)):houseOf hs n = none:=by
 unfold houseOf
 rw [List.find?_eq_none.mpr fun y hy=>?_]
 ·rfl
 ·simp only [decide_eq_true_eq]
  exact fun e=>h (List.mem_map.mpr ⟨y,hy,e⟩)
theorem gate_not {gs:List Gate} {n:List Nat} (h:n ∉ gs.map (·.1)):gateOf gs n = none:=by
 unfold gateOf
 rw [List.find?_eq_none.mpr fun y hy=>?_]
 ·rfl
 ·simp only [decide_eq_true_eq]
  exact fun e=>h (List.mem_map.mpr ⟨y,hy,e⟩)
noncomputable def sp_law (K:Frag):Sp:=fun vs H Q _=>match vs with
 | [.ref a]=>∃ ns:List Int,SqL K H a (ns.map V.int) /\ ns.length <= 63 /\ ∀ H',Q (.bl true) H'
 | _=>False
theorem ok_law (T:Top K mg) {f:Addr} {fd:FuncData} (F:Fun K "law" "law" s_law f fd):FnOk P w K mg base CX0 13 f fd ["_law_script"] (sp_law K):=by
 refine F.ok sc_law (by intro vs H Q E h; unfold sp_law at h; split at h <;> first | rfl | exact h.elim) (fun cdv A outer s H vs Q E hr h=>?_)
 unfold sp_law at h
 split at h
 case h_2=>exact h.elim
 refine ⟨_,(pss_cons (ps_set (i:=1) sc_law.nd rfl lc (pe_fn (ok__law_told T) hr.m rfl (pa_cons (qv 0) (pa_cons (pe_fn (ok__law_layout T) hr.m rfl (pa_cons (qv 0) pa_nil)) pa_nil))))
   (pss_cons (ps_set (i:=2) sc_law.nd rfl lc (pe_fn (ok__law_net T) hr.m rfl (pa_cons (qv 0) (pa_cons (qv 1) (pa_cons pe_int pa_nil)))))
   (pss_join (ps_if (qt_cmp op_eqK (pe_fn (ok__law_draw T) hr.m rfl (pa_cons (qv 0) (pa_cons pe_int (pa_cons pe_int pa_nil)))) pe_int) (pss_one (ps_set (i:=2) sc_law.nd rfl lc (pe_fn (ok__law_large T) hr.m rfl (pa_cons (qv 0) (pa_cons (qv 1) pa_nil))))) pss_nil)
   (pss_cons (ps_set (i:=3) sc_law.nd rfl lc (pe_fn (ok__law_names T) hr.m rfl (pa_cons (qv 0) (pa_cons pe_int (pa_cons pe_int pa_nil)))))
   (pss_cons (ps_set (i:=4) sc_law.nd rfl lc (pe_fn (ok__law_copy T) hr.m rfl (pa_cons (qv 2) pa_nil)))
   (pss_cons (ps_if (pt_not (qt_val (pe_fn (ok__law_all_told T) hr.m rfl (pa_cons (qv 2) (pa_cons (qv 4) pa_nil))))) (pss_one (ps_ret pe_bl)) pss_nil)
   (pss_cons (ps_set (i:=5) sc_law.nd rfl lc (qe_comp (nt:=1) (fi:=[]) (N':=["_law_house_here"]) rfl (cscope rfl (by decide +kernel)) (cnames (N:=["_law_script", "_law_told_here", "_law_net_here", "_law_pool", "_law_handed", "_law_names_here", "_law_none", "_law_turn", "_law_name", "_law_house_here", "_law_door"]) (sc:=defScope s_law) rfl rfl (by decide +kernel)) (gk_name (by decide)) (iterE K rfl (pe_ix (ixE K rfl) (qv 2) pe_int (fun _ _=>rfl))) (fun _ _ _ _ _=>(pg_name (i:=0) (by show (["_law_house_here"]:List Str).Nodup; decide +kernel) rfl lc)) (fun _ _ _ _ _=>pif_nil) (fun _ _ _ _ _=>(pe_ix (ixE K rfl) (qv 0) pe_int (fun _ _=>rfl)))))
   (pss_cons (ps_set (i:=6) sc_law.nd rfl lc (pe_ix (ixE K rfl) (qe_comp (nt:=1) (fi:=[5]) (N':=["_law_name", "_law_names_here"]) rfl (cscope rfl (by decide +kernel)) (cnames (N:=["_law_script", "_law_told_here", "_law_net_here", "_law_pool", "_law_handed", "_law_names_here", "_law_none", "_law_turn", "_law_name", "_law_house_here", "_law_door"]) (sc:=defScope s_law) rfl rfl (by decide +kernel)) (gk_name (by decide)) (iterE K rfl (pe_lst (pa_cons (pe_ix (ixE K rfl) (pe_fn (ok__law_names T) hr.m rfl (pa_cons (qv 0) (pa_cons pe_int (pa_cons pe_int pa_nil)))) pe_int (fun _ _=>rfl)) (pa_cons (qs [110,111,104,111,117,115,101]) (pa_cons (qs [110,111,119,104,101,114,101]) pa_nil))))) (fun _ _ _ _ _=>(pg_name (i:=0) (by show (["_law_name", "_law_names_here"]:List Str).Nodup; decide +kernel) rfl lc)) (fun _ _ _ _ _=>(pif_one (qt_cmp (notinE K rfl) (qv 0) (qv 1)))) (fun _ _ _ _ _=>(qv 0))) pe_int (fun _ _=>rfl)))
   (pss_cons (qs_for PassesOwn.never rfl (qi_range1 rfl T.b_range pe_int) (pg_name (i:=7) sc_law.nd rfl lc) (pss_one (qs_for PassesOwn.never rfl (iterE K rfl (pe_ix (ixE K rfl) (qv 2) pe_int (fun _ _=>rfl))) (tupE K rfl rfl (n:=2) (pgs_cons (pg_name (i:=8) sc_law.nd rfl lc) (pgs_cons (pg_name (i:=9) sc_law.nd rfl lc) pgs_nil))) (pss_cons (ps_if (pt_not (qt_val (pe_fn (ok__law_house_told T) hr.m rfl (pa_cons (qv 4) (pa_cons (qv 8) (pa_cons (qv 9) pa_nil)))))) (pss_one (ps_ret pe_bl)) pss_nil)
   (pss_cons (ps_set (i:=10) sc_law.nd rfl lc (pe_ix (ixE K rfl) (qe_comp (nt:=1) (fi:=[9]) (N':=["_law_own", "_law_house_here"]) rfl (cscope rfl (by decide +kernel)) (cnames (N:=["_law_script", "_law_told_here", "_law_net_here", "_law_pool", "_law_handed", "_law_names_here", "_law_none", "_law_turn", "_law_name", "_law_house_here", "_law_door"]) (sc:=defScope s_law) rfl rfl (by decide +kernel)) (gk_name (by decide)) (iterE K rfl (qv 3)) (fun _ _ _ _ _=>(pg_name (i:=0) (by show (["_law_own", "_law_house_here"]:List Str).Nodup; decide +kernel) rfl lc)) (fun _ _ _ _ _=>(pif_one (qt_cmp (notinE K rfl) (qv 0) (qe_comp (nt:=1) (fi:=[]) (N':=["_law_gate"]) rfl (cscope rfl (by decide +kernel)) (cnamesC (by decide +kernel)) (gk_name (by decide)) (iterE K rfl (pe_ix (ixE K rfl) (qv 1) pe_int (fun _ _=>rfl))) (fun _ _ _ _ _=>(pg_name (i:=0) (by show (["_law_gate"]:List Str).Nodup; decide +kernel) rfl lc)) (fun _ _ _ _ _=>pif_nil) (fun _ _ _ _ _=>(pe_ix (ixE K rfl) (qv 0) pe_int (fun _ _=>rfl))))))) (fun _ _ _ _ _=>(qv 0))) (pe_fn (ok__law_draw T) hr.m rfl (pa_cons (qv 0) (pa_cons pe_int (pa_cons pe_int pa_nil)))) (fun _ _=>rfl)))
   (pss_cons (ps_if (qt_cmp (neDE K rfl hr) (pe_fn (ok__law_refused T) hr.m rfl (pa_cons (qv 4) (pa_cons (qv 8) (pa_cons (qv 10) pa_nil)))) (pe_fn (ok__law_marks_due T) hr.m rfl (pa_cons (qs [78,111,68,111,111,114]) pa_nil))) (pss_one (ps_ret pe_bl)) pss_nil)
   (pss_one (ps_if (qt_cmp (neDE K rfl hr) (pe_fn (ok__law_refused T) hr.m rfl (pa_cons (qv 4) (pa_cons (qv 6) (pa_cons (qv 10) pa_nil)))) (pe_fn (ok__law_marks_due T) hr.m rfl (pa_cons (qs [78,111,72,111,117,115,101]) pa_nil))) (pss_one (ps_ret pe_bl)) pss_nil))))))))
   (pss_cons (ps_if (qt_cmp (neDE K rfl hr) (pe_fn (ok__law_refused T) hr.m rfl (pa_cons (qv 4) (pa_cons (qv 6) (pa_cons pe_non pa_nil)))) (pe_fn (ok__law_marks_due T) hr.m rfl (pa_cons (qs [78,111,72,111,117,115,101]) pa_nil))) (pss_one (ps_ret pe_bl)) pss_nil)
   (pss_one (ps_ret (qe_and (pe_fn (ok__law_all_told T) hr.m rfl (pa_cons (qv 2) (pa_cons (qv 4) pa_nil))) (pe_one (pe_fn (ok__law_same T) hr.m rfl (pa_cons (qv 4) (pa_cons (qv 2) pa_nil))))))))))))))))),?_⟩
 rename_i a
 obtain ⟨ns,hS,_,q⟩:=h
 walk_at "rd"
 refine ⟨ns,hS,fun p H1 ls hp s1 hL ok hwf=>?_⟩
 walk_at "rd"
 refine ⟨ns,ls,s1.seq hS,hL,ok,fun td H2 ps htd s2 e2 tok=>?_⟩
 have s12:=s1.trans s2
 rw [hwf] at tok
 walk_at "rd"
 refine ⟨ns,ps,4,s12.seq hS,SqL.of e2,tok,rfl,by decide,by decide,fun n0 H3 N hn0 s3 hN nok few _ hNw=>?_⟩
 have s13:=s12.trans s3
 walk_at "rd"
 refine ⟨fun σ' H'=>∃ (q1:Addr) (N:Net),σ' = [some (.ref a),some (.ref td),some (.ref q1),none,none,none,none,none,none,none,none] /\ Same H2 H' /\ NetAt H' q1 N /\ NetOk N /\ NetFew 10 N,?_,?_⟩
 ·refine draw_to (s13.seq hS) (by decide) (by decide) (by decide) (by decide) fun r1 hr1=>?_
  walk_at "rd"
  refine ite2 (fun _=>?_) fun _=>⟨n0,N,rfl,s3,hN,nok,⟨Nat.le_trans few.few (by decide),few.doors,few.free⟩⟩
  refine ⟨ns,ps,s13.seq hS,SqL.of (s3 _ _ e2),tok,fun q1 H4 N4 hq1 s4 hN4 nok4 few4 _=>⟨q1,N4,rfl,s3.trans s4,hN4,nok4,few4⟩⟩
 rintro σ' H4 ⟨q1,N1,rfl,s4,hN1,nok1,few1⟩
 have s14:=s12.trans s4
 walk_at "rd"
 refine ⟨ns,22,7,s14.seq hS,rfl,by decide,rfl,by decide,fun pn H5 pl hpn s5 e5 Np=>?_⟩
 have s15:=s14.trans s5
 have hN5:=hN1.same s5
 have th5:=net_th hN5 nok1
 walk_at "rd"
 refine ⟨8,netD N1,by decide,th5,fun hd H6 s6 thd=>?_⟩
 have thd':=thN_th 8 thd
 obtain ⟨hq,rfl,hD6⟩:=net_back thd'
 have s16:=s15.trans s6
 have hN6:=hN5.same s6
 have slen:=spots_len (hs:=N1.2.1) (c:=5) few1.doors
 have f10:=few1.few
 have h64:(spotsOf N1.2.1).length < 64:=by omega
 walk_at "rd"
 refine ⟨N1,hN6,hD6,nok1,h64,fun H7 s7=>?_⟩
 have s17:=s16.trans s7
 have s57:=s6.trans s7
 have hN7:=hN6.same s7
 have hD7:=hD6.same s7
 obtain ⟨pa,pb,pc,eN,_,⟨hv,eh,ph⟩,_⟩:=id hN7
 have hhl:=ph.length
 obtain ⟨z1,z2⟩:=paired_zip ph
 walk_at "rd"
 refine ⟨_,_,.inr (SqT.of eN),rfl,.inl ⟨⟨_,SqL.of eh⟩,fun D hD=>?_⟩⟩
 refine comp_list (item:=fun x:Named × V=>x.2) (xs:=N1.2.1.zip hv) (h:=fun x=>[tx x.1.1]) hD (by rw [z1]; exact SqL.of eh) (by rw [List.length_zip]; omega) (fun _=>by simp) ?_ ?_
 ·intro x H8 out non hx s8 ho _
  obtain ⟨t,r,ex,et,hr⟩:=z2 x hx
  rw [ex]
  walk_at "rd"
  refine ⟨_,_,.inr (SqT.of (s8 _ _ et)),rfl,?_⟩
  exact ho _ _ rfl (Same.refl _)
 intro H8 s8 e8
 rw [show (N1.2.1.zip hv).flatMap (fun x=>[tx x.1.1]) = (N1.2.1.map (·.1)).map tx by
  rw [flat_one' (fun x:Named × V=>tx x.1.1)]
  conv=>rhs; rw [<- zip_fst (l:=N1.2.1) (m:=hv) hhl,List.map_map,List.map_map]
  rfl] at e8
 have s18:=s17.trans s8
 walk_at "rd"
 refine ⟨ns,18,5,s18.seq hS,rfl,by decide,rfl,by decide,fun pm H9 nm hpm s9 e9 Nm=>?_⟩
 have hnml:=Nm.len
 obtain ⟨x4,hx4,ex4⟩:∃ x,x ∈ nm /\ nm[4]? = some x:=⟨nm[4]'(by omega),List.getElem_mem _,List.getElem?_eq_getElem _⟩
 have hx4l:=Nm.low _ hx4
 have hx4s:=Nm.short _ hx4
 refine ⟨_,tx x4,.inl (SqL.of e9),atI_nat (j:=4) (by rw [List.getElem?_map,ex4]; rfl),by decide,fun p9 hp9=>?_⟩
 have sA:=same_new hp9 (.lst [tx x4,V.str (st [110,111,104,111,117,115,101]),V.str (st [110,111,119,104,101,114,101])])
 have eA:upd H9 p9 (.lst [tx x4,V.str (st [110,111,104,111,117,115,101]),V.str (st [110,111,119,104,101,114,101])]) p9 = some (.lst ([x4,nohouseT,nowhereT].map tx)):=upd_same
 generalize upd H9 p9 (.lst [tx x4,V.str (st [110,111,104,111,117,115,101]),V.str (st [110,111,119,104,101,114,101])]) = HA at sA eA ⊢
 have s1A:=s18.trans (s9.trans sA)
 have e8A:=(s9.trans sA) _ _ e8
 refine .inl ⟨⟨_,SqL.of eA⟩,fun D2 hD2=>?_⟩
 refine comp_list (item:=tx) (xs:=[x4,nohouseT,nowhereT]) (h:=fun n=>if decide (n ∉ N1.2.1.map (·.1)) = true then [tx n] else []) hD2 (SqL.of eA) (by simp) (fun n=>by split <;> simp) ?_ ?_
 ·intro x HB out non hx sB ho hno
  walk_at "rd"
  refine ⟨_,.inl (SqL.of ((sA.trans sB) _ _ (s9 _ _ e8))),rfl,texts_flat _,?_⟩
  rw [in_texts]
  by_cases c:x ∈ N1.2.1.map (·.1)
  ·rw [if_neg (by simp [c])]
   exact hno _ (by simp [c]) (Same.refl _)
  ·rw [if_pos (by simp [c])]
   exact ho _ _ (by simp [c]) (Same.refl _)
 intro HB sB eB
 rw [show [x4,nohouseT,nowhereT].flatMap (fun n=>if decide (n ∉ N1.2.1.map (·.1)) = true then [tx n] else []) = ([x4,nohouseT,nowhereT].filter fun n=>decide (n ∉ N1.2.1.map (·.1))).map tx from flat_if tx _ _] at eB
 obtain ⟨y,ys,ef,hy,hyc⟩:=free_two (x:=x4) few1.free
 rw [ef] at eB
 have s1B:=s1A.trans sB
 walk_at "rd"
 refine ⟨_,tx y,.inl (SqL.of eB),atI_nat (j:=0) rfl,?_⟩
 have ylow:(∀ c ∈ y,c < 16 ^ 8) /\ y.length <= 1000:=by
  rcases hyc with rfl | rfl | rfl
  ·exact ⟨fun c hc=>by have:=hx4l c hc; omega,by omega⟩
  ·exact ⟨by decide,by decide⟩
  ·exact ⟨by decide,by decide⟩
 have s7B:=s8.trans (s9.trans (sA.trans sB))
 have hyn:=house_not hy
 refine loop_range (lo:=0) (n:=2) (fun i σ H'=>∃ u7 u8 u9 u10:Option V,σ = [some (.ref a),some (.ref td),some (.ref q1),some (.ref pn),some (.ref hq),some (.ref D),some (tx y),u7,u8,u9,u10] /\ Same HB H') ⟨none,none,none,none,rfl,Same.refl _⟩ ?_ ?_
 ·rintro i σ HC hi ⟨u7,u8,u9,u10,rfl,sC⟩
  have s7C:=s7B.trans sC
  walk_at "rd"
  refine ⟨_,_,.inr (SqT.of (s7C _ _ eN)),rfl,.inl ⟨⟨_,SqL.of (s7C _ _ eh)⟩,?_⟩⟩
  refine loop_list (xs:=hv) (fun i σ H'=>∃ u7 u8 u9 u10:Option V,σ = [some (.ref a),some (.ref td),some (.ref q1),some (.ref pn),some (.ref hq),some (.ref D),some (tx y),u7,u8,u9,u10] /\ Same HC H') ⟨_,_,_,_,rfl,Same.refl _⟩ (fun i σ H' _ ⟨_,_,_,_,_,z⟩=>SqL.of ((s7C.trans z) _ _ eh)) ?_ ?_
  ·rintro j v σ HE hj ⟨v7,v8,v9,v10,rfl,sE⟩
   have s7E:=s7C.trans sE
   have hjl:j < N1.2.1.length:=by have:=(List.getElem?_eq_some_iff.mp hj).1; omega
   obtain ⟨v',hv',t,r,ev',et,hr⟩:=paired_at ph (List.getElem?_eq_getElem hjl)
   obtain rfl:v = .ref t:=by rw [hv'] at hj; rw [<- Option.some.inj hj,ev']
   have hmem:=List.getElem_mem hjl
   generalize N1.2.1[j] = x at *
   have hok:=nok1.house x hmem
   have g5:=few1.doors x hmem
   have xlow:=nok1.low x hmem
   refine ⟨t,[_,_],rfl,SqT.of (s7E _ _ et),rfl,_,[_],rfl,_,[],rfl,rfl,?_⟩
   walk_at "rd"
   have hDE:=hD7.same s7E
   have hrE:=hr.same s7E
   have xc:∀ c ∈ x.1,c < 16 ^ 8:=fun c hc=>by have:=xlow.1 c hc; omega
   have hxo:=house_own nok1.nd hmem
   have g8:=hok.g3
   have w8:=hok.w8
   refine ⟨N1,x.2,hDE,by simp only [st_cps]; exact xc,by simp only [st_cps]; exact xlow.2,by simp only [st_cps]; exact hxo,hrE,by omega,by omega,fun g hg=>Nat.le_trans (hok.many g hg) (by decide),fun HF sF=>?_⟩
   have s7F:=s7E.trans sF
   have e5F:=(s57.trans s7F) _ _ e5
   walk_at "rd"
   refine .inl ⟨⟨_,SqL.of e5F⟩,fun D3 hD3=>?_⟩
   have hpl7:=Np.len
   refine comp_list (item:=tx) (xs:=pl) (h:=fun n=>if decide (n ∉ x.2.1.map (·.1)) = true then [tx n] else []) hD3 (SqL.of e5F) (by omega) (fun n=>by split <;> simp) ?_ ?_
   ·intro n HG out non hn sG ho hno
    walk_at "rd"
    obtain ⟨ga,wa,eH,⟨gv,eg,pg⟩,_⟩:=hr.same (s7F.trans sG)
    have hgl:=pg.length
    obtain ⟨y1,y2⟩:=paired_zip pg
    refine ⟨_,_,.inr (SqT.of eH),rfl,?_⟩
    walk_at "rd"
    refine .inl ⟨⟨_,SqL.of eg⟩,fun D4 hD4=>?_⟩
    refine comp_list (item:=fun x:Gate × V=>x.2) (xs:=x.2.1.zip gv) (h:=fun x=>[tx x.1.1]) hD4 (by rw [y1]; exact SqL.of eg) (by rw [List.length_zip]; omega) (fun _=>by simp) ?_ ?_
    ·intro z HK out non hz sK ho _
     obtain ⟨t',r',ez,et',_⟩:=y2 z hz
     rw [ez]
     walk_at "rd"
     refine ⟨_,_,.inr (SqT.of (sK _ _ et')),rfl,?_⟩
     exact ho _ _ rfl (Same.refl _)
    intro HK sK eK
    rw [show (x.2.1.zip gv).flatMap (fun x=>[tx x.1.1]) = (x.2.1.map (·.1)).map tx by
     rw [flat_one' (fun x:Gate × V=>tx x.1.1)]
     conv=>rhs; rw [<- zip_fst (l:=x.2.1) (m:=gv) hgl,List.map_map,List.map_map]
     rfl] at eK
    walk_at "rd"
    refine ⟨_,.inl (SqL.of eK),rfl,texts_flat _,?_⟩
    rw [in_texts]
    by_cases c:n ∈ x.2.1.map (·.1)
    ·rw [if_neg (by simp [c])]
     exact hno _ (by simp [c]) sK
    ·rw [if_pos (by simp [c])]
     exact ho _ _ (by simp [c]) sK
   intro HG sG eG
   rw [show pl.flatMap (fun n=>if decide (n ∉ x.2.1.map (·.1)) = true then [tx n] else []) = (pl.filter fun n=>decide (n ∉ x.2.1.map (·.1))).map tx from flat_if tx _ _] at eG
   have h2:=two_left (ds:=x.2.1.map (·.1)) Np.nd (by rw [List.length_map]; omega)
   have hfm:∀ n ∈ pl.filter (fun n=>decide (n ∉ x.2.1.map (·.1))),n ∈ pl /\ n ∉ x.2.1.map (·.1):=fun n hn=>by
    obtain ⟨a1,a2⟩:=List.mem_filter.mp hn
    exact ⟨a1,of_decide_eq_true a2⟩
   generalize pl.filter (fun n=>decide (n ∉ x.2.1.map (·.1))) = fl at h2 hfm eG
   have s7G:=s7F.trans sG
   walk_at "rd"
   refine draw_to ((s17.trans s7G).seq hS) (by decide) (by decide) (by decide) (by decide) fun r2 hr2=>?_
   have hr2:r2 < fl.length:=by omega
   obtain ⟨hd1,hd2⟩:=hfm _ (List.getElem_mem hr2)
   have dlow:=Np.low _ hd1
   have dshort:=Np.short _ hd1
   refine ⟨_,tx fl[r2],.inl (SqL.of eG),atI_nat (by rw [List.getElem?_map,List.getElem?_eq_getElem hr2]; rfl),?_⟩
   have dgn:=gate_not hd2
   generalize fl[r2] = d at *
   have dc:∀ c ∈ d,c < 16 ^ 8:=fun c hc=>by have:=dlow c hc; omega
   refine ⟨N1,true,hD7.same s7G,by simp only [st_cps]; exact xc,by simp only [st_cps]; exact xlow.2,nok1.l500,nok1.ends,.inr ⟨_,rfl,by simp only [st_cps]; exact dc,by simp only [st_cps]; omega,.inr ⟨rfl,x.2,by simp only [st_cps]; exact hxo,by simp only [st_cps]; exact dgn⟩⟩,fun m1 HI hm1 sI eI=>?_⟩
   walk_at "rd"
   refine ⟨true,rfl,fun m2 HJ hm2 sJ eJ=>?_⟩
   walk_at "rd"
   refine ⟨1,_,_,by decide,marks_deep (sJ _ _ eI),marks_deep eJ,?_⟩
   rw [if_neg (marks_eq _)]
   walk_at "rd"
   have s7J:=s7G.trans (sI.trans sJ)
   refine ⟨N1,false,hD7.same s7J,by simp only [st_cps]; exact ylow.1,by simp only [st_cps]; exact ylow.2,nok1.l500,nok1.ends,.inr ⟨_,rfl,by simp only [st_cps]; exact dc,by simp only [st_cps]; omega,.inl ⟨rfl,by simp only [st_cps]; exact hyn⟩⟩,fun m3 HL hm3 sL eL=>?_⟩
   walk_at "rd"
   refine ⟨false,rfl,fun m4 HM hm4 sM eM=>?_⟩
   walk_at "rd"
   refine ⟨1,_,_,by decide,marks_deep (sM _ _ eL),marks_deep eM,?_⟩
   rw [if_neg (marks_eq _)]
   walk_at "rd"
   exact ⟨_,_,_,_,rfl,sE.trans (sF.trans (sG.trans ((sI.trans sJ).trans (sL.trans sM))))⟩
  ·rintro σ HE ⟨v7,v8,v9,v10,rfl,sE⟩
   exact ⟨_,_,_,_,rfl,sC.trans sE⟩
 ·rintro σ HC ⟨u7,u8,u9,u10,rfl,sC⟩
  walk_at "rd"
  have s7C:=s7B.trans sC
  refine ⟨N1,false,hD7.same s7C,by simp only [st_cps]; exact ylow.1,by simp only [st_cps]; exact ylow.2,nok1.l500,nok1.ends,.inl ⟨rfl,rfl,by simp only [st_cps]; exact hyn⟩,fun m3 HL hm3 sL eL=>?_⟩
  walk_at "rd"
  refine ⟨false,rfl,fun m4 HM hm4 sM eM=>?_⟩
  walk_at "rd"
  refine ⟨1,_,_,by decide,marks_deep (sM _ _ eL),marks_deep eM,?_⟩
  rw [if_neg (marks_eq _)]
  walk_at "rd"
  have s7M:=s7C.trans (sL.trans sM)
  refine ⟨N1,hN7.same s7M,hD7.same s7M,nok1,h64,fun HN sN=>?_⟩
  walk_at "rd"
  have s7N:=s7M.trans sN
  have s6N:=s7.trans s7N
  exact ⟨8,netD N1,by decide,th_same s6N 8 thd',th_same (s6.trans s6N) 8 th5,fun H10 _=>q H10⟩
end
def DefI (K:Frag) (x:Str) (t:Stmt):Prop:=∃ (f:Addr) (od an:Option Addr) (sl:Array (Option Value)) (oc kV dc pm cd ct:Value),nsIn K mainGlobals x = some (some (.ref f)) /\ K.lookup f = some ⟨oc,od,.func (fnOf x x (defArgs t) (defBody t) (defScope t) .none kV dc pm an cd ct),sl⟩ /\ codeIn K cd x = true /\ keepIn K (.ref f) = true
theorem DefI.of {K:Frag} {x:Str} {t:Stmt} {f:Addr} {od an:Option Addr} {sl:Array (Option Value)} {oc kV dc pm cd ct:Value} (a:nsIn K mainGlobals x = some (some (.ref f))) (l:K.lookup f = some ⟨oc,od,.func (fnOf x x (defArgs t) (defBody t) (defScope t) .none kV dc pm an cd ct),sl⟩) (c:codeIn K cd x = true) (k:keepIn K (.ref f) = true):DefI K x t:=⟨f,od,an,sl,oc,kV,dc,pm,cd,ct,a,l,c,k⟩
theorem DefI.fn {K:Frag} {h:Heap} {mg:Str -> Option Value} {x:Str} {t:Stmt} (d:DefI K x t) (X:K.In h) (G:h.Ns mainGlobals mg):Fn K mg x t:=by
 obtain ⟨f,od,an,sl,oc,kV,dc,pm,cd,ct,a,l,c,k⟩:=d
 exact ⟨_,_,fun_mk (st:=t) l c k,mg_of X G a⟩
def ExcI (K:Frag) (x:Str) (C:Addr):Prop:=nsIn K mainGlobals x = some (some (.ref C)) /\ PySem.W.excIn K C bmV "ValueError.__new__" = true /\ PySem.W.typeIn K (.ref C) = some (.type "type") /\ PySem.W.mroIn K C (.type "BaseException") = some true /\ findIn K (.ref C) "__getattribute__" = some (some (.builtin "BaseException.__getattribute__")) /\ findIn K (.ref C) "__getattr__" = some none /\ findIn K (.ref C) "__class__" = some (some (.builtin "object.__class__")) /\ PySem.W.mroIn K C (.type "object") = some true
theorem ExcI.xn {K:Frag} {h:Heap} {mg:Str -> Option Value} {x:Str} {C:Addr} (e:ExcI K x C) (X:K.In h) (G:h.Ns mainGlobals mg) (sgt:PySem.W.specialIn K (.builtin "object.__class__") "__get__" = some (some (.builtin "getset_descriptor.__get__"))) (stk:PySem.W.takesIn K (.builtin "object.__class__") = some true):Xn K mg x:=
 xn_mk X G e.1 e.2.1 e.2.2.1 e.2.2.2.1 e.2.2.2.2.1 e.2.2.2.2.2.1 e.2.2.2.2.2.2.1 e.2.2.2.2.2.2.2 sgt stk
theorem all_mk {K:Frag} {h:Heap} {mg:Str -> Option Value} (X:K.In h) (G:h.Ns mainGlobals mg)
  (a0:DefI K "gate_rules" s_gate_rules)
  (a1:DefI K "check_spot" s_check_spot)
  (a2:DefI K "house_named" s_house_named)
  (a3:DefI K "house_copied" s_house_copied)
  (a4:DefI K "net_house" s_net_house)
  (a5:DefI K "net_spots" s_net_spots)
  (a6:DefI K "net_open" s_net_open)
  (a7:DefI K "net_tied" s_net_tied)
  (a8:DefI K "line_ends" s_line_ends)
  (a9:DefI K "_law_draw" s__law_draw)
  (a10:DefI K "_law_names" s__law_names)
  (a11:DefI K "_law_layout" s__law_layout)
  (a12:DefI K "_law_width" s__law_width)
  (a13:DefI K "_law_span" s__law_span)
  (a14:DefI K "_law_told" s__law_told)
  (a15:DefI K "_law_over_at" s__law_over_at)
  (a16:DefI K "_law_signs" s__law_signs)
  (a17:DefI K "_law_rule" s__law_rule)
  (a18:DefI K "_law_ways" s__law_ways)
  (a19:DefI K "_law_house" s__law_house)
  (a20:DefI K "_law_spots" s__law_spots)
  (a21:DefI K "_law_lines" s__law_lines)
  (a22:DefI K "_law_net" s__law_net)
  (a23:DefI K "_law_same" s__law_same)
  (a24:DefI K "_law_copy" s__law_copy)
  (a25:DefI K "_law_marks" s__law_marks)
  (a26:DefI K "_law_marks_due" s__law_marks_due)
  (a27:DefI K "_law_beyond" s__law_beyond)
  (a28:DefI K "_law_refused" s__law_refused)
  (a29:DefI K "_law_all_told" s__law_all_told)
  (a30:DefI K "_law_house_told" s__law_house_told)
  (a31:DefI K "_law_large" s__law_large)
  (a32:DefI K "law" s_law)
  (z_list:nsIn K mainGlobals "list" = some none)
  (z_sorted:nsIn K mainGlobals "sorted" = some none)
  (z_len:nsIn K mainGlobals "len" = some none)
  (z_range:nsIn K mainGlobals "range" = some none)
  (z_sum:nsIn K mainGlobals "sum" = some none)
  (z_set:nsIn K mainGlobals "set" = some none)
  (z_min:nsIn K mainGlobals "min" = some none)
  (z_str:nsIn K mainGlobals "str" = some none)
  (z_max:nsIn K mainGlobals "max" = some none)
  (z_isinstance:nsIn K mainGlobals "isinstance" = some none)
  (z_int:nsIn K mainGlobals "int" = some none)
  (z_tuple:nsIn K mainGlobals "tuple" = some none)
  (z_all:nsIn K mainGlobals "all" = some none)
  (z_bool:nsIn K mainGlobals "bool" = some none)
  (z_zip:nsIn K mainGlobals "zip" = some none)
  (z_ValueError:nsIn K mainGlobals "ValueError" = some none)
  {C_NoDoor:Addr} (n_NoDoor:ExcI K "NoDoor" C_NoDoor)
  {C_NoHouse:Addr} (n_NoHouse:ExcI K "NoHouse" C_NoHouse)
  {C_ThrongError:Addr} (n_ThrongError:ExcI K "ThrongError" C_ThrongError)
  {C_BadWord:Addr} (n_BadWord:ExcI K "BadWord" C_BadWord)
  {C_Misfit:Addr} (n_Misfit:ExcI K "Misfit" C_Misfit)
  {C_NoField:Addr} (n_NoField:ExcI K "NoField" C_NoField)
  {C_NoLine:Addr} (n_NoLine:ExcI K "NoLine" C_NoLine)
  {C_NoRule:Addr} (n_NoRule:ExcI K "NoRule" C_NoRule)
  {C_NoWay:Addr} (n_NoWay:ExcI K "NoWay" C_NoWay)
  {C_Twice:Addr} (n_Twice:ExcI K "Twice" C_Twice)
  {C_Unlike:Addr} (n_Unlike:ExcI K "Unlike" C_Unlike)
  (sgt:PySem.W.specialIn K (.builtin "object.__class__") "__get__" = some (some (.builtin "getset_descriptor.__get__"))) (stk:PySem.W.takesIn K (.builtin "object.__class__") = some true)
  (v_NoDoor:PySem.W.mroIn K C_NoDoor (.type "ValueError") = some true)
  (m_NoDoor_ThrongError:PySem.W.mroIn K C_NoDoor (.ref C_ThrongError) = some true)
  (m_NoDoor_BadWord:PySem.W.mroIn K C_NoDoor (.ref C_BadWord) = some false) (d_NoDoor_BadWord:C_NoDoor ≠ C_BadWord)
  (m_NoDoor_Misfit:PySem.W.mroIn K C_NoDoor (.ref C_Misfit) = some false) (d_NoDoor_Misfit:C_NoDoor ≠ C_Misfit)
  (m_NoDoor_NoDoor:PySem.W.mroIn K C_NoDoor (.ref C_NoDoor) = some true)
  (m_NoDoor_NoField:PySem.W.mroIn K C_NoDoor (.ref C_NoField) = some false) (d_NoDoor_NoField:C_NoDoor ≠ C_NoField)
  (m_NoDoor_NoHouse:PySem.W.mroIn K C_NoDoor (.ref C_NoHouse) = some false) (d_NoDoor_NoHouse:C_NoDoor ≠ C_NoHouse)
  (m_NoDoor_NoLine:PySem.W.mroIn K C_NoDoor (.ref C_NoLine) = some false) (d_NoDoor_NoLine:C_NoDoor ≠ C_NoLine)
  (m_NoDoor_NoRule:PySem.W.mroIn K C_NoDoor (.ref C_NoRule) = some false) (d_NoDoor_NoRule:C_NoDoor ≠ C_NoRule)
  (m_NoDoor_NoWay:PySem.W.mroIn K C_NoDoor (.ref C_NoWay) = some false) (d_NoDoor_NoWay:C_NoDoor ≠ C_NoWay)
  (m_NoDoor_Twice:PySem.W.mroIn K C_NoDoor (.ref C_Twice) = some false) (d_NoDoor_Twice:C_NoDoor ≠ C_Twice)
  (m_NoDoor_Unlike:PySem.W.mroIn K C_NoDoor (.ref C_Unlike) = some false) (d_NoDoor_Unlike:C_NoDoor ≠ C_Unlike)
  (v_NoHouse:PySem.W.mroIn K C_NoHouse (.type "ValueError") = some true)
  (m_NoHouse_ThrongError:PySem.W.mroIn K C_NoHouse (.ref C_ThrongError) = some true)
  (m_NoHouse_BadWord:PySem.W.mroIn K C_NoHouse (.ref C_BadWord) = some false) (d_NoHouse_BadWord:C_NoHouse ≠ C_BadWord)
  (m_NoHouse_Misfit:PySem.W.mroIn K C_NoHouse (.ref C_Misfit) = some false) (d_NoHouse_Misfit:C_NoHouse ≠ C_Misfit)
  (m_NoHouse_NoDoor:PySem.W.mroIn K C_NoHouse (.ref C_NoDoor) = some false) (d_NoHouse_NoDoor:C_NoHouse ≠ C_NoDoor)
  (m_NoHouse_NoField:PySem.W.mroIn K C_NoHouse (.ref C_NoField) = some false) (d_NoHouse_NoField:C_NoHouse ≠ C_NoField)
  (m_NoHouse_NoHouse:PySem.W.mroIn K C_NoHouse (.ref C_NoHouse) = some true)
  (m_NoHouse_NoLine:PySem.W.mroIn K C_NoHouse (.ref C_NoLine) = some false) (d_NoHouse_NoLine:C_NoHouse ≠ C_NoLine)
  (m_NoHouse_NoRule:PySem.W.mroIn K C_NoHouse (.ref C_NoRule) = some false) (d_NoHouse_NoRule:C_NoHouse ≠ C_NoRule)
  (m_NoHouse_NoWay:PySem.W.mroIn K C_NoHouse (.ref C_NoWay) = some false) (d_NoHouse_NoWay:C_NoHouse ≠ C_NoWay)
  (m_NoHouse_Twice:PySem.W.mroIn K C_NoHouse (.ref C_Twice) = some false) (d_NoHouse_Twice:C_NoHouse ≠ C_Twice)
  (m_NoHouse_Unlike:PySem.W.mroIn K C_NoHouse (.ref C_Unlike) = some false) (d_NoHouse_Unlike:C_NoHouse ≠ C_Unlike)
  : Top K mg where
 f_gate_rules:=a0.fn X G
 f_check_spot:=a1.fn X G
 f_house_named:=a2.fn X G
 f_house_copied:=a3.fn X G
 f_net_house:=a4.fn X G
 f_net_spots:=a5.fn X G
 f_net_open:=a6.fn X G
 f_net_tied:=a7.fn X G
 f_line_ends:=a8.fn X G
 f__law_draw:=a9.fn X G
 f__law_names:=a10.fn X G
 f__law_layout:=a11.fn X G
 f__law_width:=a12.fn X G
 f__law_span:=a13.fn X G
 f__law_told:=a14.fn X G
 f__law_over_at:=a15.fn X G
 f__law_signs:=a16.fn X G
 f__law_rule:=a17.fn X G
 f__law_ways:=a18.fn X G
 f__law_house:=a19.fn X G
 f__law_spots:=a20.fn X G
 f__law_lines:=a21.fn X G
 f__law_net:=a22.fn X G
 f__law_same:=a23.fn X G
 f__law_copy:=a24.fn X G
 f__law_marks:=a25.fn X G
 f__law_marks_due:=a26.fn X G
 f__law_beyond:=a27.fn X G
 f__law_refused:=a28.fn X G
 f__law_all_told:=a29.fn X G
 f__law_house_told:=a30.fn X G
 f__law_large:=a31.fn X G
 f_law:=a32.fn X G
 b_list:=PySem.W.mg_none_of X G z_list
 b_sorted:=PySem.W.mg_none_of X G z_sorted
 b_len:=PySem.W.mg_none_of X G z_len
 b_range:=PySem.W.mg_none_of X G z_range
 b_sum:=PySem.W.mg_none_of X G z_sum
 b_set:=PySem.W.mg_none_of X G z_set
 b_min:=PySem.W.mg_none_of X G z_min
 b_str:=PySem.W.mg_none_of X G z_str
 b_max:=PySem.W.mg_none_of X G z_max
 b_isinstance:=PySem.W.mg_none_of X G z_isinstance
 b_int:=PySem.W.mg_none_of X G z_int
 b_tuple:=PySem.W.mg_none_of X G z_tuple
 b_all:=PySem.W.mg_none_of X G z_all
 b_bool:=PySem.W.mg_none_of X G z_bool
 b_zip:=PySem.W.mg_none_of X G z_zip
 b_ValueError:=PySem.W.mg_none_of X G z_ValueError
 x_NoDoor:=n_NoDoor.xn X G sgt stk
 x_NoHouse:=n_NoHouse.xn X G sgt stk
 x_ThrongError:=n_ThrongError.xn X G sgt stk
 x_BadWord:=n_BadWord.xn X G sgt stk
 x_Misfit:=n_Misfit.xn X G sgt stk
 x_NoField:=n_NoField.xn X G sgt stk
 x_NoLine:=n_NoLine.xn X G sgt stk
 x_NoRule:=n_NoRule.xn X G sgt stk
 x_NoWay:=n_NoWay.xn X G sgt stk
 x_Twice:=n_Twice.xn X G sgt stk
 x_Unlike:=n_Unlike.xn X G sgt stk
 v_NoDoor:=xv_mk n_NoDoor.1 v_NoDoor
 m_NoDoor_ThrongError:=xm_mk n_NoDoor.1 n_ThrongError.1 m_NoDoor_ThrongError (fun z=>nomatch z)
 m_NoDoor_BadWord:=xm_mk n_NoDoor.1 n_BadWord.1 m_NoDoor_BadWord (fun _=>d_NoDoor_BadWord)
 m_NoDoor_Misfit:=xm_mk n_NoDoor.1 n_Misfit.1 m_NoDoor_Misfit (fun _=>d_NoDoor_Misfit)
 m_NoDoor_NoDoor:=xm_mk n_NoDoor.1 n_NoDoor.1 m_NoDoor_NoDoor (fun z=>nomatch z)
 m_NoDoor_NoField:=xm_mk n_NoDoor.1 n_NoField.1 m_NoDoor_NoField (fun _=>d_NoDoor_NoField)
 m_NoDoor_NoHouse:=xm_mk n_NoDoor.1 n_NoHouse.1 m_NoDoor_NoHouse (fun _=>d_NoDoor_NoHouse)
 m_NoDoor_NoLine:=xm_mk n_NoDoor.1 n_NoLine.1 m_NoDoor_NoLine (fun _=>d_NoDoor_NoLine)
 m_NoDoor_NoRule:=xm_mk n_NoDoor.1 n_NoRule.1 m_NoDoor_NoRule (fun _=>d_NoDoor_NoRule)
 m_NoDoor_NoWay:=xm_mk n_NoDoor.1 n_NoWay.1 m_NoDoor_NoWay (fun _=>d_NoDoor_NoWay)
 m_NoDoor_Twice:=xm_mk n_NoDoor.1 n_Twice.1 m_NoDoor_Twice (fun _=>d_NoDoor_Twice)
 m_NoDoor_Unlike:=xm_mk n_NoDoor.1 n_Unlike.1 m_NoDoor_Unlike (fun _=>d_NoDoor_Unlike)
 v_NoHouse:=xv_mk n_NoHouse.1 v_NoHouse
 m_NoHouse_ThrongError:=xm_mk n_NoHouse.1 n_ThrongError.1 m_NoHouse_ThrongError (fun z=>nomatch z)
 m_NoHouse_BadWord:=xm_mk n_NoHouse.1 n_BadWord.1 m_NoHouse_BadWord (fun _=>d_NoHouse_BadWord)
 m_NoHouse_Misfit:=xm_mk n_NoHouse.1 n_Misfit.1 m_NoHouse_Misfit (fun _=>d_NoHouse_Misfit)
 m_NoHouse_NoDoor:=xm_mk n_NoHouse.1 n_NoDoor.1 m_NoHouse_NoDoor (fun _=>d_NoHouse_NoDoor)
 m_NoHouse_NoField:=xm_mk n_NoHouse.1 n_NoField.1 m_NoHouse_NoField (fun _=>d_NoHouse_NoField)
 m_NoHouse_NoHouse:=xm_mk n_NoHouse.1 n_NoHouse.1 m_NoHouse_NoHouse (fun z=>nomatch z)
 m_NoHouse_NoLine:=xm_mk n_NoHouse.1 n_NoLine.1 m_NoHouse_NoLine (fun _=>d_NoHouse_NoLine)
 m_NoHouse_NoRule:=xm_mk n_NoHouse.1 n_NoRule.1 m_NoHouse_NoRule (fun _=>d_NoHouse_NoRule)
 m_NoHouse_NoWay:=xm_mk n_NoHouse.1 n_NoWay.1 m_NoHouse_NoWay (fun _=>d_NoHouse_NoWay)
 m_NoHouse_Twice:=xm_mk n_NoHouse.1 n_Twice.1 m_NoHouse_Twice (fun _=>d_NoHouse_Twice)
 m_NoHouse_Unlike:=xm_mk n_NoHouse.1 n_Unlike.1 m_NoHouse_Unlike (fun _=>d_NoHouse_Unlike)
theorem law_bind {P:Program} {w:World} {K:Frag} {mg:Str -> Option Value} (T:Top K mg):∃ f fd,(∀ base:Heap,FnOk P w K mg base CX0 13 f fd ["_law_script"] (sp_law K)) /\ (∀ (s:Shared) (u:Value),BindsTo s fd ⟨[u],[]⟩ [("_law_script",u)]) /\ mg "law" = some (.ref f):=by
 obtain ⟨f,fd,F,m⟩:=T.f_law
 refine ⟨f,fd,fun base=>ok_law T F,?_,m⟩
 obtain ⟨oc,od,kV,doc,pm,an,cdv,ct,osl,rfl,lk,hcd⟩:=F.ex
 exact fun s u=>.of_eq rfl
theorem walk {l:PySem.W.OpenLaw} {q:Program} {loose:List Str} {XP:(Str -> Option Value) -> Heap -> Prop} {α:Type} {Yf:Shared -> α} {Ya:World -> α} {d:DefRec} {K:Params -> Frag} (hn:l.most = some 63) (hdf:d.params.defaults = [])
  (hY:∀ (w:World) (s:Shared),Yf s = Ya w -> (K w.params).In s.heap /\ 0 < s.toks)
  (F:∀ (w:World) (mg:Str -> Option Value) (fa:Addr) (h:Heap),(K w.params).In h -> h.Ns mainGlobals mg -> mg d.name = some (.ref fa) ->
   ∃ fd:FuncData,(∀ (s:Shared) (u:Value),BindsTo s fd ⟨[u],[]⟩ [("_law_script",u)]) /\ ∀ base:Heap,(K w.params).In base -> base.Ns mainGlobals mg -> FnOk l.prog w (K w.params) mg base CX0 13 fa fd ["_law_script"] (sp_law (K w.params))):
  PySem.W.WalkX q loose XP Yf Ya l.row.toRowW d [] (fun f vs=>PySem.call f vs):=
 L2.walk_ofX (n:=63) (k:=13) (x := "_law_script") (CX:=fun _=>CX0) (sp:=fun w=>sp_law (K w.params)) hn (by decide) hdf ⟨rfl,by decide,by decide,rfl⟩ hY F (fun _ _ a ns hl _ hS=>⟨ns,hS,hl,fun _=>rfl⟩) fun _ _ _ _ _ z=>z
end Law
open PySem PySem.W PyProof.Rows
local macro_rules | `(tactic| walk_at "df")=>`(tactic| (refine' Law.DefI.of ?a ?l ?c ?k; (case a=>k_is); (case l=>k_is); (case c=>k_is); (case k=>k_is)))
local macro_rules | `(tactic| walk_at "ec")=>`(tactic| (refine' ⟨?n,?q,?t,?b,?g,?h,?a,?o⟩; (case n=>k_is); (case q=>k_exc); (case t=>k_is); (case b=>k_is); (case g=>k_is); (case h=>k_is); (case a=>k_is); (case o=>k_is)))
set_option maxRecDepth 100000 in
set_option maxHeartbeats 0 in
theorem PySem.Challenge.cw_throng_k37_spots_and_houses_holds : PySem.Challenge.rw_throng_k37_spots_and_houses.Holds := by
 w_on; o_law; z_head; (case hw=>w_witness2)
 k_fill
 refine Law.walk (l:=PySem.Challenge.rw_throng_k37_spots_and_houses) rfl rfl (fun w s Y=>L2.z_pos Y (fun _=>rfl) (by decide)) ?F
 case F=>
  intro w mg fa h KX G hmg
  have T:Law.Top (L2.KOf KX) mg:=by
   dsimp only [L2.KOf]
   refine' Law.all_mk KX G ?a0 ?a1 ?a2 ?a3 ?a4 ?a5 ?a6 ?a7 ?a8 ?a9 ?a10 ?a11 ?a12 ?a13 ?a14 ?a15 ?a16 ?a17 ?a18 ?a19 ?a20 ?a21 ?a22 ?a23 ?a24 ?a25 ?a26 ?a27 ?a28 ?a29 ?a30 ?a31 ?a32 ?z_list ?z_sorted ?z_len ?z_range ?z_sum ?z_set ?z_min ?z_str ?z_max ?z_isinstance ?z_int ?z_tuple ?z_all ?z_bool ?z_zip ?z_ValueError ?n_NoDoor ?n_NoHouse ?n_ThrongError ?n_BadWord ?n_Misfit ?n_NoField ?n_NoLine ?n_NoRule ?n_NoWay ?n_Twice ?n_Unlike ?sgt ?stk ?v_NoDoor ?m_NoDoor_ThrongError ?m_NoDoor_BadWord ?d_NoDoor_BadWord ?m_NoDoor_Misfit ?d_NoDoor_Misfit ?m_NoDoor_NoDoor ?m_NoDoor_NoField ?d_NoDoor_NoField ?m_NoDoor_NoHouse ?d_NoDoor_NoHouse ?m_NoDoor_NoLine ?d_NoDoor_NoLine ?m_NoDoor_NoRule ?d_NoDoor_NoRule ?m_NoDoor_NoWay ?d_NoDoor_NoWay ?m_NoDoor_Twice ?d_NoDoor_Twice ?m_NoDoor_Unlike ?d_NoDoor_Unlike ?v_NoHouse ?m_NoHouse_ThrongError ?m_NoHouse_BadWord ?d_NoHouse_BadWord ?m_NoHouse_Misfit ?d_NoHouse_Misfit ?m_NoHouse_NoDoor ?d_NoHouse_NoDoor ?m_NoHouse_NoField ?d_NoHouse_NoField ?m_NoHouse_NoHouse ?m_NoHouse_NoLine ?d_NoHouse_NoLine ?m_NoHouse_NoRule ?d_NoHouse_NoRule ?m_NoHouse_NoWay ?d_NoHouse_NoWay ?m_NoHouse_Twice ?d_NoHouse_Twice ?m_NoHouse_Unlike ?d_NoHouse_Unlike
   (case a0=>walk_at "df")
   (case a1=>walk_at "df")
   (case a2=>walk_at "df")
   (case a3=>walk_at "df")
   (case a4=>walk_at "df")
   (case a5=>walk_at "df")
   (case a6=>walk_at "df")
   (case a7=>walk_at "df")
   (case a8=>walk_at "df")
   (case a9=>walk_at "df")
   (case a10=>walk_at "df")
   (case a11=>walk_at "df")
   (case a12=>walk_at "df")
   (case a13=>walk_at "df")
   (case a14=>walk_at "df")
   (case a15=>walk_at "df")
   (case a16=>walk_at "df")
   (case a17=>walk_at "df")
   (case a18=>walk_at "df")
   (case a19=>walk_at "df")
   (case a20=>walk_at "df")
   (case a21=>walk_at "df")
   (case a22=>walk_at "df")
   (case a23=>walk_at "df")
   (case a24=>walk_at "df")
   (case a25=>walk_at "df")
   (case a26=>walk_at "df")
   (case a27=>walk_at "df")
   (case a28=>walk_at "df")
   (case a29=>walk_at "df")
   (case a30=>walk_at "df")
   (case a31=>walk_at "df")
   (case a32=>walk_at "df")
   (case z_list=>k_is)
   (case z_sorted=>k_is)
   (case z_len=>k_is)
   (case z_range=>k_is)
   (case z_sum=>k_is)
   (case z_set=>k_is)
   (case z_min=>k_is)
   (case z_str=>k_is)
   (case z_max=>k_is)
   (case z_isinstance=>k_is)
   (case z_int=>k_is)
   (case z_tuple=>k_is)
   (case z_all=>k_is)
   (case z_bool=>k_is)
   (case z_zip=>k_is)
   (case z_ValueError=>k_is)
   (case n_NoDoor=>walk_at "ec")
   (case n_NoHouse=>walk_at "ec")
   (case n_ThrongError=>walk_at "ec")
   (case n_BadWord=>walk_at "ec")
   (case n_Misfit=>walk_at "ec")
   (case n_NoField=>walk_at "ec")
   (case n_NoLine=>walk_at "ec")
   (case n_NoRule=>walk_at "ec")
   (case n_NoWay=>walk_at "ec")
   (case n_Twice=>walk_at "ec")
   (case n_Unlike=>walk_at "ec")
   (case sgt=>k_is); (case stk=>k_is)
   (case v_NoDoor=>k_is)
   (case m_NoDoor_ThrongError=>k_is)
   (case m_NoDoor_BadWord=>k_is); (case d_NoDoor_BadWord=>decide)
   (case m_NoDoor_Misfit=>k_is); (case d_NoDoor_Misfit=>decide)
   (case m_NoDoor_NoDoor=>k_is)
   (case m_NoDoor_NoField=>k_is); (case d_NoDoor_NoField=>decide)
   (case m_NoDoor_NoHouse=>k_is); (case d_NoDoor_NoHouse=>decide)
   (case m_NoDoor_NoLine=>k_is); (case d_NoDoor_NoLine=>decide)
   (case m_NoDoor_NoRule=>k_is); (case d_NoDoor_NoRule=>decide)
   (case m_NoDoor_NoWay=>k_is); (case d_NoDoor_NoWay=>decide)
   (case m_NoDoor_Twice=>k_is); (case d_NoDoor_Twice=>decide)
   (case m_NoDoor_Unlike=>k_is); (case d_NoDoor_Unlike=>decide)
   (case v_NoHouse=>k_is)
   (case m_NoHouse_ThrongError=>k_is)
   (case m_NoHouse_BadWord=>k_is); (case d_NoHouse_BadWord=>decide)
   (case m_NoHouse_Misfit=>k_is); (case d_NoHouse_Misfit=>decide)
   (case m_NoHouse_NoDoor=>k_is); (case d_NoHouse_NoDoor=>decide)
   (case m_NoHouse_NoField=>k_is); (case d_NoHouse_NoField=>decide)
   (case m_NoHouse_NoHouse=>k_is)
   (case m_NoHouse_NoLine=>k_is); (case d_NoHouse_NoLine=>decide)
   (case m_NoHouse_NoRule=>k_is); (case d_NoHouse_NoRule=>decide)
   (case m_NoHouse_NoWay=>k_is); (case d_NoHouse_NoWay=>decide)
   (case m_NoHouse_Twice=>k_is); (case d_NoHouse_Twice=>decide)
   (case m_NoHouse_Unlike=>k_is); (case d_NoHouse_Unlike=>decide)
  obtain ⟨f,fd,F,b,m⟩:=Law.law_bind (P:=PySem.Challenge.pw_throng_k37_spots_and_houses) (w:=w) T
  have e0:=hmg.symm.trans m
  cases e0
  exact ⟨fd,b,fun base _ _=>F base⟩
#print axioms PySem.Challenge.cw_throng_k37_spots_and_houses_holds
